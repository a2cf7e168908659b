import PyProof.Rows.All
import Wide.All
import OpenK.AllK
import Wide.FinOn
import PyProof.EqAt
import PyProof.EqKinds
import PyProof.TupleCall
import PySem.Str
import PyProof.NeKinds
import PyProof.CompMap
import PyProof.CompFree
import PyProof.EnumMake
import PyProof.Draws
import PyProof.ListRange
import PyProof.ConsumeWalk
import PyProof.Rows.SetFrom
import PyProof.SetRoads
import PyProof.ZipIter
import PyProof.Rows.SumAny
import PyProof.Rows.SortWalk
import PyProof.Rows.SeqMore2
import PySem.Challenge.RW_ribbonloft_k24_seams_and_lengths
set_option Elab.async false
set_option linter.all false
set_option maxRecDepth 100000
set_option maxHeartbeats 4000000
set_option genSizeOf false
set_option genSizeOfSpec false
namespace RL
open PySem (Str)
abbrev Ky:=Sum Int Str
inductive D where
 | non
 | bl (b:Bool)
 | int (i:Int)
 | str (x:Str)
 | tup (xs:List D)
 | lst (xs:List D)
 | dK (ks:List Ky) (vs:List D)
 | dT (ks:List (List Ky)) (vs:List D)
 | scr (xs:List D)
 deriving Inhabited
mutual
noncomputable def D.imm:D->Bool
 | .tup xs=>ai xs
 | .lst _=>false
 | .dK _ _=>false
 | .dT _ _=>false
 | .scr xs=>ai xs
 | _=>true
noncomputable def ai:List D->Bool
 | []=>true
 | d :: r=>d.imm && ai r
end
inductive Bop where | add | sub | mul | fdiv | mod | pow
 deriving DecidableEq
inductive Cop where | lt | le | gt | ge | eq | ne
 deriving DecidableEq
inductive Bi where | len | list | tuple | int | all | any | lenSet | sorted | sortedSet | abs | sum
 deriving DecidableEq
inductive Ty where | int | bool | list | tuple | str
 deriving DecidableEq
mutual
inductive E where
 | var (i:Nat)
 | cst (d:D)
 | glb (x:Str) (i:Int)
 | bin (o:Bop) (a b:E)
 | cmp (c:Cop) (a b:E)
 | chain (c c':Cop) (a b e:E)
 | isB (neg:Bool) (a:E) (b:Bool)
 | isN (neg:Bool) (a:E)
 | inn (neg:Bool) (a b:E)
 | inD (neg:Bool) (a b:E)
 | and (a b:E)
 | or (a b:E)
 | not (a:E)
 | ifx (t a b:E)
 | tup (es:Es)
 | lst (es:Es)
 | ix (a b:E)
 | ixD (a b:E)
 | slT (a b:E)
 | slF (a b:E)
 | rev (a:E)
 | call (f:Nat) (es:Es)
 | bi (b:Bi) (a:E)
 | max (a b:E)
 | min (a b:E)
 | isi (a:E) (t:Ty)
 | rng1 (a:E)
 | rng2 (a b:E)
 | rng3 (c:Int) (a b:E)
 | neg (a:E)
 | comp (e:E) (tg:List Nat) (it:It) (c:E)
 | compA (e:E) (tg:List Nat) (it:It)
 | compL (e:E) (tg:List Nat) (it:It)
 | index (a b:E)
 | chain3 (c c' c'':Cop) (a b e g:E)
 | slB (a b c:E)
 | join (a:E)
 | dk0
 | dt0
inductive Es where
 | nil
 | cons (e:E) (es:Es)
inductive It where
 | seq (e:E)
 | rng1 (a:E)
 | rng2 (a b:E)
 | rng3 (c:Int) (a b:E)
 | chr (e:E)
 | enm (e:E)
 | zip (a b:E)
 | nope
end
mutual
inductive S where
 | asg (i:Nat) (e:E)
 | own (i:Nat) (e:E)
 | unp (is:List Nat) (e:E)
 | par (i j:Nat) (a b:E)
 | parO (i j:Nat) (a b:E)
 | app (i:Nat) (e:E)
 | put (i:Nat) (k e:E)
 | put2 (i:Nat) (k l a b:E)
 | pop (i j:Nat)
 | clr (i:Nat)
 | aug (i:Nat) (o:Bop) (e:E)
 | ife (t:E) (a b:Ss)
 | ifp (i:Nat) (e:E) (a b:Ss)
 | forr (tg:List Nat) (it:It) (b:Ss)
 | whil (t:E) (b:Ss)
 | mexc (f:Nat) (es:Es) (ps ms:List Nat)
 | maug (i f:Nat) (es:Es) (ps ms:List Nat)
 | ret (e:E)
 | exc (e:E)
 | never
inductive Ss where
 | nil
 | cons (s:S) (r:Ss)
end
abbrev St:=List (Option D)
abbrev Cl:=Nat->List D->Option D
noncomputable def most:Nat:=100000
noncomputable def bZ {α:Type} (xs:List α) (i:Int):Option α :=
 if 0<=i then xs[i.toNat]? else if -(xs.length:Int)<=i then xs[(i+xs.length).toNat]? else none
noncomputable def mn (n:Nat) (i:Int):Option Nat :=
 if 0<=i then (if i<n then some i.toNat else none) else if -(n:Int)<=i then some (i+n).toNat else none
noncomputable def cutAt (n:Nat) (i:Int):Nat:=if 0<=i then min i.toNat n else (i+n).toNat
noncomputable def ay:Bop->D->D->Option D
 | .add,.int a,.int b=>some (.int (a+b))
 | .add,.str a,.str b=>if a.length+b.length<=most then some (.str (a ++ b)) else none
 | .add,.lst a,.lst b=>if a.length+b.length<=most then some (.lst (a ++ b)) else none
 | .add,.tup a,.tup b=>if a.length+b.length<=most/\0<a.length/\0<b.length then some (.tup (a ++ b)) else none
 | .sub,.int a,.int b=>some (.int (a-b))
 | .mul,.int a,.int b=>if (-(2 ^ 64)<a/\a<2 ^ 64)\/(-(2 ^ 64)<b/\b<2 ^ 64) then some (.int (a*b)) else none
 | .mul,.lst a,.int b=>if 0<=b/\b<=most/\a.length*b.toNat<=most then some (.lst (List.replicate b.toNat a).flatten) else none
 | .fdiv,.int a,.int b=>if 0<b/\b<2 ^ 200 then some (.int (a / b)) else none
 | .mod,.int a,.int b=>if 0<b then some (.int (a % b)) else none
 | .pow,.int a,.int b=>if 0<=b/\b<=1000/\a.natAbs<2 ^ 64 then some (.int (a ^ b.toNat)) else none
 | _,_,_=>none
noncomputable def eqs (f:D->D->Option Bool):List D->List D->Option Bool
 | a :: r,b :: s=>(f a b).bind fun e=>(eqs f r s).map fun k=>e && k
 | _,_=>some true
noncomputable def eqD:Nat->D->D->Option Bool
 | _,.int a,.int b=>some (a == b)
 | _,.str a,.str b=>some (a == b)
 | _,.bl a,.bl b=>some (a == b)
 | n+1,.tup a,.tup b=>(eqs (eqD n) a b).map fun k=>k && a.length == b.length
 | n+1,.lst a,.lst b=>(eqs (eqD n) a b).map fun k=>k && a.length == b.length
 | _,_,_=>none
noncomputable def aR:Cop->D->D->Option Bool
 | .lt,.int a,.int b=>some (decide (a<b))
 | .le,.int a,.int b=>some (decide (a<=b))
 | .gt,.int a,.int b=>some (decide (b<a))
 | .ge,.int a,.int b=>some (decide (b<=a))
 | .eq,a,b=>eqD 8 a b
 | .ne,a,b=>(eqD 8 a b).map not
 | _,_,_=>none
noncomputable def truth:D->Option Bool
 | .bl b=>some b
 | .lst xs=>some (!xs.isEmpty)
 | .tup xs=>some (!xs.isEmpty)
 | .int i=>some (i != 0)
 | _=>none
noncomputable def bM:List D->Option (List Int)
 | []=>some []
 | .int i :: r=>(bM r).map (i :: ·)
 | _=>none
noncomputable def cA:List D->Option (List Bool)
 | []=>some []
 | .bl i :: r=>(cA r).map (i :: ·)
 | _=>none
noncomputable def strs?:List D->Option (List Str)
 | []=>some []
 | .str i :: r=>(strs? r).map (i :: ·)
 | _=>none
noncomputable def dN (a:Int):List Int->List Int
 | []=>[a]
 | b :: r=>if a<=b then a :: b :: r else b :: dN a r
noncomputable def sortI:List Int->List Int
 | []=>[]
 | a :: r=>dN a (sortI r)
noncomputable def gj (xs:List Int):List Int:=xs.foldl (fun m k=>if m.any (· == k) then m else m ++ [k]) []
noncomputable def items:D->Option (List D)
 | .lst xs=>some xs
 | .tup xs=>some xs
 | _=>none
noncomputable def cB:D->Option (List D)
 | .lst xs=>some xs
 | .tup xs=>some xs
 | .str x=>some (x.cps.toList.map fun c=>.str ⟨#[c]⟩)
 | _=>none
noncomputable def biV:Bi->D->Option D
 | .len,.str x=>if x.length<=most then some (.int x.length) else none
 | .len,.dK ks _=>some (.int ks.length)
 | .len,d=>(items d).map fun xs=>.int xs.length
 | .list,d=>(items d).map .lst
 | .tuple,d=>(items d).map .tup
 | .int,.bl b=>some (.int (if b then 1 else 0))
 | .int,.int i=>some (.int i)
 | .int,_=>none
 | .all,.lst xs=>(cA xs).map fun bs=>.bl (bs.all id)
 | .any,.lst xs=>(cA xs).map fun bs=>.bl (bs.any id)
 | .all,_=>none
 | .any,_=>none
 | .lenSet,.lst xs=>if xs.length<=1000 then (bM xs).map fun is=>.int (gj is).length else none
 | .lenSet,_=>none
 | .sorted,.lst xs=>if xs.length<64 then (bM xs).map fun is=>.lst ((sortI is).map .int) else none
 | .sorted,_=>none
 | .sortedSet,.lst xs=>(bM xs).map fun is=>.lst ((sortI (gj is)).map .int)
 | .sortedSet,_=>none
 | .abs,.int i=>some (.int (if i<0 then -i else i))
 | .abs,_=>none
 | .sum,.lst xs=>(bM xs).map fun is=>.int is.sum
 | .sum,_=>none
noncomputable def bR:Ty->D->Option Bool
 | .int,.int _=>some true
 | .int,.bl _=>some true
 | .bool,.bl _=>some true
 | .list,.lst _=>some true
 | .tuple,.tup _=>some true
 | .str,.str _=>some true
 | _,.non=>some false
 | _,.bl _=>some false
 | _,.int _=>some false
 | _,.str _=>some false
 | _,.tup _=>some false
 | _,.lst _=>some false
 | _,_=>none
noncomputable def keyOf:D->Option Ky
 | .int i=>some (.inl i)
 | .str x=>some (.inr x)
 | _=>none
noncomputable def keysOf:List D->Option (List Ky)
 | []=>some []
 | d :: r=>(keyOf d).bind fun k=>(keysOf r).map (k :: ·)
noncomputable def a7 {κ:Type} [DecidableEq κ]:List κ->List D->κ->Option D
 | k :: ks,v :: vs,x=>if k=x then some v else a7 ks vs x
 | _,_,_=>none
noncomputable def putD {κ:Type} [DecidableEq κ] (ks:List κ) (vs:List D) (x:κ) (d:D):List κ × List D :=
 if x∈ks then (ks,List.zipWith (fun k v=>if k=x then d else v) ks vs) else (ks ++ [x],vs ++ [d])
noncomputable def ixV:D->D->Option D
 | .lst xs,.int i=>bZ xs i
 | .tup xs,.int i=>bZ xs i
 | .str x,.int i=>if x.length<=most then (bZ x.cps.toList i).map fun c=>.str ⟨#[c]⟩ else none
 | _,_=>none
noncomputable def nN:D->D->Option D
 | .dK ks vs,k=>(keyOf k).bind (a7 ks vs)
 | .dT ks vs,.tup k=>(keysOf k).bind (a7 ks vs)
 | _,_=>none
noncomputable def tJ:D->D->Option Bool
 | .dK ks vs,k=>(keyOf k).map fun k=>(a7 ks vs k).isSome
 | .dT ks vs,.tup k=>(keysOf k).map fun k=>(a7 ks vs k).isSome
 | _,_=>none
noncomputable def flat:D->Bool
 | .int _=>true
 | .str _=>true
 | _=>false
noncomputable def eqF:D->D->Bool
 | .int a,.int b=>a == b
 | .str a,.str b=>a == b
 | _,_=>false
noncomputable def inV (a b:D):Option Bool :=
 (items b).bind fun xs=>if flat a && xs.all flat then some (xs.any fun x=>eqF x a) else none
noncomputable def pA:D->D->Option D
 | .scr xs,.int k=>some (.lst (xs.take (cutAt xs.length k)))
 | .lst xs,.int k=>some (.lst (xs.take (cutAt xs.length k)))
 | .tup xs,.int k=>if cutAt xs.length k<xs.length then some (.tup (xs.take (cutAt xs.length k))) else none
 | _,_=>none
noncomputable def Cf:D->D->Option D
 | .lst xs,.int k=>some (.lst (xs.drop (cutAt xs.length k)))
 | .tup xs,.int k=>if 0<cutAt xs.length k then some (.tup (xs.drop (cutAt xs.length k))) else none
 | _,_=>none
noncomputable def Bn:D->D->D->Option D
 | .lst xs,.int i,.int k=>some (.lst ((xs.take (cutAt xs.length k)).drop (cutAt xs.length i)))
 | .tup xs,.int i,.int k=>if 0<cutAt xs.length i\/cutAt xs.length k<xs.length then some (.tup ((xs.take (cutAt xs.length k)).drop (cutAt xs.length i))) else none
 | _,_,_=>none
noncomputable def bJ (lo:Int):Nat->List D
 | 0=>[]
 | n+1=>.int lo :: bJ (lo+1) n
noncomputable def bq (c lo:Int):Nat->List D
 | 0=>[]
 | n+1=>.int lo :: bq c (lo+c) n
noncomputable def aT (c a b:Int):Nat:=(if c > 0 then (if a<b then (b-a-1) / c+1 else 0) else (if a > b then (a-b-1) / (-c)+1 else 0)).toNat
noncomputable def cF:D->D->Option (List D)
 | .int a,.int b=>if (b-a).toNat<=most/\-(2 ^ 60)<=a/\a<2 ^ 60/\-(2 ^ 60)<=b/\b<2 ^ 60 then some (bJ a (b-a).toNat) else none
 | _,_=>none
noncomputable def eG (c:Int):D->D->Option (List D)
 | .int a,.int b=>if c≠0/\-(2 ^ 60)<c/\c<2 ^ 60/\aT c a b<=most/\-(2 ^ 60)<=a/\a<2 ^ 60/\-(2 ^ 60)<=b/\b<2 ^ 60 then some (bq c a (aT c a b)) else none
 | _,_=>none
noncomputable def bX (i:Int):List D->List D
 | []=>[]
 | d :: r=>.tup [.int i,d] :: bX (i+1) r
noncomputable def cV:List D->List D->List D
 | a :: r,b :: s=>.tup [a,b] :: cV r s
 | _,_=>[]
noncomputable def aS:List Nat->List D->St->Option St
 | [],[],σ=>some σ
 | i :: is,d :: ds,σ=>aS is ds (σ.set i (some d))
 | _,_,_=>none
noncomputable def az (tg:List Nat) (d:D) (σ:St):Option St :=
 match tg with
 | [i]=>some (σ.set i (some d))
 | tg=>match d with
  | .tup ds=>aS tg ds σ
  | .lst ds=>aS tg ds σ
  | _=>none
noncomputable def iu (y:Option D) (ys:List D):Option (List D) :=
 match y with
 | some e=>if e.imm then some (e :: ys) else none
 | none=>some ys
noncomputable def bF (f:St->Option (Option D)) (tg:List Nat) (σ:St):List D->Option (List D)
 | []=>some []
 | d :: r=>(az tg d σ).bind fun σ1=>(f σ1).bind fun y=>(bF f tg σ r).bind (iu y)
noncomputable def a5:D->Bool
 | .lst xs=>ai xs
 | .dK _ vs=>ai vs
 | .dT _ vs=>ai vs
 | _=>false
noncomputable def eV (f:St->Option D) (fr:Bool) (tg:List Nat) (σ:St):List D->Option (List D)
 | []=>some []
 | d :: r=>(az tg d σ).bind fun σ1=>(f σ1).bind fun y=>if a5 y && fr then (eV f fr tg σ r).map (y :: ·) else none
noncomputable def fits (xs:List D):Option (List D):=if xs.length<=most then some xs else none
noncomputable def au:E->Bool
 | .lst _=>true
 | .tup _=>true
 | .comp _ _ _ _=>true
 | .compA _ _ _=>true
 | .compL _ _ _=>true
 | .bin _ _ _=>true
 | .slT _ _=>true
 | .slF _ _=>true
 | .slB _ _ _=>true
 | .rev _=>true
 | .call _ _=>true
 | .bi _ _=>true
 | .rng1 _=>true
 | .rng2 _ _=>true
 | .rng3 _ _ _=>true
 | .dk0=>true
 | .dt0=>true
 | _=>false
mutual
noncomputable def ev (cl:Cl) (σ:St):E->Option D
 | .var i=>(σ[i]?).bind id
 | .cst d=>some d
 | .glb _ i=>some (.int i)
 | .bin o a b=>(ev cl σ a).bind fun x=>(ev cl σ b).bind fun y=>ay o x y
 | .cmp c a b=>(ev cl σ a).bind fun x=>(ev cl σ b).bind fun y=>(aR c x y).map .bl
 | .chain c c' a b e=>(ev cl σ a).bind fun x=>(ev cl σ b).bind fun y=>(aR c x y).bind fun k=>if k then (ev cl σ e).bind fun z=>(aR c' y z).map .bl else some (.bl false)
 | .isB neg a b=>(ev cl σ a).bind fun x=>match x with
  | .bl k=>some (.bl (if neg then !decide (k=b) else decide (k=b)))
  | _=>none
 | .isN neg a=>(ev cl σ a).bind fun x=>match x with
  | .non=>some (.bl (!neg))
  | .dK _ _=>none
  | .dT _ _=>none
  | _=>some (.bl neg)
 | .inn neg a b=>(ev cl σ a).bind fun x=>(ev cl σ b).bind fun y=>(inV x y).map fun k=>.bl (if neg then !k else k)
 | .inD neg a b=>(ev cl σ a).bind fun x=>(ev cl σ b).bind fun y=>(tJ y x).map fun k=>.bl (if neg then !k else k)
 | .and a b=>(ev cl σ a).bind fun x=>match x with
  | .bl true=>ev cl σ b
  | .bl false=>some (.bl false)
  | _=>none
 | .or a b=>(ev cl σ a).bind fun x=>match x with
  | .bl false=>ev cl σ b
  | .bl true=>some (.bl true)
  | _=>none
 | .not a=>((ev cl σ a).bind truth).map fun k=>.bl (!k)
 | .ifx t a b=>((ev cl σ t).bind truth).bind fun k=>if k then ev cl σ a else ev cl σ b
 | .tup es=>(evs cl σ es).map .tup
 | .lst es=>(evs cl σ es).map .lst
 | .ix a b=>(ev cl σ a).bind fun x=>(ev cl σ b).bind fun y=>ixV x y
 | .ixD a b=>(ev cl σ a).bind fun x=>(ev cl σ b).bind fun y=>nN x y
 | .slT a b=>(ev cl σ a).bind fun x=>(ev cl σ b).bind fun y=>pA x y
 | .slF a b=>(ev cl σ a).bind fun x=>(ev cl σ b).bind fun y=>Cf x y
 | .rev a=>(ev cl σ a).bind fun x=>match x with
  | .lst xs=>some (.lst xs.reverse)
  | _=>none
 | .call f es=>(evs cl σ es).bind fun ds=>cl f ds
 | .bi b a=>(ev cl σ a).bind fun x=>biV b x
 | .max a b=>(ev cl σ a).bind fun x=>(ev cl σ b).bind fun y=>match x,y with
  | .int i,.int j=>some (.int (if j > i then j else i))
  | _,_=>none
 | .min a b=>(ev cl σ a).bind fun x=>(ev cl σ b).bind fun y=>match x,y with
  | .int i,.int j=>some (.int (if j<i then j else i))
  | _,_=>none
 | .isi a t=>(ev cl σ a).bind fun x=>(bR t x).map .bl
 | .rng1 a=>(ev cl σ a).bind fun x=>(cF (.int 0) x).map .lst
 | .rng2 a b=>(ev cl σ a).bind fun x=>(ev cl σ b).bind fun y=>(cF x y).map .lst
 | .rng3 c a b=>(ev cl σ a).bind fun x=>(ev cl σ b).bind fun y=>(eG c x y).map .lst
 | .neg a=>(ev cl σ a).bind fun x=>match x with
  | .int i=>some (.int (-i))
  | _=>none
 | .comp e tg it c=>(a8 cl σ it).bind fun ds=>(fits ds).bind fun ds=>(bF (fun σ1=>((ev cl σ1 c).bind truth).bind fun k=>if k then (ev cl σ1 e).map some else some none) tg σ ds).map .lst
 | .compA e tg it=>(a8 cl σ it).bind fun ds=>(fits ds).bind fun ds=>(bF (fun σ1=>(ev cl σ1 e).map some) tg σ ds).map .lst
 | .compL e tg it=>(a8 cl σ it).bind fun ds=>(fits ds).bind fun ds=>(eV (fun σ1=>ev cl σ1 e) (au e) tg σ ds).map .lst
 | .index a b=>(ev cl σ a).bind fun x=>(ev cl σ b).bind fun y=>match x,y with
  | .lst xs,.int i=>(bM xs).bind fun is=>if i∈is then some (.int (is.idxOf i)) else none
  | _,_=>none
 | .join a=>(ev cl σ a).bind fun x=>match x with
  | .lst xs=>(strs? xs).bind fun ss=>if ss.length<=most/\ss.all (fun s=>s.length<=10) then some (.str ⟨(ss.flatMap fun s=>s.cps.toList).toArray⟩) else none
  | _=>none
 | .chain3 c c' c'' a b e g=>(ev cl σ a).bind fun x=>(ev cl σ b).bind fun y=>(aR c x y).bind fun k=>if k then (ev cl σ e).bind fun z=>(aR c' y z).bind fun k'=>if k' then (ev cl σ g).bind fun w=>(aR c'' z w).map .bl else some (.bl false) else some (.bl false)
 | .slB a b c=>(ev cl σ a).bind fun x=>(ev cl σ b).bind fun y=>(ev cl σ c).bind fun z=>Bn x y z
 | .dk0=>some (.dK [] [])
 | .dt0=>some (.dT [] [])
noncomputable def evs (cl:Cl) (σ:St):Es->Option (List D)
 | .nil=>some []
 | .cons e es=>(ev cl σ e).bind fun d=>(evs cl σ es).map (d :: ·)
noncomputable def a8 (cl:Cl) (σ:St):It->Option (List D)
 | .seq e=>(ev cl σ e).bind items
 | .rng1 a=>(ev cl σ a).bind fun x=>cF (.int 0) x
 | .rng2 a b=>(ev cl σ a).bind fun x=>(ev cl σ b).bind fun y=>cF x y
 | .rng3 c a b=>(ev cl σ a).bind fun x=>(ev cl σ b).bind fun y=>eG c x y
 | .chr e=>(ev cl σ e).bind fun x=>match x with
  | .str x=>cB (.str x)
  | _=>none
 | .enm e=>(ev cl σ e).bind fun x=>(cB x).map (bX 0)
 | .zip a b=>(ev cl σ a).bind fun x=>(ev cl σ b).bind fun y=>(items x).bind fun xs=>(items y).bind fun ys=>if xs.length=ys.length then some (cV xs ys) else none
 | .nope=>none
end
inductive Out where
 | nx
 | rt (d:D)
noncomputable def avE (M:List Nat):E->Bool
 | .var j=>!M.contains j
 | .ix a _=>avE M a
 | .call _ _=>true
 | .compL _ _ _=>true
 | .ifx _ a b=>avE M a && avE M b
 | _=>false
noncomputable def pB (M:List Nat):It->Bool
 | .seq e=>avE M e || au e
 | .enm e=>avE M e || au e
 | .zip a b=>(avE M a || au a) && (avE M b || au b)
 | _=>true
noncomputable def aJ (M:List Nat) (e:E) (d:D):Bool :=
 d.imm || (a5 d && (au e || match e with | .var i=>M.contains i | _=>false))
noncomputable def bj (M:List Nat) (e:E) (d:D):Bool:=d.imm || (a5 d && au e) || avE M e
noncomputable def isVar:E->Bool
 | .var _=>true
 | _=>false
noncomputable def mj (M ps:List Nat):Nat->Es->List D->Bool
 | _,.nil,[]=>true
 | q,.cons e es,d :: ds=>(if ps.contains q then isVar e else bj M e d) && mj M ps (q+1) es ds
 | _,_,_=>false
noncomputable def cw:D->D->D->Option D
 | .lst xs,.int k,d=>(mn xs.length k).map fun j=>.lst (xs.set j d)
 | .dK ks vs,k,d=>(keyOf k).bind fun k=>if ks.length<most then some (.dK (putD ks vs k d).1 (putD ks vs k d).2) else none
 | .dT ks vs,.tup k,d=>(keysOf k).bind fun k=>if ks.length<most then some (.dT (putD ks vs k d).1 (putD ks vs k d).2) else none
 | _,_,_=>none
noncomputable def bb (f:St->Option (Out × St)) (tg:List Nat):List D->St->Option (Out × St)
 | [],σ=>some (.nx,σ)
 | d :: r,σ=>if d.imm then (az tg d σ).bind fun σ1=>(f σ1).bind fun p=>match p.1 with
   | .nx=>bb f tg r p.2
   | .rt d=>some (.rt d,p.2)
  else none
noncomputable def whF (t:St->Option Bool) (f:St->Option (Out × St)):Nat->St->Option (Out × St)
 | 0,_=>none
 | n+1,σ=>(t σ).bind fun k=>if k then (f σ).bind fun p=>match p.1 with
   | .nx=>whF t f n p.2
   | .rt d=>some (.rt d,p.2)
  else some (.nx,σ)
mutual
noncomputable def evS (cl:Cl) (M:List Nat):S->St->Option (Out × St)
 | .asg i e,σ=>(ev cl σ e).bind fun d=>if bj M e d then some (.nx,σ.set i (some d)) else none
 | .own i e,σ=>(ev cl σ e).bind fun d=>if a5 d && au e then some (.nx,σ.set i (some d)) else none
 | .unp is e,σ=>(ev cl σ e).bind fun d=>(items d).bind fun ds=>if ai ds then (aS is ds σ).map fun σ1=>(.nx,σ1) else none
 | .par i j a b,σ=>(ev cl σ a).bind fun x=>(ev cl σ b).bind fun y=>if x.imm && y.imm then some (.nx,(σ.set i (some x)).set j (some y)) else none
 | .parO i j a b,σ=>(ev cl σ a).bind fun x=>(ev cl σ b).bind fun y=>if (a5 x && au a) && (a5 y && au b) then some (.nx,(σ.set i (some x)).set j (some y)) else none
 | .app i e,σ=>(ev cl σ e).bind fun d=>((σ[i]?).bind id).bind fun l=>match l with
  | .lst xs=>if d.imm && decide (xs.length<most) then some (.nx,σ.set i (some (.lst (xs ++ [d])))) else none
  | _=>none
 | .put i k e,σ=>(ev cl σ e).bind fun d=>(ev cl σ k).bind fun kk=>((σ[i]?).bind id).bind fun l=>if d.imm then (cw l kk d).map fun l'=>(.nx,σ.set i (some l')) else none
 | .put2 i k l a b,σ=>(ev cl σ a).bind fun x=>(ev cl σ b).bind fun y=>if x.imm && y.imm then
   (ev cl σ k).bind fun kk=>((σ[i]?).bind id).bind fun c=>match c with
   | .lst _=>(cw c kk x).bind fun c1=>(ev cl (σ.set i (some c1)) l).bind fun ll=>(cw c1 ll y).map fun c2=>(.nx,(σ.set i (some c1)).set i (some c2))
   | _=>none
  else none
 | .pop i j,σ=>((σ[i]?).bind id).bind fun l=>match l with
  | .lst xs=>(xs[xs.length-1]?).map fun d=>(.nx,(σ.set i (some (.lst xs.dropLast))).set j (some d))
  | _=>none
 | .clr i,σ=>((σ[i]?).bind id).bind fun l=>match l with
  | .lst _=>some (.nx,σ.set i (some (.lst [])))
  | _=>none
 | .aug i o e,σ=>((σ[i]?).bind id).bind fun x=>(ev cl σ e).bind fun y=>match x,y with
  | .int a,.int b=>(ay o (.int a) (.int b)).map fun z=>(.nx,σ.set i (some z))
  | _,_=>none
 | .ife t a b,σ=>((ev cl σ t).bind truth).bind fun k=>if k then ag cl M a σ else ag cl M b σ
 | .ifp i e a b,σ=>((σ[i]?).bind id).bind fun l=>match l with
  | .lst xs=>(xs[xs.length-1]?).bind fun d=>(ev cl (σ.set i (some (.lst xs.dropLast))) e).bind fun y=>match d,y with
   | .int p,.int q=>if decide (p=q) then ag cl M b (σ.set i (some (.lst xs.dropLast))) else ag cl M a (σ.set i (some (.lst xs.dropLast)))
   | _,_=>none
  | _=>none
 | .forr tg it b,σ=>(a8 cl σ it).bind fun ds=>bb (ag cl M b) tg ds σ
 | .whil t b,σ=>whF (fun σ=>(ev cl σ t).bind truth) (ag cl M b) most σ
 | .mexc f es ps ms,σ=>(evs cl σ es).bind fun ds=>if mj M ps 0 es ds then (cl f ds).bind fun r=>match r with
  | .tup (_ :: outs)=>(aS ms outs σ).map fun σ1=>(.nx,σ1)
  | _=>none
  else none
 | .maug i f es ps ms,σ=>((σ[i]?).bind id).bind fun x=>(evs cl σ es).bind fun ds=>if mj M ps 0 es ds then (cl f ds).bind fun r=>match r with
  | .tup (y :: outs)=>match x,y with
   | .int a,.int b=>(aS ms outs σ).map fun σ1=>(.nx,σ1.set i (some (.int (a+b))))
   | _,_=>none
  | _=>none
  else none
 | .ret e,σ=>(ev cl σ e).bind fun d=>if aJ M e d then some (.rt d,σ) else none
 | .exc e,σ=>(ev cl σ e).map fun _=>(.nx,σ)
 | .never,_=>none
noncomputable def ag (cl:Cl) (M:List Nat):Ss->St->Option (Out × St)
 | .nil,σ=>some (.nx,σ)
 | .cons s r,σ=>(evS cl M s σ).bind fun p=>match p.1 with
  | .nx=>ag cl M r p.2
  | .rt d=>some (.rt d,p.2)
end
structure Fn where
 ps:Nat
 nn:Nat
 M:List Nat
 mp:List Nat
 body:Ss
noncomputable def gc (σ:St):List Nat->Option (List D)
 | []=>some []
 | i :: is=>((σ[i]?).bind id).bind fun d=>(gc σ is).map (d :: ·)
noncomputable def aE (fn:Fn) (d:D) (σ:St):Option D :=
 if fn.mp.isEmpty then some d else if d.imm then (gc σ fn.mp).map fun os=>.tup (d :: os) else none
noncomputable def ax (T:List Fn):Nat->Cl
 | 0,_,_=>none
 | n+1,f,ds=>(T[f]?).bind fun fn=>if ds.length=fn.ps then (ag (ax T n) fn.M fn.body (ds.map some ++ List.replicate (fn.nn-fn.ps) none)).bind fun p=>match p.1 with
  | .nx=>aE fn .non p.2
  | .rt d=>aE fn d p.2
  else none
end RL
namespace RT
open RL
noncomputable def fI:Fn :=
 ⟨1,1,[],[],(.cons (.ret (.and (.isi (.var 0) .int) (.not (.isi (.var 0) .bool)))) .nil)⟩
noncomputable def cE (f_is_number:Nat):Fn :=
 ⟨1,1,[],[],(.cons (.ret (.and (.call f_is_number (.cons (.var 0) .nil)) (.chain .le .le (.cst (.int 1)) (.var 0) (.glb "MOST_PEGS" 10)))) .nil)⟩
noncomputable def bO (f_is_peg_count:Nat):Fn :=
 ⟨1,1,[],[],(.cons (.ife (.not (.call f_is_peg_count (.cons (.var 0) .nil))) (.cons .never .nil) .nil) .nil)⟩
noncomputable def il:Fn :=
 ⟨1,1,[],[],(.cons (.ret (.bin .fdiv (.bi .len (.var 0)) (.cst (.int 2)))) .nil)⟩
noncomputable def fO (f_check_pegs:Nat):Fn :=
 ⟨1,1,[],[],(.cons (.exc (.call f_check_pegs (.cons (.var 0) .nil))) (.cons (.ret (.bi .tuple (.bin .add (.rng2 (.var 0) (.bin .mul (.cst (.int 2)) (.var 0))) (.rng1 (.var 0))))) .nil))⟩
noncomputable def iz:Fn :=
 ⟨1,3,[],[],(.cons (.asg 1 (.bin .mod (.bin .add (.bin .mul (.var 0) (.cst (.int 48271))) (.cst (.int 11))) (.cst (.int 2147483647)))) (.cons (.asg 2 (.bin .mod (.bin .add (.bin .add (.bin .mul (.var 1) (.var 1)) (.bin .mul (.cst (.int 40692)) (.var 1))) (.var 0)) (.cst (.int 2147483399)))) (.cons (.ret (.bin .mod (.bin .add (.bin .add (.bin .mul (.var 2) (.var 2)) (.bin .mul (.cst (.int 69621)) (.var 2))) (.var 1)) (.cst (.int 2147483563)))) .nil)))⟩
noncomputable def gQ (f_law_mix:Nat):Ss :=
 (.cons (.asg 3 (.bin .add (.bin .mul (.var 3) (.cst (.int 2147483563))) (.call f_law_mix (.cons (.bin .add (.bin .add (.var 2) (.bin .mul (.cst (.int 1009)) (.var 1))) (.bin .mul (.cst (.int 7919)) (.var 4))) .nil)))) .nil)
noncomputable def i5 (f_law_mix:Nat):Fn :=
 ⟨2,5,[],[],(.cons (.asg 2 (.bin .add (.bin .mul (.cst (.int 7)) (.var 1)) (.cst (.int 3)))) (.cons (.ife (.cmp .gt (.bi .len (.var 0)) (.cst (.int 0))) (.cons (.asg 2 (.bin .add (.ix (.var 0) (.bin .mod (.var 1) (.bi .len (.var 0)))) (.bin .mul (.cst (.int 9973)) (.bin .fdiv (.var 1) (.bi .len (.var 0)))))) .nil) .nil) (.cons (.ife (.and (.cmp .lt (.var 1) (.bi .len (.var 0))) (.cmp .ge (.var 2) (.bin .pow (.cst (.int 10)) (.cst (.int 18))))) (.cons (.ret (.bin .sub (.var 2) (.bin .pow (.cst (.int 10)) (.cst (.int 18))))) .nil) .nil) (.cons (.asg 3 (.cst (.int 0))) (.cons (.forr [4] (.rng1 (.cst (.int 40))) (gQ f_law_mix)) (.cons (.ret (.var 3)) .nil))))))⟩
noncomputable def er (f_law_raw:Nat):Ss :=
 (.cons (.app 4 (.bin .mod (.var 3) (.var 5))) (.cons (.asg 3 (.bin .fdiv (.var 3) (.var 5))) .nil))
noncomputable def dD (f_law_raw:Nat):Fn :=
 ⟨3,6,[4],[],(.cons (.asg 3 (.call f_law_raw (.cons (.var 0) (.cons (.var 1) .nil)))) (.cons (.own 4 (.lst .nil)) (.cons (.forr [5] (.seq (.var 2)) (er f_law_raw)) (.cons (.ret (.var 4)) .nil))))⟩
noncomputable def d5 (f_names_back:Nat):Fn :=
 ⟨1,2,[],[],(.cons (.ret (.and (.isi (.var 0) .tuple) (.bi .all (.compA (.call f_names_back (.cons (.var 0) (.cons (.var 1) .nil))) [1] (.rng1 (.bi .len (.var 0))))))) .nil)⟩
noncomputable def dn (f_is_number:Nat):Fn :=
 ⟨2,3,[],[],(.cons (.asg 2 (.ix (.var 0) (.var 1))) (.cons (.ret (.and (.call f_is_number (.cons (.var 2) .nil)) (.and (.chain .le .lt (.cst (.int 0)) (.var 2) (.bi .len (.var 0))) (.cmp .eq (.ix (.var 0) (.var 2)) (.var 1))))) .nil))⟩
noncomputable def c7:Ss :=
 (.cons (.ife (.cmp .gt (.var 3) (.var 2)) (.cons (.app 1 (.var 2)) .nil) (.cons (.ife (.cmp .eq (.var 3) (.var 2)) (.cons (.ife (.var 1) (.cons (.ret (.cst (.bl false))) .nil) .nil) .nil) (.cons (.ifp 1 (.var 3) (.cons (.ret (.cst (.bl false))) .nil) .nil) .nil)) .nil)) .nil)
noncomputable def cC:Fn :=
 ⟨1,4,[1],[],(.cons (.own 1 (.lst .nil)) (.cons (.forr [2,3] (.enm (.var 0)) (c7)) (.cons (.ret (.cst (.bl true))) .nil)))⟩
noncomputable def eI (f_is_uncrossed f_in_round f_is_pairing f_is_peg_count f_pegs_of:Nat):Fn :=
 ⟨1,5,[],[],(.cons (.asg 1 (.call f_pegs_of (.cons (.var 0) .nil))) (.cons (.ife (.or (.cmp .ne (.bi .len (.var 0)) (.bin .mul (.cst (.int 2)) (.var 1))) (.or (.not (.call f_is_peg_count (.cons (.var 1) .nil))) (.not (.call f_is_pairing (.cons (.var 0) .nil))))) (.cons (.ret (.cst (.bl false))) .nil) .nil) (.cons (.asg 2 (.comp (.var 3) [3,4] (.enm (.var 0)) (.cmp .eq (.var 3) (.var 4)))) (.cons (.ret (.and (.not (.var 2)) (.call f_is_uncrossed (.cons (.call f_in_round (.cons (.var 0) .nil)) .nil)))) .nil))))⟩
noncomputable def cO (f_is_frame:Nat):Fn :=
 ⟨1,1,[],[],(.cons (.ife (.not (.call f_is_frame (.cons (.var 0) .nil))) (.cons .never .nil) .nil) .nil)⟩
noncomputable def jV (f_check_frame:Nat):Fn :=
 ⟨1,3,[],[],(.cons (.exc (.call f_check_frame (.cons (.var 0) .nil))) (.cons (.ret (.comp (.tup (.cons (.var 1) (.cons (.var 2) .nil))) [1,2] (.enm (.var 0)) (.cmp .lt (.var 1) (.var 2)))) .nil))⟩
noncomputable def cj:Fn :=
 ⟨2,2,[],[],(.cons (.ret (.ifx (.cmp .lt (.var 1) (.var 0)) (.var 1) (.bin .sub (.bin .sub (.bin .mul (.cst (.int 3)) (.var 0)) (.cst (.int 1))) (.var 1)))) .nil)⟩
noncomputable def eD (f_moved f_round_place f_pegs_of:Nat):Fn :=
 ⟨1,3,[],[],(.cons (.asg 1 (.call f_pegs_of (.cons (.var 0) .nil))) (.cons (.ret (.call f_moved (.cons (.var 0) (.cons (.compA (.call f_round_place (.cons (.var 1) (.cons (.var 2) .nil))) [2] (.rng1 (.bin .mul (.cst (.int 2)) (.var 1)))) .nil)))) .nil))⟩
noncomputable def jq:Ss :=
 (.cons (.put 2 (.ix (.var 1) (.var 3)) (.ix (.var 1) (.var 4))) .nil)
noncomputable def iO:Fn :=
 ⟨2,5,[2],[],(.cons (.own 2 (.bin .mul (.lst (.cons (.cst (.int 0)) .nil)) (.bi .len (.var 0)))) (.cons (.forr [3,4] (.enm (.var 0)) (jq)) (.cons (.ret (.bi .tuple (.var 2))) .nil)))⟩
noncomputable def cL:Fn :=
 ⟨1,2,[],[],(.cons (.ret (.bi .tuple (.bin .add (.compA (.bin .add (.var 0) (.var 1)) [1] (.rng1 (.var 0))) (.rng1 (.var 0))))) .nil)⟩
noncomputable def jh (f_law_plain:Nat):Ss :=
 (.cons (.put 2 (.var 3) (.bin .add (.var 3) (.cst (.int 1)))) (.cons (.put 2 (.bin .add (.var 3) (.cst (.int 1))) (.var 3)) .nil))
noncomputable def eJ (f_law_plain:Nat):Fn :=
 ⟨2,4,[2],[],(.cons (.own 2 (.bi .list (.call f_law_plain (.cons (.var 0) .nil)))) (.cons (.forr [3] (.seq (.tup (.cons (.var 1) (.cons (.bin .add (.var 0) (.var 1)) .nil)))) (jh f_law_plain)) (.cons (.ret (.bi .tuple (.var 2))) .nil)))⟩
noncomputable def da:Fn :=
 ⟨1,1,[],[],(.cons (.ret (.bin .add (.rng1 (.var 0)) (.rng3 (-1) (.bin .sub (.bin .mul (.cst (.int 2)) (.var 0)) (.cst (.int 1))) (.bin .sub (.var 0) (.cst (.int 1)))))) .nil)⟩
noncomputable def bU (f_law_circle:Nat):Ss :=
 (.cons (.ife (.cmp .eq (.var 6) (.cst (.str "("))) (.cons (.app 4 (.ix (.var 2) (.var 5))) .nil) (.cons (.pop 4 8) (.cons (.put 3 (.var 8) (.ix (.var 2) (.var 5))) (.cons (.put 3 (.ix (.var 2) (.var 5)) (.var 8)) .nil)))) .nil)
noncomputable def dA (f_law_circle:Nat):Fn :=
 ⟨1,9,[3,4],[],(.cons (.asg 1 (.bin .fdiv (.bi .len (.var 0)) (.cst (.int 2)))) (.cons (.asg 2 (.call f_law_circle (.cons (.var 1) .nil))) (.cons (.own 3 (.compA (.cst (.int 0)) [7] (.seq (.var 2)))) (.cons (.own 4 (.lst .nil)) (.cons (.forr [5,6] (.enm (.var 0)) (bU f_law_circle)) (.cons (.ret (.bi .tuple (.var 3))) .nil))))))⟩
noncomputable def dR:Ss :=
 (.cons (.par 0 6 (.bin .fdiv (.var 0) (.cst (.int 2))) (.bin .mod (.var 0) (.cst (.int 2)))) (.cons (.asg 5 (.or (.cmp .eq (.var 3) (.cst (.int 0))) (.and (.cmp .lt (.var 3) (.var 4)) (.cmp .eq (.var 6) (.cst (.int 1)))))) (.cons (.asg 2 (.bin .add (.var 2) (.ix (.lst (.cons (.cst (.str ")")) (.cons (.cst (.str "(")) .nil))) (.bi .int (.var 5))))) (.cons (.asg 3 (.bin .add (.var 3) (.ix (.lst (.cons (.neg (.cst (.int 1))) (.cons (.cst (.int 1)) .nil))) (.bi .int (.var 5))))) .nil))))
noncomputable def gz:Fn :=
 ⟨2,7,[],[],(.cons (.asg 2 (.cst (.str ""))) (.cons (.asg 3 (.cst (.int 0))) (.cons (.forr [4] (.rng3 (-1) (.bin .mul (.cst (.int 2)) (.var 1)) (.cst (.int 0))) (dR)) (.cons (.ret (.var 2)) .nil))))⟩
noncomputable def bG:Ss :=
 (.cons (.ife (.cmp .eq (.ixD (.var 4) (.var 7)) (.var 9)) (.cons (.put 4 (.var 7) (.var 8)) .nil) .nil) .nil)
noncomputable def c6:Ss :=
 (.cons (.par 8 9 (.ixD (.var 4) (.var 5)) (.ixD (.var 4) (.var 6))) (.cons (.forr [7] (.seq (.var 2)) (bG)) .nil))
noncomputable def cW:Ss :=
 (.cons (.forr [6] (.seq (.tup (.cons (.ix (.var 1) (.var 5)) (.cons (.bin .sub (.ix (.var 0) (.bin .add (.var 3) (.var 5))) (.var 3)) .nil)))) (c6)) .nil)
noncomputable def dB:Ss :=
 (.cons (.put 4 (.var 5) (.var 5)) .nil)
noncomputable def cG:Fn :=
 ⟨3,10,[4],[],(.cons (.asg 3 (.bin .fdiv (.bi .len (.var 0)) (.cst (.int 2)))) (.cons (.own 4 .dk0) (.cons (.forr [5] (.seq (.var 2)) (dB)) (.cons (.forr [5] (.seq (.var 2)) (cW)) (.cons (.ret (.bi .lenSet (.compA (.ixD (.var 4) (.var 5)) [5] (.seq (.var 2))))) .nil)))))⟩
noncomputable def cq (f_law_rings_by:Nat):Ss :=
 (.cons (.ife (.cmp .eq (.cmp .eq (.ix (.var 7) (.cst (.int 0))) (.cst (.str "high"))) (.cmp .ge (.ix (.var 7) (.cst (.int 1))) (.var 2))) (.cons (.put 6 (.bin .mod (.ix (.var 7) (.cst (.int 1))) (.var 2)) (.cst (.bl true))) (.cons (.asg 7 (.ixD (.var 3) (.tup (.cons (.ix (.lst (.cons (.cst (.str "high")) (.cons (.cst (.str "low")) .nil))) (.bi .int (.cmp .eq (.ix (.var 7) (.cst (.int 0))) (.cst (.str "high"))))) (.cons (.bin .mod (.bin .add (.ix (.var 7) (.cst (.int 1))) (.var 2)) (.bin .mul (.cst (.int 2)) (.var 2))) .nil))))) .nil)) .nil) .nil)
noncomputable def dQ (f_law_rings_by:Nat):Ss :=
 (.cons (.asg 7 (.ixD (.var 3) (.tup (.cons (.ix (.lst (.cons (.cst (.str "high")) (.cons (.cst (.str "low")) .nil))) (.bi .int (.cmp .ge (.var 4) (.var 2)))) (.cons (.var 4) .nil))))) (.cons (.forr [8] (.rng1 (.bin .mul (.cst (.int 4)) (.var 2))) (cq f_law_rings_by)) (.cons (.app 5 (.ix (.var 7) (.cst (.int 1)))) .nil)))
noncomputable def dS (f_law_rings_by:Nat):Ss :=
 (.cons (.put 3 (.tup (.cons (.cst (.str "high")) (.cons (.var 4) .nil))) (.tup (.cons (.cst (.str "high")) (.cons (.ix (.var 0) (.var 4)) .nil)))) (.cons (.put 3 (.tup (.cons (.cst (.str "low")) (.cons (.var 4) .nil))) (.tup (.cons (.cst (.str "low")) (.cons (.ix (.var 1) (.var 4)) .nil)))) .nil))
noncomputable def cX (f_law_rings_by:Nat):Fn :=
 ⟨2,9,[3,5,6],[],(.cons (.asg 2 (.bin .fdiv (.bi .len (.var 0)) (.cst (.int 2)))) (.cons (.own 3 .dt0) (.cons (.forr [4] (.rng1 (.bin .mul (.cst (.int 2)) (.var 2))) (dS f_law_rings_by)) (.cons (.own 5 (.lst .nil)) (.cons (.own 6 .dk0) (.cons (.forr [4] (.rng1 (.bin .mul (.cst (.int 2)) (.var 2))) (dQ f_law_rings_by)) (.cons (.ret (.tup (.cons (.bi .tuple (.var 5)) (.cons (.call f_law_rings_by (.cons (.var 0) (.cons (.var 1) (.cons (.comp (.var 4) [4] (.rng1 (.var 2)) (.inD true (.var 4) (.var 6))) .nil)))) .nil)))) .nil)))))))⟩
noncomputable def eA:Fn :=
 ⟨1,3,[],[],(.cons (.asg 1 (.bin .fdiv (.bi .len (.var 0)) (.cst (.int 2)))) (.cons (.ret (.bi .tuple (.compA (.bin .mod (.bin .add (.ix (.var 0) (.bin .mod (.bin .add (.var 2) (.var 1)) (.bin .mul (.cst (.int 2)) (.var 1)))) (.var 1)) (.bin .mul (.cst (.int 2)) (.var 1))) [2] (.rng1 (.bin .mul (.cst (.int 2)) (.var 1)))))) .nil))⟩
noncomputable def fD (f_law_hung f_law_over f_law_from_text f_law_text f_law_hook f_law_plain f_law_digits:Nat):Fn :=
 ⟨3,7,[],[],(.cons (.unp [4,5,6] (.call f_law_digits (.cons (.var 0) (.cons (.var 1) (.cons (.lst (.cons (.cst (.int 8)) (.cons (.bin .pow (.cst (.int 10)) (.cst (.int 12))) (.cons (.max (.cst (.int 1)) (.bin .sub (.var 2) (.cst (.int 1)))) .nil)))) .nil))))) (.cons (.ife (.cmp .eq (.var 4) (.cst (.int 0))) (.cons (.ret (.call f_law_plain (.cons (.var 2) .nil))) .nil) .nil) (.cons (.ife (.and (.cmp .eq (.var 4) (.cst (.int 1))) (.cmp .gt (.var 2) (.cst (.int 1)))) (.cons (.ret (.call f_law_hook (.cons (.var 2) (.cons (.var 6) .nil)))) .nil) .nil) (.cons (.asg 3 (.call f_law_from_text (.cons (.call f_law_text (.cons (.var 5) (.cons (.var 2) .nil))) .nil))) (.cons (.ife (.cmp .eq (.var 4) (.cst (.int 2))) (.cons (.ret (.ix (.call f_law_hung (.cons (.var 3) (.cons (.call f_law_over (.cons (.var 3) .nil)) .nil))) (.cst (.int 0)))) .nil) .nil) (.cons (.ret (.var 3)) .nil))))))⟩
noncomputable def bI (f_law_same:Nat):Fn :=
 ⟨2,4,[],[],(.cons (.ife (.isN false (.var 1)) (.cons (.ret (.isN false (.var 0))) .nil) .nil) (.cons (.ife (.or (.cmp .ne (.isi (.var 0) .bool) (.isi (.var 1) .bool)) (.cmp .ne (.isi (.var 0) .int) (.isi (.var 1) .int))) (.cons (.ret (.cst (.bl false))) .nil) .nil) (.cons (.ife (.or (.cmp .ne (.isi (.var 0) .list) (.isi (.var 1) .list)) (.cmp .ne (.isi (.var 0) .tuple) (.isi (.var 1) .tuple))) (.cons (.ret (.cst (.bl false))) .nil) .nil) (.cons (.ife (.and (.not (.isi (.var 1) .list)) (.not (.isi (.var 1) .tuple))) (.cons (.ret (.and (.cmp .eq (.isi (.var 0) .str) (.isi (.var 1) .str)) (.cmp .eq (.var 0) (.var 1)))) .nil) .nil) (.cons (.ret (.and (.cmp .eq (.bi .len (.var 0)) (.bi .len (.var 1))) (.bi .all (.compA (.call f_law_same (.cons (.var 2) (.cons (.var 3) .nil))) [2,3] (.zip (.var 0) (.var 1)))))) .nil)))))⟩
noncomputable def jF (f_moved f_plain f_pegs_of f_check_frame:Nat):Fn :=
 ⟨1,1,[],[],(.cons (.exc (.call f_check_frame (.cons (.var 0) .nil))) (.cons (.ret (.call f_moved (.cons (.var 0) (.cons (.call f_plain (.cons (.call f_pegs_of (.cons (.var 0) .nil)) .nil)) .nil)))) .nil))⟩
noncomputable def gK (f_moved f_pegs_of f_check_frame:Nat):Fn :=
 ⟨1,2,[],[],(.cons (.exc (.call f_check_frame (.cons (.var 0) .nil))) (.cons (.asg 1 (.call f_pegs_of (.cons (.var 0) .nil))) (.cons (.ret (.call f_moved (.cons (.var 0) (.cons (.bin .add (.rev (.rng1 (.var 1))) (.rev (.rng2 (.var 1) (.bin .mul (.cst (.int 2)) (.var 1))))) .nil)))) .nil)))⟩
noncomputable def kQ (f_ties f_pegs_of:Nat):Fn :=
 ⟨1,8,[],[],(.cons (.asg 1 (.call f_pegs_of (.cons (.var 0) .nil))) (.cons (.asg 2 (.compL (.bi .sorted (.lst (.cons (.bin .mod (.var 4) (.var 1)) (.cons (.bin .mod (.var 5) (.var 1)) .nil)))) [4,5] (.seq (.call f_ties (.cons (.var 0) .nil))))) (.cons (.ret (.compA (.bi .len (.comp (.var 6) [6,7] (.seq (.var 2)) (.chain .le .lt (.var 6) (.var 3) (.var 7)))) [3] (.rng1 (.bin .sub (.var 1) (.cst (.int 1)))))) .nil)))⟩
noncomputable def nr (f_seams:Nat):Fn :=
 ⟨1,1,[],[],(.cons (.ret (.bin .fdiv (.bi .sum (.call f_seams (.cons (.var 0) .nil))) (.cst (.int 2)))) .nil)⟩
noncomputable def dq:Ss :=
 (.cons (.put 2 (.var 5) (.bin .add (.ix (.var 2) (.var 5)) (.cst (.int 1)))) .nil)
noncomputable def eW:Ss :=
 (.cons (.forr [5] (.rng2 (.bin .mod (.var 3) (.var 1)) (.bin .mod (.var 4) (.var 1))) (dq)) .nil)
noncomputable def fF:Fn :=
 ⟨1,6,[2],[],(.cons (.asg 1 (.bin .fdiv (.bi .len (.var 0)) (.cst (.int 2)))) (.cons (.own 2 (.compA (.cst (.int 0)) [5] (.rng1 (.bin .sub (.var 1) (.cst (.int 1)))))) (.cons (.forr [3,4] (.enm (.var 0)) (eW)) (.cons (.ret (.var 2)) .nil))))⟩
end RT
namespace M
noncomputable def hg (l r:Nat) (g:Nat->Nat):Nat->Nat:=fun x=>if g l=r then g x else if x=r then l else if x=l then r else if x=g r then g l else if x=g l then g r else g x
section
variable {l r s p q:Nat} {g:Nat->Nat}
theorem xY (e:g l=r):hg l r g=g:=by funext x; unfold hg; rw [if_pos e]
theorem zk (hlr:l≠r) (h:∀ x,g (g x)=x) (n1:g l≠l) (n2:g r≠r) (x:Nat):hg l r g (hg l r g x)=x:=by
 by_cases e:g l=r
 ·rw [xY e]; exact h x
 ·have k:∀ y,hg l r g y=if y=r then l else if y=l then r else if y=g r then g l else if y=g l then g r else g y:=fun y=>by unfold hg; rw [if_neg e]
  rw [k x,k]
  grind
theorem tO (hlr:l≠r) (h:∀ x,g (g x)=x) (n1:g l≠l) (n2:g r≠r) {x:Nat} (nx:g x≠x):hg l r g x≠x:=by
 unfold hg; grind
end
end M
namespace RL
noncomputable def evF (cl:Cl) (fn:Fn) (ds:List D):Option D:=if ds.length=fn.ps then (ag cl fn.M fn.body (ds.map some ++ List.replicate (fn.nn-fn.ps) none)).bind fun p=>match p.1 with
  | .nx=>aE fn .non p.2
  | .rt d=>aE fn d p.2
  else none
theorem aq {T:List Fn} {n f:Nat} {fn:Fn} {ds:List D} (h:T[f]?=some fn):ax T (n+1) f ds=evF (ax T n) fn ds:=by
 rw [ax,h]; rfl
noncomputable def L (xs:List Nat):List D:=xs.map fun (i:Nat)=>.int (i:Int)
theorem oA {f:St->Option (Out × St)} {tg:List Nat} (I:List D->St->Prop):∀ (ds done:List D) (σ:St),(∀ pre d post σ,done ++ ds=pre ++ d :: post->I pre σ->d.imm=true/\∃ σ2,(az tg d σ).bind f=some (.nx,σ2)/\I (pre ++ [d]) σ2)->I done σ->∃ σ',bb f tg ds σ=some (.nx,σ')/\I (done ++ ds) σ'
 | [],done,σ,_,h=>⟨σ,rfl,by simpa using h⟩
 | d :: ds,done,σ,hs,h=>by
  obtain ⟨im,σ2,h1,h3⟩:=hs done d ds σ rfl h
  obtain ⟨σ',h4,h5⟩:=oA I ds (done ++ [d]) σ2 (fun pre e post σ he=>hs pre e post σ (by simpa using he)) h3
  refine ⟨σ',?_,by simpa using h5⟩
  rw [bb,if_pos im]
  cases hb:az tg d σ with
  | none=>rw [hb] at h1; cases h1
  | some σ1 =>
   rw [hb] at h1
   simp only [Option.bind_some] at h1 ⊢
   rw [h1]
   exact h4
theorem wW {f:St->Option (Out × St)} {tg:List Nat} {ds:List D} {σ:St} (I:List D->St->Prop) (h0:I [] σ) (hs:∀ pre d post σ,ds=pre ++ d :: post->I pre σ->d.imm=true/\∃ σ2,(az tg d σ).bind f=some (.nx,σ2)/\I (pre ++ [d]) σ2):∃ σ',bb f tg ds σ=some (.nx,σ')/\I ds σ' :=
 oA I ds [] σ (by simpa using hs) h0
@[simp] theorem tf_lst {a:Es}:au (.lst a)=true:=rfl
@[simp] theorem tf_tup {a:Es}:au (.tup a)=true:=rfl
@[simp] theorem tf_comp {a:E} {b:List Nat} {c:It} {d:E}:au (.comp a b c d)=true:=rfl
@[simp] theorem tf_compA {a:E} {b:List Nat} {c:It}:au (.compA a b c)=true:=rfl
@[simp] theorem tf_bin {a:Bop} {b:E} {c:E}:au (.bin a b c)=true:=rfl
@[simp] theorem tf_slT {a:E} {b:E}:au (.slT a b)=true:=rfl
@[simp] theorem tf_slF {a:E} {b:E}:au (.slF a b)=true:=rfl
@[simp] theorem tf_slB {a:E} {b:E} {c:E}:au (.slB a b c)=true:=rfl
@[simp] theorem tf_rev {a:E}:au (.rev a)=true:=rfl
@[simp] theorem tf_call {a:Nat} {b:Es}:au (.call a b)=true:=rfl
@[simp] theorem tf_bi {a:Bi} {b:E}:au (.bi a b)=true:=rfl
@[simp] theorem tf_rng1 {a:E}:au (.rng1 a)=true:=rfl
@[simp] theorem tf_rng2 {a:E} {b:E}:au (.rng2 a b)=true:=rfl
@[simp] theorem tf_rng3 {a:Int} {b:E} {c:E}:au (.rng3 a b c)=true:=rfl
@[simp] theorem tf_dk0:au .dk0=true:=rfl
@[simp] theorem tf_dt0:au .dt0=true:=rfl
end RL
namespace RM
open RL RT
section basics
variable {a b:Int}
theorem et:aR .lt (.int a) (.int b)=some (decide (a<b)):=rfl
theorem sY:aR .le (.int a) (.int b)=some (decide (a<=b)):=rfl
theorem kF:aR .gt (.int a) (.int b)=some (decide (b<a)):=rfl
theorem u9:aR .ge (.int a) (.int b)=some (decide (b<=a)):=rfl
theorem cU:aR .eq (.int a) (.int b)=some (a == b):=rfl
theorem B2:aR .ne (.int a) (.int b)=some (!(a == b)):=rfl
theorem bL:ay .add (.int a) (.int b)=some (.int (a+b)):=rfl
theorem iT:ay .sub (.int a) (.int b)=some (.int (a-b)):=rfl
theorem cN (h:0<b):ay .mod (.int a) (.int b)=some (.int (a % b)):=by dsimp only [ay]; rw [if_pos h]
theorem fB (h:0<b) (h':b<2 ^ 200):ay .fdiv (.int a) (.int b)=some (.int (a / b)):=by dsimp only [ay]; rw [if_pos ⟨h,h'⟩]
theorem bg (h1:-(2 ^ 64)<a) (h2:a<2 ^ 64):ay .mul (.int a) (.int b)=some (.int (a*b)):=by dsimp only [ay]; rw [if_pos (.inl ⟨h1,h2⟩)]
theorem qc (h1:-(2 ^ 64)<b) (h2:b<2 ^ 64):ay .mul (.int a) (.int b)=some (.int (a*b)):=by dsimp only [ay]; rw [if_pos (.inr ⟨h1,h2⟩)]
end basics
theorem xi {xs:List Nat} {pre post:List D} {d:D} (h:L xs=pre ++ d :: post):∃ p x q,xs=p ++ x :: q/\pre=L p/\d=.int (x:Nat)/\post=L q:=by
 unfold L at h
 obtain ⟨p,r,rfl,h1,h2⟩:=List.map_eq_append_iff.mp h
 obtain ⟨x,q,rfl,h3,h4⟩:=List.map_eq_cons_iff.mp h2
 exact ⟨p,x,q,rfl,h1.symm,h3.symm,h4.symm⟩
theorem qa:∀ {a b:List Nat},L a=L b->a=b
 | [],[],_=>rfl
 | [],_ :: _,h=>by simp [L] at h
 | _ :: _,[],h=>by simp [L] at h
 | x :: a,y :: b,h=>by
  unfold L at h
  rw [List.map_cons,List.map_cons,List.cons.injEq] at h
  have h1:(x:Int)=y:=by injection h.1
  rw [qa (a:=a) (b:=b) h.2,Int.ofNat_inj.mp h1]
theorem cm {f:St->Option (Out × St)} {tg:List Nat} {xs:List Nat} {σ:St} (I:List Nat->St->Prop) (h0:I [] σ) (hs:∀ p x q σ,xs=p ++ x :: q->I p σ->∃ σ2,(az tg (.int (x:Nat)) σ).bind f=some (.nx,σ2)/\I (p ++ [x]) σ2):∃ σ',bb f tg (L xs) σ=some (.nx,σ')/\I xs σ':=by
 obtain ⟨σ',e,p,hp,hi⟩:=wW (f:=f) (tg:=tg) (ds:=L xs) (σ:=σ) (fun pre σ=>∃ p,pre=L p/\I p σ) ⟨[],rfl,h0⟩ (by
  rintro pre d post σ hd ⟨p',hp',hi⟩
  obtain ⟨p,x,q,rfl,rfl,rfl,rfl⟩:=xi hd
  have:=qa hp'
  subst this
  obtain ⟨σ2,h1,h2⟩:=hs p x q σ rfl hi
  exact ⟨rfl,σ2,h1,p ++ [x],by simp [L],h2⟩)
 have:=qa hp
 subst this
 exact ⟨σ',e,hi⟩
theorem aV (xs:List Nat):(L xs).length=xs.length:=by simp [L]
theorem ma (xs:List Nat) (i:Nat):(L xs)[i]?=(xs[i]?).map fun (i:Nat)=>.int (i:Int):=by simp [L]
theorem AI (xs:List Nat) (i j:Nat):(L xs).set i (.int j)=L (xs.set i j):=by simp [L,List.map_set]
theorem bf:∀ xs:List Nat,ai (L xs)=true
 | []=>rfl
 | x :: xs=>by
  show ((D.int x).imm && ai (L xs))=true
  rw [bf xs]; rfl
theorem gq (xs ys:List Nat):L (xs ++ ys)=L xs ++ L ys:=by simp [L]
theorem eP {α:Type} (xs:List α) (i:Nat):bZ xs (i:Int)=xs[i]?:=by
 unfold bZ
 rw [if_pos (Int.natCast_nonneg i)]
 rfl
theorem u6 {n i:Nat} (h:i<n):mn n (i:Int)=some i:=by
 unfold mn
 rw [if_pos (Int.natCast_nonneg i),if_pos (by omega)]
 rfl
theorem j7 (a:Nat):∀ n:Nat,bJ (a:Int) n=L (List.range' a n)
 | 0=>rfl
 | n+1=>by
  rw [bJ,List.range'_succ]
  have:=j7 (a+1) n
  rw [show ((a+1:Nat):Int)=(a:Int)+1 by omega] at this
  rw [this]
  rfl
theorem cS {a b:Nat} (h1:a<=1000) (h2:b<=1000):cF (.int a) (.int b)=some (L (List.range' a (b-a))):=by
 dsimp only [cF]
 have:((b:Int)-a).toNat=b-a:=by omega
 rw [if_pos ⟨by unfold most; omega,by omega,by omega,by omega,by omega⟩,this,j7]
section
variable {cl:Cl}
theorem lL (i:Int):evF cl fI [.int i]=some (.bl true):=rfl
theorem j3 {f:Nat} (h:∀ i:Int,cl f [.int i]=some (.bl true)) (i:Int):evF cl (cE f) [.int i]=some (.bl (decide (1<=i/\i<=10))):=by
 simp [evF,cE,ag,evS,ev,evs,h,aR,aJ,D.imm,aE]
 by_cases h1:1<=i <;> simp [h1,aJ,D.imm,aE]
theorem kB {f:Nat} {i:Int} (h:cl f [.int i]=some (.bl true)):evF cl (bO f) [.int i]=some .non:=by
 simp [evF,bO,ag,evS,ev,evs,h,truth,aE]
theorem nS (xs:List D):evF cl il [.tup xs]=some (.int (xs.length / 2)):=rfl
noncomputable def aA (n:Nat):List Nat:=List.range' n n ++ List.range' 0 n
theorem run_plain {f:Nat} {n:Nat} (hn:n<=10) (h:cl f [.int n]=some .non):evF cl (fO f) [.int n]=some (.tup (L (aA n))):=by
 have e1:=cS (a:=n) (b:=2*n) (by omega) (by omega)
 rw [show 2*n-n=n by omega,show ((2*n:Nat):Int)=2*(n:Int) by omega] at e1
 have e2:=cS (a:=0) (b:=n) (by omega) (by omega)
 rw [Nat.sub_zero] at e2
 have e3:ay .mul (.int 2) (.int n)=some (.int (2*n)):=by
  dsimp only [ay]
  rw [if_pos (by omega)]
 have e4:ay .add (.lst (L (List.range' n n))) (.lst (L (List.range' 0 n)))=some (.lst (L (aA n))):=by
  dsimp only [ay]
  rw [if_pos (by simp [aV,most]; omega),aA,gq]
 simp only [Int.natCast_zero] at e2
 simp [evF,fO,ag,evS,ev,evs,h,e1,e2,e3,e4,biV,items,aJ,D.imm,bf,aE]
noncomputable def at' (f:List Nat) (x:Nat):Nat:=(f[x]?).getD x
noncomputable def gI (f:List Nat) (l:Nat):List Nat:=if at' f l=l+1 then f else (((f.set (at' f l) (at' f (l+1))).set (at' f (l+1)) (at' f l)).set l (l+1)).set (l+1) l
structure Frm (n:Nat) (f:List Nat):Prop where
 len:f.length=2*n
 lt:∀ x,x<2*n->at' f x<2*n
 inv:∀ x,at' f (at' f x)=x
 no:∀ x,x<2*n->at' f x≠x
theorem dJ {f:List Nat} {x:Nat} (h:x<f.length):f[x]?=some (at' f x):=by simp [at',h]
theorem fU {f:List Nat} {x:Nat} (h:f.length<=x):at' f x=x:=by simp [at',h]
theorem di {f:List Nat} {i j x:Nat} (h:i<f.length):at' (f.set i j) x=if x=i then j else at' f x:=by
 unfold at'
 rw [List.getElem?_set]
 by_cases e:i=x
 ·subst e
  simp [h]
 ·simp [e,Ne.symm e]
theorem kM {n:Nat} {f:List Nat} (F:Frm n f) {l:Nat} (hl:l+1<2*n):at' (gI f l)=M.hg l (l+1) (at' f):=by
 funext x
 unfold gI M.hg
 have a1:=F.lt l (by omega)
 have a2:=F.lt (l+1) hl
 have hlen:=F.len
 by_cases e:at' f l=l+1
 ·rw [if_pos e,if_pos e]
 ·rw [if_neg e,if_neg e,di (by simp; omega),di (by simp; omega),di (by simp; omega),di (by omega)]
theorem sy {f:List Nat} {l:Nat}:(gI f l).length=f.length:=by
 unfold gI
 split
 ·rfl
 ·simp
theorem uh {n:Nat} {f:List Nat} (F:Frm n f) {l:Nat} (hl:l+1<2*n):Frm n (gI f l):=by
 have n1:=F.no l (by omega)
 have n2:=F.no (l+1) hl
 refine ⟨by rw [sy]; exact F.len,fun x hx=>?_,fun x=>?_,fun x hx=>?_⟩
 ·rw [kM F hl]
  unfold M.hg
  have a1:=F.lt l (by omega)
  have a2:=F.lt (l+1) hl
  have a3:=F.lt x hx
  repeat' split
  all_goals omega
 ·rw [kM F hl]
  exact M.zk (by omega) F.inv n1 n2 x
 ·rw [kM F hl]
  exact M.tO (by omega) F.inv n1 n2 (F.no x hx)
theorem xw {n:Nat} {f g:List Nat} (F:f.length=2*n) (G:g.length=2*n) (h:at' f=at' g):f=g:=by
 apply List.ext_getElem?
 intro i
 by_cases hi:i<2*n
 ·rw [dJ (by omega),dJ (by omega),h]
 ·rw [List.getElem?_eq_none (by omega),List.getElem?_eq_none (by omega)]
end
end RM
namespace RM
open RL RT
section
variable {cl:Cl}
theorem plain_at (n x:Nat):at' (aA n) x=if x<n then n+x else if x<2*n then x-n else x:=by
 unfold at' aA
 by_cases h1:x<n
 ·rw [List.getElem?_append_left (by simpa using h1),if_pos h1]
  simp [h1]
 ·rw [List.getElem?_append_right (by simpa using h1),if_neg h1]
  by_cases h2:x<2*n
  ·rw [if_pos h2]
   simp [show x-n<n by omega]
  ·rw [if_neg h2]
   simp [show ¬ x-n<n by omega]
theorem iF (n:Nat):Frm n (aA n):=by
 refine ⟨by simp [aA]; omega,fun x hx=>?_,fun x=>?_,fun x hx=>?_⟩
 ·rw [plain_at]; repeat' split
  all_goals omega
 ·rw [plain_at,plain_at]; repeat' split
  all_goals omega
 ·rw [plain_at]; repeat' split
  all_goals omega
end
end RM
namespace RL
section
variable {cl:Cl} {M:List Nat} {σ σ':St} {e t:E} {d:D} {r a b:Ss} {i j:Nat} {res:Option (Out × St)}
theorem cn:ag cl M .nil σ=some (.nx,σ):=by rw [ag]
theorem dk {s:S} (h:evS cl M s σ=some (.nx,σ')) (k:ag cl M r σ'=res):ag cl M (.cons s r) σ=res:=by
 rw [ag,h]; exact k
theorem vy {s:S} (h:evS cl M s σ=some (.rt d,σ')):ag cl M (.cons s r) σ=some (.rt d,σ'):=by
 rw [ag,h]; rfl
theorem aL (h:ev cl σ e=some d) (ok:bj M e d=true) (k:ag cl M r (σ.set i (some d))=res):ag cl M (.cons (.asg i e) r) σ=res :=
 dk (by rw [evS,h]; show (if bj M e d=true then _ else _)=_; rw [if_pos ok]) k
theorem jY (h:ev cl σ e=some d) (ok:(a5 d && au e)=true) (k:ag cl M r (σ.set i (some d))=res):ag cl M (.cons (.own i e) r) σ=res :=
 dk (by rw [evS,h]; show (if (a5 d && au e)=true then _ else _)=_; rw [if_pos ok]) k
theorem ya (h:ev cl σ e=some d) (k:ag cl M r σ=res):ag cl M (.cons (.exc e) r) σ=res :=
 dk (by rw [evS,h]; rfl) k
theorem bx (h:ev cl σ e=some d) (ok:aJ M e d=true):ag cl M (.cons (.ret e) r) σ=some (.rt d,σ) :=
 vy (by rw [evS,h]; show (if aJ M e d=true then _ else _)=_; rw [if_pos ok])
theorem qw (h:(ev cl σ t).bind truth=some true) (h1:ag cl M a σ=some (.nx,σ')) (k:ag cl M r σ'=res):ag cl M (.cons (.ife t a b) r) σ=res :=
 dk (by rw [evS,h]; exact h1) k
theorem fN (h:(ev cl σ t).bind truth=some true) (h1:ag cl M a σ=some (.rt d,σ')):ag cl M (.cons (.ife t a b) r) σ=some (.rt d,σ') :=
 vy (by rw [evS,h]; exact h1)
theorem qq (h:(ev cl σ t).bind truth=some false) (h1:ag cl M b σ=some (.nx,σ')) (k:ag cl M r σ'=res):ag cl M (.cons (.ife t a b) r) σ=res :=
 dk (by rw [evS,h]; exact h1) k
theorem bN (h:(ev cl σ t).bind truth=some false) (k:ag cl M r σ=res):ag cl M (.cons (.ife t a .nil) r) σ=res:=qq h cn k
theorem zM {is:List Nat} {ds:List D} (h:ev cl σ e=some d) (hd:items d=some ds) (im:ai ds=true) (hs:aS is ds σ=some σ') (k:ag cl M r σ'=res):ag cl M (.cons (.unp is e) r) σ=res :=
 dk (by rw [evS,h,Option.bind_some,hd]; show (if ai ds=true then _ else _)=_; rw [if_pos im,hs]; rfl) k
theorem rY {x y:D} {e':E} (h:ev cl σ e=some x) (h':ev cl σ e'=some y) (im:(x.imm && y.imm)=true) (k:ag cl M r ((σ.set i (some x)).set j (some y))=res):ag cl M (.cons (.par i j e e') r) σ=res :=
 dk (by rw [evS,h,Option.bind_some,h']; show (if (x.imm && y.imm)=true then _ else _)=_; rw [if_pos im]) k
theorem ql {xs:List D} (h:ev cl σ e=some d) (hi:(σ[i]?).bind id=some (.lst xs)) (im:d.imm=true) (hl:xs.length<most) (k:ag cl M r (σ.set i (some (.lst (xs ++ [d]))))=res):ag cl M (.cons (.app i e) r) σ=res :=
 dk (by rw [evS,h,Option.bind_some,hi]; show (if (d.imm && decide (xs.length<most))=true then _ else _)=_; rw [if_pos (by rw [im,decide_eq_true hl]; rfl)]) k
theorem n0 {x kk l l':D} {e':E} (h:ev cl σ e'=some x) (h':ev cl σ e=some kk) (hi:(σ[i]?).bind id=some l) (im:x.imm=true) (hp:cw l kk x=some l') (k:ag cl M r (σ.set i (some l'))=res):ag cl M (.cons (.put i e e') r) σ=res :=
 dk (by rw [evS,h,Option.bind_some,h',Option.bind_some,hi,Option.bind_some,if_pos im,hp]; rfl) k
theorem zT {xs:List D} (hi:(σ[i]?).bind id=some (.lst (xs ++ [d]))) (k:ag cl M r ((σ.set i (some (.lst xs))).set j (some d))=res):ag cl M (.cons (.pop i j) r) σ=res :=
 dk (by rw [evS,hi]; simp) k
theorem gf {tg:List Nat} {it:It} {ds:List D} {b:Ss} (h:a8 cl σ it=some ds) (h1:bb (ag cl M b) tg ds σ=some (.nx,σ')) (k:ag cl M r σ'=res):ag cl M (.cons (.forr tg it b) r) σ=res :=
 dk (by rw [evS,h]; exact h1) k
theorem ab (h:(σ[i]?).bind id=some d):ev cl σ (.var i)=some d:=by rw [ev]; exact h
theorem ak:ev cl σ (.cst d)=some d:=by rw [ev]
theorem x_call {f:Nat} {es:Es} {ds:List D} (h:evs cl σ es=some ds) (hc:cl f ds=some d):ev cl σ (.call f es)=some d:=by rw [ev,h]; exact hc
theorem dt:evs cl σ .nil=some []:=by rw [evs]
theorem aY {es:Es} {ds:List D} (h:ev cl σ e=some d) (hr:evs cl σ es=some ds):evs cl σ (.cons e es)=some (d :: ds):=by rw [evs,h,Option.bind_some,hr]; rfl
theorem cy {f:Nat} (h:ev cl σ e=some d) {x:D} (hc:cl f [d]=some x):ev cl σ (.call f (.cons e .nil))=some x:=x_call (aY h dt) hc
theorem iJ {f:Nat} {e':E} {d' x:D} (h:ev cl σ e=some d) (h':ev cl σ e'=some d') (hc:cl f [d,d']=some x):ev cl σ (.call f (.cons e (.cons e' .nil)))=some x:=x_call (aY h (aY h' dt)) hc
theorem ui {f:Nat} {e' e'':E} {d' d'' x:D} (h:ev cl σ e=some d) (h':ev cl σ e'=some d') (h'':ev cl σ e''=some d'') (hc:cl f [d,d',d'']=some x):ev cl σ (.call f (.cons e (.cons e' (.cons e'' .nil))))=some x:=x_call (aY h (aY h' (aY h'' dt))) hc
theorem ar {o:Bop} {e':E} {x y:D} (h:ev cl σ e=some x) (h':ev cl σ e'=some y) (hb:ay o x y=some d):ev cl σ (.bin o e e')=some d:=by rw [ev,h,Option.bind_some,h']; exact hb
theorem aK {o:Cop} {e':E} {x y:D} {k:Bool} (h:ev cl σ e=some x) (h':ev cl σ e'=some y) (hb:aR o x y=some k):ev cl σ (.cmp o e e')=some (.bl k):=by rw [ev,h,Option.bind_some,h',Option.bind_some,hb]; rfl
theorem eS {e':E} {x y:D} (h:ev cl σ e=some x) (h':ev cl σ e'=some y) (hb:ixV x y=some d):ev cl σ (.ix e e')=some d:=by rw [ev,h,Option.bind_some,h']; exact hb
theorem bB {o:Bi} {x:D} (h:ev cl σ e=some x) (hb:biV o x=some d):ev cl σ (.bi o e)=some d:=by rw [ev,h]; exact hb
theorem AD {e':E} {x y:D} (h:ev cl σ e=some x) (h':ev cl σ e'=some y) (hb:pA x y=some d):ev cl σ (.slT e e')=some d:=by rw [ev,h,Option.bind_some,h']; exact hb
theorem Ay {xs:List D} (h:ev cl σ e=some (.lst xs)):ev cl σ (.rev e)=some (.lst xs.reverse):=by rw [ev,h]; rfl
theorem bV {t:Ty} {x:D} {k:Bool} (h:ev cl σ e=some x) (hb:bR t x=some k):ev cl σ (.isi e t)=some (.bl k):=by rw [ev,h,Option.bind_some,hb]; rfl
theorem v3 {k:Int} (h:ev cl σ e=some (.int k)):ev cl σ (.neg e)=some (.int (-k)):=by rw [ev,h]; rfl
theorem AA {e':E} {x y:Int} (h:ev cl σ e=some (.int x)) (h':ev cl σ e'=some (.int y)):ev cl σ (.max e e')=some (.int (if y > x then y else x)):=by rw [ev,h,Option.bind_some,h']; rfl
theorem wo {c c':Cop} {e' e'':E} {x y z:D} {k:Bool} (h:ev cl σ e=some x) (h':ev cl σ e'=some y) (h'':ev cl σ e''=some z) (b1:aR c x y=some true) (b2:aR c' y z=some k):ev cl σ (.chain c c' e e' e'')=some (.bl k):=by rw [ev,h,Option.bind_some,h',Option.bind_some,b1,Option.bind_some,if_pos rfl,h'',Option.bind_some,b2]; rfl
theorem ue {c c':Cop} {e' e'':E} {x y:D} (h:ev cl σ e=some x) (h':ev cl σ e'=some y) (b1:aR c x y=some false):ev cl σ (.chain c c' e e' e'')=some (.bl false):=by rw [ev,h,Option.bind_some,h',Option.bind_some,b1]; rfl
theorem fA {es:Es} {ds:List D} (h:evs cl σ es=some ds):ev cl σ (.lst es)=some (.lst ds):=by rw [ev,h]; rfl
theorem dW {e':E} (h:ev cl σ e=some (.bl true)) (h':ev cl σ e'=some d):ev cl σ (.and e e')=some d:=by rw [ev,h]; exact h'
theorem hV {e':E} (h:ev cl σ e=some (.bl false)):ev cl σ (.and e e')=some (.bl false):=by rw [ev,h]; rfl
theorem jo {e':E} (h:ev cl σ e=some (.bl false)) (h':ev cl σ e'=some d):ev cl σ (.or e e')=some d:=by rw [ev,h]; exact h'
theorem AK {e':E} (h:ev cl σ e=some (.bl true)):ev cl σ (.or e e')=some (.bl true):=by rw [ev,h]; rfl
theorem A4 {k:Bool} (h:(ev cl σ e).bind truth=some k):ev cl σ (.not e)=some (.bl (!k)):=by rw [ev,h]; rfl
theorem dm {k:Bool} (h:ev cl σ e=some (.bl k)):ev cl σ (.not e)=some (.bl (!k)):=A4 (by rw [h]; rfl)
theorem br {k:Bool} (h:ev cl σ e=some (.bl k)):(ev cl σ e).bind truth=some k:=by rw [h]; rfl
theorem fS {tg:List Nat} {it:It} {ds ys:List D} (h:a8 cl σ it=some ds) (hf:ds.length<=most) (hm:bF (fun σ1=>(ev cl σ1 e).map some) tg σ ds=some ys):ev cl σ (.compA e tg it)=some (.lst ys):=by
 rw [ev,h,Option.bind_some,fits,if_pos hf,Option.bind_some,hm]; rfl
theorem xG {tg:List Nat} {it:It} {ds ys:List D} (h:a8 cl σ it=some ds) (hf:ds.length<=most) (hm:bF (fun σ1=>((ev cl σ1 t).bind truth).bind fun k=>if k then (ev cl σ1 e).map some else some none) tg σ ds=some ys):ev cl σ (.comp e tg it t)=some (.lst ys):=by
 rw [ev,h,Option.bind_some,fits,if_pos hf,Option.bind_some,hm]; rfl
theorem jC {x:D} {ds:List D} (h:ev cl σ e=some x) (hr:cF (.int 0) x=some ds):a8 cl σ (.rng1 e)=some ds:=by rw [a8,h]; exact hr
theorem zH {e':E} {x y:D} {ds:List D} (h:ev cl σ e=some x) (h':ev cl σ e'=some y) (hr:cF x y=some ds):a8 cl σ (.rng2 e e')=some ds:=by rw [a8,h,Option.bind_some,h']; exact hr
theorem x6 {c:Int} {e':E} {x y:D} {ds:List D} (h:ev cl σ e=some x) (h':ev cl σ e'=some y) (hr:eG c x y=some ds):a8 cl σ (.rng3 c e e')=some ds:=by rw [a8,h,Option.bind_some,h']; exact hr
theorem lW {x:D} {ds:List D} (h:ev cl σ e=some x) (hr:items x=some ds):a8 cl σ (.seq e)=some ds:=by rw [a8,h]; exact hr
theorem Be {e':E} {x y:D} {xs ys:List D} (h:ev cl σ e=some x) (h':ev cl σ e'=some y) (hx:items x=some xs) (hy:items y=some ys) (hl:xs.length=ys.length):a8 cl σ (.zip e e')=some (cV xs ys):=by rw [a8,h,Option.bind_some,h',Option.bind_some,hx,Option.bind_some,hy,Option.bind_some,if_pos hl]
theorem A0 {x:D} {n k:Bool} (hk:(match x with | .non=>some (D.bl (!n)) | .dK _ _=>none | .dT _ _=>none | _=>some (.bl n))=some (D.bl k)) (h:ev cl σ e=some x):ev cl σ (.isN n e)=some (.bl k):=by rw [ev,h]; exact hk
theorem vt {x:D} {ds:List D} (h:ev cl σ e=some x) (hr:cB x=some ds):a8 cl σ (.enm e)=some (bX 0 ds):=by rw [a8,h,Option.bind_some,hr]; rfl
end
theorem bz {cl:Cl} {fn:Fn} {ds:List D} {d:D} {σ':St} (hl:ds.length=fn.ps) (hm:fn.mp=[]) (h:ag cl fn.M fn.body (ds.map some ++ List.replicate (fn.nn-fn.ps) none)=some (.rt d,σ')):evF cl fn ds=some d:=by
 unfold evF
 rw [if_pos hl,h]
 show aE fn d σ'=_
 unfold aE
 rw [hm]
 rfl
end RL
namespace RM
open RL RT
noncomputable def LI (xs:List Int):List D:=xs.map D.int
theorem yY (xs:List Int):(LI xs).length=xs.length:=by simp [LI]
theorem rP:∀ xs:List Int,ai (LI xs)=true
 | []=>rfl
 | x :: xs=>by
  show ((D.int x).imm && ai (LI xs))=true
  rw [rP xs]; rfl
section
variable {cl:Cl}
theorem mod_lt {a b:Int} (h:0<b):0<=a % b/\a % b<b:=⟨Int.emod_nonneg _ (by omega),Int.emod_lt_of_pos _ h⟩
theorem wD (s:Int):∃ m:Int,evF cl iz [.int s]=some (.int m):=by
 have a1:=mod_lt (a:=s*48271+11) (b:=2147483647) (by decide)
 generalize h1:(s*48271+11) % 2147483647=one at a1
 have a2:=mod_lt (a:=one*one+40692*one+s) (b:=2147483399) (by decide)
 generalize h2:(one*one+40692*one+s) % 2147483399=two at a2
 exact ⟨_,bz rfl rfl (aL (d:=.int one) (ar (ar (ar (ab rfl) ak (qc (by decide) (by decide))) ak bL) ak (by rw [cN (by decide),h1])) rfl
  (aL (d:=.int two) (ar (ar (ar (ar (ab rfl) (ab rfl) (bg (by omega) (by omega))) (ar ak (ab rfl) (bg (by decide) (by decide))) bL) (ab rfl) bL) ak (by rw [cN (by decide),h2])) rfl
  (bx (ar (ar (ar (ar (ab rfl) (ab rfl) (bg (by omega) (by omega))) (ar ak (ab rfl) (bg (by decide) (by decide))) bL) (ab rfl) bL) ak (cN (by decide))) rfl)))⟩
theorem vH {f:Nat} (h:∀ s:Int,∃ m:Int,cl f [.int s]=some (.int m)) {ns:List Int} (hl:ns.length<=63) {k:Nat} (hk:k<=1000):∃ r:Int,evF cl (i5 f) [.lst (LI ns),.int k]=some (.int r):=by
 have pw:ay .pow (.int 10) (.int 18)=some (.int 1000000000000000000):=rfl
 have rest:∀ c:Int,∃ r σ',ag cl [] (.cons (.asg 3 (.cst (.int 0))) (.cons (.forr [4] (.rng1 (.cst (.int 40))) (gQ f)) (.cons (.ret (.var 3)) .nil))) [some (.lst (LI ns)),some (.int k),some (.int c),none,none]=some (.rt (.int r),σ'):=by
  intro c
  have hr:cF (.int 0) (.int 40)=some (L (List.range' 0 40)):=congrArg some (j7 0 40)
  obtain ⟨σ',e,r,o,rfl⟩:=cm (f:=ag cl [] (gQ f)) (tg:=[4]) (xs:=List.range' 0 40) (σ:=[some (.lst (LI ns)),some (.int k),some (.int c),some (.int 0),none])
   (fun p σ=>∃ (r:Int) (o:Option D),σ=[some (.lst (LI ns)),some (.int k),some (.int c),some (.int r),o]) ⟨0,none,rfl⟩ (by
    rintro p x q σ hx ⟨r,o,rfl⟩
    obtain ⟨m,hm⟩:=h (c+1009*k+7919*x)
    exact ⟨_,aL (ar (ar (ab rfl) ak (qc (by decide) (by decide))) (cy (ar (ar (ab rfl) (ar ak (ab rfl) (bg (by decide) (by decide))) bL) (ar ak (ab rfl) (bg (by decide) (by decide))) bL) hm) bL) rfl cn,_,_,rfl⟩)
  exact ⟨r,_,aL ak rfl (gf (jC ak hr) e (bx (ab rfl) rfl))⟩
 have len:biV .len (.lst (LI ns))=some (.int ns.length):=congrArg (fun n:Nat=>some (D.int n)) (yY ns)
 have first:ev cl [some (.lst (LI ns)),some (.int k),none,none,none] (.bin .add (.bin .mul (.cst (.int 7)) (.var 1)) (.cst (.int 3)))=some (.int (7*k+3)):=ar (ar ak (ab rfl) (bg (by decide) (by decide))) ak bL
 by_cases h0:0<ns.length
 ·have hmod:=mod_lt (a:=(k:Int)) (b:=(ns.length:Int)) (by omega)
  obtain ⟨j,hj⟩:=Int.eq_ofNat_of_zero_le hmod.1
  have hjl:j<ns.length:=by omega
  have ix:ixV (.lst (LI ns)) (.int ((k:Int) % ns.length))=some (.int ns[j]):=by
   show bZ (LI ns) _=_
   rw [hj,eP]
   simp [LI,hjl]
  obtain ⟨r,σ',hr⟩:=rest (ns[j]+9973*((k:Int) / ns.length))
  generalize hc:ns[j]+9973*((k:Int) / ns.length)=cell at hr
  have cel:∀ {r':Ss} {res:Option (Out × St)},ag cl [] r' [some (.lst (LI ns)),some (.int k),some (.int cell),none,none]=res->ag cl [] (.cons (.asg 2 (.bin .add (.bin .mul (.cst (.int 7)) (.var 1)) (.cst (.int 3)))) (.cons (.ife (.cmp .gt (.bi .len (.var 0)) (.cst (.int 0))) (.cons (.asg 2 (.bin .add (.ix (.var 0) (.bin .mod (.var 1) (.bi .len (.var 0)))) (.bin .mul (.cst (.int 9973)) (.bin .fdiv (.var 1) (.bi .len (.var 0)))))) .nil) .nil) r')) [some (.lst (LI ns)),some (.int k),none,none,none]=res:=fun z =>
   aL first rfl (qw (br (aK (bB (ab rfl) len) ak (by rw [kF,decide_eq_true (by omega)]))) (aL (d:=.int cell) (ar (eS (ab rfl) (ar (ab rfl) (bB (ab rfl) len) (cN (by omega))) ix) (ar ak (ar (ab rfl) (bB (ab rfl) len) (fB (by omega) (by omega))) (bg (by decide) (by decide))) (by rw [bL,hc])) rfl cn) z)
  by_cases h1:k<ns.length
  ·have c1:aR .lt (.int (k:Nat)) (.int (ns.length:Nat))=some true:=by rw [et,decide_eq_true (by omega)]
   by_cases h2:(1000000000000000000:Int)<=cell
   ·exact ⟨_,bz rfl rfl (cel (fN (br (dW (aK (ab rfl) (bB (ab rfl) len) c1) (aK (ab rfl) (ar ak ak pw) (by rw [u9,decide_eq_true h2])))) (bx (ar (ab rfl) (ar ak ak pw) iT) rfl)))⟩
   ·exact ⟨r,bz rfl rfl (cel (bN (br (dW (aK (ab rfl) (bB (ab rfl) len) c1) (aK (ab rfl) (ar ak ak pw) (by rw [u9,decide_eq_false h2])))) hr))⟩
  ·exact ⟨r,bz rfl rfl (cel (bN (br (hV (aK (ab rfl) (bB (ab rfl) len) (by rw [et,decide_eq_false (by omega)])))) hr))⟩
 ·obtain ⟨r,σ',hr⟩:=rest (7*k+3)
  exact ⟨r,bz rfl rfl (aL first rfl (bN (br (aK (bB (ab rfl) len) ak (by rw [kF,decide_eq_false (by omega)]))) (bN (br (hV (aK (ab rfl) (bB (ab rfl) len) (by rw [et,decide_eq_false (by omega)])))) hr)))⟩
end
end RM
namespace RM
open RL RT
section
variable {cl:Cl}
noncomputable def i0 (ds sizes:List Nat):Prop:=ds.length=sizes.length/\∀ (i d s:Nat),ds[i]?=some d->sizes[i]?=some s->d<s
theorem i0.snoc {ds sizes:List Nat} {d s:Nat} (h:i0 ds sizes) (hd:d<s):i0 (ds ++ [d]) (sizes ++ [s]):=by
 refine ⟨by simp [h.1],fun i x y h1 h2=>?_⟩
 by_cases hi:i<ds.length
 ·rw [List.getElem?_append_left hi] at h1
  rw [List.getElem?_append_left (by rw [<- h.1]; exact hi)] at h2
  exact h.2 i x y h1 h2
 ·rw [List.getElem?_append_right (by omega)] at h1
  rw [List.getElem?_append_right (by rw [<- h.1]; omega)] at h2
  rw [h.1] at h1
  cases hk:i-sizes.length with
  | zero=>rw [hk] at h1 h2; simp at h1 h2; omega
  | succ k=>rw [hk] at h1; simp at h1
theorem pO {f:Nat} {scr:D} {k:Nat} {sizes:List Nat} {r:Int} (h:cl f [scr,.int k]=some (.int r)) (hp:∀ s∈sizes,0<s/\s<2 ^ 200) (hlen:sizes.length<=1000):∃ ds:List Nat,i0 ds sizes/\evF cl (dD f) [scr,.int k,.lst (L sizes)]=some (.lst (L ds)):=by
 obtain ⟨σ',e,r',ds,o,hds,rfl⟩:=cm (f:=ag cl [4] (er f)) (tg:=[5]) (xs:=sizes) (σ:=[some scr,some (.int k),some (.lst (L sizes)),some (.int r),some (.lst []),none])
  (fun p σ=>∃ (r:Int) (ds:List Nat) (o:Option D),i0 ds p/\σ=[some scr,some (.int k),some (.lst (L sizes)),some (.int r),some (.lst (L ds)),o]) ⟨r,[],none,⟨rfl,by simp⟩,rfl⟩ (by
   rintro p x q σ hx ⟨r,ds,o,hds,rfl⟩
   have hx0:=hp x (by rw [hx]; simp)
   have hpl:p.length<1000:=by
    have:=congrArg List.length hx
    simp at this
    omega
   have hx1:(0:Int)<x:=by omega
   have hx2:(x:Int)<2 ^ 200:=by
    have:=hx0.2
    omega
   obtain ⟨d,hd⟩:=Int.eq_ofNat_of_zero_le (Int.emod_nonneg r (show (x:Int)≠0 by omega))
   have hdx:d<x:=by
    have:=Int.emod_lt_of_pos r hx1
    omega
   refine ⟨[some scr,some (.int k),some (.lst (L sizes)),some (.int (r / x)),some (.lst (L (ds ++ [d]))),some (.int x)],?_,_,_,_,hds.snoc hdx,rfl⟩
   have hl:(L ds).length<most:=by
    rw [aV,hds.1]
    unfold most
    omega
   simp [az,er,ag,evS,ev,cN hx1,fB hx1 hx2,hd,D.imm,hl,bj,gq]
   rfl)
 refine ⟨ds,hds,?_⟩
 simp [evF,dD,ag,evS,ev,evs,a8,items,h,bj,D.imm,a5,ai]
 simp [e,ev,aJ,a5,bf,aE]
end
end RM
namespace RM
open RL RT
section
variable {cl:Cl}
end
end RM
namespace RM
open RL RT
section
variable {n:Nat} {f:List Nat} {l:Nat}
end
end RM
namespace RM
open RL RT
noncomputable def dpf:Nat->List Bool->Option Nat
 | d,[]=>some d
 | d,true :: r=>dpf (d+1) r
 | 0,false :: _=>none
 | d+1,false :: r=>dpf d r
theorem dM (b:Bool):∀ (w:List Bool) (d:Nat),dpf d (w ++ [b])=(dpf d w).bind fun e=>dpf e [b]
 | [],d=>rfl
 | true :: r,d=>by simpa [dpf] using dM b r (d+1)
 | false :: r,0=>rfl
 | false :: r,d+1=>by simpa [dpf] using dM b r d
noncomputable def sg (b:Bool):Nat:=if b then 40 else 41
noncomputable def tx (w:List Bool):PySem.Str:=⟨(w.map sg).toArray⟩
theorem nj (w:List Bool):(tx w).length=w.length:=by simp [tx,PySem.Str.length]
theorem Ag (w v:List Bool):tx w ++ tx v=tx (w ++ v):=by
 show PySem.Str.mk _=_
 simp [tx]
theorem zS:(PySem.Str.ofString "")=tx []:=by decide +kernel
theorem pF:(PySem.Str.ofString "(")=tx [true]:=by decide +kernel
theorem AH:(PySem.Str.ofString ")")=tx [false]:=by decide +kernel
theorem iH:∀ (k a:Nat),k<=a->bq (-1) (a:Int) k=L ((List.range k).map fun i=>a-i)
 | 0,_,_=>rfl
 | k+1,a,h=>by
  rw [bq,List.range_succ_eq_map]
  have:=iH k (a-1) (by omega)
  have e:(a:Int)+-1=((a-1:Nat):Int):=by omega
  rw [e,this]
  simp [L]
  intro i hi
  omega
theorem cv {k:Nat} {g:Nat->Nat} {p q:List Nat} {x:Nat} (h:(List.range k).map g=p ++ x :: q):p.length<k/\x=g p.length:=by
 have l:((List.range k).map g).length=(p ++ x :: q).length:=by rw [h]
 have e:((List.range k).map g)[p.length]?=(p ++ x :: q)[p.length]?:=by rw [h]
 simp at l e
 obtain ⟨y,hy,e⟩:=e
 refine ⟨by omega,?_⟩
 rw [List.getElem?_range (by omega)] at hy
 cases hy
 exact e.symm
theorem qT {w v:List Bool} (h:w.length+v.length<=most):ay .add (.str (tx w)) (.str (tx v))=some (.str (tx (w ++ v))):=by
 dsimp only [ay]
 rw [nj,nj,if_pos h,Ag]
theorem t8 {r:Int} {n:Nat} (hn:n<=10):∃ w:List Bool,w.length=2*n/\dpf 0 w=some 0/\evF cl gz [.int r,.int n]=some (.str (tx w)):=by
 have e1:ay .mul (.int 2) (.int n)=some (.int (2*n)):=bg (by decide) (by decide)
 have e2:eG (-1) (.int (2*(n:Int))) (.int 0)=some (L ((List.range (2*n)).map fun i=>2*n-i)):=by
  have hN:aT (-1) (2*(n:Int)) 0=2*n:=by
   unfold aT
   rw [show (- -1:Int)=1 from rfl,Int.ediv_one,if_neg (by decide)]
   split <;> omega
  dsimp only [eG]
  rw [hN]
  rw [if_pos ⟨by decide,by decide,by decide,by unfold most; omega,by omega,by omega,by omega,by omega⟩]
  have:=iH (2*n) (2*n) (Nat.le_refl _)
  rw [<- this]
  rfl
 obtain ⟨σ',e,I⟩:=cm (f:=ag cl [] dR) (tg:=[4]) (xs:=(List.range (2*n)).map fun i=>2*n-i) (σ:=[some (.int r),some (.int n),some (.str (tx [])),some (.int 0),none,none,none])
  (fun p σ=>∃ (r:Int) (w:List Bool) (d:Nat) (o4 o5 o6:Option D),σ=[some (.int r),some (.int n),some (.str (tx w)),some (.int d),o4,o5,o6]/\w.length=p.length/\dpf 0 w=some d/\d+p.length<=2*n/\(d+p.length) % 2=0) ⟨r,[],0,none,none,none,rfl,rfl,rfl,by simp,rfl⟩ (by
   rintro p x q σ hx ⟨r,w,d,o4,o5,o6,rfl,hw,hd,hl,hp⟩
   obtain ⟨h1,h2⟩:=cv hx
   have m1:ay .fdiv (.int r) (.int 2)=some (.int (r / 2)):=fB (by decide) (by decide)
   have m2:ay .mod (.int r) (.int 2)=some (.int (r % 2)):=cN (by decide)
   generalize hr:r % 2=st at m2
   have tx1:ixV (.lst [.str (PySem.Str.ofString ")"),.str (PySem.Str.ofString "(")]) (.int 1)=some (.str (tx [true])):=by rw [pF]; rfl
   have tx0:ixV (.lst [.str (PySem.Str.ofString ")"),.str (PySem.Str.ofString "(")]) (.int 0)=some (.str (tx [false])):=by rw [AH]; rfl
   by_cases up:d=0\/(d<x/\st=1)
   ·have ee:ev cl [some (.int (r / 2)),some (.int n),some (.str (tx w)),some (.int d),some (.int x),o5,some (.int st)] (.or (.cmp .eq (.var 3) (.cst (.int 0))) (.and (.cmp .lt (.var 3) (.var 4)) (.cmp .eq (.var 6) (.cst (.int 1)))))=some (.bl true):=by
     by_cases h0:d=0
     ·subst h0
      exact AK (aK (ab rfl) ak rfl)
     ·have g:d<x/\st=1:=by omega
      have hb:((d:Int) == 0)=false:=beq_eq_false_iff_ne.mpr (by omega)
      exact jo (aK (ab rfl) ak (by rw [cU,hb])) (dW (aK (ab rfl) (ab rfl) (by rw [et,decide_eq_true (by omega)])) (aK (ab rfl) ak (by rw [cU,g.2]; rfl)))
    exact ⟨_,show ag cl [] dR [some (.int r),some (.int n),some (.str (tx w)),some (.int d),some (.int x),o5,o6]=some (.nx,_) from rY (ar (ab rfl) ak m1) (ar (ab rfl) ak m2) rfl (aL ee rfl (aL (ar (ab rfl) (eS (fA (aY ak (aY ak dt))) (bB (ab rfl) rfl) tx1) (qT (by simp [most]; omega))) rfl (aL (d:=.int ((d+1:Nat):Int)) (ar (ab rfl) (eS (fA (aY (v3 ak) (aY ak dt))) (bB (ab rfl) rfl) rfl) rfl) rfl cn))),
     r / 2,w ++ [true],d+1,_,_,_,rfl,by simp [hw],by rw [dM,hd]; rfl,by simp; omega,by simp; omega⟩
   ·have hd0:0<d:=by omega
    have ee:ev cl [some (.int (r / 2)),some (.int n),some (.str (tx w)),some (.int d),some (.int x),o5,some (.int st)] (.or (.cmp .eq (.var 3) (.cst (.int 0))) (.and (.cmp .lt (.var 3) (.var 4)) (.cmp .eq (.var 6) (.cst (.int 1)))))=some (.bl false):=by
     have hb:((d:Int) == 0)=false:=beq_eq_false_iff_ne.mpr (by omega)
     refine jo (aK (ab rfl) ak (by rw [cU,hb])) ?_
     by_cases hx:d<x
     ·have h1:(st == 1)=false:=beq_eq_false_iff_ne.mpr (by omega)
      exact dW (aK (ab rfl) (ab rfl) (by rw [et,decide_eq_true (by omega)])) (aK (ab rfl) ak (by rw [cU,h1]))
     ·exact hV (aK (ab rfl) (ab rfl) (by rw [et,decide_eq_false (by omega)]))
    have es:ay .add (.int (d:Nat)) (.int (-1))=some (.int ((d-1:Nat):Int)):=by rw [bL]; congr 2; omega
    exact ⟨_,show ag cl [] dR [some (.int r),some (.int n),some (.str (tx w)),some (.int d),some (.int x),o5,o6]=some (.nx,_) from rY (ar (ab rfl) ak m1) (ar (ab rfl) ak m2) rfl (aL ee rfl (aL (ar (ab rfl) (eS (fA (aY ak (aY ak dt))) (bB (ab rfl) rfl) tx0) (qT (by simp [most]; omega))) rfl (aL (ar (ab rfl) (eS (fA (aY (v3 ak) (aY ak dt))) (bB (ab rfl) rfl) rfl) es) rfl cn))),
     r / 2,w ++ [false],d-1,_,_,_,rfl,by simp [hw],by rw [dM,hd]; obtain ⟨e,rfl⟩:∃ e,d=e+1:=⟨d-1,by omega⟩; rfl,by simp; omega,by simp; omega⟩)
 obtain ⟨r',w,d,o4,o5,o6,rfl,hw,hd,hl,hp⟩:=I
 simp at hw hl
 have:d=0:=by omega
 subst this
 refine ⟨w,hw,hd,?_⟩
 rw [<- zS] at e
 exact bz rfl rfl (aL ak rfl (aL ak rfl (gf (x6 (ar ak (ab rfl) e1) ak e2) e (bx (ab rfl) rfl))))
end RM
namespace RM
open RL RT
noncomputable def rd (n q:Nat):Nat:=if q<n then q else 3*n-1-q
theorem aW {n q:Nat} (h:q<2*n):rd n q<2*n:=by unfold rd; split <;> omega
theorem cg {n q:Nat} (h:q<2*n):rd n (rd n q)=q:=by
 unfold rd
 by_cases e:q<n
 ·rw [if_pos e,if_pos e]
 ·rw [if_neg e,if_neg (by omega)]
  omega
theorem jT {n p q:Nat} (hp:p<2*n) (hq:q<2*n) (h:rd n p=rd n q):p=q:=by rw [<- cg hp,h,cg hq]
noncomputable def rnd (n:Nat) (f:List Nat) (q:Nat):Nat:=rd n (at' f (rd n q))
structure Val (n:Nat) (f:List Nat):Prop where
 frm:Frm n f
 nox:∀ q q',q<2*n->q'<2*n->¬ (q<q'/\q'<rnd n f q/\rnd n f q<rnd n f q')
structure Mt (n k:Nat) (f S:List Nat):Prop where
 len:f.length=2*n
 kn:k<=2*n
 up:S.Pairwise (·<·)
 lt:∀ s∈S,s<k
 ok:∀ q,q<k->q∉S->rnd n f q<k/\rnd n f q∉S/\rnd n f q≠q/\rnd n f (rnd n f q)=q
 bt:∀ q s,q<k->q∉S->s∈S->¬ (q<s/\s<rnd n f q)
 nox:∀ q q',q<k->q'<k->q∉S->q'∉S->¬ (q<q'/\q'<rnd n f q/\rnd n f q<rnd n f q')
theorem Mt.push {n k:Nat} {f S:List Nat} (m:Mt n k f S) (hk:k<2*n):Mt n (k+1) f (S ++ [k]):=by
 have nk:∀ q,q<k+1->q∉S ++ [k]->q<k/\q∉S:=by
  intro q h1 h2
  simp at h2
  exact ⟨by omega,h2.1⟩
 refine ⟨m.len,by omega,?_,?_,?_,?_,?_⟩
 ·rw [List.pairwise_append]
  exact ⟨m.up,by simp,fun a ha b hb=>by simp at hb; have:=m.lt a ha; omega⟩
 ·intro s hs
  simp at hs
  rcases hs with h | h
  ·have:=m.lt s h; omega
  ·omega
 ·intro q h1 h2
  obtain ⟨a,b⟩:=nk q h1 h2
  obtain ⟨c1,c2,c3,c4⟩:=m.ok q a b
  exact ⟨by omega,by simp; exact ⟨c2,by omega⟩,c3,c4⟩
 ·intro q s h1 h2 hs
  obtain ⟨a,b⟩:=nk q h1 h2
  simp at hs
  rcases hs with h | h
  ·exact m.bt q s a b h
  ·have:=(m.ok q a b).1; omega
 ·intro q q' h1 h2 h3 h4
  obtain ⟨a,b⟩:=nk q h1 h3
  obtain ⟨a',b'⟩:=nk q' h2 h4
  exact m.nox q q' a a' b b'
theorem wQ {n k m:Nat} {f:List Nat} (hl:f.length=2*n) (hk:k<2*n) (hm:m<2*n) {q:Nat} (hq:q<2*n):rnd n ((f.set (rd n m) (rd n k)).set (rd n k) (rd n m)) q=if q=k then m else if q=m then k else rnd n f q:=by
 have l1:=aW hk
 have l2:=aW hm
 unfold rnd
 rw [di (by simp; omega),di (by omega)]
 by_cases h1:q=k
 ·subst h1
  rw [if_pos rfl,if_pos rfl,cg hm]
 ·rw [if_neg (fun h=>h1 (jT hq hk h)),if_neg h1]
  by_cases h2:q=m
  ·subst h2
   rw [if_pos rfl,if_pos rfl,cg hk]
  ·rw [if_neg (fun h=>h2 (jT hq hm h)),if_neg h2]
theorem Mt.pop {n k m:Nat} {f S:List Nat} (h:Mt n k f (S ++ [m])) (hk:k<2*n):Mt n (k+1) ((f.set (rd n m) (rd n k)).set (rd n k) (rd n m)) S:=by
 have hmk:m<k:=h.lt m (by simp)
 have hm:m<2*n:=by omega
 have P:=fun q hq=>wQ (f:=f) h.len hk hm (q:=q) hq
 have up:=List.pairwise_append.mp h.up
 have hmS:∀ s∈S,s<m:=fun s hs=>up.2.2 s hs m (by simp)
 have kS:k∉S:=fun c=>by have:=hmS k c; omega
 have mS:m∉S:=fun c=>by have:=hmS m c; omega
 have cs:∀ q,q<k+1->q∉S->q=k\/q=m\/(q≠k/\q≠m/\q<k/\q∉S ++ [m]):=by
  intro q h1 h2
  by_cases e1:q=k
  ·exact .inl e1
  ·by_cases e2:q=m
   ·exact .inr (.inl e2)
   ·exact .inr (.inr ⟨e1,e2,by omega,by simp; exact ⟨h2,e2⟩⟩)
 have old:∀ q,q<k->q∉S ++ [m]->rnd n f q<k/\rnd n f q∉S/\rnd n f q≠m/\rnd n f q≠q/\rnd n f (rnd n f q)=q:=by
  intro q h1 h2
  obtain ⟨c1,c2,c3,c4⟩:=h.ok q h1 h2
  simp at c2
  exact ⟨c1,c2.1,c2.2,c3,c4⟩
 refine ⟨by simp [h.len],by omega,up.1,fun s hs=>by have:=hmS s hs; omega,?_,?_,?_⟩
 ·intro q h1 h2
  rcases cs q h1 h2 with rfl | rfl | ⟨e1,e2,e3,e4⟩
  ·rw [P q hk,if_pos rfl,P m hm,if_neg (by omega),if_pos rfl]
   exact ⟨by omega,mS,by omega,rfl⟩
  ·rw [P q hm,if_neg (by omega),if_pos rfl,P k hk,if_pos rfl]
   exact ⟨by omega,kS,by omega,rfl⟩
  ·obtain ⟨c1,c2,c3,c4,c5⟩:=old q e3 e4
   rw [P q (by omega),if_neg e1,if_neg e2,P _ (by omega),if_neg (by omega),if_neg c3]
   exact ⟨by omega,c2,c4,c5⟩
 ·intro q s h1 h2 hs
  have:=hmS s hs
  rcases cs q h1 h2 with rfl | rfl | ⟨e1,e2,e3,e4⟩
  ·omega
  ·omega
  ·rw [P q (by omega),if_neg e1,if_neg e2]
   exact h.bt q s e3 e4 (by simp [hs])
 ·intro q q' h1 h2 h3 h4
  rcases cs q h1 h3 with rfl | rfl | ⟨e1,e2,e3,e4⟩
  ·omega
  ·rw [P q hm,if_neg (by omega),if_pos rfl]
   rcases cs q' h2 h4 with rfl | rfl | ⟨d1,d2,d3,d4⟩
   ·omega
   ·omega
   ·rw [P q' (by omega),if_neg d1,if_neg d2]
    have:=(old q' d3 d4).1
    omega
  ·rw [P q (by omega),if_neg e1,if_neg e2]
   have a:=(old q e3 e4).1
   rcases cs q' h2 h4 with rfl | rfl | ⟨d1,d2,d3,d4⟩
   ·omega
   ·have:=h.bt q q' e3 e4 (by simp)
    omega
   ·rw [P q' (by omega),if_neg d1,if_neg d2]
    exact h.nox q q' e3 d3 e4 d4
theorem Mt.val {n:Nat} {f:List Nat} (h:Mt n (2*n) f []) (hlt:∀ x,x<2*n->at' f x<2*n):Val n f:=by
 refine ⟨⟨h.len,hlt,?_,?_⟩,fun q q' h1 h2=>h.nox q q' h1 h2 (by simp) (by simp)⟩
 ·intro x
  by_cases hx:x<2*n
  ·have a:=(h.ok (rd n x) (aW hx) (by simp)).2.2.2
   unfold rnd at a
   rw [cg hx,cg (hlt x hx)] at a
   exact jT (hlt _ (hlt x hx)) hx a
  ·have e:at' f x=x:=fU (by rw [h.len]; omega)
   rw [e,e]
 ·intro x hx e
  have a:=(h.ok (rd n x) (aW hx) (by simp)).2.2.1
  unfold rnd at a
  rw [cg hx,e] at a
  exact a rfl
end RM
namespace RM
open RL RT
theorem qu {β:Type} {f:St->Option (Out × St)} {tg:List Nat} (g:β->D) (im:∀ b,(g b).imm=true) (I:List β->St->Prop):∀ (w done:List β) (σ:St),(∀ u b v σ,done ++ w=u ++ b :: v->I u σ->∃ σ2,(az tg (.tup [.int u.length,g b]) σ).bind f=some (.nx,σ2)/\I (u ++ [b]) σ2)->I done σ->∃ σ',bb f tg (bX done.length (w.map g)) σ=some (.nx,σ')/\I (done ++ w) σ'
 | [],done,σ,_,h=>⟨σ,rfl,by simpa using h⟩
 | b :: w,done,σ,hs,h=>by
  obtain ⟨σ2,h1,h3⟩:=hs done b w σ rfl h
  obtain ⟨σ',h4,h5⟩:=qu g im I w (done ++ [b]) σ2 (fun pre e post σ he=>hs pre e post σ (by simpa using he)) h3
  refine ⟨σ',?_,by simpa using h5⟩
  rw [List.map_cons,bX,bb,if_pos (by simp [D.imm,ai,im])]
  rw [show ((done ++ [b]).length:Int)=(done.length:Int)+1 by simp] at h4
  cases hb:az tg (.tup [.int done.length,g b]) σ with
  | none=>rw [hb] at h1; cases h1
  | some σ1 =>
   rw [hb] at h1
   simp only [Option.bind_some] at h1 ⊢
   rw [h1]
   exact h4
noncomputable def bE (n:Nat):List Nat:=(List.range (2*n)).map (rd n)
theorem nt (n:Nat):(bE n).length=2*n:=by simp [bE]
theorem wx {n:Nat} (h:1<=n):bE n=List.range' 0 n ++ (List.range n).map (fun i=>(2*n-1)-i):=by
 unfold bE
 rw [show 2*n=n+n by omega,List.range_add,List.map_append,<- List.range_eq_range',List.map_map]
 congr 1
 ·conv=>rhs; rw [<- List.map_id (List.range n)]
  apply List.map_congr_left
  intro i hi
  simp at hi
  simp [rd,hi]
 ·apply List.map_congr_left
  intro i hi
  simp at hi
  show rd n (n+i)=_
  unfold rd
  rw [if_neg (by omega)]
  omega
theorem w4 {a b:Nat} (h:b<=a) (ha:a<=1000):eG (-1) (.int (a:Int)) (.int ((a:Int)-b))=some (L ((List.range b).map fun i=>a-i)):=by
 have hN:aT (-1) (a:Int) ((a:Int)-b)=b:=by
  unfold aT
  rw [show (- -1:Int)=1 from rfl,Int.ediv_one,if_neg (by decide)]
  split <;> omega
 dsimp only [eG]
 rw [hN]
 rw [if_pos ⟨by decide,by decide,by decide,by unfold most; omega,by omega,by omega,by omega,by omega⟩]
 rw [iH b a h]
theorem pN {n:Nat} (h1:1<=n) (hn:n<=10):evF cl da [.int n]=some (.lst (L (bE n))):=by
 have e1:ay .mul (.int 2) (.int n)=some (.int (2*n)):=bg (by decide) (by decide)
 have e2:=cS (a:=0) (b:=n) (by omega) (by omega)
 rw [Nat.sub_zero] at e2
 simp only [Int.natCast_zero] at e2
 have e3:=w4 (a:=2*n-1) (b:=n) (by omega) (by omega)
 rw [show ((2*n-1:Nat):Int)=2*n-1 by omega,show 2*(n:Int)-1-n=n-1 by omega] at e3
 have e4:ay .add (.lst (L (List.range' 0 n))) (.lst (L ((List.range n).map fun i=>2*n-1-i)))=some (.lst (L (bE n))):=by
  dsimp only [ay]
  rw [if_pos (by simp [aV,most]; omega),wx h1,gq]
 simp [evF,da,ag,evS,ev,evs,e1,e2,e3,e4,iT,aJ,D.imm,a5,bf,aE]
theorem kW {n q:Nat} (h:q<2*n):ixV (.lst (L (bE n))) (.int (q:Int))=some (.int ((rd n q:Nat):Int)):=by
 show bZ _ _=_
 rw [eP,ma]
 simp [bE,h]
theorem dY {f:List Nat} {i j:Nat} (h:i<f.length):cw (.lst (L f)) (.int (i:Int)) (.int (j:Int))=some (.lst (L (f.set i j))):=by
 dsimp only [cw]
 rw [aV,u6 h]
 simp [AI]
theorem gE (v:List Bool):∀ (w:List Bool) (d:Nat),dpf d (w ++ v)=(dpf d w).bind fun e=>dpf e v
 | [],d=>rfl
 | true :: r,d=>by simpa [dpf] using gE v r (d+1)
 | false :: r,0=>rfl
 | false :: r,d+1=>by simpa [dpf] using gE v r d
theorem nW:∀ (w:List Bool) (d:Nat) {e:Nat},dpf d w=some e->e<=d+w.length
 | [],d,e,h=>by cases h; simp
 | true :: r,d,e,h=>by have:=nW r (d+1) h; simp; omega
 | false :: r,0,e,h=>nomatch h
 | false :: r,d+1,e,h=>by have:=nW r d h; simp; omega
theorem zeros (cl:Cl) (σ:St):∀ xs:List Nat,bF (fun σ1=>(ev cl σ1 (.cst (.int 0))).map some) [7] σ (L xs)=some (L (List.replicate xs.length 0))
 | []=>rfl
 | x :: r=>by
  rw [show L (x :: r)=.int x :: L r from rfl,bF,zeros cl σ r]
  rfl
theorem lH {fc:Nat} {n:Nat} {w:List Bool} (h1:1<=n) (hn:n<=10) (hc:cl fc [.int n]=some (.lst (L (bE n)))) (hw:w.length=2*n) (hd:dpf 0 w=some 0):∃ f:List Nat,Val n f/\evF cl (dA fc) [.str (tx w)]=some (.tup (L f)):=by
 obtain ⟨σ',e,I⟩:=qu (f:=ag cl [3,4] (bU fc)) (tg:=[5,6]) (fun b:Bool=>D.str (tx [b])) (fun _=>rfl)
  (fun u σ=>∃ (f S:List Nat) (o5 o6 o8:Option D),σ=[some (.str (tx w)),some (.int n),some (.lst (L (bE n))),some (.lst (L f)),some (.lst (L (S.map (rd n)))),o5,o6,none,o8]/\dpf 0 u=some S.length/\Mt n u.length f S/\∀ x,x<2*n->at' f x<2*n)
  w [] [some (.str (tx w)),some (.int n),some (.lst (L (bE n))),some (.lst (L (List.replicate (2*n) 0))),some (.lst (L [])),none,none,none,none] (by
   rintro u b v σ hu ⟨f,S,o5,o6,o8,rfl,hS,m,hlt⟩
   have hk:u.length<2*n:=by
    rw [<- hw]
    have:=congrArg List.length hu
    simp at this
    omega
   have hdb:∃ d,dpf S.length [b]=some d:=by
    have:dpf 0 (u ++ b :: v)=some 0:=by rw [<- hu]; exact hd
    rw [gE,hS] at this
    revert this
    cases b with
    | true=>exact fun _=>⟨_,rfl⟩
    | false =>
     cases S.length with
     | zero=>exact fun h=>nomatch h
     | succ d=>exact fun _=>⟨_,rfl⟩
   cases b with
   | true =>
    refine ⟨[some (.str (tx w)),some (.int n),some (.lst (L (bE n))),some (.lst (L f)),some (.lst (L ((S ++ [u.length]).map (rd n)))),some (.int u.length),some (.str (tx [true])),none,o8],?_,f,S ++ [u.length],_,_,_,rfl,?_,by simpa using m.push hk,hlt⟩
    ·have hl:S.length<most:=by have:=nW u 0 hS; unfold most; omega
     have ap:L ((S ++ [u.length]).map (rd n))=L (S.map (rd n)) ++ [.int ((rd n u.length:Nat):Int)]:=by simp [L]
     rw [ap]
     exact show ag cl [3,4] (bU fc) [some (.str (tx w)),some (.int n),some (.lst (L (bE n))),some (.lst (L f)),some (.lst (L (S.map (rd n)))),some (.int u.length),some (.str (tx [true])),none,o8]=some (.nx,_) from qw (br (aK (k:=true) (ab rfl) ak (by rw [pF]; decide))) (ql (eS (ab rfl) (ab rfl) (kW hk)) rfl rfl (by rw [aV,List.length_map]; exact hl) cn) cn
    ·rw [dM,hS]
     simp [dpf]
   | false =>
    obtain ⟨d,hdb⟩:=hdb
    have hS0:S≠[]:=by
     rintro rfl
     simp [dpf] at hdb
    obtain ⟨S0,m0,rfl⟩:∃ S0 m0,S=S0 ++ [m0]:=⟨S.dropLast,S.getLast hS0,(List.dropLast_concat_getLast hS0).symm⟩
    have hm0:m0<u.length:=m.lt m0 (by simp)
    have c:=kW hk
    have p1:=dY (f:=f) (i:=rd n m0) (j:=rd n u.length) (by rw [m.len]; exact aW (by omega))
    have p2:=dY (f:=f.set (rd n m0) (rd n u.length)) (i:=rd n u.length) (j:=rd n m0) (by rw [List.length_set,m.len]; exact aW (by omega))
    refine ⟨[some (.str (tx w)),some (.int n),some (.lst (L (bE n))),some (.lst (L ((f.set (rd n m0) (rd n u.length)).set (rd n u.length) (rd n m0)))),some (.lst (L (S0.map (rd n)))),some (.int u.length),some (.str (tx [false])),none,some (.int ((rd n m0:Nat):Int))],?_,_,S0,_,_,_,rfl,?_,by simpa using m.pop hk,?_⟩
    ·have ap:L ((S0 ++ [m0]).map (rd n))=L (S0.map (rd n)) ++ [.int ((rd n m0:Nat):Int)]:=by simp [L]
     rw [ap]
     exact show ag cl [3,4] (bU fc) [some (.str (tx w)),some (.int n),some (.lst (L (bE n))),some (.lst (L f)),some (.lst (L (S0.map (rd n)) ++ [.int ((rd n m0:Nat):Int)])),some (.int u.length),some (.str (tx [false])),none,o8]=some (.nx,_) from qq (br (aK (k:=false) (ab rfl) ak (by rw [pF]; decide))) (zT rfl (n0 (eS (ab rfl) (ab rfl) c) (ab rfl) rfl rfl p1 (n0 (ab rfl) (eS (ab rfl) (ab rfl) c) rfl rfl p2 cn))) cn
    ·rw [dM,hS]
     simp [dpf]
    ·intro x hx
     rw [di (by simp [m.len]; exact aW (by omega)),di (by rw [m.len]; exact aW (by omega))]
     have:=aW (n:=n) (q:=m0) (by omega)
     have:=aW (n:=n) (q:=u.length) (by omega)
     have:=hlt x hx
     repeat' split
     all_goals omega)
  ⟨List.replicate (2*n) 0,[],none,none,none,rfl,rfl,⟨by simp,by simp,by simp,by simp,by simp,by simp,by simp⟩,fun x hx=>by simp [at',hx]; omega⟩
 obtain ⟨f,S,o5,o6,o8,rfl,hS,m,hlt⟩:=I
 simp only [List.nil_append] at hS m
 rw [hd] at hS
 have hS0:S=[]:=List.eq_nil_of_length_eq_zero (by simpa using hS.symm)
 subst hS0
 rw [hw] at m
 refine ⟨f,m.val hlt,?_⟩
 have len:biV .len (.str (tx w))=some (.int ((2*n:Nat):Int)):=by
  dsimp only [biV]
  rw [nj,hw,if_pos (by unfold most; omega)]
 have dv:ay .fdiv (.int ((2*n:Nat):Int)) (.int 2)=some (.int (n:Nat)):=by
  rw [fB (by decide) (by decide)]
  congr 2
  omega
 have it:cB (.str (tx w))=some (w.map fun b=>D.str (tx [b])):=by
  simp [cB,tx,Function.comp_def]
 have z:=zeros cl [some (.str (tx w)),some (.int n),some (.lst (L (bE n))),none,none,none,none,none,none] (bE n)
 rw [nt] at z
 exact bz rfl rfl (aL (ar (bB (ab rfl) len) ak dv) rfl (aL (cy (ab rfl) hc) (by unfold bj; rw [show a5 (.lst (L (bE n)))=true from bf _]; rfl) (jY (fS (lW (ab rfl) rfl) (by rw [aV,nt]; unfold most; omega) z) (by rw [show a5 (.lst (L (List.replicate (2*n) 0)))=true from bf _]; rfl) (jY (fA dt) rfl
  (gf (vt (ab rfl) it) e (bx (bB (ab rfl) rfl) (by unfold aJ; rw [show (D.tup (L f)).imm=true from bf _]; rfl)))))))
end RM
namespace RM
open RL RT
theorem fZ {F:St->Option (Option D)} {tg:List Nat} {σ:St} {g:Nat->D} (im:∀ x,(g x).imm=true):∀ xs:List Nat,(∀ x∈xs,(az tg (.int (x:Nat)) σ).bind F=some (some (g x)))->bF F tg σ (L xs)=some (xs.map g)
 | [],_=>rfl
 | x :: r,h=>by
  have a:=h x (by simp)
  have b:=fZ im r (fun y hy=>h y (by simp [hy]))
  rw [show L (x :: r)=.int x :: L r from rfl,bF]
  cases hb:az tg (.int (x:Nat)) σ with
  | none=>rw [hb] at a; cases a
  | some σ1 =>
   rw [hb] at a
   simp only [Option.bind_some] at a ⊢
   rw [a,b]
   simp [iu,im]
theorem rH {F:St->Option (Option D)} {tg:List Nat} {σ:St} {g:Nat->D} {c:Nat->Bool} (im:∀ x,(g x).imm=true):∀ xs:List Nat,(∀ x∈xs,(az tg (.int (x:Nat)) σ).bind F=some (if c x then some (g x) else none))->bF F tg σ (L xs)=some ((xs.filter c).map g)
 | [],_=>rfl
 | x :: r,h=>by
  have a:=h x (by simp)
  have b:=rH im r (fun y hy=>h y (by simp [hy]))
  rw [show L (x :: r)=.int x :: L r from rfl,bF]
  cases hb:az tg (.int (x:Nat)) σ with
  | none=>rw [hb] at a; cases a
  | some σ1 =>
   rw [hb] at a
   simp only [Option.bind_some] at a ⊢
   rw [a,b]
   cases hc:c x <;> simp [iu,im,hc]
theorem uO (xs:List Nat) (g:Nat->Nat):(xs.map fun x=>D.int (g x:Nat))=L (xs.map g):=by simp [L]
theorem gi {xs:List Nat} (h:xs.length<=1000):fits (L xs)=some (L xs):=by
 unfold fits
 rw [if_pos (by rw [aV]; unfold most; omega)]
theorem bC {n:Nat} (h:n<=1000):cF (.int 0) (.int n)=some (L (List.range n)):=by
 have e2:=cS (a:=0) (b:=n) (by omega) h
 rw [Nat.sub_zero,<- List.range_eq_range'] at e2
 exact e2
theorem k8 {n:Nat} (hn:n<=100):evF cl cL [.int n]=some (.tup (L (aA n))):=by
 have e2:=bC (n:=n) (by omega)
 have e3:=fZ (F:=fun σ1=>(ev cl σ1 (.bin .add (.var 0) (.var 1))).map some) (tg:=[1]) (σ:=[some (.int n),none]) (g:=fun x=>.int ((n+x:Nat):Int)) (fun _=>rfl) (List.range n) (by
  intro x _
  simp [az,ev,bL])
 rw [uO] at e3
 have e4:ay .add (.lst (L ((List.range n).map fun x=>n+x))) (.lst (L (List.range n)))=some (.lst (L (aA n))):=by
  dsimp only [ay]
  rw [if_pos (by simp [aV,most]; omega),aA,gq]
  congr 3
  ·rw [List.range'_eq_map_range]
  ·rw [List.range_eq_range']
 have e5:=gi (xs:=List.range n) (by simp; omega)
 simp only [evF,cL,ag,evS,ev,a8]
 simp [ev,e2,e5]
 simp [ev] at e3
 rw [e3]
 simp [e4,biV,items,aJ,D.imm,bf,aE]
theorem lJ {n:Nat} (hn:n<=10):evF cl cL [.int n]=some (.tup (L (aA n))):=k8 (by omega)
theorem l5 {n q:Nat} (h:q<2*n):rnd n (aA n) q=2*n-1-q:=by
 unfold rnd rd
 by_cases c:q<n
 ·rw [if_pos c,plain_at,if_pos c,if_neg (by omega)]; omega
 ·have e:at' (aA n) (3*n-1-q)=2*n-1-q:=by rw [plain_at,if_neg (by omega),if_pos (by omega)]; omega
  rw [if_neg c,e,if_pos (by omega)]
theorem qj (n:Nat):Val n (aA n):=by
 refine ⟨iF n,fun q q' h1 h2=>?_⟩
 rw [l5 h1,l5 h2]
 omega
noncomputable def dU (n i:Nat):List Nat:=gI (aA n) (n+i)
set_option synthInstance.maxSize 10000 in
set_option synthInstance.maxHeartbeats 0 in
theorem tj:∀ n,n<11->∀ i,i<n->i+1<n->∀ q,q<2*n->∀ q',q'<2*n->¬ (q<q'/\q'<rnd n (dU n i) q/\rnd n (dU n i) q<rnd n (dU n i) q'):=by decide +kernel
theorem uA {n i:Nat} (hn:n<=10) (h:i+1<n):Val n (dU n i):=⟨uh (iF n) (by omega),fun q q' h1 h2=>tj n (by omega) i (by omega) h q h1 q' h2⟩
theorem nT {fp:Nat} {n i:Nat} (hn:n<=10) (hi:i+1<n) (hp:cl fp [.int n]=some (.tup (L (aA n)))):evF cl (eJ fp) [.int n,.int i]=some (.tup (L (dU n i))):=by
 have hl:=(iF n).len
 have e:dU n i=((((aA n).set i (i+1)).set (i+1) i).set (n+i) (n+i+1)).set (n+i+1) (n+i):=by
  unfold dU gI
  have a1:at' (aA n) (n+i)=i:=by rw [plain_at,if_neg (by omega),if_pos (by omega)]; omega
  have a2:at' (aA n) (n+i+1)=i+1:=by rw [plain_at,if_neg (by omega),if_pos (by omega)]; omega
  rw [a1,a2,if_neg (by omega)]
 have p1:=dY (f:=aA n) (i:=i) (j:=i+1) (by omega)
 have p2:=dY (f:=(aA n).set i (i+1)) (i:=i+1) (j:=i) (by simp; omega)
 have p3:=dY (f:=((aA n).set i (i+1)).set (i+1) i) (i:=n+i) (j:=n+i+1) (by simp; omega)
 have p4:=dY (f:=(((aA n).set i (i+1)).set (i+1) i).set (n+i) (n+i+1)) (i:=n+i+1) (j:=n+i) (by simp; omega)
 rw [<- e] at p4
 simp only [Int.natCast_add,Int.natCast_one] at p1 p2 p3 p4
 simp [evF,eJ,ag,evS,ev,evs,hp,biV,items,a5,bf,a8,bL,bb,D.imm,az,jh,p1,p2,p3,p4,aJ,aE]
noncomputable def aG (n:Nat) (f:List Nat):List Nat:=(List.range (2*n)).map fun p=>(at' f ((p+n) % (2*n))+n) % (2*n)
theorem k9 {n:Nat} {f:List Nat} {p:Nat} (h:p<2*n):at' (aG n f) p=(at' f ((p+n) % (2*n))+n) % (2*n):=by
 simp [at',aG,h]
theorem half {xs:List D} {n:Nat} (h:xs.length=2*n):biV .len (.tup xs)=some (.int (2*n)):=by
 simp [biV,items,h]
theorem sS (n:Nat):ay .fdiv (.int (2*(n:Int))) (.int 2)=some (.int n):=by
 rw [fB (by decide) (by decide)]
 congr 2
 omega
theorem cM {f:List Nat} {x:Nat} (h:x<f.length):ixV (.tup (L f)) (.int (x:Nat))=some (.int (at' f x:Nat)):=by
 show bZ _ _=_
 rw [eP,ma,dJ h]
 rfl
theorem mm {n:Nat} {f:List Nat} (h1:1<=n) (hn:n<=10) (hf:f.length=2*n):evF cl eA [.tup (L f)]=some (.tup (L (aG n f))):=by
 have e1:ay .mul (.int 2) (.int n)=some (.int (2*n)):=bg (by decide) (by decide)
 have e2:=bC (n:=2*n) (by omega)
 rw [show ((2*n:Nat):Int)=2*(n:Int) by omega] at e2
 have e3:=fZ (F:=fun σ1=>(ev cl σ1 (.bin .mod (.bin .add (.ix (.var 0) (.bin .mod (.bin .add (.var 2) (.var 1)) (.bin .mul (.cst (.int 2)) (.var 1)))) (.var 1)) (.bin .mul (.cst (.int 2)) (.var 1)))).map some) (tg:=[2]) (σ:=[some (.tup (L f)),some (.int n),none]) (g:=fun p=>.int (((at' f ((p+n) % (2*n))+n) % (2*n):Nat):Int)) (fun _=>rfl) (List.range (2*n)) (by
  intro x _
  have m1:ay .mod (.int ((x:Int)+n)) (.int (2*(n:Int)))=some (.int (((x+n) % (2*n):Nat):Int)):=by
   rw [cN (by omega)]
   simp
  have m2:=cM (f:=f) (x:=(x+n) % (2*n)) (by rw [hf]; exact Nat.mod_lt _ (by omega))
  have m3:ay .mod (.int ((at' f ((x+n) % (2*n)):Nat)+(n:Int))) (.int (2*(n:Int)))=some (.int (((at' f ((x+n) % (2*n))+n) % (2*n):Nat):Int)):=by
   rw [cN (by omega)]
   simp
  simp only [az,ev,List.set,Option.bind_some,List.getElem?_cons_zero,List.getElem?_cons_succ,id,e1,bL,m1,m2,m3,Option.map_some])
 rw [uO] at e3
 have e5:=gi (xs:=List.range (2*n)) (by simp; omega)
 have e6:=half (xs:=L f) (n:=n) (by rw [aV,hf])
 have e7:=sS n
 simp only [evF,eA,ag,evS,ev,a8]
 simp [ev,e2,e5,e1,e6,e7,bj,D.imm]
 simp [ev] at e3
 rw [e3]
 simp [biV,items,aJ,D.imm,bf,aE,aG]
end RM
namespace RM
open RL RT
section dicts
variable {κ:Type} [DecidableEq κ]
theorem nz:∀ {ks:List κ} {vs:List D} {x:κ} {d:D} {y:κ},ks.length=vs.length->x∉ks->a7 (ks ++ [x]) (vs ++ [d]) y=if x=y then some d else a7 ks vs y
 | [],[],x,d,y,_,_=>by simp [a7]
 | k :: ks,v :: vs,x,d,y,h,hn=>by
  simp at h hn
  have:=nz (ks:=ks) (vs:=vs) (x:=x) (d:=d) (y:=y) h hn.2
  simp only [List.cons_append,a7]
  by_cases e:k=y
  ·rw [if_pos e,if_pos e,if_neg (fun c=>hn.1 (c.trans e.symm))]
  ·rw [if_neg e,if_neg e,this]
theorem mV:∀ {ks:List κ} {vs:List D} {x:κ} {d:D} {y:κ},ks.length=vs.length->x∈ks->a7 ks (List.zipWith (fun k v=>if k=x then d else v) ks vs) y=if x=y then some d else a7 ks vs y
 | k :: ks,v :: vs,x,d,y,h,hm=>by
  simp at h
  simp only [List.zipWith_cons_cons,a7]
  by_cases e:k=y
  ·rw [if_pos e,if_pos e]
   by_cases e':k=x
   ·rw [if_pos e',if_pos (e'.symm.trans e)]
   ·rw [if_neg e',if_neg (fun c=>e' (e.trans c.symm))]
  ·rw [if_neg e,if_neg e]
   by_cases hx:x∈ks
   ·exact mV h hx
   ·have kx:x=k:=by simpa [hx] using hm
    rw [if_neg (fun c=>e (kx.symm.trans c))]
    have:List.zipWith (fun k v=>if k=x then d else v) ks vs=vs:=by
     clear e hm kx
     induction ks generalizing vs with
     | nil=>cases vs with | nil=>rfl | cons _ _=>simp at h
     | cons a ks ih=>cases vs with
      | nil=>simp at h
      | cons b vs =>
       simp at h hx
       simp only [List.zipWith_cons_cons]
       rw [if_neg (fun c=>hx.1 c.symm),ih (vs:=vs) (h:=h) (hx:=hx.2)]
    rw [this]
theorem ff {ks:List κ} {vs:List D} {x:κ} {d:D} {y:κ} (h:ks.length=vs.length):a7 (putD ks vs x d).1 (putD ks vs x d).2 y=if x=y then some d else a7 ks vs y:=by
 unfold putD
 split
 ·exact mV h ‹_›
 ·exact nz h ‹_›
theorem eL {ks:List κ} {vs:List D} {x:κ} {d:D} (h:ks.length=vs.length):(putD ks vs x d).1.length=(putD ks vs x d).2.length/\(putD ks vs x d).1.length<=ks.length+1:=by
 unfold putD
 split <;> simp [h]
end dicts
noncomputable def sd (b:Bool):PySem.Str:=if b then PySem.Str.ofString "high" else PySem.Str.ofString "low"
theorem lY (b:Bool):(sd b == PySem.Str.ofString "high")=b:=by cases b <;> decide +kernel
theorem zt {a b:Bool} (h:sd a=sd b):a=b:=by
 have:=lY a
 rw [h,lY] at this
 exact this.symm
noncomputable def nk (b:Bool) (p:Nat):List Ky:=[.inr (sd b),.inl (p:Int)]
theorem mM {a b:Bool} {p q:Nat} (h:nk a p=nk b q):a=b/\p=q:=by
 unfold nk at h
 injection h with h1 h2
 injection h1 with h1
 injection h2 with h2
 injection h2 with h2
 exact ⟨zt h1,by omega⟩
noncomputable def aM (b:Bool) (x:Nat):D:=.tup [.str (sd b),.int x]
noncomputable def pick (h l:List Nat) (b:Bool):List Nat:=if b then h else l
noncomputable def ip (h l:List Nat) (k:Nat) (ks:List (List Ky)) (vs:List D):Prop:=ks.length=vs.length/\ks.length<=2*k/\∀ b p,p<k->a7 ks vs (nk b p)=some (aM b (at' (pick h l b) p))
theorem ip.next {h l:List Nat} {k:Nat} {ks:List (List Ky)} {vs:List D} (N:ip h l k ks vs):ip h l (k+1) (putD (putD ks vs (nk true k) (aM true (at' h k))).1 (putD ks vs (nk true k) (aM true (at' h k))).2 (nk false k) (aM false (at' l k))).1 (putD (putD ks vs (nk true k) (aM true (at' h k))).1 (putD ks vs (nk true k) (aM true (at' h k))).2 (nk false k) (aM false (at' l k))).2:=by
 obtain ⟨n1,n2,n3⟩:=N
 obtain ⟨a1,a2⟩:=eL (x:=nk true k) (d:=aM true (at' h k)) n1
 obtain ⟨b1,b2⟩:=eL (x:=nk false k) (d:=aM false (at' l k)) a1
 refine ⟨b1,by omega,fun b p hp=>?_⟩
 rw [ff a1,ff n1]
 by_cases e:p=k
 ·subst e
  cases b
  ·rw [if_pos rfl]; rfl
  ·rw [if_neg (fun c=>by have:=(mM c).1; cases this),if_pos rfl]; rfl
 ·rw [if_neg (fun c=>e (mM c).2.symm),if_neg (fun c=>e (mM c).2.symm)]
  exact n3 b p (by omega)
theorem rS {fr:Nat} {n:Nat} {h l:List Nat} (hn:n<=10) (hh:h.length=2*n) (hl:l.length=2*n):∃ ks vs o,ip h l (2*n) ks vs/\bb (ag cl [3,5,6] (dS fr)) [4] (L (List.range (2*n))) [some (.tup (L h)),some (.tup (L l)),some (.int n),some (.dT [] []),none,none,none,none,none]=some (.nx,[some (.tup (L h)),some (.tup (L l)),some (.int n),some (.dT ks vs),o,none,none,none,none]):=by
 obtain ⟨σ',e,ks,vs,o,rfl,N⟩:=cm (f:=ag cl [3,5,6] (dS fr)) (tg:=[4]) (xs:=List.range (2*n)) (σ:=[some (.tup (L h)),some (.tup (L l)),some (.int n),some (.dT [] []),none,none,none,none,none])
  (fun p σ=>∃ ks vs o,σ=[some (.tup (L h)),some (.tup (L l)),some (.int n),some (.dT ks vs),o,none,none,none,none]/\ip h l p.length ks vs) ⟨[],[],none,rfl,rfl,by simp,by simp⟩ (by
   rintro p x q σ hx ⟨ks,vs,o,rfl,N⟩
   obtain ⟨h1,h2⟩:=cv (g:=id) (by simpa using hx)
   simp only [id] at h2
   subst h2
   have i1:=cM (f:=h) (x:=p.length) (by omega)
   have i2:=cM (f:=l) (x:=p.length) (by omega)
   have a:=eL (x:=nk true p.length) (d:=aM true (at' h p.length)) N.1
   have m1:ks.length<most:=by have:=N.2.1; unfold most; omega
   have m2:(putD ks vs (nk true p.length) (aM true (at' h p.length))).1.length<most:=by have:=N.2.1; unfold most; omega
   refine ⟨_,?_,_,_,some (.int (p.length:Int)),rfl,by simpa using N.next⟩
   have k1:keysOf [.str (PySem.Str.ofString "high"),.int (p.length:Int)]=some (nk true p.length):=rfl
   have k2:keysOf [.str (PySem.Str.ofString "low"),.int (p.length:Int)]=some (nk false p.length):=rfl
   have u1:cw (.dT ks vs) (.tup [.str (PySem.Str.ofString "high"),.int (p.length:Int)]) (.tup [.str (PySem.Str.ofString "high"),.int (at' h p.length:Nat)])=some (.dT (putD ks vs (nk true p.length) (aM true (at' h p.length))).1 (putD ks vs (nk true p.length) (aM true (at' h p.length))).2):=by
    dsimp only [cw]
    rw [k1,Option.bind_some,if_pos m1]
    rfl
   have u2:∀ ks vs,ks.length<most->cw (.dT ks vs) (.tup [.str (PySem.Str.ofString "low"),.int (p.length:Int)]) (.tup [.str (PySem.Str.ofString "low"),.int (at' l p.length:Nat)])=some (.dT (putD ks vs (nk false p.length) (aM false (at' l p.length))).1 (putD ks vs (nk false p.length) (aM false (at' l p.length))).2):=by
    intro ks vs m
    dsimp only [cw]
    rw [k2,Option.bind_some,if_pos m]
    rfl
   simp only [az,dS,ag,evS,ev,evs,List.set,Option.bind_some,List.getElem?_cons_zero,List.getElem?_cons_succ,id,i1,i2,Option.map_some,D.imm,ai,Bool.and_self,if_true,u1,u2 _ _ m2])
 simp only [List.length_range] at N
 exact ⟨ks,vs,o,N,e⟩
end RM
namespace RM
open RL RT
noncomputable def stp (n:Nat) (h l:List Nat) (s:Bool × Nat):Bool × Nat:=if s.1=decide (n<=s.2) then (!s.1,at' (pick h l (!s.1)) ((s.2+n) % (2*n))) else s
noncomputable def itr (n:Nat) (h l:List Nat):Nat->Bool × Nat->Bool × Nat
 | 0,s=>s
 | i+1,s=>stp n h l (itr n h l i s)
noncomputable def Tr (n:Nat) (s:Bool × Nat) (m:Nat):Prop:=s.1=decide (n<=s.2)/\s.2 % n=m
noncomputable def GD (gk:List Ky) (gv:List D) (k:Nat) (P:Nat->Prop):Prop:=gk.length=gv.length/\gk.length<=k/\∀ m:Nat,(a7 gk gv (.inl (m:Int))).isSome=true↔P m
theorem GD.put {gk:List Ky} {gv:List D} {k:Nat} {P:Nat->Prop} (G:GD gk gv k P) (m0:Nat) (d:D):GD (putD gk gv (.inl (m0:Int)) d).1 (putD gk gv (.inl (m0:Int)) d).2 (k+1) (fun m=>P m\/m0=m):=by
 obtain ⟨g1,g2,g3⟩:=G
 obtain ⟨a1,a2⟩:=eL (x:=(.inl (m0:Int):Ky)) (d:=d) g1
 refine ⟨a1,by omega,fun m=>?_⟩
 rw [ff g1]
 by_cases e:m0=m
 ·subst e
  simp
 ·rw [if_neg (fun c=>e (by injection c; omega)),g3]
  simp [e]
theorem GD.mono {gk:List Ky} {gv:List D} {k k':Nat} {P Q:Nat->Prop} (G:GD gk gv k P) (hk:k<=k') (h:∀ m,P m↔Q m):GD gk gv k' Q :=
 ⟨G.1,by have:=G.2.1; omega,fun m=>(G.2.2 m).trans (h m)⟩
noncomputable def hst (n:Nat) (h l:List Nat) (ks:List (List Ky)) (vs:List D) (o4:Option D) (fnd:List Nat) (gk:List Ky) (gv:List D) (o7 o8:Option D):St :=
 [some (.tup (L h)),some (.tup (L l)),some (.int n),some (.dT ks vs),o4,some (.lst (L fnd)),some (.dK gk gv),o7,o8]
section
variable {fr n:Nat} {h l:List Nat} {ks:List (List Ky)} {vs:List D} {fnd:List Nat}
theorem nD (b:Bool) (x:Nat):ixV (aM b x) (.int 0)=some (.str (sd b)):=rfl
theorem jv (b:Bool) (x:Nat):ixV (aM b x) (.int 1)=some (.int (x:Nat)):=rfl
theorem jz (b:Bool):ixV (.lst [.str (PySem.Str.ofString "high"),.str (PySem.Str.ofString "low")]) (.int (if b=true then 1 else 0))=some (.str (sd !b)):=by cases b <;> rfl
theorem xj (h1:1<=n) (hn:n<=10) (N:ip h l (2*n) ks vs) {b:Bool} {x:Nat} (hx:x<2*n) {gk:List Ky} {gv:List D} {k:Nat} {P:Nat->Prop} (G:GD gk gv k P) (hk:k<=2000) (o4 o8:Option D) (t:D) :
  ∃ gk' gv',GD gk' gv' (k+1) (fun m=>P m\/Tr n (b,x) m)/\(az [8] t (hst n h l ks vs o4 fnd gk gv (some (aM b x)) o8)).bind (ag cl [3,5,6] (cq fr))=some (.nx,hst n h l ks vs o4 fnd gk' gv' (some (aM (stp n h l (b,x)).1 (stp n h l (b,x)).2)) (some t)):=by
 have e1:ay .mul (.int 2) (.int n)=some (.int (2*n)):=bg (by decide) (by decide)
 have cnd:ev cl (hst n h l ks vs o4 fnd gk gv (some (aM b x)) (some t)) (.cmp .eq (.cmp .eq (.ix (.var 7) (.cst (.int 0))) (.cst (.str "high"))) (.cmp .ge (.ix (.var 7) (.cst (.int 1))) (.var 2)))=some (.bl (b == decide (n<=x))):=by
  simp only [hst,ev,Option.bind_some,List.getElem?_cons_zero,List.getElem?_cons_succ,id,nD,jv,aR,eqD,lY,Option.map_some]
  simp
 by_cases e:b=decide (n<=x)
 ·refine ⟨_,_,(G.put (x % n) (.bl true)).mono (Nat.le_refl _) (fun m=>by simp [Tr,e]),?_⟩
  have m1:ay .mod (.int (x:Nat)) (.int n)=some (.int ((x % n:Nat):Int)):=by rw [cN (by omega)]; simp
  have m2:ay .mod (.int ((x:Nat)+(n:Int))) (.int (2*(n:Int)))=some (.int (((x+n) % (2*n):Nat):Int)):=by rw [cN (by omega)]; simp
  have u:cw (.dK gk gv) (.int ((x % n:Nat):Int)) (.bl true)=some (.dK (putD gk gv (.inl ((x % n:Nat):Int)) (.bl true)).1 (putD gk gv (.inl ((x % n:Nat):Int)) (.bl true)).2):=by
   dsimp only [cw,keyOf]
   rw [Option.bind_some,if_pos (by have:=G.2.1; unfold most; omega)]
  have lk:nN (.dT ks vs) (.tup [.str (sd !b),.int (((x+n) % (2*n):Nat):Int)])=some (aM (!b) (at' (pick h l !b) ((x+n) % (2*n)))):=by
   have:=N.2.2 (!b) ((x+n) % (2*n)) (Nat.mod_lt _ (by omega))
   rw [<- this]
   rfl
  have s1:stp n h l (b,x)=(!b,at' (pick h l !b) ((x+n) % (2*n))):=by unfold stp; rw [if_pos e]
  rw [s1]
  have eb:(b == decide (n<=x))=true:=by simp [e]
  rw [eb] at cnd
  simp only [az,hst,List.set,Option.bind_some,cq,ag,evS] at cnd ⊢
  rw [cnd]
  simp only [Option.bind_some,truth,if_true,ag,evS,ev,evs,List.getElem?_cons_zero,List.getElem?_cons_succ,id,nD,jv,m1,u,D.imm,Option.map_some,List.set,aR,eqD,lY,biV,jz,bL,e1,m2,lk]
  have ok:bj [3,5,6] (.ixD (.var 3) (.tup (.cons (.ix (.lst (.cons (.cst (.str "high")) (.cons (.cst (.str "low")) .nil))) (.bi .int (.cmp .eq (.ix (.var 7) (.cst (.int 0))) (.cst (.str "high"))))) (.cons (.bin .mod (.bin .add (.ix (.var 7) (.cst (.int 1))) (.var 2)) (.bin .mul (.cst (.int 2)) (.var 2))) .nil)))) (aM (!b) (at' (pick h l !b) ((x+n) % (2*n))))=true:=rfl
  rw [if_pos ok]
  rfl
 ·refine ⟨gk,gv,G.mono (by omega) (fun m=>by simp [Tr,e]),?_⟩
  have s1:stp n h l (b,x)=(b,x):=by unfold stp; rw [if_neg e]
  rw [s1]
  have eb:(b == decide (n<=x))=false:=by simp [e]
  rw [eb] at cnd
  simp only [az,hst,List.set,Option.bind_some,cq,ag,evS] at cnd ⊢
  rw [cnd]
  simp [truth,ag]
theorem zP (hh:∀ x,x<2*n->at' h x<2*n) (hl:∀ x,x<2*n->at' l x<2*n) {s:Bool × Nat} (hs:s.2<2*n):(stp n h l s).2<2*n:=by
 unfold stp
 split
 ·have m:(s.2+n) % (2*n)<2*n:=Nat.mod_lt _ (by omega)
  cases s.1
  ·exact hh _ m
  ·exact hl _ m
 ·exact hs
theorem qp (hh:∀ x,x<2*n->at' h x<2*n) (hl:∀ x,x<2*n->at' l x<2*n) {s:Bool × Nat} (hs:s.2<2*n):∀ i,(itr n h l i s).2<2*n
 | 0=>hs
 | i+1=>zP hh hl (qp hh hl hs i)
noncomputable def Met (n:Nat) (h l:List Nat) (s:Bool × Nat) (i:Nat) (m:Nat):Prop:=∃ j,j<i/\Tr n (itr n h l j s) m
theorem v7 (h1:1<=n) (hn:n<=10) (N:ip h l (2*n) ks vs) (hh:∀ x,x<2*n->at' h x<2*n) (hl:∀ x,x<2*n->at' l x<2*n) {s:Bool × Nat} (hs:s.2<2*n) {gk:List Ky} {gv:List D} {k:Nat} {P:Nat->Prop} (G:GD gk gv k P) (hk:k<=1000) (o4 o8:Option D) :
  ∃ gk' gv' o8',GD gk' gv' (k+4*n) (fun m=>P m\/Met n h l s (4*n) m)/\bb (ag cl [3,5,6] (cq fr)) [8] (L (List.range (4*n))) (hst n h l ks vs o4 fnd gk gv (some (aM s.1 s.2)) o8)=some (.nx,hst n h l ks vs o4 fnd gk' gv' (some (aM (itr n h l (4*n) s).1 (itr n h l (4*n) s).2)) o8'):=by
 obtain ⟨σ',e,gk',gv',o8',rfl,G'⟩:=cm (f:=ag cl [3,5,6] (cq fr)) (tg:=[8]) (xs:=List.range (4*n)) (σ:=hst n h l ks vs o4 fnd gk gv (some (aM s.1 s.2)) o8)
  (fun p σ=>∃ gk' gv' o8',σ=hst n h l ks vs o4 fnd gk' gv' (some (aM (itr n h l p.length s).1 (itr n h l p.length s).2)) o8'/\GD gk' gv' (k+p.length) (fun m=>P m\/Met n h l s p.length m))
  ⟨gk,gv,o8,rfl,G.mono (by simp) (fun m=>by simp [Met])⟩ (by
   rintro p x q σ hx ⟨gk',gv',o8',rfl,G'⟩
   obtain ⟨a1,a2⟩:=cv (g:=id) (by simpa using hx)
   obtain ⟨gk2,gv2,G2,e2⟩:=xj (cl:=cl) (fr:=fr) (fnd:=fnd) h1 hn N (qp hh hl hs p.length) G' (by omega) o4 o8' (.int (x:Nat)) (b:=(itr n h l p.length s).1)
   refine ⟨_,e2,gk2,gv2,_,by rw [List.length_append]; rfl,G2.mono (by simp; omega) (fun m=>?_)⟩
   simp only [Met,List.length_append,List.length_singleton]
   constructor
   ·rintro ((hp | ⟨j,h1,h2⟩) | h2)
    ·exact .inl hp
    ·exact .inr ⟨j,by omega,h2⟩
    ·exact .inr ⟨p.length,by omega,h2⟩
   ·rintro (hp | ⟨j,h1,h2⟩)
    ·exact .inl (.inl hp)
    ·by_cases hj:j=p.length
     ·subst hj
      exact .inr h2
     ·exact .inl (.inr ⟨j,by omega,h2⟩))
 simp only [List.length_range] at G' e
 exact ⟨gk',gv',o8',G',e⟩
noncomputable def beg (n:Nat) (h l:List Nat) (p:Nat):Bool × Nat:=(decide (p<n),at' (pick h l (decide (p<n))) p)
noncomputable def eX (n:Nat) (h l:List Nat):List Nat:=(List.range (2*n)).map fun p=>(itr n h l (4*n) (beg n h l p)).2
noncomputable def Gn (n:Nat) (h l:List Nat) (k m:Nat):Prop:=∃ p,p<k/\Met n h l (beg n h l p) (4*n) m
theorem Bk (b:Bool):ixV (.lst [.str (PySem.Str.ofString "high"),.str (PySem.Str.ofString "low")]) (.int (if b=true then 1 else 0))=some (.str (sd !b)):=jz b
theorem wF (h1:1<=n) (hn:n<=10) (N:ip h l (2*n) ks vs) (hh:∀ x,x<2*n->at' h x<2*n) (hl:∀ x,x<2*n->at' l x<2*n) (o4 o7 o8:Option D) :
  ∃ gk gv o4' o7' o8',GD gk gv 1000 (Gn n h l (2*n))/\bb (ag cl [3,5,6] (dQ fr)) [4] (L (List.range (2*n))) (hst n h l ks vs o4 [] [] [] o7 o8)=some (.nx,hst n h l ks vs o4' (eX n h l) gk gv o7' o8'):=by
 have e4:ay .mul (.int 4) (.int n)=some (.int (4*n)):=bg (by decide) (by decide)
 have r4:=bC (n:=4*n) (by omega)
 rw [show ((4*n:Nat):Int)=4*(n:Int) by omega] at r4
 obtain ⟨σ',e,gk,gv,o4',o7',o8',rfl,G⟩:=cm (f:=ag cl [3,5,6] (dQ fr)) (tg:=[4]) (xs:=List.range (2*n)) (σ:=hst n h l ks vs o4 [] [] [] o7 o8)
  (fun p σ=>∃ gk gv o4' o7' o8',σ=hst n h l ks vs o4' ((List.range p.length).map fun p=>(itr n h l (4*n) (beg n h l p)).2) gk gv o7' o8'/\GD gk gv (40*p.length) (Gn n h l p.length))
  ⟨[],[],o4,o7,o8,rfl,rfl,by simp,fun m=>by simp [a7,Gn]⟩ (by
   rintro p x q σ hx ⟨gk,gv,o4',o7',o8',rfl,G⟩
   obtain ⟨a1,a2⟩:=cv (g:=id) (by simpa using hx)
   simp only [id] at a2
   subst a2
   have hb:(beg n h l p.length).2<2*n:=by
    unfold beg pick
    cases decide (p.length<n)
    ·exact hl _ a1
    ·exact hh _ a1
   obtain ⟨gk2,gv2,o82,G2,e2⟩:=v7 (cl:=cl) (fr:=fr) (fnd:=(List.range p.length).map fun p=>(itr n h l (4*n) (beg n h l p)).2) h1 hn N hh hl hb G (by omega) (some (.int (p.length:Nat))) o8'
   have c1:aR .ge (.int (p.length:Nat)) (.int n)=some (!decide (p.length<n)):=by
    rw [u9]
    congr 1
    by_cases c:p.length<n
    ·simp [c]
    ·simp [c]; omega
   have lk:nN (.dT ks vs) (.tup [.str (sd (decide (p.length<n))),.int (p.length:Nat)])=some (aM (beg n h l p.length).1 (beg n h l p.length).2):=by
    have:=N.2.2 (decide (p.length<n)) p.length a1
    rw [show aM (beg n h l p.length).1 (beg n h l p.length).2=aM (decide (p.length<n)) (at' (pick h l (decide (p.length<n))) p.length) from rfl,<- this]
    rfl
   have sx:=jz (!decide (p.length<n))
   rw [Bool.not_not] at sx
   refine ⟨hst n h l ks vs (some (.int (p.length:Nat))) ((List.range (p ++ [p.length]).length).map fun p=>(itr n h l (4*n) (beg n h l p)).2) gk2 gv2 (some (aM (itr n h l (4*n) (beg n h l p.length)).1 (itr n h l (4*n) (beg n h l p.length)).2)) o82,?_,gk2,gv2,_,_,_,rfl,G2.mono (by simp; omega) (fun m=>?_)⟩
   ·have ok:bj [3,5,6] (.ixD (.var 3) (.tup (.cons (.ix (.lst (.cons (.cst (.str "high")) (.cons (.cst (.str "low")) .nil))) (.bi .int (.cmp .ge (.var 4) (.var 2)))) (.cons (.var 4) .nil)))) (aM (beg n h l p.length).1 (beg n h l p.length).2)=true:=rfl
    simp only [az,hst,List.set,Option.bind_some,dQ,ag,evS,ev,evs,a8,List.getElem?_cons_zero,List.getElem?_cons_succ,id,c1,Option.map_some,biV,sx,lk,e4,r4] at e2 ⊢
    rw [if_pos ok]
    simp only [Option.bind_some,e4,r4,List.getElem?_cons_zero,List.getElem?_cons_succ,id,e2,jv]
    have ml:((D.int (((itr n h l (4*n) (beg n h l p.length)).2:Nat):Int)).imm && decide ((L (List.map (fun p=>(itr n h l (4*n) (beg n h l p)).snd) (List.range p.length))).length<most))=true:=by
     simp [D.imm,aV,most]
     omega
    rw [if_pos ml]
    simp [L,List.range_succ]
   ·simp only [Gn,List.length_append,List.length_singleton]
    constructor
    ·rintro (⟨j,h1,h2⟩ | h2)
     ·exact ⟨j,by omega,h2⟩
     ·exact ⟨p.length,by omega,h2⟩
    ·rintro ⟨j,h1,h2⟩
     by_cases hj:j=p.length
     ·subst hj
      exact .inr h2
     ·exact .inl ⟨j,by omega,h2⟩)
 simp only [List.length_range] at G e
 exact ⟨gk,gv,o4',o7',o8',G.mono (by omega) (fun _=>Iff.rfl),e⟩
theorem uo (h1:1<=n) (hn:n<=10) (h2:h.length=2*n) (l2:l.length=2*n) (hh:∀ x,x<2*n->at' h x<2*n) (hl:∀ x,x<2*n->at' l x<2*n) :
  ∃ inner:List Nat,(∀ m,m∈inner↔m<n/\¬ Gn n h l (2*n) m)/\inner.length<=n/\∀ r:Int,cl fr [.tup (L h),.tup (L l),.lst (L inner)]=some (.int r)->evF cl (cX fr) [.tup (L h),.tup (L l)]=some (.tup [.tup (L (eX n h l)),.int r]):=by
 have e1:ay .mul (.int 2) (.int n)=some (.int (2*n)):=bg (by decide) (by decide)
 have r2:=bC (n:=2*n) (by omega)
 rw [show ((2*n:Nat):Int)=2*(n:Int) by omega] at r2
 have r1:=bC (n:=n) (by omega)
 obtain ⟨ks,vs,o,N,en⟩:=rS (cl:=cl) (fr:=fr) hn h2 l2
 obtain ⟨gk,gv,o4,o7,o8,G,eb⟩:=wF (cl:=cl) (fr:=fr) h1 hn N hh hl o none none
 refine ⟨(List.range n).filter fun m:Nat=>!(a7 gk gv (.inl (m:Int))).isSome,fun m=>?_,?_,?_⟩
 ·have:=G.2.2 m
  simp [<- this]
 ·have:=List.length_filter_le (fun m:Nat=>!(a7 gk gv (.inl (m:Int))).isSome) (List.range n)
  simpa using this
 ·intro r hr
  have e6:=half (xs:=L h) (n:=n) (by rw [aV,h2])
  have e7:=sS n
  have ft:=gi (xs:=List.range n) (by simp; omega)
  have mc:=rH (F:=fun σ1=>((ev cl σ1 (.inD true (.var 4) (.var 6))).bind truth).bind fun k=>if k then (ev cl σ1 (.var 4)).map some else some none) (tg:=[4]) (σ:=hst n h l ks vs o4 (eX n h l) gk gv o7 o8) (g:=fun m=>.int (m:Nat)) (c:=fun m=>!(a7 gk gv (.inl (m:Int))).isSome) (fun _=>rfl) (List.range n) (by
   intro x _
   simp only [az,hst,List.set,Option.bind_some,ev,List.getElem?_cons_zero,List.getElem?_cons_succ,id,tJ,keyOf,Option.map_some,truth,if_true]
   cases (a7 gk gv (.inl (x:Int))).isSome <;> rfl)
  simp only [evF,cX,ag,evS,ev,a8]
  simp [ev,e6,e7,bj,D.imm,a5,ai,e1,r2]
  rw [en]
  simp [ag,evS,ev,evs,a8,e1,r2,a5,ai,D.imm]
  simp [hst] at eb
  rw [show L []=[] from rfl] at eb
  rw [eb]
  simp [ag,evS,ev,evs,a8,r1,ft,biV,items]
  simp [ev,hst] at mc
  rw [mc]
  rw [show (List.map (fun m:Nat=>D.int (m:Int)) (List.filter (fun m:Nat=>(a7 gk gv (Sum.inl (m:Int))).isNone) (List.range n)))=L (List.filter (fun m:Nat=>(a7 gk gv (Sum.inl (m:Int))).isNone) (List.range n)) from rfl]
  simp at hr
  simp [hr,aJ,D.imm,ai,bf,aE]
end
end RM
namespace RM
open RL RT
theorem ny {κ:Type} [DecidableEq κ]:∀ {ks:List κ} {vs:List D} {x:κ} {d:D},a7 ks vs x=some d->x∈ks
 | k :: ks,v :: vs,x,d,h=>by
  rw [a7] at h
  by_cases e:k=x
  ·simp [e]
  ·rw [if_neg e] at h
   simp [ny h]
theorem sX {κ:Type} [DecidableEq κ] {ks:List κ} {vs:List D} {x:κ} {d e:D} (h:a7 ks vs x=some d):(putD ks vs x e).1=ks:=by
 unfold putD
 rw [if_pos (ny h)]
noncomputable def HI (inner:List Nat) (hk:List Ky) (hv:List D):Prop:=hk.length=hv.length/\hk.length<=10/\∀ m∈inner,∃ v:Int,a7 hk hv (.inl (m:Int))=some (.int v)
theorem HI.put {inner:List Nat} {hk:List Ky} {hv:List D} (H:HI inner hk hv) {m:Nat} (hm:m∈inner) (v:Int):HI inner (putD hk hv (.inl (m:Int)) (.int v)).1 (putD hk hv (.inl (m:Int)) (.int v)).2:=by
 obtain ⟨a,b,c⟩:=H
 obtain ⟨v0,h0⟩:=c m hm
 refine ⟨(eL a).1,by rw [sX h0]; exact b,fun i hi=>?_⟩
 rw [ff a]
 by_cases e:(.inl (m:Int):Ky)=.inl (i:Int)
 ·rw [if_pos e]; exact ⟨v,rfl⟩
 ·rw [if_neg e]; exact c i hi
noncomputable def rst (n:Nat) (h l inner:List Nat) (hk:List Ky) (hv:List D) (o5 o6 o7 o8 o9:Option D):St :=
 [some (.tup (L h)),some (.tup (L l)),some (.lst (L inner)),some (.int n),some (.dK hk hv),o5,o6,o7,o8,o9]
section
variable {n:Nat} {h l inner:List Nat}
theorem lU {hk:List Ky} {hv:List D} {m:Nat} {v:Int} (e:a7 hk hv (.inl (m:Int))=some (.int v)):nN (.dK hk hv) (.int (m:Nat))=some (.int v):=e
theorem wJ {hk:List Ky} {hv:List D} (H:HI inner hk hv) (o5 o6 o7:Option D) (keep go:Int):∃ hk' hv' o7',HI inner hk' hv'/\bb (ag cl [4] bG) [7] (L inner) (rst n h l inner hk hv o5 o6 o7 (some (.int keep)) (some (.int go)))=some (.nx,rst n h l inner hk' hv' o5 o6 o7' (some (.int keep)) (some (.int go))):=by
 obtain ⟨σ',e,hk',hv',o7',rfl,H'⟩:=cm (f:=ag cl [4] bG) (tg:=[7]) (xs:=inner) (σ:=rst n h l inner hk hv o5 o6 o7 (some (.int keep)) (some (.int go)))
  (fun p σ=>∃ hk' hv' o7',σ=rst n h l inner hk' hv' o5 o6 o7' (some (.int keep)) (some (.int go))/\HI inner hk' hv') ⟨hk,hv,o7,rfl,H⟩ (by
   rintro p x q σ hx ⟨hk',hv',o7',rfl,H'⟩
   have hm:x∈inner:=by rw [hx]; simp
   obtain ⟨v,hv0⟩:=H'.2.2 x hm
   have lk:=lU hv0
   by_cases c:v=go
   ·refine ⟨_,?_,_,_,some (.int (x:Nat)),rfl,H'.put hm keep⟩
    have cc:(v == go)=true:=by simp [c]
    have u:cw (.dK hk' hv') (.int (x:Nat)) (.int keep)=some (.dK (putD hk' hv' (.inl (x:Int)) (.int keep)).1 (putD hk' hv' (.inl (x:Int)) (.int keep)).2):=by
     dsimp only [cw,keyOf]
     rw [Option.bind_some,if_pos (by have:=H'.2.1; unfold most; omega)]
    simp only [az,rst,List.set,Option.bind_some,bG,ag,evS,ev,List.getElem?_cons_zero,List.getElem?_cons_succ,id,lk,cU,cc,Option.map_some,truth,if_true,D.imm,u]
   ·refine ⟨_,?_,hk',hv',some (.int (x:Nat)),rfl,H'⟩
    have cc:(v == go)=false:=by simp [c]
    simp only [az,rst,List.set,Option.bind_some,bG,ag,evS,ev,List.getElem?_cons_zero,List.getElem?_cons_succ,id,lk,cU,cc,Option.map_some,truth]
    rfl)
 exact ⟨hk',hv',o7',H',e⟩
theorem sA {hk:List Ky} {hv:List D} (H:HI inner hk hv) {m:Nat} (hm:m∈inner) {xs:List Nat} (hxs:∀ x∈xs,x∈inner) (o6 o7 o8 o9:Option D):∃ hk' hv' o6' o7' o8' o9',HI inner hk' hv'/\bb (ag cl [4] c6) [6] (L xs) (rst n h l inner hk hv (some (.int (m:Nat))) o6 o7 o8 o9)=some (.nx,rst n h l inner hk' hv' (some (.int (m:Nat))) o6' o7' o8' o9'):=by
 obtain ⟨σ',e,hk',hv',o6',o7',o8',o9',rfl,H'⟩:=cm (f:=ag cl [4] c6) (tg:=[6]) (xs:=xs) (σ:=rst n h l inner hk hv (some (.int (m:Nat))) o6 o7 o8 o9)
  (fun p σ=>∃ hk' hv' o6' o7' o8' o9',σ=rst n h l inner hk' hv' (some (.int (m:Nat))) o6' o7' o8' o9'/\HI inner hk' hv') ⟨hk,hv,o6,o7,o8,o9,rfl,H⟩ (by
   rintro p x q σ hx ⟨hk',hv',o6',o7',o8',o9',rfl,H'⟩
   have hx':x∈inner:=hxs x (by rw [hx]; simp)
   obtain ⟨v,hv0⟩:=H'.2.2 x hx'
   obtain ⟨w,hw0⟩:=H'.2.2 m hm
   have lk:=lU hv0
   have lw:=lU hw0
   obtain ⟨hk2,hv2,o72,H2,e2⟩:=wJ (cl:=cl) (n:=n) (h:=h) (l:=l) H' (some (.int (m:Nat))) (some (.int (x:Nat))) o7' w v
   refine ⟨_,?_,hk2,hv2,some (.int (x:Nat)),o72,some (.int w),some (.int v),rfl,H2⟩
   ·simp only [az,rst,List.set,Option.bind_some,c6,ag,evS,ev,a8,items,List.getElem?_cons_zero,List.getElem?_cons_succ,id,lk,lw,D.imm,Bool.and_self,if_true] at e2 ⊢
    rw [e2]
    rfl)
 exact ⟨hk',hv',o6',o7',o8',o9',H',e⟩
theorem ints_map (v:Nat->Int):∀ xs:List Nat,bM (xs.map fun m=>.int (v m))=some (xs.map v)
 | []=>rfl
 | x :: r=>by simp [bM,ints_map v r]
theorem rO (hn:n<=10) (h2:h.length=2*n) (l2:l.length=2*n) (hi:inner.length<=n) (hin:∀ m∈inner,m<n/\at' l m∈inner/\∃ j∈inner,at' h (n+m)=n+j):∃ r:Int,evF cl cG [.tup (L h),.tup (L l),.lst (L inner)]=some (.int r):=by
 have e6:=half (xs:=L h) (n:=n) (by rw [aV,h2])
 have e7:=sS n
 obtain ⟨σ1,l1,hk,hv,o5,rfl,H0,H1,H2⟩:=cm (f:=ag cl [4] dB) (tg:=[5]) (xs:=inner) (σ:=rst n h l inner [] [] none none none none none)
  (fun p σ=>∃ hk hv o5,σ=rst n h l inner hk hv o5 none none none none/\hk.length=hv.length/\hk.length<=p.length/\∀ m∈p,∃ v:Int,a7 hk hv (.inl (m:Int))=some (.int v)) ⟨[],[],none,rfl,rfl,by simp,by simp⟩ (by
   rintro p x q σ hx ⟨hk,hv,o5,rfl,H0,H1,H2⟩
   have hp:p.length<10:=by
    have:=congrArg List.length hx
    simp at this
    omega
   have pl:=eL (x:=(.inl (x:Int):Ky)) (d:=.int (x:Nat)) H0
   refine ⟨_,?_,(putD hk hv (.inl (x:Int)) (.int (x:Nat))).1,(putD hk hv (.inl (x:Int)) (.int (x:Nat))).2,some (.int (x:Nat)),rfl,pl.1,by have:=pl.2; simp; omega,fun m hm=>?_⟩
   ·have u:cw (.dK hk hv) (.int (x:Nat)) (.int (x:Nat))=some (.dK (putD hk hv (.inl (x:Int)) (.int (x:Nat))).1 (putD hk hv (.inl (x:Int)) (.int (x:Nat))).2):=by
     dsimp only [cw,keyOf]
     rw [Option.bind_some,if_pos (by unfold most; omega)]
    simp only [az,rst,List.set,Option.bind_some,dB,ag,evS,ev,List.getElem?_cons_zero,List.getElem?_cons_succ,id,D.imm,if_true,u,Option.map_some]
   ·rw [ff H0]
    by_cases e:(.inl (x:Int):Ky)=.inl (m:Int)
    ·rw [if_pos e]; exact ⟨_,rfl⟩
    ·rw [if_neg e]
     simp at hm
     rcases hm with hm | hm
     ·exact H2 m hm
     ·exact absurd (by rw [hm]) e)
 have H:HI inner hk hv:=⟨H0,by omega,H2⟩
 obtain ⟨σ2,l2',hk',hv',o5',o6',o7',o8',o9',rfl,H'⟩:=cm (f:=ag cl [4] cW) (tg:=[5]) (xs:=inner) (σ:=rst n h l inner hk hv o5 none none none none)
  (fun p σ=>∃ hk hv o5 o6 o7 o8 o9,σ=rst n h l inner hk hv o5 o6 o7 o8 o9/\HI inner hk hv) ⟨hk,hv,o5,none,none,none,none,rfl,H⟩ (by
   rintro p x q σ hx ⟨hk',hv',o5',o6',o7',o8',o9',rfl,H'⟩
   have hm:x∈inner:=by rw [hx]; simp
   obtain ⟨xn,ha,j,hj,hjj⟩:=hin x hm
   obtain ⟨hk2,hv2,o62,o72,o82,o92,H2,e2⟩:=sA (cl:=cl) (n:=n) (h:=h) (l:=l) H' hm (xs:=[at' l x,j]) (by intro y hy; simp at hy; rcases hy with rfl | rfl <;> assumption) o6' o7' o8' o9'
   have i1:=cM (f:=l) (x:=x) (by omega)
   have i2:=cM (f:=h) (x:=n+x) (by omega)
   rw [hjj] at i2
   have s1:((n+x:Nat):Int)=(n:Int)+x:=by omega
   have s2:((n+j:Nat):Int)-n=(j:Nat):=by omega
   rw [s1] at i2
   refine ⟨_,?_,hk2,hv2,some (.int (x:Nat)),o62,o72,o82,o92,rfl,H2⟩
   simp only [az,rst,List.set,Option.bind_some,cW,ag,evS,ev,evs,a8,items,List.getElem?_cons_zero,List.getElem?_cons_succ,id,i1,i2,bL,iT,s2,Option.map_some] at e2 ⊢
   simp only [L,List.map_cons,List.map_nil] at e2 ⊢
   rw [e2]
   rfl)
 let v:Nat->Int:=fun m=>match a7 hk' hv' (.inl (m:Int)) with
  | some (.int v)=>v
  | _=>0
 have mc:=fZ (F:=fun σ1=>(ev cl σ1 (.ixD (.var 4) (.var 5))).map some) (tg:=[5]) (σ:=rst n h l inner hk' hv' o5' o6' o7' o8' o9') (g:=fun m=>.int (v m)) (fun _=>rfl) inner (by
  intro x hx
  obtain ⟨w,hw⟩:=H'.2.2 x hx
  have vw:v x=w:=by simp only [v,hw]
  have lk:=lU hw
  simp only [az,rst,List.set,Option.bind_some,ev,List.getElem?_cons_zero,List.getElem?_cons_succ,id,lk,Option.map_some,vw])
 have ft:=gi (xs:=inner) (by omega)
 refine ⟨((gj (inner.map v)).length:Int),?_⟩
 have ls:biV .lenSet (.lst (inner.map fun m=>.int (v m)))=some (.int ((gj (inner.map v)).length:Int)):=by
  dsimp only [biV]
  rw [if_pos (by simp; omega),ints_map]
  rfl
 simp only [rst] at l1 l2' mc
 simp only [evF,cG,ag,evS,ev,a8]
 simp [ev,e6,e7,bj,D.imm,a5,ai,items]
 rw [l1]
 simp [ag,evS,ev,a8,items]
 rw [l2']
 simp [ag,evS,ev,a8,items,ft]
 simp [ev] at mc
 rw [mc]
 simp [ls,aJ,D.imm,aE]
end
end RM
namespace RM
open RL RT
noncomputable def du (n:Nat) (f:List Nat):List Nat:=(List.range (2*n)).map fun p=>if p<n then (if at' f p<n then at' f p else p+n) else (if at' f (p-n)<n then at' f (p-n)+n else p-n)
theorem fL {n:Nat} {f:List Nat} {p:Nat} (h:p<2*n):at' (du n f) p=if p<n then (if at' f p<n then at' f p else p+n) else (if at' f (p-n)<n then at' f (p-n)+n else p-n):=by
 unfold du
 rw [at']
 rw [List.getElem?_map,List.getElem?_range h]
 rfl
theorem fk {n:Nat} {h l:List Nat} {s:Bool × Nat} (hs:stp n h l s=s):∀ i,itr n h l i s=s
 | 0=>rfl
 | i+1=>by rw [itr,fk hs i,hs]
theorem gh {n:Nat} {h l:List Nat} {s t:Bool × Nat} (hs:stp n h l s=t) (ht:stp n h l t=t):∀ i,itr n h l (i+1) s=t
 | 0=>hs
 | i+1=>by rw [itr,gh hs ht i,ht]
section
variable {n:Nat} {f:List Nat}
theorem pf (F:Frm n f) {p:Nat} (h:p<n):at' (aG n f) p=if at' f (p+n)<n then at' f (p+n)+n else at' f (p+n)-n:=by
 rw [k9 (by omega),Nat.mod_eq_of_lt (a:=p+n) (by omega)]
 have:=F.lt (p+n) (by omega)
 split
 ·rw [Nat.mod_eq_of_lt (by omega)]
 ·rw [Nat.mod_eq_sub_mod (by omega),Nat.mod_eq_of_lt (by omega)]; omega
theorem vI (F:Frm n f) {p:Nat} (h:n<=p) (h2:p<2*n):at' (aG n f) p=if at' f (p-n)<n then at' f (p-n)+n else at' f (p-n)-n:=by
 rw [k9 (by omega),show (p+n) % (2*n)=p-n by rw [Nat.mod_eq_sub_mod (by omega),Nat.mod_eq_of_lt (by omega)]; omega]
 have:=F.lt (p-n) (by omega)
 split
 ·rw [Nat.mod_eq_of_lt (by omega)]
 ·rw [Nat.mod_eq_sub_mod (by omega),Nat.mod_eq_of_lt (by omega)]; omega
theorem pe (F:Frm n f) {p:Nat} (hp:p<2*n):(∀ i,(itr n f (aG n f) (i+1) (beg n f (aG n f) p)).2=at' (du n f) p)/\∀ i m,m<n->Tr n (itr n f (aG n f) i (beg n f (aG n f) p)) m->at' f (n+m)<n:=by
 rw [fL hp]
 by_cases h:p<n
 ·have b0:beg n f (aG n f) p=(true,at' f p):=by simp [beg,h,pick]
  rw [b0,if_pos h]
  have l0:=F.lt p (by omega)
  by_cases c:at' f p<n
  ·have st:stp n f (aG n f) (true,at' f p)=(true,at' f p):=by
    unfold stp
    rw [if_neg (by simp; omega)]
   refine ⟨fun i=>by rw [fk st,if_pos c],fun i m hm t=>?_⟩
   rw [fk st] at t
   have:=t.1
   simp at this
   omega
  ·have st:stp n f (aG n f) (true,at' f p)=(false,p+n):=by
    unfold stp
    rw [if_pos (by simp; omega)]
    show (false,at' (aG n f) ((at' f p+n) % (2*n)))=_
    rw [show (at' f p+n) % (2*n)=at' f p-n by rw [Nat.mod_eq_sub_mod (by omega),Nat.mod_eq_of_lt (by omega)]; omega,pf F (by omega),show at' f p-n+n=at' f p by omega,F.inv,if_pos h]
   have s2:stp n f (aG n f) (false,p+n)=(false,p+n):=by
    unfold stp
    rw [if_neg (by simp)]
   refine ⟨fun i=>by rw [gh st s2,if_neg c],fun i m hm t=>?_⟩
   cases i with
   | zero =>
    have t2:=t.2
    simp only [itr] at t2
    have:n+m=at' f p:=by
     rw [Nat.mod_eq_sub_mod (by omega),Nat.mod_eq_of_lt (by omega)] at t2
     omega
    rw [this,F.inv]
    exact h
   | succ i =>
    rw [gh st s2] at t
    have:=t.1
    simp at this
 ·have b0:beg n f (aG n f) p=(false,at' (aG n f) p):=by simp [beg,h,pick]
  rw [b0,if_neg h,vI F (by omega) hp]
  have l0:=F.lt (p-n) (by omega)
  by_cases c:at' f (p-n)<n
  ·rw [if_pos c,if_pos c]
   have st:stp n f (aG n f) (false,at' f (p-n)+n)=(false,at' f (p-n)+n):=by
    unfold stp
    rw [if_neg (by simp)]
   refine ⟨fun i=>by rw [fk st],fun i m hm t=>?_⟩
   rw [fk st] at t
   have:=t.1
   simp at this
  ·rw [if_neg c,if_neg c]
   have st:stp n f (aG n f) (false,at' f (p-n)-n)=(true,p-n):=by
    unfold stp
    rw [if_pos (by simp; omega)]
    show (true,at' f ((at' f (p-n)-n+n) % (2*n)))=_
    rw [show at' f (p-n)-n+n=at' f (p-n) by omega,Nat.mod_eq_of_lt l0,F.inv]
   have s2:stp n f (aG n f) (true,p-n)=(true,p-n):=by
    unfold stp
    rw [if_neg (by simp; omega)]
   refine ⟨fun i=>by rw [gh st s2],fun i m hm t=>?_⟩
   cases i with
   | zero =>
    have t2:=t.2
    simp only [itr] at t2
    rw [Nat.mod_eq_of_lt (by omega)] at t2
    have:n+m=at' f (p-n):=by omega
    rw [this,F.inv]
    omega
   | succ i =>
    rw [gh st s2] at t
    have:=t.1
    simp at this
    omega
theorem rf (h1:1<=n) (F:Frm n f):eX n f (aG n f)=du n f:=by
 apply xw (n:=n) (by simp [eX]) (by simp [du])
 funext p
 by_cases hp:p<2*n
 ·have:=(pe F hp).1 (4*n-1)
  rw [<- this,show 4*n-1+1=4*n by omega]
  simp [at',eX,hp]
 ·rw [fU (by simp [eX]; omega),fU (by simp [du]; omega)]
theorem nG (h1:1<=n) (F:Frm n f) {m:Nat} (hm:m<n):Gn n f (aG n f) (2*n) m↔at' f (n+m)<n:=by
 constructor
 ·rintro ⟨p,hp,j,hj,t⟩
  exact (pe F hp).2 j m hm t
 ·intro h
  refine ⟨at' f (n+m),by omega,0,by omega,?_⟩
  have b0:beg n f (aG n f) (at' f (n+m))=(true,n+m):=by simp [beg,h,pick,F.inv]
  rw [itr,b0]
  refine ⟨by simp,?_⟩
  show (n+m) % n=m
  rw [Nat.add_mod_left,Nat.mod_eq_of_lt hm]
theorem wK (F:Frm n f):Frm n (du n f):=by
 have lt:∀ x,x<2*n->at' (du n f) x<2*n:=by
  intro x hx
  rw [fL hx]
  have a:=F.lt x hx
  have b:=F.lt (x-n) (by omega)
  repeat' split
  all_goals omega
 refine ⟨by simp [du],lt,fun x=>?_,fun x hx=>?_⟩
 ·by_cases hx:x<2*n
  ·rw [fL (lt x hx),fL hx]
   by_cases c:x<n
   ·rw [if_pos c]
    by_cases d:at' f x<n
    ·rw [if_pos d,if_pos d,F.inv,if_pos c]
    ·rw [if_neg d,if_neg (by omega),show x+n-n=x by omega,if_neg d]
   ·rw [if_neg c]
    by_cases d:at' f (x-n)<n
    ·rw [if_pos d,if_neg (by omega),show at' f (x-n)+n-n=at' f (x-n) by omega,F.inv,if_pos (by omega)]
     omega
    ·rw [if_neg d,if_pos (by omega),if_neg d]
     omega
  ·have e:at' (du n f) x=x:=fU (by simp [du]; omega)
   rw [e,e]
 ·rw [fL hx]
  have a:=F.no x hx
  have b:=F.no (x-n) (by omega)
  repeat' split
  all_goals omega
theorem qt (F:Frm n f) {q:Nat} (h:q<n):rnd n f q=if at' f q<n then at' f q else 3*n-1-at' f q:=by
 unfold rnd
 rw [show rd n q=q by simp [rd,h]]
 rfl
theorem pb (F:Frm n f) {q:Nat} (h:q<2*n):rnd n (du n f) q=if q<n then (if at' f q<n then at' f q else 2*n-1-q) else (if at' f (2*n-1-q)<n then 2*n-1-at' f (2*n-1-q) else 2*n-1-q):=by
 unfold rnd
 rw [fL (aW h)]
 by_cases c:q<n
 ·have e:rd n q=q:=by simp [rd,c]
  rw [e,if_pos c,if_pos c]
  by_cases d:at' f q<n
  ·rw [if_pos d,if_pos d]
   simp [rd,d]
  ·rw [if_neg d,if_neg d]
   unfold rd
   rw [if_neg (by omega)]
   omega
 ·have e:rd n q=3*n-1-q:=by simp [rd,c]
  rw [e,if_neg c,if_neg (by omega),show 3*n-1-q-n=2*n-1-q by omega]
  by_cases d:at' f (2*n-1-q)<n
  ·rw [if_pos d,if_pos d]
   unfold rd
   rw [if_neg (by omega)]
   omega
  ·rw [if_neg d,if_neg d]
   unfold rd
   rw [if_pos (by omega)]
theorem wj (V:Val n f):Val n (du n f):=by
 have F:=V.frm
 refine ⟨wK F,fun q q' h1 h2=>?_⟩
 have X:∀ a b,a<n->b<n->at' f a<n->¬ (a<b/\b<at' f a/\(at' f a<at' f b\/n<=at' f b)):=by
  intro a b ha hb hc ⟨c1,c2,c3⟩
  have:=V.nox a b (by omega) (by omega)
  rw [qt F ha,qt F hb,if_pos hc] at this
  have lb:=F.lt b (by omega)
  split at this <;> omega
 rw [pb F h1,pb F h2]
 rintro ⟨a1,a2,a3⟩
 by_cases c:q<n
 ·rw [if_pos c] at a2 a3
  by_cases d:at' f q<n
  ·rw [if_pos d] at a2 a3
   rw [if_pos (by omega:q'<n)] at a3
   have:=X q q' c (by omega) d
   split at a3 <;> omega
  ·rw [if_neg d] at a2 a3
   by_cases c':q'<n
   ·rw [if_pos c'] at a3
    split at a3 <;> omega
   ·rw [if_neg c'] at a3
    by_cases d':at' f (2*n-1-q')<n
    ·rw [if_pos d'] at a3
     have:=X (at' f (2*n-1-q')) q d' c (by rw [F.inv]; omega)
     rw [F.inv] at this
     omega
    ·rw [if_neg d'] at a3
     omega
 ·rw [if_neg c] at a2 a3
  rw [if_neg (by omega:¬ q'<n)] at a3
  by_cases d:at' f (2*n-1-q)<n
  ·rw [if_pos d] at a2 a3
   by_cases d':at' f (2*n-1-q')<n
   ·rw [if_pos d'] at a3
    have:=X (at' f (2*n-1-q')) (at' f (2*n-1-q)) d' d (by rw [F.inv]; omega)
    rw [F.inv,F.inv] at this
    omega
   ·rw [if_neg d'] at a3
    omega
  ·rw [if_neg d] at a2 a3
   omega
theorem nE {fr:Nat} (h1:1<=n) (hn:n<=10) (F:Frm n f) (hr:∀ inner:List Nat,inner.length<=n->(∀ m∈inner,m<n/\at' (aG n f) m∈inner/\∃ j∈inner,at' f (n+m)=n+j)->∃ r:Int,cl fr [.tup (L f),.tup (L (aG n f)),.lst (L inner)]=some (.int r)) :
  ∃ r:Int,evF cl (cX fr) [.tup (L f),.tup (L (aG n f))]=some (.tup [.tup (L (du n f)),.int r]):=by
 have ol:(aG n f).length=2*n:=by simp [aG]
 have olt:∀ x,x<2*n->at' (aG n f) x<2*n:=fun x hx=>by
  rw [k9 hx]
  exact Nat.mod_lt _ (by omega)
 obtain ⟨inner,i1,i2,i3⟩:=uo (cl:=cl) (fr:=fr) h1 hn F.len ol F.lt olt
 have i1':∀ m,m∈inner↔m<n/\n<=at' f (n+m):=by
  intro m
  rw [i1]
  constructor
  ·rintro ⟨a,b⟩
   rw [nG h1 F a] at b
   exact ⟨a,by omega⟩
  ·rintro ⟨a,b⟩
   refine ⟨a,?_⟩
   rw [nG h1 F a]
   omega
 obtain ⟨r,hr⟩:=hr inner i2 (fun m hm=>by
  obtain ⟨a,b⟩:=(i1' m).mp hm
  have lt:=F.lt (n+m) (by omega)
  have jm:at' f (n+m)-n∈inner:=by
   rw [i1']
   refine ⟨by omega,?_⟩
   rw [show n+(at' f (n+m)-n)=at' f (n+m) by omega,F.inv]
   omega
  refine ⟨a,?_,_,jm,by omega⟩
  rw [pf F a,Nat.add_comm m n,if_neg (by omega)]
  exact jm)
 exact ⟨r,by rw [<- rf h1 F]; exact i3 r hr⟩
end
end RM
namespace RM
open RL RT
theorem sk {fhu fov ffr ftx fho fpl fdi:Nat} {scr:D} {k n:Nat} (h1:1<=n) (hn:n<=10)
  (hd:∃ ds:List Nat,i0 ds [8,10 ^ 12,max 1 (n-1)]/\cl fdi [scr,.int k,.lst (L [8,10 ^ 12,max 1 (n-1)])]=some (.lst (L ds)))
  (hpl:cl fpl [.int n]=some (.tup (L (aA n))))
  (hho:∀ i:Nat,i+1<n->cl fho [.int n,.int i]=some (.tup (L (dU n i))))
  (htx:∀ r:Int,∃ w:List Bool,w.length=2*n/\dpf 0 w=some 0/\cl ftx [.int r,.int n]=some (.str (tx w)))
  (hfr:∀ w:List Bool,w.length=2*n->dpf 0 w=some 0->∃ f:List Nat,Val n f/\cl ffr [.str (tx w)]=some (.tup (L f)))
  (hov:∀ f:List Nat,f.length=2*n->cl fov [.tup (L f)]=some (.tup (L (aG n f))))
  (hhu:∀ f:List Nat,Val n f->∃ (g:List Nat) (r:Int),Val n g/\cl fhu [.tup (L f),.tup (L (aG n f))]=some (.tup [.tup (L g),.int r])) :
  ∃ f:List Nat,Val n f/\evF cl (fD fhu fov ffr ftx fho fpl fdi) [scr,.int k,.int n]=some (.tup (L f)):=by
 obtain ⟨ds,⟨dl,dd⟩,hd⟩:=hd
 match ds,dl with
 | [a,b,c],_ =>
  have hc:c<max 1 (n-1):=dd 2 c _ rfl rfl
  have mx:(if (n:Int)-1 > 1 then (n:Int)-1 else 1)=((max 1 (n-1):Nat):Int):=by
   split <;> omega
  have pw:ay .pow (.int 10) (.int 12)=some (.int ((10 ^ 12:Nat):Int)):=rfl
  obtain ⟨w,w1,w2,w3⟩:=htx b
  obtain ⟨f,V,f3⟩:=hfr w w1 w2
  obtain ⟨g,r,V',hu⟩:=hhu f V
  have ho:=hov f V.frm.len
  have tl:∀ g:List Nat,aJ [] (.cst .non) (.tup (L g))=true/\(D.tup (L g)).imm=true:=fun g=>by simp [aJ,D.imm,bf]
  have ret:∀ (e:E) (g:List Nat),aJ [] e (.tup (L g))=true:=fun e g=>by unfold aJ; rw [(tl g).2]; rfl
  have start:∀ {rest:Ss} {d:D},(∃ σ,ag cl [] rest [some scr,some (.int k),some (.int n),none,some (.int (a:Nat)),some (.int (b:Nat)),some (.int (c:Nat))]=some (.rt d,σ))->evF cl ⟨3,7,[],[],.cons (.unp [4,5,6] (.call fdi (.cons (.var 0) (.cons (.var 1) (.cons (.lst (.cons (.cst (.int 8)) (.cons (.bin .pow (.cst (.int 10)) (.cst (.int 12))) (.cons (.max (.cst (.int 1)) (.bin .sub (.var 2) (.cst (.int 1)))) .nil)))) .nil))))) rest⟩ [scr,.int k,.int n]=some d:=fun {rest d} ⟨σ,h⟩ =>
   bz rfl rfl (zM (ui (ab rfl) (ab rfl) (fA (aY ak (aY (ar ak ak pw) (aY ((AA ak (ar (ab rfl) ak iT)).trans (by rw [mx])) dt)))) hd) rfl rfl rfl h)
  have no:∀ {j:Nat},a≠j->∀ o,(ev cl [some scr,some (.int k),some (.int n),o,some (.int (a:Nat)),some (.int (b:Nat)),some (.int (c:Nat))] (.cmp .eq (.var 4) (.cst (.int (j:Nat)))))=some (.bl false):=fun {j} h o=>aK (ab rfl) ak (by rw [cU,beq_eq_false_iff_ne.mpr (by omega)])
  have yes:∀ {j:Nat},a=j->∀ o,(ev cl [some scr,some (.int k),some (.int n),o,some (.int (a:Nat)),some (.int (b:Nat)),some (.int (c:Nat))] (.cmp .eq (.var 4) (.cst (.int (j:Nat)))))=some (.bl true):=fun {j} h o=>aK (ab rfl) ak (by rw [cU,h,beq_self_eq_true])
  by_cases a0:a=0
  ·exact ⟨aA n,qj n,start ⟨_,fN (br (yes a0 _)) (bx (cy (ab rfl) hpl) (ret ..))⟩⟩
  ·by_cases a1:a=1/\1<n
   ·exact ⟨dU n c,uA hn (by omega),start ⟨_,bN (br (no a0 _)) (fN (br (dW (yes a1.1 _) (aK (ab rfl) ak (by rw [kF,decide_eq_true (by omega)])))) (bx (iJ (ab rfl) (ab rfl) (hho c (by omega))) (ret ..)))⟩⟩
   ·have cnd:ev cl [some scr,some (.int k),some (.int n),none,some (.int (a:Nat)),some (.int (b:Nat)),some (.int (c:Nat))] (.and (.cmp .eq (.var 4) (.cst (.int 1))) (.cmp .gt (.var 2) (.cst (.int 1))))=some (.bl false):=by
     by_cases e1:a=1
     ·exact dW (yes e1 _) (aK (ab rfl) ak (by rw [kF,decide_eq_false (by omega)]))
     ·exact hV (no e1 _)
    have on:∀ {rest:Ss} {d:D},(∃ σ,ag cl [] rest [some scr,some (.int k),some (.int n),some (.tup (L f)),some (.int (a:Nat)),some (.int (b:Nat)),some (.int (c:Nat))]=some (.rt d,σ))->∃ σ,ag cl [] (.cons (.ife (.cmp .eq (.var 4) (.cst (.int 0))) (.cons (.ret (.call fpl (.cons (.var 2) .nil))) .nil) .nil) (.cons (.ife (.and (.cmp .eq (.var 4) (.cst (.int 1))) (.cmp .gt (.var 2) (.cst (.int 1)))) (.cons (.ret (.call fho (.cons (.var 2) (.cons (.var 6) .nil)))) .nil) .nil) (.cons (.asg 3 (.call ffr (.cons (.call ftx (.cons (.var 5) (.cons (.var 2) .nil))) .nil))) rest))) [some scr,some (.int k),some (.int n),none,some (.int (a:Nat)),some (.int (b:Nat)),some (.int (c:Nat))]=some (.rt d,σ):=fun ⟨σ,h⟩ =>
     ⟨σ,bN (br (no a0 _)) (bN (br cnd) (aL (cy (iJ (ab rfl) (ab rfl) w3) f3) (by unfold bj; rw [(tl f).2]; rfl) h))⟩
    by_cases a2:a=2
    ·exact ⟨g,V',start (on ⟨_,fN (br (yes a2 _)) (bx (eS (iJ (ab rfl) (cy (ab rfl) ho) hu) ak rfl) (ret ..))⟩)⟩
    ·exact ⟨f,V,start (on ⟨_,bN (br (no a2 _)) (bx (ab rfl) (ret ..))⟩)⟩
end RM
namespace RM
open RL RT
theorem jK {F:St->Option (Option D)} {tg:List Nat} {σ:St} {h g:Nat->D} {c:Nat->Bool} (im:∀ x,(g x).imm=true):∀ xs:List Nat,(∀ x∈xs,(az tg (h x) σ).bind F=some (if c x then some (g x) else none))->bF F tg σ (xs.map h)=some ((xs.filter c).map g)
 | [],_=>rfl
 | x :: r,hh=>by
  have a:=hh x (by simp)
  have b:=jK im r (fun y hy=>hh y (by simp [hy]))
  rw [List.map_cons,bF]
  cases hb:az tg (h x) σ with
  | none=>rw [hb] at a; cases a
  | some σ1 =>
   rw [hb] at a
   simp only [Option.bind_some] at a ⊢
   rw [a,b]
   cases hc:c x <;> simp [iu,im,hc]
noncomputable def pr (f:List Nat) (p:Nat):D:=.tup [.int (p:Nat),.int (at' f p:Nat)]
theorem oz:∀ (f:List Nat) (k:Nat),bX (k:Int) (L f)=(List.range f.length).map fun p=>.tup [.int ((k+p:Nat):Int),.int (at' f p:Nat)]
 | [],k=>rfl
 | x :: r,k=>by
  rw [show L (x :: r)=.int x :: L r from rfl,bX,show (k:Int)+1=((k+1:Nat):Int) by omega,oz r (k+1),List.length_cons,List.range_succ_eq_map,List.map_cons,List.map_map]
  congr 1
  apply List.map_congr_left
  intro p hp
  simp at hp
  have e:at' (x :: r) (p+1)=at' r p:=by simp [at',hp]
  simp [e]
  omega
theorem iA {f:List Nat} {m:Nat} (h:f.length=m):bX 0 (L f)=(List.range m).map (pr f):=by
 have:=oz f 0
 rw [h] at this
 simp only [Nat.zero_add] at this
 exact this
theorem jI {β:Type} {f:St->Option (Out × St)} {tg:List Nat} (g:β->D) (im:∀ b,(g b).imm=true) (I:List β->St->Prop):∀ (w done:List β) (σ:St),(∀ u b v σ,done ++ w=u ++ b :: v->I u σ->∃ σ2,(az tg (g b) σ).bind f=some (.nx,σ2)/\I (u ++ [b]) σ2)->I done σ->∃ σ',bb f tg (w.map g) σ=some (.nx,σ')/\I (done ++ w) σ'
 | [],done,σ,_,h=>⟨σ,rfl,by simpa using h⟩
 | b :: w,done,σ,hs,h=>by
  obtain ⟨σ2,h1,h3⟩:=hs done b w σ rfl h
  obtain ⟨σ',h4,h5⟩:=jI g im I w (done ++ [b]) σ2 (fun pre e post σ he=>hs pre e post σ (by simpa using he)) h3
  refine ⟨σ',?_,by simpa using h5⟩
  rw [List.map_cons,bb,if_pos (im b)]
  cases hb:az tg (g b) σ with
  | none=>rw [hb] at h1; cases h1
  | some σ1 =>
   rw [hb] at h1
   simp only [Option.bind_some] at h1 ⊢
   rw [h1]
   exact h4
section
variable {n:Nat} {f:List Nat}
theorem ky {fn:Nat} (F:Frm n f) (hnum:∀ i:Int,cl fn [.int i]=some (.bl true)) {x:Nat} (hx:x<2*n):evF cl (dn fn) [.tup (L f),.int (x:Nat)]=some (.bl true):=by
 have hl:=F.len
 have i1:=cM (f:=f) (x:=x) (by omega)
 have i2:=cM (f:=f) (x:=at' f x) (by have:=F.lt x hx; omega)
 rw [F.inv] at i2
 have ln:=half (xs:=L f) (n:=n) (by rw [aV,hl])
 have c1:decide ((0:Int)<=(at' f x:Nat))=true:=by simp
 have c2:decide (((at' f x:Nat):Int)<2*n)=true:=by have:=F.lt x hx; simp; omega
 simp [evF,dn,ag,evS,ev,evs,i1,i2,ln,hnum,bj,D.imm,sY,et,cU,c1,c2,aJ,aE]
theorem vq:∀ xs:List Nat,cA (xs.map fun _=>D.bl true)=some (xs.map fun _=>true)
 | []=>rfl
 | x :: r=>by simp [cA,vq r]
theorem kC {fb:Nat} (hn:n<=10) (F:Frm n f) (hb:∀ x:Nat,x<2*n->cl fb [.tup (L f),.int (x:Nat)]=some (.bl true)):evF cl (d5 fb) [.tup (L f)]=some (.bl true):=by
 have ln:=half (xs:=L f) (n:=n) (by rw [aV,F.len])
 have r2:=bC (n:=2*n) (by omega)
 rw [show ((2*n:Nat):Int)=2*(n:Int) by omega] at r2
 have ft:=gi (xs:=List.range (2*n)) (by simp; omega)
 have mc:=fZ (F:=fun σ1=>(ev cl σ1 (.call fb (.cons (.var 0) (.cons (.var 1) .nil)))).map some) (tg:=[1]) (σ:=[some (.tup (L f)),none]) (g:=fun _=>.bl true) (fun _=>rfl) (List.range (2*n)) (by
  intro x hx
  simp at hx
  have:=hb x hx
  simp [az,ev,evs,this])
 have al:biV .all (.lst ((List.range (2*n)).map fun _=>.bl true))=some (.bl true):=by
  simp only [biV,vq]
  simp
 simp only [evF,d5,ag,evS,ev,a8]
 simp [ev,ln,r2,ft,bR]
 simp [ev] at mc
 rw [mc]
 simp [al,aJ,D.imm,aE]
theorem jS {p:Nat} (hp:p<2*n):evF cl cj [.int n,.int (p:Nat)]=some (.int (rd n p:Nat)):=by
 have e1:ay .mul (.int 3) (.int n)=some (.int (3*n)):=bg (by decide) (by decide)
 by_cases c:p<n
 ·have c1:decide ((p:Int)<n)=true:=by simp; omega
  simp [evF,cj,ag,evS,ev,et,c1,truth,aJ,D.imm,aE,rd,c]
 ·have c1:decide ((p:Int)<n)=false:=by simp; omega
  simp [evF,cj,ag,evS,ev,et,c1,truth,e1,iT,aJ,D.imm,aE,rd,c]
  omega
theorem qR {T:D} {to:Nat->Nat} (hn:n<=10) (F:Frm n f) (hT:∀ p:Nat,p<2*n->ixV T (.int (p:Nat))=some (.int (to p:Nat))) (hlt:∀ p,p<2*n->to p<2*n) (inj:∀ p q,p<2*n->q<2*n->to p=to q->p=q) :
  ∃ E:List Nat,E.length=2*n/\(∀ p,p<2*n->at' E (to p)=to (at' f p))/\evF cl iO [.tup (L f),T]=some (.tup (L E)):=by
 have ln:=half (xs:=L f) (n:=n) (by rw [aV,F.len])
 have en:=iA F.len
 have e0:ay .mul (.lst [.int 0]) (.int (2*(n:Int)))=some (.lst (L (List.replicate (2*n) 0))):=by
  dsimp only [ay]
  rw [if_pos ⟨by omega,by unfold most; omega,by simp [most]; omega⟩]
  have:(2*(n:Int)).toNat=2*n:=by omega
  rw [this]
  simp [L]
 obtain ⟨σ',e,E,o3,o4,rfl,El,EE⟩:=jI (f:=ag cl [2] jq) (tg:=[3,4]) (pr f) (fun _=>rfl)
  (fun u σ=>∃ (E:List Nat) (o3 o4:Option D),σ=[some (.tup (L f)),some T,some (.lst (L E)),o3,o4]/\E.length=2*n/\∀ p∈u,at' E (to p)=to (at' f p))
  (List.range (2*n)) [] [some (.tup (L f)),some T,some (.lst (L (List.replicate (2*n) 0))),none,none] (by
   rintro u p v σ hu ⟨E,o3,o4,rfl,El,EE⟩
   have hp:p<2*n:=by
    have:p∈List.range (2*n):=by
     simp only [List.nil_append] at hu
     rw [hu]; simp
    simpa using this
   have hpu:∀ x∈u,x<2*n/\x≠p:=by
    intro x hx
    simp only [List.nil_append] at hu
    have nd:(List.range (2*n)).Nodup:=List.nodup_range
    have m:x∈List.range (2*n):=by rw [hu]; simp [hx]
    rw [hu,List.nodup_append] at nd
    exact ⟨by simpa using m,nd.2.2 x hx p (by simp)⟩
   have t1:=hT p hp
   have t2:=hT (at' f p) (F.lt p hp)
   have pt:=dY (f:=E) (i:=to p) (j:=to (at' f p)) (by have:=hlt p hp; omega)
   refine ⟨_,?_,E.set (to p) (to (at' f p)),some (.int (p:Nat)),some (.int (at' f p:Nat)),rfl,by simp [El],fun x hx=>?_⟩
   ·simp [az,aS,pr,jq,ag,evS,ev,t1,t2,D.imm,pt]
   ·rw [di (by have:=hlt p hp; omega)]
    simp at hx
    rcases hx with hx | rfl
    ·rw [if_neg (fun c=>(hpu x hx).2 (inj x p (hpu x hx).1 hp c))]
     exact EE x hx
    ·rw [if_pos rfl])
  ⟨_,none,none,rfl,by simp,by simp⟩
 refine ⟨E,El,fun p hp=>EE p (by simp [hp]),?_⟩
 simp only [evF,iO,ag,evS,ev,evs,a8]
 simp [ev,evs,ln,e0,a5,bf,cB,en]
 rw [e]
 simp [ag,evS,ev,biV,items,aJ,D.imm,bf,aE]
theorem m8 {fm frp fpo:Nat} (hn:n<=10) (F:Frm n f) (hpo:∀ xs:List D,cl fpo [.tup xs]=some (.int (xs.length / 2))) (hrp:∀ p:Nat,p<2*n->cl frp [.int n,.int (p:Nat)]=some (.int (rd n p:Nat)))
  (hm:∃ E:List Nat,E.length=2*n/\(∀ p,p<2*n->at' E (rd n p)=rd n (at' f p))/\cl fm [.tup (L f),.lst (L (bE n))]=some (.tup (L E))) :
  ∃ E:List Nat,E.length=2*n/\(∀ q,q<2*n->at' E q=rnd n f q)/\evF cl (eD fm frp fpo) [.tup (L f)]=some (.tup (L E)):=by
 obtain ⟨E,El,EE,hm⟩:=hm
 refine ⟨E,El,fun q hq=>?_,?_⟩
 ·have:=EE (rd n q) (aW hq)
  rw [cg hq] at this
  exact this
 ·have e1:ay .mul (.int 2) (.int n)=some (.int (2*n)):=bg (by decide) (by decide)
  have r2:=bC (n:=2*n) (by omega)
  rw [show ((2*n:Nat):Int)=2*(n:Int) by omega] at r2
  have ft:=gi (xs:=List.range (2*n)) (by simp; omega)
  have po:=hpo (L f)
  rw [aV,F.len,show (((2*n:Nat):Int) / 2)=(n:Int) by omega] at po
  have mc:=fZ (F:=fun σ1=>(ev cl σ1 (.call frp (.cons (.var 1) (.cons (.var 2) .nil)))).map some) (tg:=[2]) (σ:=[some (.tup (L f)),some (.int n),none]) (g:=fun p=>.int (rd n p:Nat)) (fun _=>rfl) (List.range (2*n)) (by
   intro x hx
   simp at hx
   have:=hrp x hx
   simp [az,ev,evs,this])
  rw [uO,show (List.range (2*n)).map (fun p=>rd n p)=bE n from rfl] at mc
  simp only [evF,eD,ag,evS,ev,evs,a8]
  simp [ev,evs,po,bj,D.imm,e1,r2,ft]
  simp [ev,evs] at mc
  rw [mc]
  simp [hm,aJ,D.imm,bf,aE]
end
end RM
namespace RM
open RL RT
structure Op (r:Nat->Nat) (k:Nat) (W:List Nat):Prop where
 up:W.Pairwise (·<·)
 mem:∀ p,p∈W↔p<k/\k<=r p
section
variable {r:Nat->Nat} {m k:Nat} {W:List Nat}
theorem Op.push (O:Op r k W) (inv:∀ q,q<m->r (r q)=q) (hk:k<m) (h:k<r k):Op r (k+1) (W ++ [k]):=by
 refine ⟨?_,fun p=>?_⟩
 ·rw [List.pairwise_append]
  exact ⟨O.up,by simp,fun a ha b hb=>by simp at hb; have:=(O.mem a).mp ha; omega⟩
 ·simp only [List.mem_append,List.mem_singleton,O.mem]
  constructor
  ·rintro (⟨a,b⟩ | rfl)
   ·refine ⟨by omega,?_⟩
    by_cases c:r p=k
    ·have:=inv p (by omega)
     rw [c] at this
     omega
    ·omega
   ·omega
  ·rintro ⟨a,b⟩
   by_cases c:p=k
   ·exact .inr c
   ·exact .inl ⟨by omega,by omega⟩
theorem Op.pop (O:Op r k W) (inv:∀ q,q<m->r (r q)=q) (nox:∀ q q',q<m->q'<m->¬ (q<q'/\q'<r q/\r q<r q')) (hk:k<m) (h:r k<k):∃ W0,W=W0 ++ [r k]/\Op r (k+1) W0:=by
 have m1:r k∈W:=(O.mem _).mpr ⟨h,by rw [inv k hk]; exact Nat.le_refl _⟩
 have ne:W≠[]:=List.ne_nil_of_mem m1
 have dl:=List.dropLast_concat_getLast ne
 generalize hl:W.getLast ne=z at dl
 generalize W.dropLast=W0 at dl
 have up:=O.up
 rw [<- dl,List.pairwise_append] at up
 have zW:z∈W:=by rw [<- dl]; simp
 have z1:=(O.mem z).mp zW
 have zr:z=r k:=by
  by_cases c:z=r k
  ·exact c
  ·exfalso
   have:r k∈W0:=by
    rw [<- dl] at m1
    simp at m1
    rcases m1 with h | h
    ·exact h
    ·exact absurd h.symm c
   have lt:=up.2.2 _ this z (by simp)
   have rz:r z≠k:=fun e=>by
    have:=inv z (by omega)
    rw [e] at this
    exact c this.symm
   have:=nox (r k) z (by omega) (by omega)
   rw [inv k hk] at this
   omega
 subst zr
 refine ⟨W0,dl.symm,up.1,fun p=>?_⟩
 constructor
 ·intro hp
  have lt:=up.2.2 p hp (r k) (by simp)
  have:=(O.mem p).mp (by rw [<- dl]; simp [hp])
  refine ⟨by omega,?_⟩
  by_cases c:r p=k
  ·have i:=inv p (by omega)
   rw [c] at i
   omega
  ·omega
 ·rintro ⟨a,b⟩
  have pk:p≠k:=by rintro rfl; omega
  have:=(O.mem p).mpr ⟨by omega,by omega⟩
  rw [<- dl] at this
  simp at this
  rcases this with h | h
  ·exact h
  ·rw [h,inv k hk] at b
   omega
end
section
variable {n:Nat} {f:List Nat}
theorem ju {E:List Nat} (hn:n<=10) (El:E.length=2*n) (inv:∀ q,q<2*n->at' E (at' E q)=q) (no:∀ q,q<2*n->at' E q≠q) (nox:∀ q q',q<2*n->q'<2*n->¬ (q<q'/\q'<at' E q/\at' E q<at' E q')):evF cl cC [.tup (L E)]=some (.bl true):=by
 have en:=iA El
 obtain ⟨σ',e,W,o2,o3,rfl,O⟩:=jI (f:=ag cl [1] c7) (tg:=[2,3]) (pr E) (fun _=>rfl)
  (fun u σ=>∃ (W:List Nat) (o2 o3:Option D),σ=[some (.tup (L E)),some (.lst (L W)),o2,o3]/\Op (at' E) u.length W/\W.length<=u.length)
  (List.range (2*n)) [] [some (.tup (L E)),some (.lst (L [])),none,none] (by
   rintro u p v σ hu ⟨W,o2,o3,rfl,O,Wl⟩
   obtain ⟨hk,hp⟩:=cv (g:=id) (by simpa using hu)
   simp only [id] at hp
   subst hp
   have nf:=no _ hk
   by_cases c:u.length<at' E u.length
   ·have c1:decide (((u.length:Nat):Int)<(at' E u.length:Nat))=true:=by simp; omega
    refine ⟨_,?_,W ++ [u.length],some (.int (u.length:Nat)),some (.int (at' E u.length:Nat)),rfl,by simpa using O.push inv hk c,by simp; omega⟩
    have ml:W.length<most:=by unfold most; omega
    simp [az,aS,pr,c7,ag,evS,ev,kF,c1,truth,D.imm,aV,ml]
    simp [L,c]
   ·obtain ⟨W0,rfl,O0⟩:=O.pop inv nox hk (by omega)
    have c1:decide (((u.length:Nat):Int)<(at' E u.length:Nat))=false:=by simp; omega
    have c2:(((at' E u.length:Nat):Int) == (u.length:Nat))=false:=beq_eq_false_iff_ne.mpr (by omega)
    refine ⟨_,?_,W0,some (.int (u.length:Nat)),some (.int (at' E u.length:Nat)),rfl,by simpa using O0,by simp at Wl ⊢; omega⟩
    have ls:(L (W0 ++ [at' E u.length]))[(L (W0 ++ [at' E u.length])).length-1]?=some (.int (at' E u.length:Nat)):=by simp [L]
    have dr:(L (W0 ++ [at' E u.length])).dropLast=L W0:=by simp [L]
    simp only [az,aS,pr,c7,ag,evS,ev,kF,c1,cU,c2,truth,Option.bind_some,Option.map_some,List.set,List.getElem?_cons_zero,List.getElem?_cons_succ,id,Bool.false_eq_true,if_false,ls,dr]
    simp [ag])
  ⟨[],none,none,rfl,⟨by simp,by simp⟩,by simp⟩
 simp only [evF,cC,ag,evS,ev,evs,a8]
 simp [ev,evs,a5,ai,cB,en]
 rw [show L []=[] from rfl] at e
 rw [e]
 simp [ag,evS,ev,aJ,D.imm,aE]
theorem m7 {fu fi fp fc fo:Nat} (h1:1<=n) (hn:n<=10) (V:Val n f) (hpo:∀ xs:List D,cl fo [.tup xs]=some (.int (xs.length / 2))) (hc:cl fc [.int n]=some (.bl true)) (hp:cl fp [.tup (L f)]=some (.bl true))
  (hi:∃ E:List Nat,E.length=2*n/\(∀ q,q<2*n->at' E q=rnd n f q)/\cl fi [.tup (L f)]=some (.tup (L E)))
  (hu:∀ E:List Nat,E.length=2*n->(∀ q,q<2*n->at' E (at' E q)=q)->(∀ q,q<2*n->at' E q≠q)->(∀ q q',q<2*n->q'<2*n->¬ (q<q'/\q'<at' E q/\at' E q<at' E q'))->cl fu [.tup (L E)]=some (.bl true)) :
  evF cl (eI fu fi fp fc fo) [.tup (L f)]=some (.bl true):=by
 have F:=V.frm
 obtain ⟨E,El,Ea,hi⟩:=hi
 have rl:∀ q,q<2*n->rnd n f q<2*n:=fun q hq=>aW (F.lt _ (aW hq))
 have hu:=hu E El (fun q hq=>by
   rw [Ea q hq,Ea _ (rl q hq)]
   unfold rnd
   rw [cg (F.lt _ (aW hq)),F.inv,cg hq]) (fun q hq e=>by
   rw [Ea q hq] at e
   unfold rnd at e
   have:=congrArg (rd n) e
   rw [cg (F.lt _ (aW hq))] at this
   exact F.no _ (aW hq) this) (fun q q' h h'=>by
   rw [Ea q h,Ea q' h']
   exact V.nox q q' h h')
 have e1:ay .mul (.int 2) (.int n)=some (.int (2*n)):=bg (by decide) (by decide)
 have ln:=half (xs:=L f) (n:=n) (by rw [aV,F.len])
 have po:=hpo (L f)
 rw [aV,F.len,show (((2*n:Nat):Int) / 2)=(n:Int) by omega] at po
 have en:=iA F.len
 have ft:fits ((List.range (2*n)).map (pr f))=some ((List.range (2*n)).map (pr f)):=by
  unfold fits
  rw [if_pos (by simp [most]; omega)]
 have mc:=jK (F:=fun σ1=>((ev cl σ1 (.cmp .eq (.var 3) (.var 4))).bind truth).bind fun k=>if k then (ev cl σ1 (.var 3)).map some else some none) (tg:=[3,4]) (σ:=[some (.tup (L f)),some (.int n),none,none,none]) (h:=pr f) (g:=fun p=>.int (p:Nat)) (c:=fun _=>false) (fun _=>rfl) (List.range (2*n)) (by
  intro x hx
  simp at hx
  have c2:((x:Int) == (at' f x:Nat))=false:=beq_eq_false_iff_ne.mpr (by have:=F.no x hx; omega)
  simp [az,aS,pr,ev,cU,c2,truth])
 rw [show (List.range (2*n)).filter (fun _=>false)=[] from List.filter_eq_nil_iff.mpr (by simp),List.map_nil] at mc
 have ne0:aR .ne (.int (2*(n:Int))) (.int (2*(n:Int)))=some false:=by
  rw [B2]
  simp
 simp only [evF,eI,ag,evS,ev,evs,a8]
 simp [ev,evs,po,bj,D.imm,ln,e1,ne0,hc,hp,truth,ag,evS,a8,cB,en,ft]
 simp [ev] at mc
 rw [mc]
 simp [ag,evS,ev,evs,a5,ai,hi,hu,truth,aJ,D.imm,aE,avE]
theorem jO {fi:Nat} {x:D} (h:cl fi [x]=some (.bl true)):evF cl (cO fi) [x]=some .non:=by
 simp [evF,cO,ag,evS,ev,evs,h,truth,aE]
noncomputable def lP (n:Nat) (f:List Nat):D:=.lst (((List.range (2*n)).filter fun p=>decide (p<at' f p)).map (pr f))
theorem t5 {fc:Nat} (hn:n<=10) (F:Frm n f) (hc:cl fc [.tup (L f)]=some .non):evF cl (jV fc) [.tup (L f)]=some (lP n f):=by
 have en:=iA F.len
 have ft:fits ((List.range (2*n)).map (pr f))=some ((List.range (2*n)).map (pr f)):=by
  unfold fits
  rw [if_pos (by simp [most]; omega)]
 have mc:=jK (F:=fun σ1=>((ev cl σ1 (.cmp .lt (.var 1) (.var 2))).bind truth).bind fun k=>if k then (ev cl σ1 (.tup (.cons (.var 1) (.cons (.var 2) .nil)))).map some else some none) (tg:=[1,2]) (σ:=[some (.tup (L f)),none,none]) (h:=pr f) (g:=pr f) (c:=fun p=>decide (p<at' f p)) (fun _=>rfl) (List.range (2*n)) (by
  intro x hx
  by_cases c:x<at' f x
  ·have c2:decide ((x:Int)<(at' f x:Nat))=true:=by simp; omega
   simp [az,aS,pr,ev,evs,et,c2,truth,c]
  ·have c2:decide ((x:Int)<(at' f x:Nat))=false:=by simp; omega
   simp [az,aS,pr,ev,evs,et,c2,truth,c])
 have im:∀ xs:List Nat,ai (xs.map (pr f))=true:=by
  intro xs
  induction xs with
  | nil=>rfl
  | cons x r ih=>simp [ai,ih,pr,D.imm]
 simp only [evF,jV,ag,evS,ev,evs,a8]
 simp [ev,evs,hc,ag,evS,a8,cB,en,ft]
 simp [ev,evs] at mc
 rw [mc]
 simp [aJ,D.imm,a5,im,aE,lP]
end
end RM
namespace RM
open RL RT
theorem iD {β:Type} {F:St->Option (Option D)} {tg:List Nat} {σ:St} {h g:β->D} (im:∀ x,(g x).imm=true):∀ xs:List β,(∀ x∈xs,(az tg (h x) σ).bind F=some (some (g x)))->bF F tg σ (xs.map h)=some (xs.map g)
 | [],_=>rfl
 | x :: r,hh=>by
  have a:=hh x (by simp)
  have b:=iD im r (fun y hy=>hh y (by simp [hy]))
  rw [List.map_cons,bF]
  cases hb:az tg (h x) σ with
  | none=>rw [hb] at a; cases a
  | some σ1 =>
   rw [hb] at a
   simp only [Option.bind_some] at a ⊢
   rw [a,b]
   simp [iu,im]
theorem lR (x:Bool):aR .ne (.bl x) (.bl x)=some false:=by cases x <;> rfl
theorem vf (x:Bool):aR .eq (.bl x) (.bl x)=some true:=by cases x <;> rfl
section
variable {fs:Nat} {d:D} {kb ki kl kt:Bool} {res:Option (Out × St)} {r:Ss}
theorem kN (hN:(match d with | .non=>some (D.bl (!false)) | .dK _ _=>none | .dT _ _=>none | _=>some (.bl false))=some (D.bl false)) (hb:bR .bool d=some kb) (hi:bR .int d=some ki) (hl:bR .list d=some kl) (ht:bR .tuple d=some kt)
  (k:ag cl [] r [some d,some d,none,none]=res):ag cl [] (.cons (.ife (.isN false (.var 1)) (.cons (.ret (.isN false (.var 0))) .nil) .nil) (.cons (.ife (.or (.cmp .ne (.isi (.var 0) .bool) (.isi (.var 1) .bool)) (.cmp .ne (.isi (.var 0) .int) (.isi (.var 1) .int))) (.cons (.ret (.cst (.bl false))) .nil) .nil) (.cons (.ife (.or (.cmp .ne (.isi (.var 0) .list) (.isi (.var 1) .list)) (.cmp .ne (.isi (.var 0) .tuple) (.isi (.var 1) .tuple))) (.cons (.ret (.cst (.bl false))) .nil) .nil) r))) [some d,some d,none,none]=res :=
 bN (br (A0 hN (ab rfl))) (bN (br (jo (aK (bV (ab rfl) hb) (bV (ab rfl) hb) (lR _)) (aK (bV (ab rfl) hi) (bV (ab rfl) hi) (lR _)))) (bN (br (jo (aK (bV (ab rfl) hl) (bV (ab rfl) hl) (lR _)) (aK (bV (ab rfl) ht) (bV (ab rfl) ht) (lR _)))) k))
theorem ij {ks:Bool} (hN:(match d with | .non=>some (D.bl (!false)) | .dK _ _=>none | .dT _ _=>none | _=>some (.bl false))=some (D.bl false)) (hb:bR .bool d=some kb) (hi:bR .int d=some ki) (hl:bR .list d=some false) (ht:bR .tuple d=some false) (hs:bR .str d=some ks) (he:aR .eq d d=some true):evF cl (bI fs) [d,d]=some (.bl true) :=
 bz rfl rfl (kN hN hb hi hl ht (fN (br (dW (dm (bV (ab rfl) hl)) (dm (bV (ab rfl) ht)))) (bx (dW (aK (bV (ab rfl) hs) (bV (ab rfl) hs) (vf _)) (aK (ab rfl) (ab rfl) he)) rfl)))
end
theorem same_int {fs:Nat} (a:Int):evF cl (bI fs) [.int a,.int a]=some (.bl true):=ij rfl rfl rfl rfl rfl rfl (by rw [cU,beq_self_eq_true])
theorem j2:∀ xs:List D,cV xs xs=xs.map fun x=>.tup [x,x]
 | []=>rfl
 | x :: r=>by simp [cV,j2 r]
theorem m5 {β:Type}:∀ xs:List β,cA (xs.map fun _=>D.bl true)=some (xs.map fun _=>true)
 | []=>rfl
 | x :: r=>by simp [cA,m5 r]
theorem mL {fs:Nat} {d:D} {xs:List D} (hd:d=.tup xs\/d=.lst xs) (hl:xs.length<=1000) (h:∀ x∈xs,cl fs [x,x]=some (.bl true)):evF cl (bI fs) [d,d]=some (.bl true):=by
 have al:biV .all (.lst (xs.map fun _=>.bl true))=some (.bl true):=by
  simp only [biV,m5]
  simp
 have mc:=iD (F:=fun σ1=>(ev cl σ1 (.call fs (.cons (.var 2) (.cons (.var 3) .nil)))).map some) (tg:=[2,3]) (σ:=[some d,some d,none,none]) (h:=fun x=>.tup [x,x]) (g:=fun _=>.bl true) (fun _=>rfl) xs (by
  intro x hx
  show (ev cl [some d,some d,some x,some x] (.call fs (.cons (.var 2) (.cons (.var 3) .nil)))).map some=_
  rw [iJ (ab rfl) (ab rfl) (h x hx)]
  rfl)
 have it:items d=some xs:=by rcases hd with rfl | rfl <;> rfl
 have ln:biV .len d=some (.int xs.length):=by rcases hd with rfl | rfl <;> rfl
 have lq:aR .eq (.int (xs.length:Int)) (.int (xs.length:Int))=some true:=by simp [cU]
 have lz:(cV xs xs).length<=most:=by rw [j2,List.length_map]; unfold most; omega
 rw [<- j2] at mc
 have tl:∀ {res:Option (Out × St)},some (Out.rt (.bl true),[some d,some d,none,none])=res->ag cl [] (.cons (.ret (.and (.cmp .eq (.bi .len (.var 0)) (.bi .len (.var 1))) (.bi .all (.compA (.call fs (.cons (.var 2) (.cons (.var 3) .nil))) [2,3] (.zip (.var 0) (.var 1)))))) .nil) [some d,some d,none,none]=res:=fun e=>(bx (dW (aK (bB (ab rfl) ln) (bB (ab rfl) ln) lq) (bB (fS (Be (ab rfl) (ab rfl) it it rfl) lz mc) al)) rfl).trans e
 rcases hd with rfl | rfl
 ·exact bz rfl rfl (kN rfl rfl rfl rfl rfl (bN (br (dW (dm (k:=false) (bV (ab rfl) rfl)) (dm (k:=true) (bV (ab rfl) rfl)))) (tl rfl)))
 ·exact bz rfl rfl (kN rfl rfl rfl rfl rfl (bN (br (hV (dm (k:=true) (bV (ab rfl) rfl)))) (tl rfl)))
end RM
namespace RM
open RL RT
structure Dg (T:List Fn) (mx rw dg:Nat):Prop where
 BP:T[mx]?=some iz
 Bx:T[rw]?=some (i5 mx)
 Bv:T[dg]?=some (dD rw)
theorem Dg.digits {T:List Fn} {mx rw dg:Nat} (h:Dg T mx rw dg) {ns:List Int} (hl:ns.length<=63) (n:Nat) {k:Nat} {sizes:List Nat} (hk:k<=1000) (hp:∀ s∈sizes,0<s/\s<2 ^ 200) (hz:sizes.length<=1000) :
  ∃ ds:List Nat,i0 ds sizes/\ax T (n+3) dg [.lst (LI ns),.int k,.lst (L sizes)]=some (.lst (L ds)):=by
 obtain ⟨r,hr⟩:=vH (cl:=ax T (n+1)) (f:=mx) (fun s=>by
  obtain ⟨m,hm⟩:=wD (cl:=ax T n) s
  exact ⟨m,(aq h.BP).trans hm⟩) hl hk
 obtain ⟨ds,h1,h2⟩:=pO (cl:=ax T (n+2)) (f:=rw) ((aq h.Bx).trans hr) hp hz
 exact ⟨ds,h1,(aq h.Bv).trans h2⟩
structure Dr (T:List Fn) (mx rw dg pl hk ci ft tx rg hu ov fr:Nat):Prop extends Dg T mx rw dg where
 BY:T[pl]?=some cL
 BG:T[hk]?=some (eJ pl)
 B5:T[ci]?=some da
 Ce:T[ft]?=some (dA ci)
 BI:T[tx]?=some gz
 B7:T[rg]?=some cG
 B3:T[hu]?=some (cX rg)
 Bm:T[ov]?=some eA
 BX:T[fr]?=some (fD hu ov ft tx hk pl dg)
section
variable {T:List Fn} {mx rw dg pl hk ci ft tx rg hu ov fr:Nat}
theorem Dr.plain (h:Dr T mx rw dg pl hk ci ft tx rg hu ov fr) (n:Nat) {k:Nat} (hk:k<=10):ax T (n+1) pl [.int k]=some (.tup (L (aA k))):=(aq h.BY).trans (lJ hk)
theorem Dr.hook (h:Dr T mx rw dg pl hk ci ft tx rg hu ov fr) (n:Nat) {k i:Nat} (hk':k<=10) (hi:i+1<k):ax T (n+2) hk [.int k,.int i]=some (.tup (L (dU k i))):=(aq h.BG).trans (nT hk' hi (h.plain n hk'))
theorem Dr.zY (h:Dr T mx rw dg pl hk ci ft tx rg hu ov fr) (n:Nat) {k:Nat} (h1:1<=k) (hk':k<=10):ax T (n+1) ci [.int k]=some (.lst (L (bE k))):=(aq h.B5).trans (pN h1 hk')
theorem Dr.over (h:Dr T mx rw dg pl hk ci ft tx rg hu ov fr) (n:Nat) {k:Nat} {f:List Nat} (h1:1<=k) (hk':k<=10) (hf:f.length=2*k):ax T (n+1) ov [.tup (L f)]=some (.tup (L (aG k f))):=(aq h.Bm).trans (mm h1 hk' hf)
theorem Dr.y8 (h:Dr T mx rw dg pl hk ci ft tx rg hu ov fr) {ns:List Int} (hl:ns.length<=63) (n:Nat) {k m:Nat} (hk':k<=1000) (h1:1<=m) (hm:m<=10)
  (hh:∀ f:List Nat,Val m f->∃ (g:List Nat) (r:Int),Val m g/\ax T (n+3) hu [.tup (L f),.tup (L (aG m f))]=some (.tup [.tup (L g),.int r])):∃ f:List Nat,Val m f/\ax T (n+4) fr [.lst (LI ns),.int k,.int m]=some (.tup (L f)):=by
 obtain ⟨f,V,e⟩:=sk (cl:=ax T (n+3)) (fhu:=hu) (fov:=ov) (ffr:=ft) (ftx:=tx) (fho:=hk) (fpl:=pl) (fdi:=dg) (scr:=.lst (LI ns)) (k:=k) h1 hm
  (h.digits hl n hk' (by
   intro s hs
   simp only [List.mem_cons,List.not_mem_nil,or_false] at hs
   rcases hs with rfl | rfl | rfl
   ·decide
   ·decide
   ·exact ⟨by omega,Nat.lt_of_le_of_lt (show max 1 (m-1)<=10 by omega) (by decide)⟩) (by simp))
  (h.plain (n+2) hm) (fun i hi=>h.hook (n+1) hm hi)
  (fun r=>by
   obtain ⟨w,h1,h2,h3⟩:=t8 (cl:=ax T (n+2)) (r:=r) hm
   exact ⟨w,h1,h2,(aq h.BI).trans h3⟩)
  (fun w a b=>by
   obtain ⟨f,V,e⟩:=lH (cl:=ax T (n+2)) (fc:=ci) h1 hm (h.zY (n+1) h1 hm) a b
   exact ⟨f,V,(aq h.Ce).trans e⟩)
  (fun f hf=>h.over (n+2) h1 hm hf) hh
 exact ⟨f,V,(aq h.BX).trans e⟩
theorem Dr.frame (h:Dr T mx rw dg pl hk ci ft tx rg hu ov fr) {ns:List Int} (hl:ns.length<=63) (n:Nat) {k m:Nat} (hk':k<=1000) (h1:1<=m) (hm:m<=10):∃ f:List Nat,Val m f/\ax T (n+4) fr [.lst (LI ns),.int k,.int m]=some (.tup (L f)) :=
 h.y8 hl n hk' h1 hm fun f V=>by
  have F:=V.frm
  obtain ⟨r,e⟩:=nE (cl:=ax T (n+2)) (fr:=rg) h1 hm F (fun inner i1 i2=>by
   obtain ⟨r,e⟩:=rO (cl:=ax T (n+1)) hm F.len (by simp [aG]) i1 i2
   exact ⟨r,(aq h.B7).trans e⟩)
  exact ⟨_,r,wj V,(aq h.B3).trans e⟩
end
structure Ck (T:List Fn) (nu pc pa nb un if' cf po rp ir mv:Nat):Prop where
 BW:T[nu]?=some fI
 Bl:T[pc]?=some (cE nu)
 Cc:T[pa]?=some (d5 nb)
 BF:T[nb]?=some (dn nu)
 Bu:T[un]?=some cC
 AX:T[if']?=some (eI un ir pa pc po)
 B9:T[cf]?=some (cO if')
 Bq:T[po]?=some il
 Bo:T[rp]?=some cj
 BJ:T[ir]?=some (eD mv rp po)
 BA:T[mv]?=some iO
section
variable {T:List Fn} {nu pc pa nb un if' cf po rp ir mv:Nat}
theorem Ck.num (h:Ck T nu pc pa nb un if' cf po rp ir mv) (n:Nat) (i:Int):ax T (n+1) nu [.int i]=some (.bl true):=(aq h.BW).trans (lL i)
theorem Ck.zK (h:Ck T nu pc pa nb un if' cf po rp ir mv) (n:Nat) (i:Int):ax T (n+2) pc [.int i]=some (.bl (decide (1<=i/\i<=10))):=(aq h.Bl).trans (j3 (h.num n) i)
theorem Ck.of (h:Ck T nu pc pa nb un if' cf po rp ir mv) (n:Nat) (xs:List D):ax T (n+1) po [.tup xs]=some (.int (xs.length / 2)):=(aq h.Bq).trans (nS xs)
theorem Ck.half (h:Ck T nu pc pa nb un if' cf po rp ir mv) (n:Nat) {k:Nat} {f:List Nat} (hf:f.length=2*k):ax T (n+1) po [.tup (L f)]=some (.int k):=by
 rw [h.of,aV,hf]
 congr 2
 omega
theorem Ck.place (h:Ck T nu pc pa nb un if' cf po rp ir mv) (n:Nat) {k p:Nat} (hp:p<2*k):ax T (n+1) rp [.int k,.int (p:Nat)]=some (.int (rd k p:Nat)):=(aq h.Bo).trans (jS hp)
theorem Ck.move (h:Ck T nu pc pa nb un if' cf po rp ir mv) (n:Nat) {k:Nat} {f:List Nat} {U:D} {to:Nat->Nat} (hk:k<=10) (F:Frm k f) (hT:∀ p:Nat,p<2*k->ixV U (.int (p:Nat))=some (.int (to p:Nat))) (hlt:∀ p,p<2*k->to p<2*k) (inj:∀ p q,p<2*k->q<2*k->to p=to q->p=q) :
  ∃ E:List Nat,E.length=2*k/\(∀ p,p<2*k->at' E (to p)=to (at' f p))/\ax T (n+1) mv [.tup (L f),U]=some (.tup (L E)):=by
 obtain ⟨E,h1,h2,h3⟩:=qR (cl:=ax T n) (T:=U) (to:=to) hk F hT hlt inj
 exact ⟨E,h1,h2,(aq h.BA).trans h3⟩
theorem Ck.round (h:Ck T nu pc pa nb un if' cf po rp ir mv) (n:Nat) {k:Nat} {f:List Nat} (hk:k<=10) (F:Frm k f):∃ E:List Nat,E.length=2*k/\(∀ q,q<2*k->at' E q=rnd k f q)/\ax T (n+2) ir [.tup (L f)]=some (.tup (L E)):=by
 obtain ⟨E,h1,h2,h3⟩:=m8 (cl:=ax T (n+1)) (fm:=mv) (frp:=rp) (fpo:=po) hk F (h.of n) (fun p hp=>h.place n hp) (h.move n (U:=.lst (L (bE k))) (to:=rd k) hk F (fun p hp=>kW hp) (fun p hp=>aW hp) (fun p q hp hq h=>jT hp hq h))
 exact ⟨E,h1,h2,(aq h.BJ).trans h3⟩
theorem Ck.frame (h:Ck T nu pc pa nb un if' cf po rp ir mv) (n:Nat) {k:Nat} {f:List Nat} (h1:1<=k) (hk:k<=10) (V:Val k f):ax T (n+4) if' [.tup (L f)]=some (.bl true) :=
 (aq h.AX).trans (m7 h1 hk V (h.of (n+2)) (by rw [h.zK (n+1),decide_eq_true (by omega)])
  ((aq h.Cc).trans (kC hk V.frm fun x hx=>(aq h.BF).trans (ky V.frm (h.num n) hx)))
  (h.round (n+1) hk V.frm) (fun E a b c d=>(aq h.Bu).trans (ju hk a b c d)))
theorem Ck.check (h:Ck T nu pc pa nb un if' cf po rp ir mv) (n:Nat) {k:Nat} {f:List Nat} (h1:1<=k) (hk:k<=10) (V:Val k f):ax T (n+5) cf [.tup (L f)]=some .non:=(aq h.B9).trans (jO (h.frame n h1 hk V))
theorem Ck.AE (h:Ck T nu pc pa nb un if' cf po rp ir mv) {cp:Nat} (hcp:T[cp]?=some (bO pc)) (n:Nat) {k:Nat} (h1:1<=k) (hk:k<=10):ax T (n+3) cp [.int k]=some .non:=(aq hcp).trans (kB (by rw [h.zK,decide_eq_true (by omega)]))
theorem Ck.plain (h:Ck T nu pc pa nb un if' cf po rp ir mv) {cp pl:Nat} (hcp:T[cp]?=some (bO pc)) (hpl:T[pl]?=some (fO cp)) (n:Nat) {k:Nat} (h1:1<=k) (hk:k<=10):ax T (n+4) pl [.int k]=some (.tup (L (aA k))):=(aq hpl).trans (run_plain hk (h.AE hcp n h1 hk))
theorem Ck.Cd (h:Ck T nu pc pa nb un if' cf po rp ir mv) {ti:Nat} (hti:T[ti]?=some (jV cf)) (n:Nat) {k:Nat} {f:List Nat} (h1:1<=k) (hk:k<=10) (V:Val k f):ax T (n+6) ti [.tup (L f)]=some (lP k f):=(aq hti).trans (t5 hk V.frm (h.check n h1 hk V))
end
inductive Pl:Nat->D->Prop
 | int (n:Nat) (i:Int):Pl n (.int i)
 | bl (n:Nat) (b:Bool):Pl n (.bl b)
 | str (n:Nat) (x:PySem.Str):Pl n (.str x)
 | tup (n:Nat) (xs:List D) (hl:xs.length<=1000) (h:∀ x∈xs,Pl n x):Pl (n+1) (.tup xs)
 | lst (n:Nat) (xs:List D) (hl:xs.length<=1000) (h:∀ x∈xs,Pl n x):Pl (n+1) (.lst xs)
theorem oZ {cl:Cl} {fs:Nat} (a:Bool):evF cl (bI fs) [.bl a,.bl a]=some (.bl true):=ij rfl rfl rfl rfl rfl rfl (vf a)
theorem same_str {cl:Cl} {fs:Nat} (x:PySem.Str):evF cl (bI fs) [.str x,.str x]=some (.bl true):=ij rfl rfl rfl rfl rfl rfl (show some (x == x)=some true by rw [beq_self_eq_true])
theorem sameAll {T:List Fn} {sm:Nat} (h:T[sm]?=some (bI sm)):∀ (k n:Nat) (d:D),Pl k d->k<=n->ax T (n+1) sm [d,d]=some (.bl true):=by
 intro k
 induction k with
 | zero =>
  intro n d p _
  cases p with
  | int=>exact (aq h).trans (same_int _)
  | bl=>exact (aq h).trans (oZ _)
  | str=>exact (aq h).trans (same_str _)
 | succ k ih =>
  intro n d p hn
  cases p with
  | int=>exact (aq h).trans (same_int _)
  | bl=>exact (aq h).trans (oZ _)
  | str=>exact (aq h).trans (same_str _)
  | tup _ xs hl hx =>
   obtain ⟨m,rfl⟩:∃ m,n=m+1:=⟨n-1,by omega⟩
   exact (aq h).trans (mL (.inl rfl) hl fun x hd=>ih m x (hx x hd) (by omega))
  | lst _ xs hl hx =>
   obtain ⟨m,rfl⟩:∃ m,n=m+1:=⟨n-1,by omega⟩
   exact (aq h).trans (mL (.inr rfl) hl fun x hd=>ih m x (hx x hd) (by omega))
theorem Pl.LL {n:Nat} {xs:List Nat} (h:xs.length<=1000):Pl (n+1) (.lst (RL.L xs)):=.lst _ _ (by rw [aV]; exact h) fun x hx=>by
 obtain ⟨a,_,rfl⟩:=List.mem_map.mp hx
 exact .int _ _
end RM
namespace RM
open RL RT
noncomputable def Cyc (a b c d:Nat):Prop:=(a<b/\b<c/\c<d)\/(b<c/\c<d/\d<a)\/(c<d/\d<a/\a<b)\/(d<a/\a<b/\b<c)
theorem oR {m:Nat} {r:Nat->Nat} (inv:∀ q,q<m->r (r q)=q) (nox:∀ q q',q<m->q'<m->¬ (q<q'/\q'<r q/\r q<r q')) {a b c d:Nat} (ha:a<m) (hb:b<m) (hc:c<m) (hd:d<m) (e1:r a=c) (e2:r b=d):¬ Cyc a b c d:=by
 have e3:r c=a:=by rw [<- e1]; exact inv a ha
 have e4:r d=b:=by rw [<- e2]; exact inv b hb
 rintro (h | h | h | h)
 ·exact nox a b ha hb ⟨h.1,by omega,by omega⟩
 ·exact nox b c hb hc ⟨h.1,by omega,by omega⟩
 ·exact nox c d hc hd ⟨h.1,by omega,by omega⟩
 ·exact nox d a hd ha ⟨h.1,by omega,by omega⟩
theorem zI {n:Nat} {f g:List Nat} (hf:f.length=n) (hg:g.length=n) (h:∀ x,x<n->at' f x=at' g x):f=g:=by
 refine List.ext_getElem? fun x=>?_
 by_cases hx:x<n
 ·rw [dJ (by omega),dJ (by omega),h x hx]
 ·rw [List.getElem?_eq_none (by omega),List.getElem?_eq_none (by omega)]
structure Way (n:Nat) (to ba:Nat->Nat):Prop where
 lt:∀ p,p<2*n->to p<2*n
 blt:∀ p,p<2*n->ba p<2*n
 tb:∀ p,p<2*n->to (ba p)=p
 bt:∀ p,p<2*n->ba (to p)=p
 cyc:∀ a b c d,a<2*n->b<2*n->c<2*n->d<2*n->a<b->b<c->c<d->Cyc (rd n (ba (rd n a))) (rd n (ba (rd n b))) (rd n (ba (rd n c))) (rd n (ba (rd n d)))\/Cyc (rd n (ba (rd n d))) (rd n (ba (rd n c))) (rd n (ba (rd n b))) (rd n (ba (rd n a)))
noncomputable def bK (n:Nat) (to ba:Nat->Nat) (f:List Nat):List Nat:=(List.range (2*n)).map fun p=>to (at' f (ba p))
theorem m4 (n:Nat) (to ba:Nat->Nat) (f:List Nat):(bK n to ba f).length=2*n:=by simp [bK]
theorem cH {n:Nat} {to ba:Nat->Nat} {f:List Nat} {p:Nat} (h:p<2*n):at' (bK n to ba f) p=to (at' f (ba p)):=by
 simp [bK,at',h]
theorem Way.inj {n:Nat} {to ba:Nat->Nat} (W:Way n to ba) {p q:Nat} (hp:p<2*n) (hq:q<2*n) (h:to p=to q):p=q:=by rw [<- W.bt p hp,h,W.bt q hq]
theorem Way.val {n:Nat} {to ba:Nat->Nat} (W:Way n to ba) {f:List Nat} (V:Val n f):Val n (bK n to ba f):=by
 have F:=V.frm
 have hl:=m4 n to ba f
 refine ⟨⟨hl,fun x hx=>?_,fun x=>?_,fun x hx e=>?_⟩,fun q q' hq hq' h=>?_⟩
 ·rw [cH hx]
  exact W.lt _ (F.lt _ (W.blt _ hx))
 ·by_cases hx:x<2*n
  ·have h1:=F.lt _ (W.blt _ hx)
   rw [cH hx,cH (W.lt _ h1),W.bt _ h1,F.inv,W.tb _ hx]
  ·rw [fU (f:=bK n to ba f) (x:=x) (by omega),fU (by omega)]
 ·rw [cH hx] at e
  have h1:=F.lt _ (W.blt _ hx)
  have:at' f (ba x)=ba x:=by rw [<- W.bt _ h1,e]
  exact F.no _ (W.blt _ hx) this
 ·obtain ⟨h1,h2,h3⟩:=h
  have rl:∀ q,q<2*n->rnd n f q<2*n:=fun q hq=>aW (F.lt _ (aW hq))
  have rr:∀ q,q<2*n->rnd n f (rnd n f q)=q:=fun q hq=>by
   unfold rnd
   rw [cg (F.lt _ (aW hq)),F.inv,cg hq]
  have key:∀ q,q<2*n->rnd n (bK n to ba f) q<2*n/\rnd n f (rd n (ba (rd n q)))=rd n (ba (rd n (rnd n (bK n to ba f) q))):=fun q hq=>by
   have a1:=aW hq
   have a2:=W.blt _ a1
   have a3:=F.lt _ a2
   unfold rnd
   rw [cH a1]
   refine ⟨aW (W.lt _ a3),?_⟩
   rw [cg a2,cg (W.lt _ a3),W.bt _ a3]
  obtain ⟨k1,k2⟩:=key q hq
  obtain ⟨k3,k4⟩:=key q' hq'
  have bl:∀ q,q<2*n->rd n (ba (rd n q))<2*n:=fun q hq=>aW (W.blt _ (aW hq))
  rcases W.cyc q q' _ _ hq hq' k1 k3 h1 h2 h3 with c | c
  ·exact oR rr V.nox (bl _ hq) (bl _ hq') (bl _ k1) (bl _ k3) k2 k4 c
  ·refine oR rr V.nox (bl _ k3) (bl _ k1) (bl _ hq') (bl _ hq) ?_ ?_ c
   ·rw [<- k4,rr _ (bl _ hq')]
   ·rw [<- k2,rr _ (bl _ hq)]
noncomputable def ovr (n p:Nat):Nat:=if p<n then p+n else p-n
noncomputable def mir (n p:Nat):Nat:=if p<n then n-1-p else 3*n-1-p
theorem lQ {n q:Nat} (c:q<n):rd n q=q:=by unfold rd; rw [if_pos c]
theorem lX {n q:Nat} (c:¬ q<n):rd n q=3*n-1-q:=by unfold rd; rw [if_neg c]
theorem mY {n q:Nat} (c:q<n):ovr n q=q+n:=by unfold ovr; rw [if_pos c]
theorem mF {n q:Nat} (c:¬ q<n):ovr n q=q-n:=by unfold ovr; rw [if_neg c]
theorem bP {n q:Nat} (c:q<n):mir n q=n-1-q:=by unfold mir; rw [if_pos c]
theorem ef {n q:Nat} (c:¬ q<n):mir n q=3*n-1-q:=by unfold mir; rw [if_neg c]
theorem kg {n p:Nat} (hp:p<2*n):ovr n p<2*n/\ovr n (ovr n p)=p:=by
 by_cases c:p<n
 ·rw [mY c,mF (by omega)]; exact ⟨by omega,by omega⟩
 ·rw [mF c,mY (by omega)]; exact ⟨by omega,by omega⟩
theorem jD {n p:Nat} (hp:p<2*n):mir n p<2*n/\mir n (mir n p)=p:=by
 by_cases c:p<n
 ·rw [bP c,bP (by omega)]; exact ⟨by omega,by omega⟩
 ·rw [ef c,ef (by omega)]; exact ⟨by omega,by omega⟩
theorem jH {n q:Nat} (hq:q<2*n):rd n (ovr n (rd n q))=2*n-1-q:=by
 by_cases c:q<n
 ·rw [lQ c,mY c,lX (by omega)]; omega
 ·rw [lX c,mF (by omega),lQ (by omega)]; omega
theorem jJ {n q:Nat} (hq:q<2*n):rd n (mir n (rd n q))=mir n q:=by
 by_cases c:q<n
 ·rw [lQ c,bP c,lQ (by omega)]
 ·rw [lX c,ef (by omega),lX (by omega),ef c]; omega
theorem gC (n:Nat):Way n (ovr n) (ovr n) :=
 ⟨fun p hp=>(kg hp).1,fun p hp=>(kg hp).1,fun p hp=>(kg hp).2,fun p hp=>(kg hp).2,fun a b c d ha hb hc hd h1 h2 h3=>.inr (.inl (by
  rw [jH ha,jH hb,jH hc,jH hd]
  exact ⟨by omega,by omega,by omega⟩))⟩
theorem la (n:Nat):Way n (mir n) (mir n):=by
 refine ⟨fun p hp=>(jD hp).1,fun p hp=>(jD hp).1,fun p hp=>(jD hp).2,fun p hp=>(jD hp).2,fun a b c d ha hb hc hd h1 h2 h3=>.inr ?_⟩
 rw [jJ ha,jJ hb,jJ hc,jJ hd]
 by_cases cd:d<n
 ·rw [bP cd,bP (Nat.lt_trans h3 cd),bP (Nat.lt_trans h2 (Nat.lt_trans h3 cd)),bP (Nat.lt_trans h1 (Nat.lt_trans h2 (Nat.lt_trans h3 cd)))]
  exact .inl ⟨by omega,by omega,by omega⟩
 ·rw [ef cd]
  by_cases cc:c<n
  ·rw [bP cc,bP (Nat.lt_trans h2 cc),bP (Nat.lt_trans h1 (Nat.lt_trans h2 cc))]
   exact .inr (.inl ⟨by omega,by omega,by omega⟩)
  ·rw [ef cc]
   by_cases cb:b<n
   ·rw [bP cb,bP (Nat.lt_trans h1 cb)]
    exact .inr (.inr (.inl ⟨by omega,by omega,by omega⟩))
   ·rw [ef cb]
    by_cases ca:a<n
    ·rw [bP ca]
     exact .inr (.inr (.inr ⟨by omega,by omega,by omega⟩))
    ·rw [ef ca]
     exact .inl ⟨by omega,by omega,by omega⟩
theorem hJ:∀ {a b:List Nat},a.Nodup->(∀ x∈a,x∈b)->a.length<=b.length
 | [],_,_,_=>Nat.zero_le _
 | x :: r,b,hn,h=>by
  rw [List.nodup_cons] at hn
  have hx:=h x List.mem_cons_self
  have:=hJ (a:=r) (b:=b.erase x) hn.2 fun y hy=>(List.mem_erase_of_ne (fun e=>hn.1 (by rw [<- e]; exact hy))).mpr (h y (List.mem_cons_of_mem _ hy))
  rw [List.length_erase_of_mem hx] at this
  have:0<b.length:=List.length_pos_of_mem hx
  simp only [List.length_cons]
  omega
noncomputable def cnt (n:Nat) (P:Nat->Bool):Nat:=((List.range n).filter P).length
theorem fX {n m:Nat} {P Q:Nat->Bool} (g:Nat->Nat) (h:∀ p,p<n->P p=true->g p<m/\Q (g p)=true) (inj:∀ p q,p<n->q<n->P p=true->P q=true->g p=g q->p=q):cnt n P<=cnt m Q:=by
 unfold cnt
 have:((List.range n).filter P).length=(((List.range n).filter P).map g).length:=by simp
 rw [this]
 refine hJ ?_ ?_
 ·rw [List.nodup_iff_pairwise_ne,List.pairwise_map]
  refine List.Pairwise.imp_of_mem ?_ ((List.nodup_iff_pairwise_ne.mp (List.nodup_range (n:=n))).filter P)
  intro a b ha hb hne e
  simp only [List.mem_filter,List.mem_range] at ha hb
  exact hne (inj a b ha.1 hb.1 ha.2 hb.2 e)
 ·intro x hx
  obtain ⟨p,hp,rfl⟩:=List.mem_map.mp hx
  simp only [List.mem_filter,List.mem_range] at hp ⊢
  exact h p hp.1 hp.2
end RM
namespace RM
open RL RT
theorem j9 {f:D->D->Option Bool}:∀ xs:List D,(∀ x∈xs,f x x=some true)->eqs f xs xs=some true
 | [],_=>rfl
 | x :: r,h=>by
  rw [eqs,h x List.mem_cons_self,Option.bind_some,j9 r fun y hy=>h y (List.mem_cons_of_mem _ hy)]
  rfl
theorem A7:∀ (k n:Nat) (d:D),Pl k d->k<=n->eqD n d d=some true:=by
 intro k
 induction k with
 | zero =>
  intro n d p _
  cases p with
  | int i=>cases n <;> simp [eqD]
  | bl i=>cases n <;> simp [eqD]
  | str i=>cases n <;> simp [eqD]
 | succ k ih =>
  intro n d p hn
  obtain ⟨m,rfl⟩:∃ m,n=m+1:=⟨n-1,by omega⟩
  cases p with
  | int i=>simp [eqD]
  | bl i=>simp [eqD]
  | str i=>simp [eqD]
  | tup _ xs hl h=>rw [eqD,j9 xs fun x hx=>ih m x (h x hx) (by omega)]; simp
  | lst _ xs hl h=>rw [eqD,j9 xs fun x hx=>ih m x (h x hx) (by omega)]; simp
theorem vx {k:Nat} {d:D} (p:Pl k d) (h:k<=8):aR .ne d d=some false:=by
 show (eqD 8 d d).map not=some false
 rw [A7 k 8 d p h]; rfl
theorem Bj {ns:List Int} (hl:ns.length<=63):pA (.scr (LI ns)) (.int 63)=some (.lst (LI ns)):=by
 show some (D.lst ((LI ns).take (cutAt (LI ns).length 63)))=_
 rw [List.take_of_length_le]
 have:(LI ns).length=ns.length:=by simp [LI]
 rw [this]
 unfold cutAt
 rw [if_pos (by decide)]
 have:(63:Int).toNat=63:=rfl
 omega
theorem sM {cl:Cl} {m N:Nat} {M:List Nat} {B:Ss} {ns:List Int} (hl:ns.length<=63) (hN:N<=1000)
  (turn:∀ (k:Nat) (os:List (Option D)),k<N->os.length=m->∃ os',os'.length=m+1/\ag cl M B (some (.lst (LI ns)) :: some (.int (k:Nat)) :: os)=some (.nx,some (.lst (LI ns)) :: os')) :
  evF cl ⟨1,m+2,M,[],.cons (.asg 0 (.slT (.var 0) (.cst (.int 63)))) (.cons (.forr [1] (.rng1 (.cst (.int (N:Nat)))) B) (.cons (.ret (.cst (.bl true))) .nil))⟩ [.scr (LI ns)]=some (.bl true):=by
 have e1:=bC (n:=N) hN
 obtain ⟨σ',e,os,hos,rfl⟩:=cm (f:=ag cl M B) (tg:=[1]) (xs:=List.range N) (σ:=some (.lst (LI ns)) :: List.replicate (m+1) none) (fun _ σ=>∃ os:List (Option D),os.length=m+1/\σ=some (.lst (LI ns)) :: os) ⟨_,by simp,rfl⟩ (by
  rintro p x q σ hx ⟨os,ho,rfl⟩
  have hxN:x<N:=by
   have:x∈List.range N:=by rw [hx]; simp
   simpa using this
  cases os with
  | nil=>simp at ho
  | cons o os =>
   obtain ⟨os',h1,h2⟩:=turn x os hxN (by simpa using ho)
   exact ⟨_,by simpa [az] using h2,os',h1,rfl⟩)
 exact bz rfl rfl (aL (AD (ab rfl) ak (Bj hl)) (by simp [bj,D.imm,a5,rP]) (gf (jC ak e1) e (bx ak rfl)))
section
variable {cl:Cl} {n:Nat} {f:List Nat}
theorem sZ {p:Nat} (h:p<2*n):ixV (.tup (L (aA n))) (.int (p:Nat))=some (.int (ovr n p:Nat)):=by
 rw [cM (by simp [aA]; omega),plain_at]
 unfold ovr
 split
 ·rw [Nat.add_comm]
 ·rfl
noncomputable def ib (n:Nat):List Nat:=(List.range n).reverse ++ (List.range' n n).reverse
theorem vE {p:Nat} (h:p<2*n):at' (ib n) p=mir n p:=by
 unfold at' ib mir
 split
 ·rename_i c
  rw [List.getElem?_append_left (by simpa using c),List.getElem?_reverse (by simpa using c)]
  simp
  rw [List.getElem?_range (by omega)]
  rfl
 ·rename_i c
  rw [List.getElem?_append_right (by simp; omega),List.getElem?_reverse (by simp; omega)]
  simp
  rw [List.getElem?_range' (by omega)]
  simp
  omega
theorem xM {p:Nat} (h:p<2*n):ixV (.lst (L (ib n))) (.int (p:Nat))=some (.int (mir n p:Nat)):=by
 show bZ (L (ib n)) (p:Int)=_
 rw [eP,ma,dJ (by simp [ib]; omega),vE h]
 rfl
theorem yQ {σ:St} {i:Nat} (hn:n<=10) (h:(σ[i]?).bind id=some (.int n)):ev cl σ (.bin .add (.rev (.rng1 (.var i))) (.rev (.rng2 (.var i) (.bin .mul (.cst (.int 2)) (.var i)))))=some (.lst (L (ib n))):=by
 have e1:=bC (n:=n) (by omega)
 have e2:=cS (a:=n) (b:=2*n) (by omega) (by omega)
 rw [show 2*n-n=n by omega,show ((2*n:Nat):Int)=2*(n:Int) by omega] at e2
 have e3:ay .mul (.int 2) (.int (n:Int))=some (.int (2*(n:Int))):=bg (by decide) (by decide)
 simp only [ev,h,Option.bind_some,e1,e2,e3,Option.map_some]
 show (if (L (List.range n)).reverse.length+(L (List.range' n n)).reverse.length<=most then some (D.lst ((L (List.range n)).reverse ++ (L (List.range' n n)).reverse)) else none)=_
 rw [if_pos (by simp [L,most]; omega)]
 simp [ib,L]
theorem uQ {fm fp fo fc:Nat} (h1:1<=n) (hn:n<=10) (F:Frm n f) (hc:cl fc [.tup (L f)]=some .non) (ho:cl fo [.tup (L f)]=some (.int n)) (hp:cl fp [.int n]=some (.tup (L (aA n))))
  (hm:cl fm [.tup (L f),.tup (L (aA n))]=some (.tup (L (bK n (ovr n) (ovr n) f)))):evF cl (jF fm fp fo fc) [.tup (L f)]=some (.tup (L (bK n (ovr n) (ovr n) f))):=by
 simp [evF,jF,ag,evS,ev,evs,hc,ho,hp,hm,aJ,D.imm,bf,aE]
theorem mB {fm fo fc:Nat} (h1:1<=n) (hn:n<=10) (F:Frm n f) (hc:cl fc [.tup (L f)]=some .non) (ho:cl fo [.tup (L f)]=some (.int n))
  (hm:cl fm [.tup (L f),.lst (L (ib n))]=some (.tup (L (bK n (mir n) (mir n) f)))):evF cl (gK fm fo fc) [.tup (L f)]=some (.tup (L (bK n (mir n) (mir n) f))) :=
 bz rfl rfl (ya (cy (ab rfl) hc) (aL (cy (ab rfl) ho) rfl (bx (iJ (ab rfl) (yQ hn rfl) hm) (by simp [aJ,D.imm,bf]))))
end
section
variable {T:List Fn} {nu pc pa nb un if' cf po rp ir mv:Nat}
theorem xJ {n:Nat} {to ba:Nat->Nat} {f E:List Nat} (W:Way n to ba) (h1:E.length=2*n) (h2:∀ p,p<2*n->at' E (to p)=to (at' f p)):E=bK n to ba f:=by
 refine zI h1 (m4 ..) fun p hp=>?_
 rw [cH hp]
 have:=h2 (ba p) (W.blt _ hp)
 rw [W.tb _ hp] at this
 exact this
theorem Ck.vg (h:Ck T nu pc pa nb un if' cf po rp ir mv) (n:Nat) {k:Nat} {f:List Nat} {U:D} {to ba:Nat->Nat} (hk:k<=10) (F:Frm k f) (W:Way k to ba) (hT:∀ p:Nat,p<2*k->ixV U (.int (p:Nat))=some (.int (to p:Nat))):ax T (n+1) mv [.tup (L f),U]=some (.tup (L (bK k to ba f))):=by
 obtain ⟨E,h1,h2,h3⟩:=h.move n hk F hT W.lt fun p q hp hq e=>W.inj hp hq e
 rw [h3,xJ W h1 h2]
theorem Ck.over (h:Ck T nu pc pa nb un if' cf po rp ir mv) {cp pl ov:Nat} (hcp:T[cp]?=some (bO pc)) (hpl:T[pl]?=some (fO cp)) (hov:T[ov]?=some (jF mv pl po cf)) (n:Nat) {k:Nat} {f:List Nat} (h1:1<=k) (hk:k<=10) (V:Val k f):ax T (n+6) ov [.tup (L f)]=some (.tup (L (bK k (ovr k) (ovr k) f))) :=
 (aq hov).trans (uQ h1 hk V.frm (h.check n h1 hk V) (h.half (n+4) V.frm.len) (h.plain hcp hpl (n+1) h1 hk) (h.vg (n+4) hk V.frm (gC k) fun p hp=>sZ hp))
theorem Ck.mirrored (h:Ck T nu pc pa nb un if' cf po rp ir mv) {mi:Nat} (hmi:T[mi]?=some (gK mv po cf)) (n:Nat) {k:Nat} {f:List Nat} (h1:1<=k) (hk:k<=10) (V:Val k f):ax T (n+6) mi [.tup (L f)]=some (.tup (L (bK k (mir k) (mir k) f))) :=
 (aq hmi).trans (mB h1 hk V.frm (h.check n h1 hk V) (h.half (n+4) V.frm.len) (h.vg (n+4) hk V.frm (la k) fun p hp=>xM hp))
end
end RM
namespace RM
open RL RT
section
variable {m:Nat} {a b:Nat->Nat} {x:Nat}
end
end RM
namespace RM
open RL RT
section
variable {cl:Cl} {m x:Nat} {a b:Nat->Nat} {A B:D}
end
end RM
namespace RM
open RL RT
section
variable {cl:Cl} {m:Nat} {a b:Nat->Nat} {A B:D}
end
end RM
namespace RM
open RL RT
section
variable {n:Nat} {h l:List Nat}
end
end RM
namespace RM
open RL RT
section
variable {cl:Cl} {n:Nat} {h l:List Nat}
end
end RM
namespace RM
open RL RT
section
variable {n:Nat} {h l:List Nat}
end
end RM
namespace RM
open RL RT
section
variable {cl:Cl} {n:Nat} {h l inner:List Nat}
end
end RM
namespace RM
open RL RT
section
variable {T:List Fn} {nu pc pa nb un if' cf po rp ir mv rn mk rg jb pu c2 hu:Nat}
end
section
variable {T:List Fn} {mx rw dg pl hk ci ft tx rg hu ov fr:Nat}
end
section
variable {n:Nat} {f:List Nat}
end
end RM
namespace RM
open RL RT
theorem uT {xs:List Nat} {b:Nat->Nat} (nd:xs.Nodup) (cl:∀ x∈xs,b x∈xs) (bi:∀ x∈xs,b (b x)=x) (no:∀ x∈xs,b x≠x):xs.length % 2=0:=by
 have h1:(xs.filter fun x=>decide (x<b x)).length<=(xs.filter fun x=>decide (b x<x)).length:=by
  have:(xs.filter fun x=>decide (x<b x)).length=((xs.filter fun x=>decide (x<b x)).map b).length:=by simp
  rw [this]
  refine hJ ?_ fun y hy=>?_
  ·rw [List.nodup_iff_pairwise_ne,List.pairwise_map]
   refine List.Pairwise.imp_of_mem ?_ (List.nodup_iff_pairwise_ne.mp (nd.filter _))
   intro x y hx hy hne e
   rw [List.mem_filter] at hx hy
   exact hne (by rw [<- bi x hx.1,e,bi y hy.1])
  ·obtain ⟨x,hx,rfl⟩:=List.mem_map.mp hy
   rw [List.mem_filter,decide_eq_true_eq] at hx ⊢
   exact ⟨cl x hx.1,by rw [bi x hx.1]; exact hx.2⟩
 have h2:(xs.filter fun x=>decide (b x<x)).length<=(xs.filter fun x=>decide (x<b x)).length:=by
  have:(xs.filter fun x=>decide (b x<x)).length=((xs.filter fun x=>decide (b x<x)).map b).length:=by simp
  rw [this]
  refine hJ ?_ fun y hy=>?_
  ·rw [List.nodup_iff_pairwise_ne,List.pairwise_map]
   refine List.Pairwise.imp_of_mem ?_ (List.nodup_iff_pairwise_ne.mp (nd.filter _))
   intro x y hx hy hne e
   rw [List.mem_filter] at hx hy
   exact hne (by rw [<- bi x hx.1,e,bi y hy.1])
  ·obtain ⟨x,hx,rfl⟩:=List.mem_map.mp hy
   rw [List.mem_filter,decide_eq_true_eq] at hx ⊢
   exact ⟨cl x hx.1,by rw [bi x hx.1]; exact hx.2⟩
 have h3:∀ ys:List Nat,(∀ x∈ys,b x≠x)->ys.length=(ys.filter fun x=>decide (x<b x)).length+(ys.filter fun x=>decide (b x<x)).length:=by
  intro ys
  induction ys with
  | nil=>intro _; rfl
  | cons y ys ih =>
   intro h
   have i:=ih fun x hx=>h x (List.mem_cons_of_mem _ hx)
   have hy:=h y List.mem_cons_self
   rw [List.filter_cons,List.filter_cons]
   by_cases c:y<b y
   ·rw [if_pos (decide_eq_true c),if_neg (by rw [decide_eq_true_eq]; omega)]
    simp only [List.length_cons]
    omega
   ·rw [if_neg (by rw [decide_eq_true_eq]; exact c),if_pos (decide_eq_true (by omega))]
    simp only [List.length_cons]
    omega
 have:=h3 xs no
 omega
section
variable {n:Nat} {h l:List Nat}
set_option synthInstance.maxSize 10000 in
set_option synthInstance.maxHeartbeats 0 in
end
end RM
set_option maxHeartbeats 1000000
namespace RM
open RL RT
noncomputable def sP (n:Nat) (f:List Nat) (s p:Nat):Bool:=decide (p % n<=s/\s<at' f p % n)
noncomputable def sQ (n:Nat) (f:List Nat) (s p:Nat):Bool:=decide (p<at' f p) && decide ((if p % n<=at' f p % n then p % n else at' f p % n)<=s/\s<(if p % n<=at' f p % n then at' f p % n else p % n))
noncomputable def sm (n:Nat) (f:List Nat) (s:Nat):Nat:=cnt (2*n) (sP n f s)
noncomputable def smL (n:Nat) (f:List Nat):List Nat:=(List.range (n-1)).map (sm n f)
section
variable {n:Nat} {f:List Nat}
theorem Bb (F:Frm n f) (s:Nat):cnt (2*n) (sQ n f s)=sm n f s:=by
 unfold sm
 apply Nat.le_antisymm
 ·refine fX (fun q=>if q % n<=s then q else at' f q) (fun q hq h=>?_) (fun q q' hq hq' h h' e=>?_)
  ·unfold sQ at h
   rw [Bool.and_eq_true,decide_eq_true_eq,decide_eq_true_eq] at h
   obtain ⟨h1,h2,h3⟩:=h
   unfold sP
   rw [decide_eq_true_eq]
   by_cases c:q % n<=s
   ·rw [if_pos c]
    refine ⟨hq,c,?_⟩
    by_cases d:q % n<=at' f q % n
    ·rw [if_pos d] at h3
     exact h3
    ·rw [if_neg d] at h3
     omega
   ·rw [if_neg c]
    refine ⟨F.lt q hq,?_,by rw [F.inv]; omega⟩
    by_cases d:q % n<=at' f q % n
    ·rw [if_pos d] at h2
     omega
    ·rw [if_neg d] at h2
     exact h2
  ·unfold sQ at h h'
   rw [Bool.and_eq_true,decide_eq_true_eq] at h h'
   have a:=h.1
   have b:=h'.1
   by_cases c:q % n<=s
   ·by_cases c':q' % n<=s
    ·rw [if_pos c,if_pos c'] at e
     exact e
    ·rw [if_pos c,if_neg c'] at e
     subst e
     rw [F.inv] at a
     omega
   ·by_cases c':q' % n<=s
    ·rw [if_neg c,if_pos c'] at e
     subst e
     rw [F.inv] at b
     omega
    ·rw [if_neg c,if_neg c'] at e
     rw [<- F.inv q,e,F.inv]
 ·refine fX (fun p=>if p<at' f p then p else at' f p) (fun p hp h=>?_) (fun p p' hp hp' h h' e=>?_)
  ·unfold sP at h
   rw [decide_eq_true_eq] at h
   unfold sQ
   rw [Bool.and_eq_true,decide_eq_true_eq,decide_eq_true_eq]
   have no:=F.no p hp
   by_cases c:p<at' f p
   ·rw [if_pos c,if_pos (by omega),if_pos (by omega)]
    exact ⟨hp,c,h⟩
   ·rw [if_neg c,F.inv,if_neg (by omega),if_neg (by omega)]
    exact ⟨F.lt p hp,by omega,h⟩
  ·unfold sP at h h'
   rw [decide_eq_true_eq] at h h'
   by_cases c:p<at' f p
   ·by_cases c':p'<at' f p'
    ·rw [if_pos c,if_pos c'] at e
     exact e
    ·rw [if_pos c,if_neg c'] at e
     subst e
     rw [F.inv] at h
     omega
   ·by_cases c':p'<at' f p'
    ·rw [if_neg c,if_pos c'] at e
     subst e
     rw [F.inv] at h'
     omega
    ·rw [if_neg c,if_neg c'] at e
     rw [<- F.inv p,e,F.inv]
theorem jc:∀ n,n<11->∀ p,p<2*n->ovr n p % n=p % n/\mir n p % n=n-1-p % n:=by decide +kernel
theorem vT (hn:n<=10) (F:Frm n f) (s:Nat):sm n (bK n (ovr n) (ovr n) f) s=sm n f s:=by
 have W:=gC n
 have m:∀ p,p<2*n->sP n (bK n (ovr n) (ovr n) f) s p=sP n f s (ovr n p):=fun p hp=>by
  unfold sP
  rw [cH hp,(jc n (by omega) _ (F.lt _ (W.lt p hp))).1,(jc n (by omega) p hp).1]
 unfold sm
 apply Nat.le_antisymm
 ·exact fX (ovr n) (fun p hp h=>⟨W.lt p hp,by rw [<- m p hp]; exact h⟩) (fun p q hp hq _ _ e=>W.inj hp hq e)
 ·exact fX (ovr n) (fun p hp h=>⟨W.lt p hp,by rw [m _ (W.lt p hp),W.bt p hp]; exact h⟩) (fun p q hp hq _ _ e=>W.inj hp hq e)
theorem Ad (hn:n<=10) (F:Frm n f) {s:Nat} (hs:s<n-1):sm n (bK n (mir n) (mir n) f) s=sm n f (n-1-1-s):=by
 have W:=la n
 have mf:=jc n (by omega)
 have lt:∀ p,p % n<n:=fun p=>Nat.mod_lt _ (by omega)
 unfold sm
 apply Nat.le_antisymm
 ·refine fX (fun p=>at' f (mir n p)) (fun p hp h=>?_) (fun p q hp hq _ _ e=>?_)
  ·unfold sP at h ⊢
   rw [decide_eq_true_eq] at h ⊢
   rw [cH hp,(mf _ (F.lt _ (W.lt p hp))).2] at h
   have a:=(mf p hp).2
   have b:=lt (at' f (mir n p))
   have c:=lt p
   rw [F.inv]
   exact ⟨F.lt _ (W.lt p hp),by omega,by omega⟩
  ·have:=congrArg (at' f) e
   rw [F.inv,F.inv] at this
   exact W.inj hp hq this
 ·refine fX (fun p=>mir n (at' f p)) (fun p hp h=>?_) (fun p q hp hq _ _ e=>?_)
  ·have l:=F.lt p hp
   unfold sP at h ⊢
   rw [decide_eq_true_eq] at h ⊢
   rw [cH (W.lt _ l),W.bt _ l,F.inv,(mf p hp).2,(mf _ l).2]
   have b:=lt (at' f p)
   have c:=lt p
   exact ⟨W.lt _ l,by omega,by omega⟩
  ·have:=W.inj (F.lt p hp) (F.lt q hq) e
   rw [<- F.inv p,this,F.inv]
theorem uB (hn:n<=10) (F:Frm n f):smL n (bK n (ovr n) (ovr n) f)=smL n f:=by
 unfold smL
 exact List.map_congr_left fun s _=>vT hn F s
theorem wV (hn:n<=10) (F:Frm n f):smL n (bK n (mir n) (mir n) f)=(smL n f).reverse:=by
 unfold smL
 apply List.ext_getElem
 ·simp
 ·intro k h1 h2
  simp at h1
  rw [List.getElem_map,List.getElem_range,Ad hn F h1,List.getElem_reverse,List.getElem_map,List.getElem_range]
  simp
theorem nh {m:Nat} {P:Nat->Bool} (g:Nat->Nat) (h:∀ p,p<m->P p=true->g p<m/\P (g p)=true/\g (g p)=p/\g p≠p):cnt m P % 2=0:=by
 unfold cnt
 have mem:∀ x,x∈(List.range m).filter P↔x<m/\P x=true:=fun x=>by rw [List.mem_filter,List.mem_range]
 refine uT (b:=g) (List.nodup_range.filter _) (fun x hx=>?_) (fun x hx=>?_) (fun x hx=>?_)
 ·obtain ⟨a,b⟩:=(mem x).mp hx
  exact (mem _).mpr ⟨(h x a b).1,(h x a b).2.1⟩
 ·obtain ⟨a,b⟩:=(mem x).mp hx
  exact (h x a b).2.2.1
 ·obtain ⟨a,b⟩:=(mem x).mp hx
  exact (h x a b).2.2.2
theorem ph {A B C:Nat->Bool}:∀ xs:List Nat,(∀ x∈xs,(if A x then 1 else 0)=(if B x then 1 else 0)+(if C x then 1 else 0))->(xs.filter A).length=(xs.filter B).length+(xs.filter C).length
 | [],_=>rfl
 | x :: r,h=>by
  have ih:=ph r fun y hy=>h y (List.mem_cons_of_mem _ hy)
  have hx:=h x (List.mem_cons_self ..)
  rw [List.filter_cons,List.filter_cons,List.filter_cons]
  cases a:A x <;> cases b:B x <;> cases c:C x <;> rw [a,b,c] at hx <;> simp at hx ⊢ <;> omega
theorem xo (hn:n<=10) (F:Frm n f) (s:Nat):sm n f s % 2=0:=by
 have W:=gC n
 have e1:cnt (2*n) (fun p=>decide (p % n<=s)) % 2=0:=nh (ovr n) fun p hp h=>by
  rw [decide_eq_true_eq] at h
  rw [decide_eq_true_eq,(jc n (by omega) p hp).1]
  exact ⟨W.lt p hp,h,W.bt p hp,by unfold ovr; split <;> omega⟩
 have e2:cnt (2*n) (fun p=>decide (p % n<=s/\at' f p % n<=s)) % 2=0:=nh (at' f) fun p hp h=>by
  rw [decide_eq_true_eq] at h
  rw [decide_eq_true_eq,F.inv]
  exact ⟨F.lt p hp,⟨h.2,h.1⟩,rfl,F.no p hp⟩
 have e3:cnt (2*n) (fun p=>decide (p % n<=s))=cnt (2*n) (fun p=>decide (p % n<=s/\at' f p % n<=s))+sm n f s:=by
  unfold sm cnt
  refine ph _ fun x _=>?_
  unfold sP
  by_cases c:x % n<=s
  ·by_cases d:at' f x % n<=s
   ·rw [if_pos (decide_eq_true c),if_pos (decide_eq_true ⟨c,d⟩),if_neg (by rw [decide_eq_true_eq]; omega)]
   ·rw [if_pos (decide_eq_true c),if_neg (by rw [decide_eq_true_eq]; omega),if_pos (by rw [decide_eq_true_eq]; omega)]
  ·rw [if_neg (by rw [decide_eq_true_eq]; omega),if_neg (by rw [decide_eq_true_eq]; omega),if_neg (by rw [decide_eq_true_eq]; omega)]
 omega
end
end RM
set_option maxHeartbeats 1000000
namespace RT
open RL
end RT
namespace RM
open RL RT
section
variable {cl:Cl} {n:Nat} {f:List Nat}
theorem qY:∀ xs:List Nat,bM (L xs)=some (xs.map Int.ofNat)
 | []=>rfl
 | x :: r=>by rw [show L (x :: r)=.int x :: L r from rfl,bM,qY r]; rfl
theorem BN (x y:Nat):biV .sorted (.lst [.int (x:Nat),.int (y:Nat)])=some (.lst [.int ((if x<=y then x else y:Nat):Int),.int ((if x<=y then y else x:Nat):Int)]):=by
 show some (D.lst ((if (x:Int)<=(y:Int) then [(x:Int),(y:Int)] else [(y:Int),(x:Int)]).map .int))=_
 by_cases c:x<=y
 ·rw [if_pos (by omega),if_pos c,if_pos c]
  rfl
 ·rw [if_neg (by omega),if_neg c,if_neg c]
  rfl
end
end RM
set_option maxHeartbeats 1000000
namespace RM
open RL RT
theorem map_set {m x:Nat} (g:Nat->Nat) (hx:x<m) (v:Nat):((List.range m).map g).set x v=(List.range m).map fun s=>if s=x then v else g s:=by
 apply List.ext_getElem
 ·simp
 ·intro k h1 h2
  rw [List.getElem_set]
  simp only [List.getElem_map,List.getElem_range]
  by_cases c:x=k
  ·rw [if_pos c,if_pos c.symm]
  ·rw [if_neg c,if_neg (Ne.symm c)]
theorem yN {m x:Nat} (g:Nat->Nat) (hx:x<m):at' ((List.range m).map g) x=g x:=by simp [at',hx]
theorem uH (k:Nat) (P:Nat->Bool):cnt (k+1) P=cnt k P+if P k then 1 else 0:=by
 unfold cnt
 rw [List.range_succ,List.filter_append,List.length_append,List.filter_cons]
 split <;> rfl
theorem x3 {f:List Nat} {x:Nat} (h:x<f.length):ixV (.lst (L f)) (.int (x:Nat))=some (.int (at' f x:Nat)):=by
 show bZ _ _=_
 rw [eP,ma,dJ h]
 rfl
theorem iM (x:Nat) {q:Nat} (h:0<q):ay .mod (.int (x:Nat)) (.int (q:Nat))=some (.int ((x % q:Nat):Int)):=by
 rw [cN (by omega)]
 congr 2
theorem Aj {n:Nat} (h1:1<=n):ay .sub (.int (n:Nat)) (.int 1)=some (.int ((n-1:Nat):Int)):=by
 rw [iT]
 congr 2
 omega
section
variable {cl:Cl} {n:Nat} {f:List Nat}
theorem t7 {a b:Nat} (hb:b<=n-1) (hn:n<=10) (g:Nat->Nat) (o3 o4 o5:Option D):∃ o5',bb (ag cl [2] dq) [5] (L (List.range' a (b-a))) [some (.tup (L f)),some (.int (n:Nat)),some (.lst (L ((List.range (n-1)).map g))),o3,o4,o5]=some (.nx,[some (.tup (L f)),some (.int (n:Nat)),some (.lst (L ((List.range (n-1)).map fun s=>g s+if a<=s/\s<b then 1 else 0))),o3,o4,o5']):=by
 obtain ⟨σ',e,o5',rfl⟩:=cm (f:=ag cl [2] dq) (tg:=[5]) (xs:=List.range' a (b-a)) (σ:=[some (.tup (L f)),some (.int (n:Nat)),some (.lst (L ((List.range (n-1)).map g))),o3,o4,o5]) (fun u σ=>∃ o5,σ=[some (.tup (L f)),some (.int (n:Nat)),some (.lst (L ((List.range (n-1)).map fun s=>g s+if a<=s/\s<a+u.length then 1 else 0))),o3,o4,o5]) ⟨o5,by
   rw [show (fun s=>g s+if a<=s/\s<a+([]:List Nat).length then 1 else 0)=g from funext fun s=>by rw [if_neg (by simp)]; rfl]⟩ (by
  rintro u x v σ hu ⟨o5,rfl⟩
  have hx:x=a+u.length/\u.length<b-a:=by
   have hlen:=congrArg List.length hu
   rw [List.length_range',List.length_append,List.length_cons] at hlen
   have c:u.length<b-a:=by omega
   have this:=congrArg (fun l=>l[u.length]?) hu
   simp only [List.getElem?_append_right (Nat.le_refl _),Nat.sub_self,List.getElem?_cons_zero] at this
   rw [List.getElem?_range' c] at this
   have:=Option.some.inj this
   exact ⟨by omega,c⟩
  obtain ⟨rfl,hl⟩:=hx
  have hx:a+u.length<n-1:=by omega
  have i:=x3 (f:=(List.range (n-1)).map fun s=>g s+if a<=s/\s<a+u.length then 1 else 0) (x:=a+u.length) (by simp; exact hx)
  rw [yN _ hx] at i
  have p:=dY (f:=(List.range (n-1)).map fun s=>g s+if a<=s/\s<a+u.length then 1 else 0) (i:=a+u.length) (j:=(g (a+u.length)+if a<=a+u.length/\a+u.length<a+u.length then 1 else 0)+1) (by simp; exact hx)
  rw [map_set _ hx] at p
  refine ⟨_,show ag cl [2] dq [some (.tup (L f)),some (.int (n:Nat)),some (.lst (L ((List.range (n-1)).map fun s=>g s+if a<=s/\s<a+u.length then 1 else 0))),o3,o4,some (.int ((a+u.length:Nat):Int))]=some (.nx,_) from n0 (ar (d:=.int (((g (a+u.length)+if a<=a+u.length/\a+u.length<a+u.length then 1 else 0)+1:Nat):Int)) (eS (ab rfl) (ab rfl) i) ak rfl) (ab rfl) rfl rfl p cn,some (.int ((a+u.length:Nat):Int)),?_⟩
  have:(fun s=>if s=a+u.length then (g (a+u.length)+if a<=a+u.length/\a+u.length<a+u.length then 1 else 0)+1 else g s+if a<=s/\s<a+u.length then 1 else 0)=fun s=>g s+if a<=s/\s<a+(u ++ [a+u.length]).length then 1 else 0:=funext fun s=>by
   rw [List.length_append,List.length_singleton]
   by_cases c:s=a+u.length
   ·subst c
    rw [if_pos rfl,if_neg (by omega),if_pos (by omega)]
   ·rw [if_neg c]
    by_cases d:a<=s/\s<a+u.length
    ·rw [if_pos d,if_pos (by omega)]
    ·rw [if_neg d,if_neg (by omega)]
  rw [<- this]
  rfl)
 refine ⟨o5',?_⟩
 rw [e]
 have:(fun s=>g s+if a<=s/\s<a+(List.range' a (b-a)).length then 1 else 0)=fun s=>g s+if a<=s/\s<b then 1 else 0:=funext fun s=>by
  rw [List.length_range']
  by_cases c:a<=s/\s<b
  ·rw [if_pos c,if_pos (by omega)]
  ·rw [if_neg c,if_neg (by omega)]
 rw [this]
theorem lG (h1:1<=n) (hn:n<=10) (F:Frm n f):evF cl fF [.tup (L f)]=some (.lst (L (smL n f))):=by
 have ln:biV .len (.tup (L f))=some (.int ((2*n:Nat):Int)):=by
  show some (D.int ((L f).length:Nat))=_
  rw [aV,F.len]
 have dv:ay .fdiv (.int ((2*n:Nat):Int)) (.int 2)=some (.int (n:Nat)):=by
  rw [fB (by decide) (by decide)]
  congr 2
  omega
 have r1:=bC (n:=n-1) (by omega)
 have mz:=iD (F:=fun σ1=>(ev cl σ1 (.cst (.int 0))).map some) (tg:=[5]) (σ:=[some (.tup (L f)),some (.int (n:Nat)),none,none,none,none]) (h:=fun i=>.int (i:Nat)) (g:=fun i=>.int ((cnt 0 (sP n f i):Nat):Int)) (fun _=>rfl) (List.range (n-1)) (fun i _=>rfl)
 have ez:((List.range (n-1)).map fun i=>D.int ((cnt 0 (sP n f i):Nat):Int))=L ((List.range (n-1)).map fun i=>cnt 0 (sP n f i)):=by unfold L; rw [List.map_map]; rfl
 rw [ez] at mz
 obtain ⟨σ',e,o3,o4,o5,rfl⟩:=jI (f:=ag cl [2] eW) (tg:=[3,4]) (pr f) (fun _=>rfl)
  (fun u σ=>∃ o3 o4 o5,σ=[some (.tup (L f)),some (.int (n:Nat)),some (.lst (L ((List.range (n-1)).map fun s=>cnt u.length (sP n f s)))),o3,o4,o5])
  (List.range (2*n)) [] [some (.tup (L f)),some (.int (n:Nat)),some (.lst (L ((List.range (n-1)).map fun s=>cnt 0 (sP n f s)))),none,none,none] (by
   rintro u p v σ hu ⟨o3,o4,o5,rfl⟩
   obtain ⟨hk,hp⟩:=cv (g:=id) (by simpa using hu)
   simp only [id] at hp
   subst hp
   have m1:=Nat.mod_lt u.length (show 0<n by omega)
   have m2:=Nat.mod_lt (at' f u.length) (show 0<n by omega)
   obtain ⟨o5',el⟩:=t7 (cl:=cl) (n:=n) (f:=f) (a:=u.length % n) (b:=at' f u.length % n) (by omega) hn (fun s=>cnt u.length (sP n f s)) (some (.int (u.length:Nat))) (some (.int (at' f u.length:Nat))) o5
   refine ⟨_,show ag cl [2] eW [some (.tup (L f)),some (.int (n:Nat)),some (.lst (L ((List.range (n-1)).map fun s=>cnt u.length (sP n f s)))),some (.int (u.length:Nat)),some (.int (at' f u.length:Nat)),o5]=some (.nx,_) from gf (zH (ar (ab rfl) (ab rfl) (iM _ (by omega))) (ar (ab rfl) (ab rfl) (iM _ (by omega))) (cS (by omega) (by omega))) el cn,some (.int (u.length:Nat)),some (.int (at' f u.length:Nat)),o5',?_⟩
   rw [List.length_append,List.length_singleton,show (fun s=>cnt (u.length+1) (sP n f s))=fun s=>cnt u.length (sP n f s)+if u.length % n<=s/\s<at' f u.length % n then 1 else 0 from funext fun s=>by
    rw [uH]
    unfold sP
    by_cases c:u.length % n<=s/\s<at' f u.length % n
    ·rw [if_pos (decide_eq_true c),if_pos c]
    ·rw [if_neg (by rw [decide_eq_true_eq]; exact c),if_neg c]])
  ⟨_,_,_,rfl⟩
 rw [<- iA F.len,List.nil_append,List.length_range] at e
 exact bz rfl rfl (aL (ar (bB (ab rfl) ln) ak dv) rfl (jY (fS (jC (ar (ab rfl) ak (Aj h1)) r1) (by rw [aV,List.length_range]; unfold most; omega) mz) (by rw [show ∀ xs:List Nat,a5 (.lst (L xs))=true from fun xs=>bf xs]; rfl) (gf (vt (ab rfl) rfl) e (bx (ab rfl) (by unfold aJ; rw [show ∀ xs:List Nat,a5 (.lst (L xs))=true from fun xs=>bf xs]; rfl)))))
theorem sq {β:Type} {F:St->Option D} {tg:List Nat} {σ:St} {h g:β->D} (im:∀ x,a5 (g x)=true):∀ xs:List β,(∀ x∈xs,(az tg (h x) σ).bind F=some (g x))->eV F true tg σ (xs.map h)=some (xs.map g)
 | [],_=>rfl
 | x :: r,hx=>by
  have a:=hx x (List.mem_cons_self ..)
  have b:=sq im r fun y hy=>hx y (List.mem_cons_of_mem _ hy)
  rw [List.map_cons,eV]
  cases hb:az tg (h x) σ with
  | none=>rw [hb] at a; cases a
  | some σ1 =>
   rw [hb] at a
   simp only [Option.bind_some] at a ⊢
   rw [a,Option.bind_some,if_pos (by rw [im x]; rfl),b]
   rfl
theorem vM {σ:St} {e:E} {tg:List Nat} {it:It} {ds ys:List D} (h:a8 cl σ it=some ds) (hf:ds.length<=most) (hm:eV (fun σ1=>ev cl σ1 e) (au e) tg σ ds=some ys):ev cl σ (.compL e tg it)=some (.lst ys):=by
 rw [ev,h,Option.bind_some,fits,if_pos hf,Option.bind_some,hm]
 rfl
noncomputable def sLo (n:Nat) (f:List Nat) (p:Nat):Nat:=if p % n<=at' f p % n then p % n else at' f p % n
noncomputable def sHi (n:Nat) (f:List Nat) (p:Nat):Nat:=if p % n<=at' f p % n then at' f p % n else p % n
noncomputable def spD (n:Nat) (f:List Nat) (p:Nat):D:=.lst [.int (sLo n f p:Nat),.int (sHi n f p:Nat)]
theorem qo {fo ft:Nat} (h1:1<=n) (hn:n<=10) (F:Frm n f) (ho:cl fo [.tup (L f)]=some (.int (n:Nat))) (ht:cl ft [.tup (L f)]=some (lP n f)):evF cl (kQ ft fo) [.tup (L f)]=some (.lst (L (smL n f))):=by
 have m1:=sq (F:=fun σ1=>ev cl σ1 (.bi .sorted (.lst (.cons (.bin .mod (.var 4) (.var 1)) (.cons (.bin .mod (.var 5) (.var 1)) .nil))))) (tg:=[4,5]) (σ:=[some (.tup (L f)),some (.int (n:Nat)),none,none,none,none,none,none]) (h:=pr f) (g:=spD n f) (fun _=>rfl) ((List.range (2*n)).filter fun p=>decide (p<at' f p)) (fun p hp=>by
  show ev cl [some (.tup (L f)),some (.int (n:Nat)),none,none,some (.int (p:Nat)),some (.int (at' f p:Nat)),none,none] _=_
  rw [bB (fA (aY (ar (ab rfl) (ab rfl) (iM p (by omega))) (aY (ar (ab rfl) (ab rfl) (iM (at' f p) (by omega))) dt))) (BN _ _)]
  rfl)
 have lt:(((List.range (2*n)).filter fun p=>decide (p<at' f p)).map (pr f)).length<=most:=by
  rw [List.length_map]
  refine Nat.le_trans (List.length_filter_le _ _) ?_
  rw [List.length_range]
  unfold most
  omega
 have ls:(((List.range (2*n)).filter fun p=>decide (p<at' f p)).map (spD n f)).length<=most:=by
  rw [List.length_map] at lt ⊢
  exact lt
 have m2:∀ s:Nat,bF (fun σ1=>((ev cl σ1 (.chain .le .lt (.var 6) (.var 3) (.var 7))).bind truth).bind fun k=>if k then (ev cl σ1 (.var 6)).map some else some none) [6,7] [some (.tup (L f)),some (.int (n:Nat)),some (.lst (((List.range (2*n)).filter fun p=>decide (p<at' f p)).map (spD n f))),some (.int (s:Nat)),none,none,none,none] (((List.range (2*n)).filter fun p=>decide (p<at' f p)).map (spD n f))=some ((((List.range (2*n)).filter fun p=>decide (p<at' f p)).filter fun p=>decide (sLo n f p<=s/\s<sHi n f p)).map fun p=>.int (sLo n f p:Nat)):=fun s=>by
  refine jK (h:=spD n f) (g:=fun p=>.int (sLo n f p:Nat)) (fun _=>rfl) _ fun p hp=>?_
  show ((ev cl [some (.tup (L f)),some (.int (n:Nat)),some (.lst (((List.range (2*n)).filter fun p=>decide (p<at' f p)).map (spD n f))),some (.int (s:Nat)),none,none,some (.int (sLo n f p:Nat)),some (.int (sHi n f p:Nat))] (.chain .le .lt (.var 6) (.var 3) (.var 7))).bind truth).bind (fun k=>if k then (ev cl [some (.tup (L f)),some (.int (n:Nat)),some (.lst (((List.range (2*n)).filter fun p=>decide (p<at' f p)).map (spD n f))),some (.int (s:Nat)),none,none,some (.int (sLo n f p:Nat)),some (.int (sHi n f p:Nat))] (.var 6)).map some else some none)=_
  by_cases c:sLo n f p<=s
  ·rw [br (wo (ab rfl) (ab rfl) (ab rfl) (by rw [sY,decide_eq_true (by omega)]) et),Option.bind_some,ab rfl]
   by_cases d:s<sHi n f p
   ·rw [if_pos (decide_eq_true (by omega)),if_pos (decide_eq_true ⟨c,d⟩)]
    rfl
   ·rw [if_neg (by rw [decide_eq_true_eq]; omega),if_neg (by rw [decide_eq_true_eq]; exact fun z=>d z.2)]
  ·rw [br (ue (ab rfl) (ab rfl) (by rw [sY,decide_eq_false (by omega)])),if_neg (by rw [decide_eq_true_eq]; exact fun z=>c z.1)]
   rfl
 have m3:=iD (F:=fun σ1=>(ev cl σ1 (.bi .len (.comp (.var 6) [6,7] (.seq (.var 2)) (.chain .le .lt (.var 6) (.var 3) (.var 7))))).map some) (tg:=[3]) (σ:=[some (.tup (L f)),some (.int (n:Nat)),some (.lst (((List.range (2*n)).filter fun p=>decide (p<at' f p)).map (spD n f))),none,none,none,none,none]) (h:=fun s=>.int (s:Nat)) (g:=fun s=>.int (sm n f s:Nat)) (fun _=>rfl) (List.range (n-1)) (fun s hs=>by
  show (ev cl [some (.tup (L f)),some (.int (n:Nat)),some (.lst (((List.range (2*n)).filter fun p=>decide (p<at' f p)).map (spD n f))),some (.int (s:Nat)),none,none,none,none] (.bi .len (.comp (.var 6) [6,7] (.seq (.var 2)) (.chain .le .lt (.var 6) (.var 3) (.var 7))))).map some=_
  have q:biV .len (.lst ((((List.range (2*n)).filter fun p=>decide (p<at' f p)).filter fun p=>decide (sLo n f p<=s/\s<sHi n f p)).map fun p=>D.int (sLo n f p:Nat)))=some (.int (sm n f s:Nat)):=by
   rw [<- Bb F s]
   show some (D.int (List.length _:Nat))=_
   rw [List.length_map,List.filter_filter]
   unfold cnt
   congr 4
   apply List.filter_congr
   intro p _
   unfold sQ sLo sHi
   rw [Bool.and_comm]
  rw [bB (xG (lW (ab rfl) rfl) ls (m2 s)) q]
  rfl)
 have e3:((List.range (n-1)).map fun s=>D.int (sm n f s:Nat))=L (smL n f):=by unfold L smL; rw [List.map_map]; rfl
 rw [e3] at m3
 exact bz rfl rfl (aL (cy (ab rfl) ho) rfl (aL (vM (lW (cy (ab rfl) ht) rfl) lt m1) (by unfold bj; exact Bool.or_true _)
  (bx (fS (jC (ar (ab rfl) ak (Aj h1)) (bC (n:=n-1) (by omega))) (by rw [aV,List.length_range]; unfold most; omega) m3) (by unfold aJ; rw [show ∀ xs:List Nat,a5 (.lst (L xs))=true from fun xs=>bf xs]; rfl))))
end
end RM
set_option maxHeartbeats 1000000
namespace K24
open RL RT
noncomputable def xW (f_law_same f_seams f_mirrored f_over f_length f_law_seams f_law_frame f_law_digits:Nat):Ss :=
 (.cons (.asg 2 (.bin .add (.cst (.int 1)) (.ix (.call f_law_digits (.cons (.var 0) (.cons (.bin .add (.cst (.int 40)) (.var 1)) (.cons (.lst (.cons (.cst (.int 10)) .nil)) .nil)))) (.cst (.int 0))))) (.cons (.asg 3 (.call f_law_frame (.cons (.var 0) (.cons (.var 1) (.cons (.var 2) .nil))))) (.cons (.asg 4 (.call f_law_seams (.cons (.var 3) .nil))) (.cons (.own 5 (.call f_seams (.cons (.var 3) .nil))) (.cons (.ife (.or (.not (.call f_law_same (.cons (.var 5) (.cons (.var 4) .nil)))) (.not (.bi .all (.compA (.cmp .eq (.bin .mod (.var 6) (.cst (.int 2))) (.cst (.int 0))) [6] (.seq (.var 4)))))) (.cons (.ret (.cst (.bl false))) .nil) .nil) (.cons (.ife (.not (.call f_law_same (.cons (.call f_length (.cons (.var 3) .nil)) (.cons (.bin .fdiv (.bi .sum (.var 4)) (.cst (.int 2))) .nil)))) (.cons (.ret (.cst (.bl false))) .nil) .nil) (.cons (.app 5 (.cst (.int 2))) (.cons (.ife (.or (.cmp .ne (.call f_seams (.cons (.call f_over (.cons (.var 3) .nil)) .nil)) (.var 4)) (.or (.cmp .ne (.call f_seams (.cons (.call f_mirrored (.cons (.var 3) .nil)) .nil)) (.rev (.var 4))) (.not (.call f_law_same (.cons (.call f_seams (.cons (.var 3) .nil)) (.cons (.var 4) .nil)))))) (.cons (.ret (.cst (.bl false))) .nil) .nil) .nil))))))))
noncomputable def ve (f_law_same f_seams f_mirrored f_over f_length f_law_seams f_law_frame f_law_digits:Nat):Fn :=
 ⟨1,7,[5],[],(.cons (.asg 0 (.slT (.var 0) (.cst (.int 63)))) (.cons (.forr [1] (.rng1 (.cst (.int 10))) (xW f_law_same f_seams f_mirrored f_over f_length f_law_seams f_law_frame f_law_digits)) (.cons (.ret (.cst (.bl true))) .nil)))⟩
noncomputable def T:List Fn:=[fI,cE 0,bO 1,d5 4,dn 0,cC,eI 5 14 3 1 8,cO 6,il,fO 2,jF 15 9 8 7,gK 15 8 7,jV 7,cj,eD 15 13 8,iO,kQ 12 8,nr 16,iz,i5 18,dD 19,cL,eJ 21,da,dA 23,gz,cG,cX 26,eA,fD 27 28 24 25 22 21 20,fF,bI 31,ve 31 16 11 10 17 30 29 20]
end K24
namespace K24
open RL RT RM
theorem Ax {α:Type}:∀ {os:List α},os.length=5->∃ a b c d e,os=[a,b,c,d,e]
 | [a,b,c,d,e],_=>⟨a,b,c,d,e,rfl⟩
theorem AR {ds:List Nat} {a:Nat} (h:i0 ds [a]):∃ x,ds=[x]/\x<a:=by
 obtain ⟨h1,h2⟩:=h
 match ds,h1 with
 | [x],_=>exact ⟨x,rfl,h2 0 x a rfl rfl⟩
theorem ck:Ck T 0 1 3 4 5 6 7 8 13 14 15:=⟨rfl,rfl,rfl,rfl,rfl,rfl,rfl,rfl,rfl,rfl,rfl⟩
theorem dr:Dr T 18 19 20 21 22 23 24 25 26 27 28 29:=⟨⟨rfl,rfl,rfl⟩,rfl,rfl,rfl,rfl,rfl,rfl,rfl,rfl,rfl⟩
theorem lS (m:Nat) {n:Nat} {f:List Nat} (h1:1<=n) (hn:n<=10) (V:Val n f):ax T (m+7) 16 [.tup (L f)]=some (.lst (L (smL n f))) :=
 (aq (fn:=kQ 12 8) rfl).trans (qo h1 hn V.frm (ck.half (m+5) V.frm.len) (ck.Cd (ti:=12) rfl m h1 hn V))
theorem main (ns:List Int) (hl:ns.length<=63):ax T 30 32 [.scr (ns.map D.int)]=some (.bl true):=by
 refine (aq (fn:=ve 31 16 11 10 17 30 29 20) rfl).trans (sM (m:=5) (N:=10) hl (by decide) fun k os hk ho=>?_)
 obtain ⟨o2,o3,o4,o5,o6,rfl⟩:=Ax ho
 obtain ⟨ds,hd,e1⟩:=dr.digits hl 26 (k:=40+k) (sizes:=[10]) (by omega) (by simp) (by simp)
 obtain ⟨p,rfl,hp⟩:=AR hd
 have n1:1<=1+p:=by omega
 have n2:1+p<=10:=by omega
 obtain ⟨f,V,e2⟩:=dr.frame hl 25 (k:=k) (m:=1+p) (by omega) n1 n2
 have e0:ay .add (.int 1) (.int (p:Nat))=some (.int ((1+p:Nat):Int)):=rfl
 generalize 1+p=n at *
 have F:=V.frm
 have ls:ax T 29 30 [.tup (L f)]=some (.lst (L (smL n f))):=(aq (fn:=fF) rfl).trans (lG n1 n2 F)
 have s0:=lS 22 n1 n2 V
 have so:=lS 22 n1 n2 ((gC n).val V)
 have sr:=lS 22 n1 n2 ((la n).val V)
 rw [uB n2 F] at so
 rw [wV n2 F] at sr
 have ov:=ck.over (cp:=2) (pl:=9) (ov:=10) rfl rfl rfl 23 n1 n2 V
 have mi:=ck.mirrored (mi:=11) rfl 23 n1 n2 V
 have len:(smL n f).length<=1000:=by unfold smL; rw [List.length_map,List.length_range]; omega
 have lm:(L (smL n f)).length<=most:=by rw [aV]; exact Nat.le_trans len (by decide)
 have pl:Pl 1 (.lst (L (smL n f))):=Pl.LL (n:=0) len
 have sm1:=sameAll (T:=T) (sm:=31) rfl _ 28 _ pl (by decide)
 have sum:biV .sum (.lst (L (smL n f)))=some (.int ((smL n f).map Int.ofNat).sum):=by
  show (bM (L (smL n f))).map _=_
  rw [qY]
  rfl
 have sb:ax T 28 16 [.tup (L f)]=some (.lst (L (smL n f))):=lS 21 n1 n2 V
 have lg:ax T 29 17 [.tup (L f)]=some (.int (((smL n f).map Int.ofNat).sum / 2)):=(aq (fn:=nr 16) rfl).trans (bz rfl rfl (bx (ar (bB (cy (ab rfl) sb) sum) ak (fB (by decide) (by decide))) rfl))
 have ev:∀ x∈smL n f,x % 2=0:=fun x hx=>by
  obtain ⟨s,_,rfl⟩:=List.mem_map.mp hx
  exact xo n2 F s
 have mc:=iD (F:=fun σ1=>(RL.ev (ax T 29) σ1 (.cmp .eq (.bin .mod (.var 6) (.cst (.int 2))) (.cst (.int 0)))).map some) (tg:=[6]) (σ:=[some (.lst (LI ns)),some (.int (k:Nat)),some (.int (n:Nat)),some (.tup (L f)),some (.lst (L (smL n f))),some (.lst (L (smL n f))),o6]) (h:=fun i=>.int (i:Nat)) (g:=fun _=>.bl true) (fun _=>rfl) (smL n f) (fun x hx=>by
  show (RL.ev (ax T 29) [some (.lst (LI ns)),some (.int (k:Nat)),some (.int (n:Nat)),some (.tup (L f)),some (.lst (L (smL n f))),some (.lst (L (smL n f))),some (.int (x:Nat))] (.cmp .eq (.bin .mod (.var 6) (.cst (.int 2))) (.cst (.int 0)))).map some=_
  have:=ev x hx
  rw [aK (k:=true) (ar (ab rfl) ak (cN (by decide))) ak (by rw [cU,show (x:Int) % 2=0 by omega]; rfl)]
  rfl)
 have al:biV .all (.lst ((smL n f).map fun _=>.bl true))=some (.bl true):=by
  show (cA _).map _=_
  rw [m5]
  show some (D.bl (List.all _ id))=_
  congr 2
  rw [List.all_map]
  exact List.all_eq_true.mpr fun _ _=>rfl
 have el:a5 (.lst (L (smL n f)))=true:=bf _
 refine ⟨_,?_,aL (ar ak (eS (ui (ab rfl) (ar ak (ab rfl) rfl) (fA (aY ak dt)) e1) ak rfl) e0) rfl
  (aL (ui (ab rfl) (ab rfl) (ab rfl) e2) (by unfold bj; rw [show (D.tup (L f)).imm=true from bf f]; rfl)
  (aL (cy (ab rfl) ls) (by unfold bj; rw [el]; rfl)
  (jY (cy (ab rfl) s0) (by rw [el]; rfl)
  (bN (br (jo (dm (iJ (ab rfl) (ab rfl) sm1)) (dm (bB (fS (lW (ab rfl) rfl) lm mc) al))))
  (bN (br (dm (iJ (cy (ab rfl) lg) (ar (bB (ab rfl) sum) ak (fB (by decide) (by decide))) ((aq (fn:=bI 31) rfl).trans (same_int _)))))
  (ql ak rfl rfl (Nat.lt_of_le_of_lt (by rw [aV]; exact len) (by decide))
  (bN (br (jo (aK (cy (cy (ab rfl) ov) so) (ab rfl) (vx pl (by decide))) (jo (aK (cy (cy (ab rfl) mi) sr) (Ay (ab rfl)) (by
   rw [show (L (smL n f)).reverse=L (smL n f).reverse by unfold L; rw [List.map_reverse]]
   exact vx (Pl.LL (n:=0) (by rw [List.length_reverse]; exact len)) (by decide))) (dm (iJ (cy (ab rfl) s0) (ab rfl) sm1)))))
  cn)))))))⟩
 rfl
end K24
namespace L2
open PySem PySem.Spec PyProof.Rows
abbrev Key:=Sum Int Str
def iY:Key->Value->Bool
 | .inl k,v=>Value.isInt k v
 | .inr x,v=>Value.isStrOf x v
def B1 (w:World):Key->Int
 | .inl k=>hashInt k
 | .inr x=>hashStr w x
theorem bo:∀ {k:Key} {v:Value},iY k v=true->(∃ i t,k=Sum.inl i/\v=Value.int i t)\/(∃ x t,k=Sum.inr x/\v=Value.str x t)
 | .inl i,v,h=>by
  obtain ⟨t,e⟩:=Value.isInt_shape (k:=i) (v:=v) h
  exact .inl ⟨i,t,rfl,e⟩
 | .inr x,v,h=>by
  obtain ⟨t,e⟩:=Value.isStrOf_shape (x:=x) (v:=v) h
  exact .inr ⟨x,t,rfl,e⟩
theorem qF (i:Int) (t:Tok):iY (.inl i) (.int i t)=true:=by simp [iY,Value.isInt]
theorem qV (x:Str) (t:Tok):iY (.inr x) (.str x t)=true:=by simp [iY,Value.isStrOf]
theorem yq (a b:Int):decide ((Sum.inl a:Key)=Sum.inl b)=(a == b):=by
 by_cases e:a=b
 ·subst e; simp
 ·have h:¬ (Sum.inl a:Key)=Sum.inl b:=fun q=>e (Sum.inl.inj q)
  rw [decide_eq_false h]
  exact (beq_eq_false_iff_ne.mpr e).symm
theorem zD (a b:Str):decide ((Sum.inr a:Key)=Sum.inr b)=decide (a=b):=by
 by_cases e:a=b
 ·subst e; simp
 ·have h:¬ (Sum.inr a:Key)=Sum.inr b:=fun q=>e (Sum.inr.inj q)
  rw [decide_eq_false h,decide_eq_false e]
theorem zG (a:Int) (b:Str):decide ((Sum.inl a:Key)=Sum.inr b)=false:=decide_eq_false (fun q=>nomatch q)
theorem zo (a:Str) (b:Int):decide ((Sum.inr a:Key)=Sum.inl b)=false:=decide_eq_false (fun q=>nomatch q)
def bw (prog:Program) (w:World):PySem.KeyKind prog w Key where
 is:=iY
 hash:=B1 w
 inj:=fun v a b ha hb=>by
  rcases bo ha with ⟨i,t,rfl,rfl⟩ | ⟨x,t,rfl,rfl⟩
  ·rcases bo hb with ⟨j,u,rfl,e⟩ | ⟨y,u,rfl,e⟩
   ·injection e with e1 _; rw [e1]
   ·exact nomatch e
  ·rcases bo hb with ⟨j,u,rfl,e⟩ | ⟨y,u,rfl,e⟩
   ·exact nomatch e
   ·injection e with e1 _; rw [e1]
 byValue:=fun k v h=>by
  rcases bo h with ⟨i,t,rfl,rfl⟩ | ⟨x,t,rfl,rfl⟩ <;> rfl
 pyHash:=fun hv h=>by
  rcases bo hv with ⟨i,t,rfl,rfl⟩ | ⟨x,t,rfl,rfl⟩
  ·exact wpAny_pyHash_int h
  ·exact wpAny_pyHash_str h
 eqBool:=fun hu hv h=>by
  rcases bo hu with ⟨i,t,rfl,rfl⟩ | ⟨x,t,rfl,rfl⟩
  ·rcases bo hv with ⟨j,u,rfl,rfl⟩ | ⟨y,u,rfl,rfl⟩
   ·rw [yq] at h; exact wpAny_eqBool_int h
   ·rw [zG] at h; exact SeqAt.EqAt.int_str i t y u _ _ _ _ h
  ·rcases bo hv with ⟨j,u,rfl,rfl⟩ | ⟨y,u,rfl,rfl⟩
   ·rw [zo] at h; exact SeqAt.EqAt.str_int x t j u _ _ _ _ h
   ·rw [zD] at h; exact wpAny_eqBool_str h
 «strs»:=fun k x t v h=>by
  rcases bo h with ⟨i,u,rfl,e⟩ | ⟨y,u,rfl,e⟩
  ·exact nomatch e
  ·injection e with e1 _
   subst e1
   cases v <;> rfl
theorem oj (prog:Program) (w:World) (i:Int) (t:Tok):(bw prog w).is (.inl i) (.int i t)=true:=qF i t
theorem nZ (prog:Program) (w:World) (x:Str) (t:Tok):(bw prog w).is (.inr x) (.str x t)=true:=qV x t
end L2
namespace L2
open PySem PySem.Spec PyProof.Rows
inductive V where
 | non | bl (b:Bool) | int (i:Int) | str (x:Str) | byt (b:Array UInt8) | flt (b:UInt64) | ref (a:Addr) | ty (n:String)
 deriving DecidableEq
def RelV:V->Value->Prop
 | .non,u=>u=Value.none
 | .bl b,u=>u=Value.bool b
 | .int i,u=>∃ t,u=Value.int i t
 | .str x,u=>∃ t,u=Value.str x t
 | .byt b,u=>∃ t,u=Value.bytes b t
 | .flt b,u=>∃ t,u=Value.float b t
 | .ref a,u=>u=Value.ref a
 | .ty n,u=>u=Value.type n
abbrev Vals:List V->List Value->Prop:=Paired RelV
theorem Vals.length {xs:List V} {us:List Value} (r:Vals xs us):xs.length=us.length:=Paired.length r
theorem Vals.get:∀ {xs:List V} {us:List Value} {i:Nat} {x:V},Vals xs us->xs[i]?=some x->∃ u,us[i]?=some u/\RelV x u
 | _,_,_,_,.nil,e=>by simp at e
 | _,_,0,_,.cons r _,e=>by simp at e; subst e; exact ⟨_,rfl,r⟩
 | _,_,i+1,x,.cons _ t,e=>by
  obtain ⟨u,h1,h2⟩:=Vals.get (i:=i) (x:=x) t (by simpa using e)
  exact ⟨u,by simpa using h1,h2⟩
theorem Vals.set {x:V} {u:Value} (r:RelV x u):∀ {xs:List V} {us:List Value} (i:Nat),Vals xs us->Vals (xs.set i x) (us.set i u)
 | _,_,_,.nil=>.nil
 | _,_,0,.cons _ t=>.cons r t
 | _,_,i+1,.cons q t=>.cons q (Vals.set r i t)
theorem Vals.append:∀ {xs ys:List V} {us ws:List Value},Vals xs us->Vals ys ws->Vals (xs ++ ys) (us ++ ws)
 | _,_,_,_,.nil,s=>s
 | _,_,_,_,.cons r t,s=>.cons r (Vals.append t s)
theorem Vals.take:∀ {xs:List V} {us:List Value} (n:Nat),Vals xs us->Vals (xs.take n) (us.take n)
 | _,_,0,_=>.nil
 | _,_,_+1,.nil=>.nil
 | _,_,n+1,.cons r t=>.cons r (Vals.take n t)
theorem Vals.drop:∀ {xs:List V} {us:List Value} (n:Nat),Vals xs us->Vals (xs.drop n) (us.drop n)
 | _,_,0,r=>r
 | _,_,_+1,.nil=>.nil
 | _,_,n+1,.cons _ t=>Vals.drop n t
def eU:Option V->Option Value->Prop
 | some v,some u=>RelV v u
 | none,none=>True
 | _,_=>False
def KV {κ:Type}:List (κ × V)->List (κ × Value)->Prop:=Paired fun (p:κ × V) (q:κ × Value)=>p.1=q.1/\RelV p.2 q.2
def kV:Key->V
 | .inl i=>.int i
 | .inr x=>.str x
inductive HO where
  | lst (xs:List V)
  | tup (xs:List V)
  | dK (kvs:List (Key × V)) | dT (kvs:List (List Key × V))
  | set (S:Int->Bool) (n:Nat)
  | ins (C dx:Addr) (fs:List (Str × V))
  | own (x:Addr)
  | xd (fs:List (Str × V))
  | met (f x:Addr)
  | rng (lo hi:Int)
  | frz (o:Obj) (u:HO)
  | tbl (ps:Array Value)
  | ext (φ:Heap->Prop)
abbrev Hp:=Addr->Option HO
def upd (H:Hp) (a:Addr) (o:HO):Hp:=fun b=>if b=a then some o else H b
theorem aN {H:Hp} {a:Addr} {o:HO}:upd H a o a=some o:=by unfold upd; rw [if_pos rfl]
theorem aD {H:Hp} {a b:Addr} {o:HO} (h:b≠a):upd H a o b=H b:=by unfold upd; rw [if_neg h]
theorem pV {H:Hp} {a b:Addr} {o u:HO} (h:H a=some o) (h':H b=some u) (d:o≠u):a≠b:=by
 intro e; subst e; rw [h] at h'; exact d (Option.some.inj h')
theorem aC {H:Hp} {a b:Addr} {o:HO} (h:H a=some o) (h':H b=none):a≠b:=by
 intro e; subst e; rw [h] at h'; cases h'
section
variable (P:Program) (w:World)
def aQ (H:Hp) (h:Heap) (a:Addr):HO->Prop
 | .lst xs=>xs.length<=sizeLine/\∃ (its:List Value) (n:Nat),Vals xs its/\h.get? a=some { cls:=.type "list",data:=.seq its.toArray n }
 | .tup xs=>xs.length<=sizeLine/\∃ its:List Value,Vals xs its/\IsTup h a its.toArray
 | .dK kvs=>kvs.length<=sizeLine/\(a == sysModules)=false/\∃ vs,KV kvs vs/\h.DictOf (bw P w) a vs
 | .dT kvs=>kvs.length<=sizeLine/\(a == sysModules)=false/\∃ xs:List (List Key × Addr × Value),
   Paired (fun (p:List Key × V) (q:List Key × Addr × Value)=>p.1=q.1/\H q.2.1=some (.tup (p.1.map kV))/\RelV p.2 q.2.2) kvs xs /\
   ∃ o es ep,h.get? a=some o/\o.ExactDict/\o.data=.dict es ep/\es.toList=xs.map (entryOfKey (tupleKind (bw P w)))/\(xs.map (·.1)).Nodup
 | .set S n=>h.SetOf (intKind P w) a S n
 | .ins C dx fs=>H dx=some (.own a)/\fs.length<=1000/\dx≠a/\h.get? a=some (PySem.W.instObj C dx) /\
   ∃ mA,h.Ns1 dx mA/\(∀ f,eU (fs.lookup f) (mA f))/\PySem.Within mA (fs.map (·.1))
 | .own _=>∃ o,h.get? a=some o
 | .xd fs=>∃ mA,h.Ns1 a mA/\∀ f,eU (fs.lookup f) (mA f)
 | .rng lo hi=>∃ t u v,h.get? a=some { cls:=.type "range",data:=.fields #[.int lo t,.int hi u,.int 1 v] }
 | .frz o u=>h.get? a=some o/\aQ H h a u
 | .tbl ps=>h.get? a=some { cls:=.none,data:=.fields ps }
 | .met f x=>h.get? a=some (PySem.W.methodObj (.ref f) (.ref x))
 | .ext φ=>φ h/\(∃ o,h.get? a=some o)/\∀ h1 h2:Heap,φ h1->(∀ o,h1.get? a=some o->h2.get? a=some o)->φ h2
def HOk (H:Hp) (h:Heap):Prop:=∀ a o,H a=some o->aQ P w H h a o
end
section
variable {P:Program} {w:World} {H H':Hp} {h h':Heap} {a:Addr} {o:HO}
theorem aQ.lt (x:aQ P w H h a o):a<h.objs.size:=by
 cases o with
 | lst xs=>obtain ⟨_,_,_,_,e⟩:=x; exact Heap.lt_size e
 | tup xs=>obtain ⟨_,_,_,p⟩:=x; exact p.lt
 | dK kvs=>obtain ⟨_,_,_,_,o,_,_,e,_⟩:=x; exact Heap.lt_size e
 | dT kvs=>obtain ⟨_,_,_,_,o,_,_,e,_⟩:=x; exact Heap.lt_size e
 | set S n=>obtain ⟨o,_,_,_,e,_⟩:=x; exact Heap.lt_size e
 | ins C dx fs=>obtain ⟨_,_,_,e,_⟩:=x; exact Heap.lt_size e
 | own y=>obtain ⟨_,e⟩:=x; exact Heap.lt_size e
 | xd fs=>obtain ⟨_,⟨_,_,_,e,_⟩,_⟩:=x; exact Heap.lt_size e
 | rng lo hi=>obtain ⟨_,_,_,e⟩:=x; exact Heap.lt_size e
 | frz ob u=>obtain ⟨e,_⟩:=x; exact Heap.lt_size e
 | tbl ps=>exact Heap.lt_size (show h.get? a=some _ from x)
 | met f y=>exact Heap.lt_size (show h.get? a=some _ from x)
 | ext φ=>obtain ⟨_,⟨_,e⟩,_⟩:=x; exact Heap.lt_size e
theorem Paired.uv {α β:Type} {F G:α->β->Prop}:∀ {l₁:List α} {l₂:List β},Paired F l₁ l₂->(∀ a b,F a b->G a b)->Paired G l₁ l₂
 | _,_,.nil,_=>.nil
 | _,_,.cons r t,f=>.cons (f _ _ r) (Paired.uv t f)
theorem aQ.kI (x:aQ P w H h a o) (k:∀ b u,(b=a\/H b=some (.own a))->h.get? b=some u->h'.get? b=some u)
  (ho:∀ b,H b=some (.own a)->H' b=some (.own a)) (ht:∀ b xs,H b=some (.tup xs)->H' b=some (.tup xs)):aQ P w H' h' a o:=by
 induction o with
 | lst xs=>obtain ⟨z,its,n,r,e⟩:=x; exact ⟨z,its,n,r,k _ _ (.inl rfl) e⟩
 | tup xs=>obtain ⟨z,its,r,ob,e,c⟩:=x; exact ⟨z,its,r,ob,k _ _ (.inl rfl) e,c⟩
 | dK kvs=>obtain ⟨z,y,vs,r,ob,es,ep,e,c⟩:=x; exact ⟨z,y,vs,r,ob,es,ep,k _ _ (.inl rfl) e,c⟩
 | dT kvs =>
  obtain ⟨z,y,xs,r,ob,es,ep,e,c⟩:=x
  exact ⟨z,y,xs,Paired.uv r fun p q z=>⟨z.1,ht _ _ z.2.1,z.2.2⟩,ob,es,ep,k _ _ (.inl rfl) e,c⟩
 | set S n=>obtain ⟨ob,es,ep,t,e,c⟩:=x; exact ⟨ob,es,ep,t,k _ _ (.inl rfl) e,c⟩
 | ins C dx fs =>
  obtain ⟨d,z,ne,e,mA,⟨od,es,ep,e2,c⟩,r⟩:=x
  exact ⟨ho _ d,z,ne,k _ _ (.inl rfl) e,mA,⟨od,es,ep,k _ _ (.inr d) e2,c⟩,r⟩
 | own y=>obtain ⟨ob,e⟩:=x; exact ⟨ob,k _ _ (.inl rfl) e⟩
 | xd fs=>obtain ⟨mA,⟨od,es,ep,e,c⟩,r⟩:=x; exact ⟨mA,⟨od,es,ep,k _ _ (.inl rfl) e,c⟩,r⟩
 | rng lo hi=>obtain ⟨t,u,v,e⟩:=x; exact ⟨t,u,v,k _ _ (.inl rfl) e⟩
 | frz ob u ih=>obtain ⟨e,q⟩:=x; exact ⟨k _ _ (.inl rfl) e,ih q⟩
 | tbl ps =>
  have e:h.get? a=some { cls:=.none,data:=.fields ps }:=x
  show h'.get? a=some { cls:=.none,data:=.fields ps }
  exact k a _ (.inl rfl) e
 | met f y =>
  have e:h.get? a=some (PySem.W.methodObj (.ref f) (.ref y)):=x
  show h'.get? a=some (PySem.W.methodObj (.ref f) (.ref y))
  exact k a _ (.inl rfl) e
 | ext φ=>obtain ⟨p,⟨o,e⟩,st⟩:=x; exact ⟨st _ _ p fun o q=>k _ _ (.inl rfl) q,⟨o,k _ _ (.inl rfl) e⟩,st⟩
theorem HOk.lt (x:HOk P w H h) (e:H a=some o):a<h.objs.size:=(x a o e).lt
theorem HOk.fresh (x:HOk P w H h) (e:h.objs.size<=a):H a=none:=by
 cases q:H a with
 | none=>rfl
 | some u=>exact absurd (Nat.lt_of_lt_of_le (x.lt q) e) (Nat.lt_irrefl _)
theorem HOk.kept (x:HOk P w H h) (k:∀ b u,h.get? b=some u->h'.get? b=some u):HOk P w H h':=fun a o e =>
 (x a o e).kI (fun b u _ q=>k b u q) (fun _ q=>q) fun _ _ q=>q
theorem HOk.laid (x:HOk P w H h) (k:∀ b u,h.get? b=some u->h'.get? b=some u) (hp:h.objs.size<=a) (new:aQ P w (upd H a o) h' a o):HOk P w (upd H a o) h':=fun b u e=>by
 have hn:=x.fresh hp
 by_cases hb:b=a
 ·subst hb; rw [aN] at e; cases e; exact new
 ·rw [aD hb] at e
  exact (x b u e).kI (fun c v _ q=>k c v q) (fun c q=>by rw [aD (aC q hn)]; exact q) fun c xs q=>by rw [aD (aC q hn)]; exact q
end
def Rd (H:Hp) (a:Addr) (u:HO):Prop:=H a=some u\/∃ o,H a=some (.frz o u)
theorem Rd.ok {P:Program} {w:World} {H:Hp} {h:Heap} {a:Addr} {u:HO} (r:Rd H a u) (x:HOk P w H h):aQ P w H h a u:=by
 rcases r with r | ⟨o,r⟩
 ·exact x a u r
 ·obtain ⟨_,q⟩:=x a _ r
  exact q
def Mut:Option HO->Prop
 | some (.lst _)=>True
 | some (.dK _)=>True
 | some (.dT _)=>True
 | some (.set _ _)=>True
 | some (.ins _ _ _)=>True
 | some (.ext _)=>True
 | _=>False
section
variable {P:Program} {w:World} {H:Hp} {h h':Heap} {x e:Addr} {o':HO}
theorem HOk.write (ok:HOk P w H h) (mu:Mut (H x)) (he:e=x\/H e=some (.own x)) (k:∀ b u,b≠e->h.get? b=some u->h'.get? b=some u) (heo:∃ u,h'.get? e=some u)
  (new:aQ P w (upd H x o') h' x o'):HOk P w (upd H x o') h':=fun b u q=>by
 have nown:∀ c y,H c=some (.own y)->c≠x:=fun c y r z=>by subst z; rw [r] at mu; exact mu
 have ntup:∀ c xs,H c=some (.tup xs)->c≠x:=fun c xs r z=>by subst z; rw [r] at mu; exact mu
 by_cases hb:b=x
 ·subst hb; rw [aN] at q; cases q; exact new
 ·rw [aD hb] at q
  by_cases hbe:b=e
  ·have q':H b=some (.own x):=by
    rcases he with z | z
    ·exact absurd (hbe.trans z) hb
    ·rw [hbe]; exact z
   rw [q] at q'; cases q'
   obtain ⟨v,hv⟩:=heo
   exact ⟨v,by rw [hbe]; exact hv⟩
  ·refine (ok b u q).kI (fun c v hc r=>k c v ?_ r) (fun c r=>by rw [aD (nown c b r)]; exact r) fun c xs r=>by rw [aD (ntup c xs r)]; exact r
   rcases hc with rfl | hc
   ·exact hbe
   ·rintro rfl
    rcases he with z | z
    ·exact nown c b hc z
    ·rw [hc] at z; cases z; exact hb rfl
end
structure Un (fs ex:List Addr) (H H':Hp) (h h':Heap):Prop where
 keep:∀ b o,h.get? b=some o->H b=none->b∉fs->b∉ex->h'.get? b=some o
 slot:∀ b o,h.get? b=some o->H b=none->b∈fs->b∉ex->∃ sl,h'.get? b=some { o with slots:=sl }
 free:∀ b o,h.get? b=some o->H b=none->b∉ex->H' b=none
 there:∀ b o,h.get? b=some o->b∉ex->∃ o',h'.get? b=some o'
 i6:∀ b xs,H b=some (.tup xs)->H' b=some (.tup xs)
 gW:∀ b o u,H b=some (.frz o u)->H' b=some (.frz o u)
 iK:∀ b ps,H b=some (.tbl ps)->∃ more,H' b=some (.tbl (ps ++ more))
section
variable {fs fs' ex ex':List Addr} {H H1 H2:Hp} {h h1 h2 h':Heap} {a x e:Addr} {o:HO}
theorem Un.any (u:Un fs ex H H1 h h1) {b:Addr} {ob:Obj} (q:h.get? b=some ob) (n:H b=none) (hx:b∉ex):∃ sl,h1.get? b=some { ob with slots:=sl }:=by
 by_cases hb:b∈fs
 ·exact u.slot b ob q n hb hx
 ·exact ⟨ob.slots,u.keep b ob q n hb hx⟩
theorem Un.kept (k:∀ b u,h.get? b=some u->h'.get? b=some u):Un fs ex H H h h' :=
 ⟨fun b ob q _ _ _=>k b ob q,fun b ob q _ _ _=>⟨ob.slots,k b ob q⟩,fun _ _ _ n _=>n,fun b ob q _=>⟨ob,k b ob q⟩,fun _ _ q=>q,fun _ _ _ q=>q,fun _ ps q=>⟨#[],by rw [q]; simp⟩⟩
theorem Un.refl:Un fs ex H H h h:=Un.kept fun _ _ q=>q
theorem Un.laid (k:∀ b u,h.get? b=some u->h'.get? b=some u) (hp:h.objs.size<=a) (hn:H a=none):Un fs ex H (upd H a o) h h' where
 keep:=fun b u q _ _ _=>k b u q
 slot:=fun b u q _ _ _=>⟨u.slots,k b u q⟩
 free:=fun b u q n _=>by rw [aD (Nat.ne_of_lt (Nat.lt_of_lt_of_le (Heap.lt_size q) hp))]; exact n
 there:=fun b u q _=>⟨u,k b u q⟩
 i6:=fun b xs q=>by rw [aD (aC q hn)]; exact q
 gW:=fun b u xs q=>by rw [aD (aC q hn)]; exact q
 iK:=fun b ps q=>⟨#[],by rw [aD (aC q hn),q]; simp⟩
theorem Un.write (mu:Mut (H x)) (he:e=x\/H e=some (.own x)) (k:∀ b u,b≠e->h.get? b=some u->h'.get? b=some u) (heo:∃ u,h'.get? e=some u):Un fs ex H (upd H x o) h h':=by
 have hx:∀ b,H b=none->b≠x:=fun b n z=>by subst z; rw [n] at mu; exact mu
 have hb:∀ b,H b=none->b≠e:=fun b n z=>by
  subst z
  rcases he with r | r
  ·exact hx b n r
  ·rw [n] at r; cases r
 have hm:∀ b u,H b=some u->¬ Mut (some u)->b≠x:=fun b u q nm z=>by subst z; rw [q] at mu; exact nm mu
 refine ⟨fun b u q n _ _=>k b u (hb b n) q,fun b u q n _ _=>⟨u.slots,k b u (hb b n) q⟩,fun b u q n _=>by rw [aD (hx b n)]; exact n,fun b u q _=>?_,
  fun b xs q=>by rw [aD (hm b _ q fun z=>z)]; exact q,fun b u xs q=>by rw [aD (hm b _ q fun z=>z)]; exact q,fun b ps q=>⟨#[],by rw [aD (hm b _ q fun z=>z),q]; simp⟩⟩
 by_cases hbe:b=e
 ·subst hbe; exact heo
 ·exact ⟨u,k b u hbe q⟩
end
def trk (h:Heap) (H:Hp):List Addr:=(List.range h.objs.size).filter fun a=>(H a).isSome
def gy (h:Heap) (H:Hp):Heap:=PySem.W.hideAll h (trk h H)
theorem qZ (h:Heap) (H:Hp):(gy h H).objs.size=h.objs.size:=PySem.W.hideAll_size _ _
theorem sH {h:Heap} {H:Hp} {b:Addr} {o:Obj} (e:h.get? b=some o) (n:H b=none):(gy h H).get? b=some o :=
 PySem.W.hideAll_get _ e fun hm=>by
  have q:(H b).isSome=true:=(List.mem_filter.mp hm).2
  rw [n] at q; simp at q
theorem xf {h:Heap} {H:Hp} {b:Addr} {o:Obj} (e:(gy h H).get? b=some o):h.get? b=some o/\H b=none:=by
 have e':h.get? b=some o:=PySem.W.of_hideAll (trk h H) e
 refine ⟨e',?_⟩
 cases q:H b with
 | none=>rfl
 | some x =>
  have hm:b∈trk h H:=List.mem_filter.mpr ⟨List.mem_range.mpr (Heap.lt_size e'),by simp [q]⟩
  have z:(gy h H).get? b=none:=PySem.W.hideAll_none (trk h H) hm
  rw [z] at e; cases e
end L2
namespace L2
open PySem PySem.Spec PyProof.Rows
structure Mod (K:PySem.W.Frag) (mg:Str->Option Value) (base:Heap):Prop where
 kin:K.In base
 glob:base.Ns mainGlobals mg
 blt:∃ mb,base.Ns builtinsNs mb/\∀ x:Str,x ≠ "__name__" -> mb x=bootBuiltins x
 nolimit:base.NoLimit
structure Cx where
 prog:Program
 w:World
 K:PySem.W.Frag
 mg:Str->Option Value
 base:Heap
 A:Around
 N:List Str
 s₀:Shared
 H₀:Hp
 env:Env
 outer:List Env
 stack:List Env
 ex:List Addr
 fn:Str->Bool
 calm:Bool
 pn:List (Addr × Obj)
 xe:Value->Shared->Prop
def frs (l:List Env):List Addr:=l.filterMap (·.frame)
abbrev Cx.fs (X:Cx):List Addr:=frs X.outer
def Vis (sc:Scope) (x:Str):Prop:=sc.names.lookup x=some .local\/sc.names.lookup x=some .cell\/sc.names.lookup x=some .free
def Loc (sc:Scope) (x:Str):Prop:=sc.names.lookup x=some .local\/sc.names.lookup x=some .cell
def Look (env:Env) (h:Heap) (m:Str->Option Value) (x:Str) (u:Value):Prop :=
 (env.kindOf x=some .local/\m x=some u)\/((env.kindOf x=some .cell\/env.kindOf x=some .free)/\∃ c,env.cells.lookup x=some c/\h.IsCell c (some u))
structure Cx.Ok (X:Cx):Prop where
 mod:Mod X.K X.mg X.base
 kind:X.env.scope.kind=.function
 glob:X.env.globals=mainGlobals
 blt:X.env.builtins=builtinsNs
 above:X.s₀.heap.objs.size<=X.env.locals
 inj:∀ x y c,X.env.cells.lookup x=some c->X.env.cells.lookup y=some c->x=y
 has:∀ x,(X.env.kindOf x=some .cell\/X.env.kindOf x=some .free)->∃ c,X.env.cells.lookup x=some c
 cab:∀ x c,X.fn x=true->X.env.cells.lookup x=some c->X.s₀.heap.objs.size<=c
 hd:X.calm=true->X.A.handled=none
 frames:X.A.frames=some X.stack
 stk:X.stack=X.outer\/(X.stack=X.env :: X.outer/\X.env.frame=some X.env.locals)
 exf:∀ b∈X.ex,b≠X.env.locals/\∀ x c,X.env.cells.lookup x=some c->c≠b
 bs:∀ b o,X.base.get? b=some o->X.s₀.heap.get? b=some o/\X.H₀ b=none
 bsz:X.base.objs.size<=X.s₀.heap.objs.size
 mT:∀ b o,X.base.get? b=some o->b∉X.ex
 mC:∀ b∈X.ex,b∉X.fs
 eR:X.s₀.heap.FunFrames X.base X.outer
 frf:∀ b∈X.fs,X.H₀ b=none
structure Inv (X:Cx) (pins:List (Addr × Obj)) (σ:List (Option V)) (H:Hp) (s:Shared):Prop where
 ok:X.Ok
 os:s.os=X.s₀.os
 bare:AllBare s.gens
 base:Un X.fs X.ex X.H₀ H X.s₀.heap s.heap
 loc:∃ m,s.heap.Ns X.env.locals m/\∀ (i:Nat) (x:Str) (v:V),X.N[i]?=some x->σ[i]?=some (some v)->Vis X.env.scope x->∃ u,RelV v u/\Look X.env s.heap m x u
 cell:∀ x c,X.env.cells.lookup x=some c->∃ v,s.heap.IsCell c v
 free:H X.env.locals=none
 df:∀ x c,X.env.cells.lookup x=some c->H c=none
 pin:∀ p∈X.pn ++ pins,s.heap.get? p.1=some p.2/\H p.1=none/\p.1≠X.env.locals/\p.1∉X.fs/\∀ v,p.2.data≠.cell v
 hok:HOk X.prog X.w H s.heap
 len:σ.length=X.N.length
section
variable {X:Cx} {pins:List (Addr × Obj)} {σ:List (Option V)} {H H':Hp} {s:Shared} {h':Heap}
theorem Cx.Ok.BH (ok:X.Ok) {b:Addr} {o:Obj} (e:X.base.get? b=some o):b∉X.fs:=fun hb=>by
 have:=(ok.eR.mem hb).1
 rw [e] at this; cases this
theorem Inv.bs (I:Inv X pins σ H s):∀ b o,X.base.get? b=some o->s.heap.get? b=some o/\H b=none:=fun b o e =>
 ⟨I.base.keep b o (I.ok.bs b o e).1 (I.ok.bs b o e).2 (I.ok.BH e) (I.ok.mT b o e),I.base.free b o (I.ok.bs b o e).1 (I.ok.bs b o e).2 (I.ok.mT b o e)⟩
theorem Inv.bk (I:Inv X pins σ H s):∀ b o,X.base.get? b=some o->s.heap.get? b=some o:=fun b o e=>(I.bs b o e).1
theorem Inv.mod (I:Inv X pins σ H s):Mod X.K X.mg X.base:=I.ok.mod
theorem Inv.kIn (I:Inv X pins σ H s):X.K.In s.heap:=I.ok.mod.kin.keeps I.bk
theorem Inv.lt (I:Inv X pins σ H s):X.env.locals<s.heap.objs.size:=let ⟨_,hn,_⟩:=I.loc; hn.lt
theorem Inv.sz (I:Inv X pins σ H s):X.s₀.heap.objs.size<=s.heap.objs.size:=Nat.le_trans I.ok.above (Nat.le_of_lt I.lt)
theorem Inv.BU (I:Inv X pins σ H s) {a:Addr} (h:s.heap.objs.size<=a):a∉X.fs:=fun hb=>by
 obtain ⟨_,o,ho,_⟩:=I.ok.eR.mem hb
 exact absurd (Nat.lt_of_lt_of_le (Heap.lt_size ho) (Nat.le_trans I.sz h)) (Nat.lt_irrefl _)
theorem Inv.cne (I:Inv X pins σ H s):∀ x c,X.env.cells.lookup x=some c->c≠X.env.locals:=fun x c e z=>by
 obtain ⟨v,o,ho,hd⟩:=I.cell x c e
 obtain ⟨m,⟨o',es,ep,ho',hd',_⟩,_⟩:=I.loc
 rw [z,ho'] at ho; cases ho; rw [hd'] at hd; cases hd
theorem Inv.eR (I:Inv X pins σ H s):s.heap.FunFrames X.base X.outer:=by
 have all:∀ (l:List Env),(∀ b∈frs l,b∈X.fs)->X.s₀.heap.FunFrames X.base l->s.heap.FunFrames X.base l:=by
  intro l
  induction l with
  | nil=>intro _ _; trivial
  | cons env r ih =>
   intro hs hl
   obtain ⟨hk,⟨L,o,hf,hn,ho,hd⟩,hr⟩:=hl
   have hL:L∈X.fs:=hs L (by unfold frs; rw [List.filterMap_cons,hf]; exact List.mem_cons_self)
   obtain ⟨sl,e⟩:=I.base.slot L o ho (I.ok.frf L hL) hL fun z=>I.ok.mC L z hL
   exact ⟨hk,⟨L,_,hf,hn,e,hd⟩,ih (fun b hb=>hs b (by unfold frs; rw [List.filterMap_cons,hf]; exact List.mem_cons_of_mem _ hb)) hr⟩
 exact all X.outer (fun _ hb=>hb) I.ok.eR
theorem Inv.stack (I:Inv X pins σ H s):s.heap.FunFrames X.base X.stack:=by
 rcases I.ok.stk with e | ⟨e,hf⟩
 ·rw [e]; exact I.eR
 ·rw [e]
  obtain ⟨m,hn,_⟩:=I.loc
  refine .cons (by rw [I.ok.kind]; decide) hf hn ?_ I.eR
  exact Heap.get?_none_of_le (Nat.le_trans I.ok.bsz I.ok.above)
theorem Inv.nR (I:Inv X pins σ H s):∀ b∈frs X.stack,b∈X.env.locals :: X.fs:=fun b hb=>by
 rcases I.ok.stk with e | ⟨e,hf⟩
 ·rw [e] at hb; exact List.mem_cons_of_mem _ hb
 ·rw [e] at hb
  unfold frs at hb
  rw [List.filterMap_cons,hf] at hb
  exact hb
theorem Inv.oU (I:Inv X pins σ H s):∀ b∈frs X.stack,H b=none:=fun b hb=>by
 rcases List.mem_cons.mp (I.nR b hb) with e | hb
 ·rw [e]; exact I.free
 ·obtain ⟨_,o,ho,_⟩:=I.ok.eR.mem hb
  exact I.base.free b o ho (I.ok.frf b hb) fun z=>I.ok.mC b z hb
theorem Inv.step {g':Array GenState} {t':Nat} {d':Drawn} {ch:List Addr} (I:Inv X pins σ H s)
  (hch:∀ b∈ch,(b∈X.ex\/X.s₀.heap.objs.size<=b)/\b≠X.env.locals/\(∀ x c,X.env.cells.lookup x=some c->c≠b)/\∀ p∈X.pn ++ pins,p.1≠b)
  (keep:∀ b o,b≠X.env.locals->b∉X.fs->b∉ch->s.heap.get? b=some o->H b=none->h'.get? b=some o)
  (slot:∀ b o,b≠X.env.locals->b∈X.fs->b∉ch->s.heap.get? b=some o->H b=none->∃ sl,h'.get? b=some { o with slots:=sl }) (free:∀ b o,b∉ch->s.heap.get? b=some o->H b=none->H' b=none)
  (there:∀ b o,b∉ch->s.heap.get? b=some o->∃ o',h'.get? b=some o')
  (i6:∀ b xs,H b=some (.tup xs)->H' b=some (.tup xs)) (gW:∀ b o u,H b=some (.frz o u)->H' b=some (.frz o u)) (iK:∀ b ps,H b=some (.tbl ps)->∃ more,H' b=some (.tbl (ps ++ more)))
  (ns:∀ m,s.heap.Ns X.env.locals m->h'.Ns X.env.locals m) (hok:HOk X.prog X.w H' h') (hg:AllBare g') :
  Inv X pins σ H' { s with heap:=h',gens:=g',drawn:=d',toks:=t' }:=by
 have neL:∀ b o,X.s₀.heap.get? b=some o->b≠X.env.locals:=fun b o e=>Nat.ne_of_lt (Nat.lt_of_lt_of_le (Heap.lt_size e) I.ok.above)
 have neC:∀ b o,X.s₀.heap.get? b=some o->b∉X.ex->b∉ch:=fun b o e hx hb=>by
  rcases (hch b hb).1 with z | z
  ·exact hx z
  ·exact absurd (Nat.lt_of_lt_of_le (Heap.lt_size e) z) (Nat.lt_irrefl _)
 have cellK:∀ x c,X.env.cells.lookup x=some c->∀ v,s.heap.IsCell c v->h'.IsCell c v:=fun x c e v ⟨o,ho,hd⟩=>by
  have nch:c∉ch:=fun z=>(hch c z).2.2.1 x c e rfl
  by_cases hc:c∈X.fs
  ·obtain ⟨sl,q⟩:=slot c o (I.cne x c e) hc nch ho (I.df x c e)
   exact ⟨_,q,hd⟩
  ·exact ⟨o,keep c o (I.cne x c e) hc nch ho (I.df x c e),hd⟩
 refine ⟨I.ok,I.os,hg,⟨fun b o e n hb hx=>?_,fun b o e n hb hx=>?_,fun b o e n hx=>?_,fun b o e hx=>?_,fun b xs e=>i6 b xs (I.base.i6 b xs e),fun b o xs e=>gW b o xs (I.base.gW b o xs e),fun b ps e=>?_⟩,?_,fun x c e=>?_,?_,fun x c e=>?_,fun p hp=>?_,hok,I.len⟩
 ·exact keep b o (neL b o e) hb (neC b o e hx) (I.base.keep b o e n hb hx) (I.base.free b o e n hx)
 ·obtain ⟨sl,e1⟩:=I.base.slot b o e n hb hx
  obtain ⟨sl',e2⟩:=slot b _ (neL b o e) hb (neC b o e hx) e1 (I.base.free b o e n hx)
  exact ⟨sl',e2⟩
 ·obtain ⟨o',e1⟩:=I.base.there b o e hx
  exact free b o' (neC b o e hx) e1 (I.base.free b o e n hx)
 ·obtain ⟨o',e1⟩:=I.base.there b o e hx
  exact there b o' (neC b o e hx) e1
 ·obtain ⟨m1,e1⟩:=I.base.iK b ps e
  obtain ⟨m2,e2⟩:=iK b _ e1
  exact ⟨m1 ++ m2,by rw [e2,Array.append_assoc]⟩
 ·obtain ⟨m,hn,hl⟩:=I.loc
  refine ⟨m,ns m hn,fun i x v e1 e2 e3=>?_⟩
  obtain ⟨u,r,l⟩:=hl i x v e1 e2 e3
  refine ⟨u,r,?_⟩
  rcases l with l | ⟨k,c,e,z⟩
  ·exact .inl l
  ·exact .inr ⟨k,c,e,cellK x c e _ z⟩
 ·obtain ⟨v,z⟩:=I.cell x c e
  exact ⟨v,cellK x c e v z⟩
 ·obtain ⟨m,⟨o,_,_,ho,_⟩,_⟩:=I.loc
  exact free _ o (fun z=>(hch _ z).2.1 rfl) ho I.free
 ·obtain ⟨v,o,ho,hd⟩:=I.cell x c e
  exact free c o (fun z=>(hch c z).2.2.1 x c e rfl) ho (I.df x c e)
 ·obtain ⟨e,n,ne,nf,d⟩:=I.pin p hp
  have nch:p.1∉ch:=fun z=>(hch p.1 z).2.2.2 p hp rfl
  exact ⟨keep p.1 p.2 ne nf nch e n,free p.1 p.2 nch e n,ne,nf,d⟩
theorem Inv.un {t':Nat} (I:Inv X pins σ H s) (u:Un X.fs [] H H' s.heap h') (hok:HOk X.prog X.w H' h'):Inv X pins σ H' { s with heap:=h',toks:=t' }:=by
 obtain ⟨m,⟨o,es,ep,ho,r⟩,_⟩:=id I.loc
 obtain ⟨sl,hL⟩:=u.any ho I.free (by simp)
 exact I.step (g':=s.gens) (d':=s.drawn) (ch:=[]) (fun _ z=>nomatch z) (fun b o _ hb _ e n=>u.keep b o e n hb (by simp)) (fun b o _ hb _ e n=>u.slot b o e n hb (by simp)) (fun b o _ e n=>u.free b o e n (by simp)) (fun b o _ e=>u.there b o e (by simp)) u.i6 u.gW u.iK (fun m' hm=>by
  obtain ⟨o',es',ep',ho',r'⟩:=hm
  rw [ho] at ho'; cases ho'
  exact ⟨_,es',ep',hL,r'⟩) hok I.bare
theorem Inv.call {g':Array GenState} {t':Nat} {d':Drawn} {ch:List Addr} (I:Inv X pins σ H s) (u:Un (frs X.stack) ch H H' s.heap h') (hok:HOk X.prog X.w H' h') (hg:AllBare g')
  (hch:∀ b∈ch,(b∈X.ex\/X.s₀.heap.objs.size<=b)/\b≠X.env.locals/\(∀ x c,X.env.cells.lookup x=some c->c≠b)/\∀ p∈X.pn ++ pins,p.1≠b) :
  Inv X pins σ H' { s with heap:=h',gens:=g',drawn:=d',toks:=t' }:=by
 obtain ⟨m,⟨o,es,ep,ho,r⟩,_⟩:=id I.loc
 obtain ⟨sl,hL⟩:=u.any ho I.free fun z=>(hch _ z).2.1 rfl
 exact I.step (ch:=ch) hch (fun b o hL hb hc e n=>u.keep b o e n (fun z=>(List.mem_cons.mp (I.nR b z)).elim hL hb) hc) (fun b o _ _ hc e n=>u.any e n hc) (fun b o hc e n=>u.free b o e n hc) (fun b o hc e=>u.there b o e hc) u.i6 u.gW u.iK (fun m' hm=>by
  obtain ⟨o',es',ep',ho',r'⟩:=hm
  rw [ho] at ho'; cases ho'
  exact ⟨_,es',ep',hL,r'⟩) hok hg
theorem Inv.turned {t':Nat} {it:Addr} (I:Inv X pins σ H s) (k:∀ b o,b≠it->s.heap.get? b=some o->h'.get? b=some o) (hn:H it=none) (hL:it≠X.env.locals)
  (h1:it∈X.ex\/X.s₀.heap.objs.size<=it) (h2:∀ x c,X.env.cells.lookup x=some c->c≠it) (h3:∀ p∈X.pn ++ pins,p.1≠it):Inv X pins σ H { s with heap:=h',toks:=t' }:=by
 have nit:∀ b u,H b=some u->b≠it:=fun b u e z=>by rw [z,hn] at e; cases e
 refine I.step (g':=s.gens) (d':=s.drawn) (ch:=[it]) (fun b hb=>?_) (fun b o _ _ hc e _=>k b o (fun z=>hc (by simp [z])) e) (fun b o _ _ hc e _=>⟨o.slots,k b o (fun z=>hc (by simp [z])) e⟩) (fun _ _ _ _ n=>n)
  (fun b o hc e=>⟨o,k b o (fun z=>hc (by simp [z])) e⟩) (fun _ _ e=>e) (fun _ _ _ e=>e) (fun b ps e=>⟨#[],by rw [e]; simp⟩) (fun m hm=>?_) (fun b u e=>?_) I.bare
 ·have e:b=it:=by simpa using hb
  subst e
  exact ⟨h1,hL,h2,h3⟩
 ·obtain ⟨o,es,ep,ho,r⟩:=hm
  exact ⟨o,es,ep,k _ o (Ne.symm hL) ho,r⟩
 ·refine (I.hok b u e).kI (fun c v hc q=>k c v ?_ q) (fun _ q=>q) fun _ _ q=>q
  rcases hc with z | z
  ·rw [z]; exact nit b u e
  ·exact nit c _ z
theorem Inv.tok (I:Inv X pins σ H s) (t:Nat):Inv X pins σ H { s with toks:=t }:=I.un (h':=s.heap) (t':=t) Un.refl I.hok
theorem Inv.kept {t':Nat} (I:Inv X pins σ H s) (k:∀ b u,s.heap.get? b=some u->h'.get? b=some u):Inv X pins σ H { s with heap:=h',toks:=t' }:=I.un (Un.kept k) (I.hok.kept k)
theorem Inv.laid {a:Addr} {o:HO} {t':Nat} (I:Inv X pins σ H s) (k:∀ b u,s.heap.get? b=some u->h'.get? b=some u) (hp:s.heap.objs.size<=a) (new:aQ X.prog X.w (upd H a o) h' a o) :
  Inv X pins σ (upd H a o) { s with heap:=h',toks:=t' }:=I.un (Un.laid k hp (I.hok.fresh hp)) (I.hok.laid k hp new)
theorem Inv.write {x e:Addr} {o:HO} {t':Nat} (I:Inv X pins σ H s) (mu:Mut (H x)) (he:e=x\/H e=some (.own x)) (k:∀ b u,b≠e->s.heap.get? b=some u->h'.get? b=some u) (heo:∃ u,h'.get? e=some u)
  (new:aQ X.prog X.w (upd H x o) h' x o):Inv X pins σ (upd H x o) { s with heap:=h',toks:=t' }:=I.un (Un.write mu he k heo) (I.hok.write mu he k heo new)
theorem Inv.weak {σ':List (Option V)} (I:Inv X pins σ H s) (hl:σ'.length=σ.length) (w:∀ (i:Nat) v,σ'[i]?=some (some v)->σ[i]?=some (some v)):Inv X pins σ' H s :=
 ⟨I.ok,I.os,I.bare,I.base,let ⟨m,hn,hl'⟩:=I.loc; ⟨m,hn,fun i x v e1 e2 e3=>hl' i x v e1 (w i v e2) e3⟩,I.cell,I.free,I.df,I.pin,I.hok,hl.trans I.len⟩
theorem Inv.ox {pins':List (Addr × Obj)} (I:Inv X pins σ H s) (h:∀ p∈pins',s.heap.get? p.1=some p.2/\H p.1=none/\p.1≠X.env.locals/\p.1∉X.fs/\∀ v,p.2.data≠.cell v):Inv X pins' σ H s :=
 ⟨I.ok,I.os,I.bare,I.base,I.loc,I.cell,I.free,I.df,fun p hp=>(List.mem_append.mp hp).elim (fun z=>I.pin p (List.mem_append_left _ z)) (h p),I.hok,I.len⟩
theorem nF {N:List Str} (hN:N.Nodup) {i j:Nat} {x:Str} (a:N[i]?=some x) (b:N[j]?=some x):i=j:=by
 obtain ⟨h1,e1⟩:=List.getElem?_eq_some_iff.mp a
 obtain ⟨h2,e2⟩:=List.getElem?_eq_some_iff.mp b
 exact (List.getElem_inj hN).mp (e1.trans e2.symm)
theorem l4 {M:Model} {A:Around} {E:Value->Shared->Prop} {i:Nat} {x:Str} {v:V} {u:Value} {Q:Unit->Shared->Prop} (I:Inv X pins σ H s) (hN:X.N.Nodup) (hi:X.N[i]?=some x) (hx:Loc X.env.scope x) (r:RelV v u)
  (h:∀ s',Inv X pins (σ.set i (some v)) H s'->(∃ a,Heap.SameBut a s.heap s'.heap/\(a=X.env.locals\/X.env.cells.lookup x=some a))->Q () s') (hf:X.fn x=true\/X.env.scope.names.lookup x=some .local:=by first | exact .inl rfl | exact .inr rfl | assumption):wpAny M A (storeName X.env x u) Q E s:=by
 obtain ⟨m,hn,hl⟩:=id I.loc
 have hcls:(X.env.scope.kind == .class || (X.env.scope.kind == .module && X.env.locals != X.env.globals))=false:=by rw [I.ok.kind]; rfl
 have hiσ:i<σ.length:=by rw [I.len]; exact (List.getElem?_eq_some_iff.mp hi).1
 have cne:=I.cne
 have tracked:∀ {a:Addr} {h':Heap},(∃ o,s.heap.get? a=some o/\H a=none)->Heap.SameBut a s.heap h'->HOk X.prog X.w H h':=fun {a h'} ha hs b ob e=>by
  obtain ⟨_,_,hfree⟩:=ha
  refine (I.hok b ob e).kI (fun c w' hc q=>(hs.2 c ?_).trans q) (fun _ q=>q) fun _ _ q=>q
  rintro rfl
  rcases hc with rfl | hc
  ·rw [hfree] at e; cases e
  ·rw [hfree] at hc; cases hc
 rcases hx with hk | hk
 ·refine wpAny_storeName_local hk hn (fun h' hn' hs=>?_) hcls
  obtain ⟨oL,_,_,hoL,_⟩:=id hn
  refine h _ ⟨I.ok,I.os,I.bare,⟨fun b o e n hb hx=>?_,fun b o e n hb hx=>?_,I.base.free,fun b o e hx=>?_,I.base.i6,I.base.gW,I.base.iK⟩,⟨_,hn',fun j y v' e1 e2 e3=>?_⟩,fun y c e=>?_,I.free,I.df,fun p hp=>?_,tracked ⟨oL,hoL,I.free⟩ hs,by simpa using I.len⟩ ⟨_,hs,.inl rfl⟩
  ·exact (hs.2 b (Nat.ne_of_lt (Nat.lt_of_lt_of_le (Heap.lt_size e) I.ok.above))).trans (I.base.keep b o e n hb hx)
  ·obtain ⟨sl,e1⟩:=I.base.slot b o e n hb hx
   exact ⟨sl,(hs.2 b (Nat.ne_of_lt (Nat.lt_of_lt_of_le (Heap.lt_size e) I.ok.above))).trans e1⟩
  ·obtain ⟨o',e1⟩:=I.base.there b o e hx
   exact ⟨o',(hs.2 b (Nat.ne_of_lt (Nat.lt_of_lt_of_le (Heap.lt_size e) I.ok.above))).trans e1⟩
  ·by_cases hj:j=i
   ·subst hj
    rw [hi] at e1; cases e1
    rw [List.getElem?_set_self hiσ] at e2
    cases e2
    exact ⟨u,r,.inl ⟨hk,by simp⟩⟩
   ·rw [List.getElem?_set_ne (Ne.symm hj)] at e2
    obtain ⟨u',r',q⟩:=hl j y v' e1 e2 e3
    refine ⟨u',r',?_⟩
    rcases q with ⟨k,e⟩ | ⟨k,c,e,z⟩
    ·refine .inl ⟨k,?_⟩
     have:y≠x:=fun e=>hj (nF hN e1 (e ▸ hi))
     simp [this,e]
    ·exact .inr ⟨k,c,e,z.sameBut hs (cne y c e)⟩
  ·obtain ⟨w',z⟩:=I.cell y c e
   exact ⟨w',z.sameBut hs (cne y c e)⟩
  ·obtain ⟨e,n,ne,nf,d⟩:=I.pin p hp
   exact ⟨(hs.2 p.1 ne).trans e,n,ne,nf,d⟩
 ·have hfn:X.fn x=true:=by
   rcases hf with z | z
   ·exact z
   ·rw [z] at hk; cases hk
  obtain ⟨c,hc⟩:=I.ok.has x (.inl hk)
  obtain ⟨w',z⟩:=I.cell x c hc
  refine wpAny_storeName_cell I.ok.kind hk hc z (fun h' hc' hs=>?_)
  obtain ⟨oc,hoc,hocd⟩:=id z
  refine h { s with heap:=h' } ⟨I.ok,I.os,I.bare,⟨fun b o e n hb hx=>?_,fun b o e n hb hx=>?_,I.base.free,fun b o e hx=>?_,I.base.i6,I.base.gW,I.base.iK⟩,⟨m,hn.sameBut hs (Ne.symm (cne x c hc)),fun j y v' e1 e2 e3=>?_⟩,fun y c' e=>?_,I.free,I.df,fun p hp=>?_,tracked ⟨oc,hoc,I.df x c hc⟩ hs,by simpa using I.len⟩ ⟨c,hs,.inr hc⟩
  ·exact (hs.2 b (Nat.ne_of_lt (Nat.lt_of_lt_of_le (Heap.lt_size e) (I.ok.cab x c hfn hc)))).trans (I.base.keep b o e n hb hx)
  ·obtain ⟨sl,e1⟩:=I.base.slot b o e n hb hx
   exact ⟨sl,(hs.2 b (Nat.ne_of_lt (Nat.lt_of_lt_of_le (Heap.lt_size e) (I.ok.cab x c hfn hc)))).trans e1⟩
  ·obtain ⟨o',e1⟩:=I.base.there b o e hx
   exact ⟨o',(hs.2 b (Nat.ne_of_lt (Nat.lt_of_lt_of_le (Heap.lt_size e) (I.ok.cab x c hfn hc)))).trans e1⟩
  ·by_cases hj:j=i
   ·subst hj
    rw [hi] at e1; cases e1
    rw [List.getElem?_set_self hiσ] at e2
    cases e2
    exact ⟨u,r,.inr ⟨.inl hk,c,hc,hc'⟩⟩
   ·rw [List.getElem?_set_ne (Ne.symm hj)] at e2
    obtain ⟨u',r',q⟩:=hl j y v' e1 e2 e3
    refine ⟨u',r',?_⟩
    rcases q with q | ⟨k,c',e,z'⟩
    ·exact .inl q
    ·refine .inr ⟨k,c',e,z'.sameBut hs ?_⟩
     rintro rfl
     exact hj (nF hN e1 (I.ok.inj _ _ _ e hc ▸ hi))
  ·by_cases hcc:c'=c
   ·subst hcc; exact ⟨_,hc'⟩
   ·obtain ⟨w2,z2⟩:=I.cell y c' e
    exact ⟨w2,z2.sameBut hs hcc⟩
  ·obtain ⟨e,n,ne,nf,d⟩:=I.pin p hp
   refine ⟨(hs.2 p.1 ?_).trans e,n,ne,nf,d⟩
   intro q
   rw [q,hoc] at e
   have q':oc=p.2:=Option.some.inj e
   exact d w' (by rw [<- q']; exact hocd)
theorem gu {M:Model} {A:Around} {E:Value->Shared->Prop} {i:Nat} {x:Str} {v:V} {u:Value} {Q:Unit->Shared->Prop} (I:Inv X pins σ H s) (hN:X.N.Nodup) (hi:X.N[i]?=some x) (hx:Loc X.env.scope x) (r:RelV v u)
  (h:∀ s',Inv X pins (σ.set i (some v)) H s'->Q () s') (hf:X.fn x=true\/X.env.scope.names.lookup x=some .local:=by first | exact .inl rfl | exact .inr rfl | assumption):wpAny M A (storeName X.env x u) Q E s :=
 l4 I hN hi hx r (fun s' I' _=>h s' I') hf
theorem Inv.vv {s':Shared} {ch:List Addr} (I:Inv X pins σ H s) (ho:s'.os=s.os) (u:Un (frs X.stack) ch H H' s.heap s'.heap) (hok:HOk X.prog X.w H' s'.heap) (hg:AllBare s'.gens)
  (hch:∀ b∈ch,(b∈X.ex\/X.s₀.heap.objs.size<=b)/\b≠X.env.locals/\(∀ x c,X.env.cells.lookup x=some c->c≠b)/\∀ p∈X.pn ++ pins,p.1≠b):Inv X pins σ H' s':=by
 obtain ⟨h',g',d',t',o'⟩:=s'
 have e:o'=s.os:=ho
 subst e
 exact I.call (g':=g') (t':=t') (d':=d') u hok hg hch
end
abbrev XK:=Value->Option Addr->Hp->Prop
abbrev St:=List (Option V)
abbrev VK:=V->Hp->Prop
abbrev TE:=St->Hp->VK->Prop
abbrev TT:=St->Hp->(Bool->Hp->Prop)->Prop
abbrev TA:=St->Hp->(List V->Hp->Prop)->Prop
structure Ends where
 nx:St->Hp->Prop
 rt:VK
 bk:St->Hp->Prop:=fun _ _=>False
 ct:St->Hp->Prop:=fun _ _=>False
abbrev TS:=Ends->St->Hp->Prop
def EP (X:Cx) (pins:List (Addr × Obj)) (σ:St) (Q:VK) (u:Value) (s':Shared):Prop:=∃ v H',Inv X pins σ H' s'/\RelV v u/\Q v H'
def TP (X:Cx) (pins:List (Addr × Obj)) (σ:St) (Q:Bool->Hp->Prop) (b:Bool) (s':Shared):Prop:=∃ H',Inv X pins σ H' s'/\Q b H'
def AP (X:Cx) (pins:List (Addr × Obj)) (σ:St) (Q:List V->Hp->Prop) (us:List Value) (s':Shared):Prop:=∃ vs H',Inv X pins σ H' s'/\Vals vs us/\Q vs H'
def SP (X:Cx) (pins:List (Addr × Obj)) (D:Ends) (f:Flow) (s':Shared):Prop :=
 match f with
 | .next=>∃ σ' H',Inv X pins σ' H' s'/\D.nx σ' H'
 | .brk=>∃ σ' H',Inv X pins σ' H' s'/\D.bk σ' H'
 | .cont=>∃ σ' H',Inv X pins σ' H' s'/\D.ct σ' H'
 | .ret u=>∃ v σ' H',Inv X pins σ' H' s'/\RelV v u/\D.rt v H'
def PE (X:Cx) (e:Expr) (t:TE):Prop :=
 ∀ (pins:List (Addr × Obj)) (s:Shared) (σ:St) (H:Hp) (Q:VK),Inv X pins σ H s->t σ H Q->wpAny (model X.prog X.w) X.A (eval e X.env) (EP X pins σ Q) X.xe s
def PT (X:Cx) (e:Expr) (t:TT):Prop :=
 ∀ (pins:List (Addr × Obj)) (s:Shared) (σ:St) (H:Hp) (Q:Bool->Hp->Prop),Inv X pins σ H s->t σ H Q->wpAny (model X.prog X.w) X.A (isTrue e X.env (eval e X.env)) (TP X pins σ Q) X.xe s
def PW (X:Cx) (e:Expr) (t:TT):Prop :=
 ∀ (whole:Sem Value) (pins:List (Addr × Obj)) (s:Shared) (σ:St) (H:Hp) (Q:Bool->Hp->Prop),Inv X pins σ H s->t σ H Q->wpAny (model X.prog X.w) X.A (isTrue e X.env whole) (TP X pins σ Q) X.xe s
theorem PW.pt {X:Cx} {e:Expr} {t:TT} (h:PW X e t):PT X e t:=h _
def PA (X:Cx) (es:List Expr) (t:TA):Prop :=
 ∀ (pos:Pos) (pins:List (Addr × Obj)) (s:Shared) (σ:St) (H:Hp) (Q:List V->Hp->Prop),Inv X pins σ H s->t σ H Q->wpAny (model X.prog X.w) X.A (spliced (backTo pos (starEach es X.env))) (AP X pins σ Q) X.xe s
def PS (X:Cx) (st:Stmt) (t:TS):Prop :=
 ∀ (pins:List (Addr × Obj)) (s:Shared) (σ:St) (H:Hp) (D:Ends),Inv X pins σ H s->t D σ H->wpAny (model X.prog X.w) X.A (exec st X.env) (SP X pins D) X.xe s
def PSs (X:Cx) (st:List Stmt) (t:TS):Prop :=
 ∀ (pins:List (Addr × Obj)) (s:Shared) (σ:St) (H:Hp) (D:Ends),Inv X pins σ H s->t D σ H->wpAny (model X.prog X.w) X.A (execs st X.env) (SP X pins D) X.xe s
theorem thn {α:Type} {t:Sem α} {Q Q':α->Shared->Prop} {M:Model} {A:Around} {E:Value->Shared->Prop} {s:Shared} (h:wpAny M A t Q E s) (hQ:∀ a s,Q a s->Q' a s):wpAny M A t Q' E s:=wpAny_mono h hQ fun _ _ x=>x
end L2
namespace L2
open PySem PySem.Spec PyProof.Rows
section
variable {X:Cx}
def hZ (i:Nat):TE:=fun σ H Q=>∃ v,σ[i]?=some (some v)/\Q v H
def tC (v:V):TE:=fun _ H Q=>Q v H
theorem fT {i:Nat} {x:Str} {pos:Pos} (hN:X.N[i]?=some x) (hv:Vis X.env.scope x) (hd:(x == ("__debug__" : Str))=false:=by decide) (hcd:(x == ("__classdict__" : Str))=false:=by decide):PE X (.Name x pos) (hZ i):=by
 intro pins s σ H Q I h
 obtain ⟨v,e,h⟩:=h
 obtain ⟨m,hn,hl⟩:=I.loc
 obtain ⟨u,r,l⟩:=hl i x v hN e hv
 have fin:EP X pins σ Q u s:=⟨v,H,I,r,h⟩
 rcases l with ⟨hk,hm⟩ | ⟨hk,c,hc,hcell⟩
 ·exact wpAny_Name (wpAny_loadName_local I.ok.kind hk hn hm fin) hd
 ·rcases hk with hk | hk
  ·exact wpAny_Name (wpAny_loadName_cell I.ok.kind hk hc hcell fin) hd
  ·exact wpAny_Name (wpAny_loadName_free I.ok.kind hk hc hcell fin hcd) hd
theorem mI {i j pos}:PE X (.Constant (.int i) j pos) (tC (.int i)):=fun _ _ _ H _ I h=>wpAny_Constant_int ⟨.int i,H,I.tok _,⟨_,rfl⟩,h⟩
theorem AS {b j pos}:PE X (.Constant (.bool b) j pos) (tC (.bl b)):=fun _ _ _ H _ I h=>Constant_bool ⟨.bl b,H,I,rfl,h⟩
theorem m9 {j pos}:PE X (.Constant .none j pos) (tC .non):=fun _ _ _ H _ I h=>Constant_none ⟨.non,H,I,rfl,h⟩
theorem Ao {x j pos}:PE X (.Constant (.str x) j pos) (tC (.str x)):=fun _ _ _ H _ I h=>Calls.Constant_str ⟨.str x,H,I.tok _,⟨_,rfl⟩,h⟩
def Gl (X:Cx) (x:Str):Prop:=X.env.kindOf x=some .globalImplicit
theorem oN {E:Value->Shared->Prop} {pins:List (Addr × Obj)} {s:Shared} {σ:St} {H:Hp} {x:Str} {u:Value} {pos:Pos} {Q:Value->Shared->Prop} (I:Inv X pins σ H s) (hg:Gl X x) (hm:X.mg x=some u) (h:Q u s)
  (hd:(x == ("__debug__" : Str))=false:=by decide):wpAny (model X.prog X.w) X.A (eval (.Name x pos) X.env) Q E s :=
 Calls.Name_function_global I.ok.kind hg (Calls.loadGlobal_global (by rw [I.ok.glob]; exact I.mod.glob.keeps I.bk) hm h) hd
theorem eT {E:Value->Shared->Prop} {pins:List (Addr × Obj)} {s:Shared} {σ:St} {H:Hp} {x:Str} {u:Value} {pos:Pos} {Q:Value->Shared->Prop} (I:Inv X pins σ H s) (hg:Gl X x) (hm:X.mg x=none) (hv:bootBuiltins x=some u) (h:Q u s)
  (hn:x ≠ "__name__" := by decide) (hd:(x == ("__debug__" : Str))=false:=by decide):wpAny (model X.prog X.w) X.A (eval (.Name x pos) X.env) Q E s:=by
 obtain ⟨mb,h1,h2⟩:=I.mod.blt
 exact Calls.Name_function_global I.ok.kind hg (Calls.loadGlobal_builtin (by rw [I.ok.glob]; exact I.mod.glob.keeps I.bk) hm (by rw [I.ok.blt]; exact h1.keeps I.bk) ((h2 x hn).trans hv) h) hd
theorem v8 {x:Str} {v:V} {u:Value} {pos:Pos} (hg:Gl X x) (hm:X.mg x=some u) (r:RelV v u) (hd:(x == ("__debug__" : Str))=false:=by decide):PE X (.Name x pos) (tC v) :=
 fun _ _ _ H _ I h=>oN I hg hm ⟨v,H,I,r,h⟩ hd
theorem wC {x:Str} {v:V} {u:Value} {pos:Pos} (hg:Gl X x) (hm:X.mg x=none) (hv:bootBuiltins x=some u) (r:RelV v u) (hn:x ≠ "__name__" := by decide) (hd:(x == ("__debug__" : Str))=false:=by decide):PE X (.Name x pos) (tC v) :=
 fun _ _ _ H _ I h=>eT I hg hm hv ⟨v,H,I,r,h⟩ hn hd
variable {a b:Expr} {ta tb:TE} {pos:Pos}
def PC (X:Cx) (op:CmpOp) (a b:Expr) (t:TE):Prop :=
 ∀ (pins:List (Addr × Obj)) (s:Shared) (σ:St) (H:Hp) (Q:VK),Inv X pins σ H s->t σ H Q ->
  wpAny (model X.prog X.w) X.A (eval a X.env) (fun v s₁=>wpAny (model X.prog X.w) X.A (eval b X.env) (fun u s₂=>wpAny (model X.prog X.w) X.A (compareOp op v u) (EP X pins σ Q) X.xe s₂) X.xe s₁) X.xe s
def tB (t:TE):TT:=fun σ H Q=>t σ H fun x H1=>∃ c,x=.bl c/\Q c H1
theorem ze {op:CmpOp} {t:TE} (h:PC X op a b t) (h1:behindInMarks op b=false:=by first | exact nobehind _ (by decide) (by decide) | rfl):PE X (.Compare a [op] [b] pos) t:=fun pins s σ H Q I hw=>wpAny_Compare1 (h pins s σ H Q I hw) h1
theorem yJ {op:CmpOp} {t:TE} (h:PC X op a b t) (h1:behindInMarks op b=false:=by first | exact nobehind _ (by decide) (by decide) | rfl):PT X (.Compare a [op] [b] pos) (tB t):=by
 intro pins s σ H Q I hw
 refine wpAny_isTrue_Compare1 (thn (h pins s σ H _ I hw) fun v s1 h1=>thn h1 fun u s2 h2=>thn h2 fun c s3 ⟨x,H1,I1,r1,q1⟩=>?_) h1
 obtain ⟨d,rfl,q⟩:=q1
 cases r1
 exact wpAny_truthy_bool ⟨H1,I1,q⟩
variable {tA tB':TT} {rest:List Expr}
def B8 (t u:TT):TT:=fun σ H Q=>t σ H fun c H1=>if c=true then u σ H1 Q else Q false H1
def tOr (t u:TT):TT:=fun σ H Q=>t σ H fun c H1=>if c=true then Q true H1 else u σ H1 Q
def BQ (t:TT):TT:=fun σ H Q=>t σ H fun c H1=>Q (!c) H1
theorem vG (ha:PT X a tA):PW X (.BoolOp .And [a] pos) tA:=by
 intro wh pins s σ H Q I h
 refine isTrue_and (thn (ha pins s σ H Q I h) fun c s1 e=>?_)
 cases c with
 | true=>exact isTrue_and_nil e
 | false=>exact e
theorem zB (ha:PT X a tA):PW X (.BoolOp .Or [a] pos) tA:=by
 intro wh pins s σ H Q I h
 refine isTrue_or (thn (ha pins s σ H Q I h) fun c s1 e=>?_)
 cases c with
 | false=>exact isTrue_or_nil e
 | true=>exact e
theorem xD (ha:PT X a tA) (hb:PW X (.BoolOp .And (b :: rest) pos) tB'):PW X (.BoolOp .And (a :: b :: rest) pos) (B8 tA tB'):=by
 intro wh pins s σ H Q I h
 refine isTrue_and (thn (ha pins s σ H _ I h) fun c s1 ⟨H1,I1,q1⟩=>?_)
 cases c with
 | true=>exact hb wh pins s1 σ H1 Q I1 q1
 | false=>exact ⟨H1,I1,q1⟩
theorem A2 (ha:PT X a tA) (hb:PW X (.BoolOp .Or (b :: rest) pos) tB'):PW X (.BoolOp .Or (a :: b :: rest) pos) (tOr tA tB'):=by
 intro wh pins s σ H Q I h
 refine isTrue_or (thn (ha pins s σ H _ I h) fun c s1 ⟨H1,I1,q1⟩=>?_)
 cases c with
 | true=>exact ⟨H1,I1,q1⟩
 | false=>exact hb wh pins s1 σ H1 Q I1 q1
theorem xC (ha:PT X a tA):PT X (.UnaryOp .Not a pos) (BQ tA):=by
 intro pins s σ H Q I h
 exact isTrue_not (ha pins s σ H (fun c H1=>Q (!c) H1) I h)
def AQ (ta tb:TE):TE:=fun σ H Q=>ta σ H fun x H1=>∃ c,x=.bl c/\if c=true then tb σ H1 Q else Q (.bl false) H1
def B4 (ta tb:TE):TE:=fun σ H Q=>ta σ H fun x H1=>∃ c,x=.bl c/\if c=true then Q (.bl true) H1 else tb σ H1 Q
theorem xA {op} {t:TE} (h:PE X a t):PE X (.BoolOp op [a] pos) t:=fun pins s σ H Q I hw=>BoolOp_one (h pins s σ H Q I hw)
theorem yI (ha:PE X a ta) (hb:PE X (.BoolOp .And (b :: rest) pos) tb):PE X (.BoolOp .And (a :: b :: rest) pos) (AQ ta tb):=by
 intro pins s σ H Q I h
 refine BoolOp_and (thn (ha pins s σ H _ I h) fun v s1 ⟨x,H1,I1,r1,q1⟩=>?_)
 obtain ⟨c,rfl,q1⟩:=q1
 cases r1
 refine wpAny_truthy_bool ?_
 cases c with
 | true=>exact hb pins s1 σ H1 Q I1 q1
 | false=>exact ⟨.bl false,H1,I1,rfl,q1⟩
theorem AO (ha:PE X a ta) (hb:PE X (.BoolOp .Or (b :: rest) pos) tb):PE X (.BoolOp .Or (a :: b :: rest) pos) (B4 ta tb):=by
 intro pins s σ H Q I h
 refine BoolOp_or (thn (ha pins s σ H _ I h) fun v s1 ⟨x,H1,I1,r1,q1⟩=>?_)
 obtain ⟨c,rfl,q1⟩:=q1
 cases r1
 refine wpAny_truthy_bool ?_
 cases c with
 | false=>exact hb pins s1 σ H1 Q I1 q1
 | true=>exact ⟨.bl true,H1,I1,rfl,q1⟩
def tIf (t:TT) (ta tb:TE):TE:=fun σ H Q=>t σ H fun c H1=>if c=true then ta σ H1 Q else tb σ H1 Q
theorem tU {c:Expr} (hc:PT X c tA) (ha:PE X a ta) (hb:PE X b tb):PE X (.IfExp c a b pos) (tIf tA ta tb):=by
 intro pins s σ H Q I h
 refine wpAny_IfExp (thn (hc pins s σ H _ I h) fun d s1 ⟨H1,I1,q1⟩=>?_)
 cases d with
 | true=>exact ha pins s1 σ H1 Q I1 q1
 | false=>exact hb pins s1 σ H1 Q I1 q1
end
end L2
namespace L2
open PySem PySem.Spec PyProof.Rows
def SqL (K:PySem.W.Frag) (H:Hp) (a:Addr) (xs:List V):Prop :=
 Rd H a (.lst xs) \/
  ∃ (o:Obj) (its:Array Value) (n:Nat),K.lookup a=some o/\o.cls=.type "list" /\ o.dict=none/\o.data=.seq its n/\its.size<=sizeLine/\Vals xs its.toList
def SqT (K:PySem.W.Frag) (H:Hp) (a:Addr) (xs:List V):Prop :=
 Rd H a (.tup xs) \/
  ∃ (o:Obj) (its:Array Value) (n:Nat),K.lookup a=some o/\o.cls=.type "tuple" /\ o.data=.seq its n/\its.size<=sizeLine/\Vals xs its.toList
def Bw:Value->Option V
 | .none=>some .non
 | .bool b=>some (.bl b)
 | .int i _=>some (.int i)
 | .str x _=>some (.str x)
 | .bytes b _=>some (.byt b)
 | .float b _=>some (.flt b)
 | .ref a=>some (.ref a)
 | .type n=>some (.ty n)
 | _=>none
theorem RelV.abs {x:V} {u:Value} (r:RelV x u):Bw u=some x:=by
 cases x with
 | non=>cases r; rfl
 | bl _=>cases r; rfl
 | int _=>obtain ⟨t,rfl⟩:=r; rfl
 | str _=>obtain ⟨t,rfl⟩:=r; rfl
 | byt _=>obtain ⟨t,rfl⟩:=r; rfl
 | flt _=>obtain ⟨t,rfl⟩:=r; rfl
 | ref _=>cases r; rfl
 | ty _=>cases r; rfl
theorem RelV.inj {x y:V} {u:Value} (r:RelV x u) (q:RelV y u):x=y:=Option.some.inj (r.abs.symm.trans q.abs)
theorem Vals.inj:∀ {xs ys:List V} {us:List Value},Vals xs us->Vals ys us->xs=ys
 | _,_,_,.nil,.nil=>rfl
 | _,_,_,.cons r t,.cons r' t'=>by rw [r.inj r',Vals.inj t t']
section
variable {X:Cx} {pins:List (Addr × Obj)} {σ:St} {H:Hp} {s:Shared} {a:Addr} {xs ys:List V}
theorem SqL.of {K:PySem.W.Frag} (h:H a=some (.lst xs)):SqL K H a xs:=.inl (.inl h)
theorem SqT.of {K:PySem.W.Frag} (h:H a=some (.tup xs)):SqT K H a xs:=.inl (.inl h)
theorem Inv.list (I:Inv X pins σ H s) (h:SqL X.K H a xs):∃ its:List Value,Vals xs its/\PlainL s.heap a its.toArray/\xs.length<=sizeLine:=by
 rcases h with h | ⟨o,its,n,hk,hc,hd,hs,hz,r⟩
 ·obtain ⟨z,its,n,r,e⟩:=h.ok I.hok
  exact ⟨its,r,⟨_,n,e,rfl,rfl,rfl⟩,z⟩
 ·refine ⟨its.toList,r,⟨o,n,I.kIn a o hk,hc,hd,by simpa using hs⟩,?_⟩
  have e:=r.length
  simp only [Array.length_toList] at e
  omega
theorem Inv.tuple (I:Inv X pins σ H s) (h:SqT X.K H a xs):∃ its:List Value,Vals xs its/\IsTup s.heap a its.toArray/\xs.length<=sizeLine:=by
 rcases h with h | ⟨o,its,n,hk,hc,hs,hz,r⟩
 ·obtain ⟨z,its,r,p⟩:=h.ok I.hok
  exact ⟨its,r,p,z⟩
 ·refine ⟨its.toList,r,⟨o,I.kIn a o hk,hc,n,by simpa using hs⟩,?_⟩
  have e:=r.length
  simp only [Array.length_toList] at e
  omega
theorem Inv.sE (I:Inv X pins σ H s) (h:SqL X.K H a xs) (h':SqL X.K H a ys):xs=ys:=by
 obtain ⟨its,r,⟨o,n,e,_,_,d⟩,_⟩:=I.list h
 obtain ⟨its',r',⟨o',n',e',_,_,d'⟩,_⟩:=I.list h'
 rw [e] at e'; cases e'
 rw [d] at d'
 injection d' with d1 _
 have:its=its':=by simpa using congrArg Array.toList d1
 subst this
 exact r.inj r'
theorem Inv.rR (I:Inv X pins σ H s) (h:SqT X.K H a xs) (h':SqT X.K H a ys):xs=ys:=by
 obtain ⟨its,r,⟨o,e,_,n,d⟩,_⟩:=I.tuple h
 obtain ⟨its',r',⟨o',e',_,n',d'⟩,_⟩:=I.tuple h'
 rw [e] at e'; cases e'
 rw [d] at d'
 injection d' with d1 _
 have:its=its':=by simpa using congrArg Array.toList d1
 subst this
 exact r.inj r'
end
abbrev Cx.fH (X:Cx) (E:Value->Shared->Prop):Cx:={ X with xe:=E }
abbrev Cx.nox (X:Cx):Cx:=X.fH fun _ _=>False
theorem Cx.Ok.fH {X:Cx} (ok:X.Ok) (E:Value->Shared->Prop):(X.fH E).Ok :=
 ⟨ok.mod,ok.kind,ok.glob,ok.blt,ok.above,ok.inj,ok.has,ok.cab,ok.hd,ok.frames,ok.stk,ok.exf,ok.bs,ok.bsz,ok.mT,ok.mC,ok.eR,ok.frf⟩
theorem Cx.Ok.eh {X:Cx} {E:Value->Shared->Prop} (ok:(X.fH E).Ok):X.Ok :=
 ⟨ok.mod,ok.kind,ok.glob,ok.blt,ok.above,ok.inj,ok.has,ok.cab,ok.hd,ok.frames,ok.stk,ok.exf,ok.bs,ok.bsz,ok.mT,ok.mC,ok.eR,ok.frf⟩
section
variable {X:Cx} {pins:List (Addr × Obj)} {σ:St} {H:Hp} {s:Shared} {E:Value->Shared->Prop}
theorem Inv.fH (I:Inv X pins σ H s) (E:Value->Shared->Prop):Inv (X.fH E) pins σ H s:=⟨I.ok.fH E,I.os,I.bare,I.base,I.loc,I.cell,I.free,I.df,I.pin,I.hok,I.len⟩
theorem Inv.eh (I:Inv (X.fH E) pins σ H s):Inv X pins σ H s:=⟨I.ok.eh,I.os,I.bare,I.base,I.loc,I.cell,I.free,I.df,I.pin,I.hok,I.len⟩
theorem SP.eh {D:Ends} {f:Flow} {s':Shared} (h:SP (X.fH E) pins D f s'):SP X pins D f s':=by
 cases f with
 | next=>obtain ⟨σ',H',I,q⟩:=h; exact ⟨σ',H',I.eh,q⟩
 | brk=>obtain ⟨σ',H',I,q⟩:=h; exact ⟨σ',H',I.eh,q⟩
 | cont=>obtain ⟨σ',H',I,q⟩:=h; exact ⟨σ',H',I.eh,q⟩
 | ret u=>obtain ⟨v,σ',H',I,r,q⟩:=h; exact ⟨v,σ',H',I.eh,r,q⟩
theorem PSs.nox {st:List Stmt} {t:TS} (h:PSs X.nox st t):PSs X st t:=fun pins s σ H D I hw =>
 wpAny_mono (h pins s σ H D (I.fH _) hw) (fun _ _ q=>q.eh) fun _ _ z=>False.elim z
end
section
variable {X:Cx} {st:Stmt} {rest:List Stmt} {t u:TS} {e:Expr} {te:TE} {pos:Pos}
def Bh:TS:=fun D σ H=>D.nx σ H
def By (t u:TS):TS:=fun D σ H=>t { D with nx:=u D } σ H
theorem vX:PSs X [] Bh:=fun _ _ σ H _ I h=>wpAny_execs_nil ⟨σ,H,I,h⟩
theorem uS (h1:PS X st t) (h2:PSs X rest u):PSs X (st :: rest) (By t u):=by
 intro pins s σ H D I h
 refine wpAny_execs_cons (thn (h1 pins s σ H { D with nx:=u D } I h) fun f s1 q=>?_)
 cases f with
 | next =>
  obtain ⟨σ',H',I',q⟩:=q
  exact h2 pins s1 σ' H' D I' q
 | ret v=>exact q
 | brk=>exact q
 | cont=>exact q
theorem Inv.quiet {pins:List (Addr × Obj)} {σ:St} {H:Hp} {s:Shared} (I:Inv X pins σ H s):interactive X.env=false:=by simp [interactive,I.ok.kind]
def pM (te:TE):TS:=fun D σ H=>te σ H fun _ H1=>D.nx σ H1
theorem oK (he:PE X e te) (hs:swapsWith e none pos.line X.env=pure false:=by rfl):PS X (.Expr e pos) (pM te):=by
 intro pins s σ H D I h
 exact wpAny_Expr_any (thn (he pins s σ H _ I h) fun v s1 ⟨x,H1,I1,r1,q1⟩=>⟨σ,H1,I1,q1⟩) I.quiet hs
def Cb (te:TE):TS:=fun D σ H=>te σ H D.rt
theorem rF (he:PE X e te):PS X (.Return (some e) pos) (Cb te):=by
 intro pins s σ H D I h
 exact wpAny_Return_some (thn (he pins s σ H _ I h) fun v s1 ⟨x,H1,I1,r1,q1⟩=>⟨x,σ,H1,I1,r1,q1⟩)
def B0 (c:TT) (t u:TS):TS:=fun D σ H=>c σ H fun b H1=>if b=true then t D σ H1 else u D σ H1
theorem vi {c:Expr} {a b:List Stmt} {tc:TT} (hc:PT X c tc) (ha:PSs X a t) (hb:PSs X b u):PS X (.If c a b pos) (B0 tc t u):=by
 intro pins s σ H D I h
 refine wpAny_If (thn (hc pins s σ H _ I h) fun d s1 ⟨H1,I1,q1⟩=>?_)
 cases d with
 | true=>exact ha pins s1 σ H1 D I1 q1
 | false=>exact hb pins s1 σ H1 D I1 q1
def zy:TS:=fun _ _ _=>False
theorem u7:PS X st zy:=fun _ _ _ _ _ _ h=>h.elim
end
abbrev TG:=V->St->Hp->(St->Hp->Prop)->Prop
abbrev TGs:=List V->St->Hp->(St->Hp->Prop)->Prop
def PG (X:Cx) (target:Expr) (t:TG):Prop :=
 ∀ (pins:List (Addr × Obj)) (s:Shared) (σ:St) (H:Hp) (v:V) (u:Value) (Q:St->Hp->Prop),Inv X pins σ H s->RelV v u->t v σ H Q ->
  wpAny (model X.prog X.w) X.A (assign target X.env u) (fun _ s'=>∃ σ' H',Inv X pins σ' H' s'/\Q σ' H') X.xe s
def PGs (X:Cx) (ts:List Expr) (t:TGs):Prop :=
 ∀ (pins:List (Addr × Obj)) (s:Shared) (σ:St) (H:Hp) (vs:List V) (us:List Value) (Q:St->Hp->Prop),Inv X pins σ H s->Vals vs us->t vs σ H Q ->
  wpAny (model X.prog X.w) X.A (assignInOrder ((assignEach ts X.env).map (·.2)) us) (fun _ s'=>∃ σ' H',Inv X pins σ' H' s'/\Q σ' H') X.xe s
abbrev tw:=V->V->V->Hp->(Hp->Prop)->Prop
def yp (X:Cx) (t:tw):Prop :=
 ∀ (pins:List (Addr × Obj)) (s:Shared) (σ:St) (H:Hp) (o i v:V) (ov iv u:Value) (Q:Hp->Prop),Inv X pins σ H s->RelV o ov->RelV i iv->RelV v u->t o i v H Q ->
  wpAny (model X.prog X.w) X.A (setItem ov iv u) (fun _ s'=>∃ H',Inv X pins σ H' s'/\Q H') X.xe s
section
variable {X:Cx} {pos:Pos}
def jR (i:Nat):TG:=fun v σ H Q=>Q (σ.set i (some v)) H
theorem oD {i:Nat} {x:Str} (hN:X.N.Nodup) (hi:X.N[i]?=some x) (hx:Loc X.env.scope x) (hf:X.fn x=true\/X.env.scope.names.lookup x=some .local:=by first | exact .inl rfl | exact .inr rfl | assumption):PG X (.Name x pos) (jR i):=by
 intro pins s σ H v u Q I r h
 exact wpAny_assign_Name (gu I hN hi hx r (fun s' I'=>⟨_,H,I',h⟩) hf)
def ye:TGs:=fun vs σ H Q=>vs=[]/\Q σ H
def vk (t:TG) (u:TGs):TGs:=fun vs σ H Q=>∃ v r,vs=v :: r/\t v σ H fun σ' H'=>u r σ' H' Q
theorem vF:PGs X [] ye:=by
 intro pins s σ H vs us Q I r h
 obtain ⟨e,h⟩:=h
 subst e
 cases r
 exact assignInOrder_nil ⟨σ,H,I,h⟩
theorem uP {e:Expr} {es:List Expr} {t:TG} {u:TGs} (h1:PG X e t) (h2:PGs X es u)
  (hs:(assignEach (e :: es) X.env).map (·.2)=assign e X.env :: (assignEach es X.env).map (·.2):=by rfl):PGs X (e :: es) (vk t u):=by
 intro pins s σ H vs us Q I r h
 obtain ⟨v,vr,e1,h⟩:=h
 subst e1
 cases r with
 | cons r rr =>
  rw [hs]
  refine assignInOrder_cons (thn (h1 pins s σ H _ _ _ I r h) fun _ s1 ⟨σ1,H1,I1,q1⟩=>?_)
  exact h2 pins s1 σ1 H1 _ _ Q I1 rr q1
def kJ (K:PySem.W.Frag) (n:Nat) (t:TGs):TG:=fun v σ H Q=>∃ a xs,v=.ref a/\SqT K H a xs/\xs.length=n/\t xs σ H Q
theorem qG {es:List Expr} {k:Nat} {t:TGs} {n:Nat} (hc:X.calm=true) (h:PGs X es t)
  (hn:(assignEach es X.env).length=n:=by rfl) (hst:(assignEach es X.env).findIdx? (·.1)=none:=by rfl):PG X (.Tuple es k pos) (kJ X.K n t):=by
 intro pins s σ H v u Q I r hw
 obtain ⟨a,xs,e1,hq,hl,hw⟩:=hw
 subst e1
 cases r
 obtain ⟨its,rv,ht,hz⟩:=I.tuple hq
 refine assign_Tuple_tuple (I.ok.hd hc) ht (by simp [hn,<- hl,rv.length]) hst fun h' hx=>?_
 have I1:Inv X pins σ H { s with heap:=h' }:=I.kept (t':=s.toks) fun b o e=>hx b o (Nat.ne_of_lt (Heap.lt_size e)) e
 exact h pins _ σ H xs _ Q I1 (by simpa using rv) hw
def uG (to ti:TE) (t:tw):TG:=fun v σ H Q=>to σ H fun o H1=>ti σ H1 fun i H2=>t o i v H2 fun H3=>Q σ H3
theorem yy {o i:Expr} {to ti:TE} {t:tw} (ho:PE X o to) (hi:PE X i ti) (hs:yp X t)
  (ha:∀ v,assign (.Subscript o i pos) X.env v=(do
   let ov <- holding [v] (eval o X.env)
   let iv <- holding [v,ov] (eval i X.env)
   standAt pos
   holding [v,ov,iv] (setItem ov iv v)
   release [v,ov,iv] []):=by intro _; rfl):PG X (.Subscript o i pos) (uG to ti t):=by
 intro pins s σ H v u Q I r h
 rw [ha]
 refine wpAny_bind (wpAny_holding (thn (ho pins s σ H _ I h) fun ov s1 ⟨x,H1,I1,r1,q1⟩=>?_))
 refine wpAny_bind (wpAny_holding (thn (hi pins s1 σ H1 _ I1 q1) fun iv s2 ⟨y,H2,I2,r2,q2⟩=>?_))
 refine wpAny_bind (wpAny_standAt (wpAny_bind (wpAny_holding (thn (hs pins s2 σ H2 x y v ov iv u _ I2 r1 r2 r q2) fun _ s3 ⟨H3,I3,q3⟩=>?_))))
 exact wpAny_release ⟨σ,H3,I3,q3⟩
def kR (te:TE) (g:TG):TS:=fun D σ H=>te σ H fun x H1=>g x σ H1 D.nx
theorem qi {tg e:Expr} {te:TE} {g:TG} (he:PE X e te) (hg:PG X tg g) (hs:swapsWithSole [tg] e pos.line X.env=pure false:=by rfl) (hw:swappedStores [tg] e X.env=pure none:=by rfl)
  (h1:(assignEach [tg] X.env).map (·.2)=[assign tg X.env]:=by rfl):PS X (.Assign [tg] e pos) (kR te g):=by
 intro pins s σ H D I h
 refine wpAny_Assign_stores (thn (he pins s σ H _ I h) fun v s1 ⟨x,H1,I1,r1,q1⟩=>?_) hs hw
 rw [h1]
 exact thn (hg pins s1 σ H1 x v _ I1 r1 q1) fun _ s2 q=>q
theorem rJ {i:Nat} {x:Str} {e:Expr} {te:TE} {pos':Pos} (hN:X.N.Nodup) (hi:X.N[i]?=some x) (hx:Loc X.env.scope x) (he:PE X e te) (hs:swapsWith e (some (.Name x pos')) pos.line X.env=pure false:=by rfl) (hf:X.fn x=true\/X.env.scope.names.lookup x=some .local:=by first | exact .inl rfl | exact .inr rfl | assumption) :
  PS X (.Assign [.Name x pos'] e pos) (kR te (jR i)):=by
 intro pins s σ H D I h
 refine wpAny_Assign_Name (thn (he pins s σ H _ I h) fun v s1 ⟨y,H1,I1,r1,q1⟩=>?_) hs
 exact gu I1 hN hi hx r1 (fun s2 I2=>⟨_,H1,I2,q1⟩) hf
def yb (i j:Nat) (ta:TA):TS:=fun D σ H=>ta σ H fun vs H1=>∃ v w,vs=[v,w]/\D.nx ((σ.set i (some v)).set j (some w)) H1
theorem zc {i j:Nat} {x y:Str} {a b:Expr} {ta:TA} {px py pt:Pos} {kt k2 pt2} (hc:X.calm=true) (hN:X.N.Nodup) (hi:X.N[i]?=some x) (hj:X.N[j]?=some y) (hij:i≠j)
  (hx:X.env.scope.names.lookup x=some .local) (hy:X.env.scope.names.lookup y=some .local) (ha:PA X [a,b] ta)
  (hw:swappedStores [.Tuple [.Name x px,.Name y py] kt pt] (.Tuple [a,b] k2 pt2) X.env=pure (some [x,y]))
  (hs:swapsWithSole [.Tuple [.Name x px,.Name y py] kt pt] (.Tuple [a,b] k2 pt2) pos.line X.env=pure false:=by rfl) :
  PS X (.Assign [.Tuple [.Name x px,.Name y py] kt pt] (.Tuple [a,b] k2 pt2) pos) (yb i j ta):=by
 intro pins s σ H D I h
 rw [exec_Assign_arm]
 refine wpAny_bind (wpAny_standAt ?_)
 rw [hs]
 refine wpAny_bind (wpAny_pure ?_)
 rw [if_neg (by decide)]
 refine wpAny_bind (Tuple_ (thn (ha _ pins s σ H _ I h) fun us s1 ⟨vs,H1,I1,r1,q1⟩=>?_))
 obtain ⟨v,w,e1,q1⟩:=q1
 subst e1
 obtain ⟨u1,u2,rfl,rv,rw'⟩:∃ u1 u2,us=[u1,u2]/\RelV v u1/\RelV w u2:=by
  cases r1 with
  | cons p q =>
   cases q with
   | cons p' q' =>
    cases q'
    exact ⟨_,_,rfl,p,p'⟩
 refine wpAny_newObj_type ?_ (by show 2<=sizeLine; decide)
 have I2:Inv X pins σ H1 { s1 with heap:=s1.heap.push { cls:=.type "tuple",data:=.seq [u1,u2].toArray } }:=I1.kept (t':=s1.toks) fun b o e=>Heap.get?_push_of_some _ e
 rw [hw]
 refine wpAny_bind (wpAny_pure ?_)
 show wpAny (model X.prog X.w) X.A (do rule "assign.swapped-stores"; let items <- unpackItems (.ref s1.heap.objs.size) 2 none; assignInOrder [fun v=>bindName X.env y v,fun v=>bindName X.env x v] items.reverse; pure Flow.next) _ _ _
 refine wpAny_bind (wpAny_rule (wpAny_bind (unpackItems_tuple (items:=#[u1,u2]) (I.ok.hd hc) (IsTup.new s1.heap _) fun h' hx'=>?_)))
 have I3:=I2.kept (h':=h') (t':=s1.toks) fun b o e=>hx' b o (Nat.ne_of_lt (Heap.lt_size e)) e
 show wpAny _ _ (assignInOrder [fun v=>bindName X.env y v,fun v=>bindName X.env x v] [u2,u1] >>= fun _=>pure Flow.next) _ _ _
 refine wpAny_bind (assignInOrder_cons (wpAny_bindName (gu I3 hN hj (.inl hy) rw' (fun s2 I4=>?_) (.inr hy))))
 refine assignInOrder_cons (wpAny_bindName (gu I4 hN hi (.inl hx) rv (fun s3 I5=>assignInOrder_nil (wpAny_pure ?_)) (.inr hx)))
 rw [List.set_comm _ _ (Ne.symm hij)] at I5
 exact ⟨_,H1,I5,q1⟩
end
section
variable {X:Cx} {pos:Pos}
end
structure It where
 go:Nat->Hp->Prop
 yld:Nat->Hp->V->Hp->Prop
 stop:Nat->Hp->Prop
def gP (X:Cx) (pins:List (Addr × Obj)) (H:Hp) (b:Addr):Prop :=
 H b=none/\b≠X.env.locals/\b∉X.fs/\(b∈X.ex\/X.s₀.heap.objs.size<=b)/\(∀ x c,X.env.cells.lookup x=some c->c≠b)/\∀ p∈X.pn ++ pins,p.1≠b
theorem Inv.kr {X:Cx} {pins:List (Addr × Obj)} {σ:St} {H H':Hp} {s:Shared} {b:Addr} (I:Inv X pins σ H s) (hb:s.heap.objs.size<=b) (hn:H' b=none):gP X pins H' b:=by
 refine ⟨hn,Nat.ne_of_gt (Nat.lt_of_lt_of_le I.lt hb),I.BU hb,.inr (Nat.le_trans I.sz hb),fun x c e z=>?_,fun p hp z=>?_⟩
 ·obtain ⟨v,q⟩:=I.cell x c e
  exact absurd (Nat.lt_of_lt_of_le q.lt (by rw [z]; exact hb)) (Nat.lt_irrefl _)
 ·exact absurd (Nat.lt_of_lt_of_le (Heap.lt_size (I.pin p hp).1) (by rw [z]; exact hb)) (Nat.lt_irrefl _)
structure Turn (P:Program) (w:World) (K:PySem.W.Frag) (tg:Expr) (J:It) (fp:List Addr) (it:Addr) (tn:Nat->Heap->Prop):Prop where
 mem:it∈fp
 obj:∀ i h,tn i h->∀ b∈fp,∃ o,h.get? b=some o/\∀ v,o.data≠.cell v
 keep:∀ i h h',tn i h->(∀ b∈fp,∀ o,h.get? b=some o->h'.get? b=some o)->tn i h'
 item:∀ (X:Cx),X.prog=P->X.w=w->X.K=K->X.calm=true->∀ (i:Nat) (pins:List (Addr × Obj)) (s:Shared) (σ:St) (H:Hp) (E:Value->Shared->Prop),Inv X pins σ H s->(∀ b∈fp,gP X pins H b)->tn i s.heap->J.go i H ->
  wpAny (model P w) X.A (pyNext (.ref it)) (fun r s1=>∃ u,r=some u /\
   wpAny (model P w) X.A (letOwnedTupleGo tg (.ref it) u) (fun _ s2=>∃ x H',Inv X pins σ H' s2/\RelV x u/\J.yld i H x H'/\tn (i+1) s2.heap/\∀ b∈fp,H' b=none) E s1) E s
 done:∀ (X:Cx),X.prog=P->X.w=w->X.K=K->X.calm=true->∀ (i:Nat) (pins:List (Addr × Obj)) (s:Shared) (σ:St) (H:Hp) (E:Value->Shared->Prop),Inv X pins σ H s->(∀ b∈fp,gP X pins H b)->tn i s.heap->J.stop i H ->
  wpAny (model P w) X.A (pyNext (.ref it)) (fun r s1=>r=none/\Inv X pins σ H s1) E s
 self:∀ (A:Around) (i:Nat) (s:Shared) (Q:Value->Shared->Prop) (E:Value->Shared->Prop),tn i s.heap->Q (.ref it) s->wpAny (model P w) A (pyIter (.ref it)) Q E s
abbrev TI:=St->Hp->(It->Hp->Prop)->Prop
def PIE (X:Cx) (pins:List (Addr × Obj)) (σ:St) (tg:Expr) (R:It->Hp->Prop) (itv:Value) (s2:Shared):Prop :=
 ∃ (it:Addr) (fp:List Addr) (tn:Nat->Heap->Prop) (J:It) (H':Hp),itv=.ref it/\Inv X pins σ H' s2/\Turn X.prog X.w X.K tg J fp it tn/\tn 0 s2.heap/\(∀ b∈fp,gP X pins H' b)/\R J H'
def PI (X:Cx) (tg iter:Expr) (wi:TI):Prop :=
 ∀ (pins:List (Addr × Obj)) (s:Shared) (σ:St) (H:Hp) (R:It->Hp->Prop),Inv X pins σ H s->wi σ H R ->
  wpAny (model X.prog X.w) X.A (eval iter X.env) (fun v s1=>wpAny (model X.prog X.w) X.A (pyIter v) (PIE X pins σ tg R) X.xe s1) X.xe s
theorem lV {M:Model} {A:Around} {E:Value->Shared->Prop} {s:Shared} {tg:Expr} {it:Addr} {u:Value} {o:Obj} {n:String} {vs:Array Value} {Q:Unit->Shared->Prop} (ho:s.heap.get? it=some o) (hc:o.cls=.type n) (hd:o.data=.fields vs)
  (hn:["enumerate", "zip", "dict_itemiterator", "dict_reverseitemiterator", "odict_iterator", "itertools.zip_longest", "itertools.pairwise"].contains n=false) (hQ:Q () s):wpAny M A (letOwnedTupleGo tg (.ref it) u) Q E s:=by
 unfold letOwnedTupleGo
 cases tg <;> first
  | exact wpAny_pure hQ
  | (cases u <;> first
    | exact wpAny_pure hQ
    | (refine wpAny_bind (wpAny_load ho ?_)
       rw [hc,hd]
       show wpAny M A (if (["enumerate", "zip", "dict_itemiterator", "dict_reverseitemiterator", "odict_iterator", "itertools.zip_longest", "itertools.pairwise"].contains n && vs[0]? == some (rawInt _))=true then _ else _) Q E s
       rw [if_neg (by intro h; rw [hn,Bool.false_and] at h; cases h)]
       exact wpAny_pure hQ))
def Itl (K:PySem.W.Frag) (a:Addr):It :=
 ⟨fun i H=>∃ xs x,SqL K H a xs/\xs[i]?=some x,fun i H x H'=>H'=H/\∀ xs,SqL K H a xs->xs[i]?=some x,fun i H=>∃ xs,SqL K H a xs/\xs.length<=i⟩
def Itt (K:PySem.W.Frag) (a:Addr):It :=
 ⟨fun i H=>∃ xs x,SqT K H a xs/\xs[i]?=some x,fun i H x H'=>H'=H/\∀ xs,SqT K H a xs->xs[i]?=some x,fun i H=>∃ xs,SqT K H a xs/\xs.length<=i⟩
def Itr (lo:Int) (n:Nat):It:=⟨fun i _=>i<n,fun i H x H'=>H'=H/\x=.int (lo+i),fun i _=>n<=i⟩
theorem qm {P:Program} {w:World} {K:PySem.W.Frag} {tg:Expr} (a it:Addr):Turn P w K tg (Itl K a) [it] it (fun i h=>h.IsListIter it a i) where
 mem:=by simp
 obj:=fun i h st b hb=>by
  have e:b=it:=by simpa using hb
  subst e
  obtain ⟨o,e,c,d⟩:=st
  exact ⟨o,e,fun v z=>by rw [d] at z; cases z⟩
 keep:=fun i h h' st k=>st.at fun o e=>k it (by simp) o e
 item:=by
  intro X hP hw hK hc i pins s σ H E I hf st hg
  subst hP hw hK
  obtain ⟨xs,x,hq,hx⟩:=hg
  obtain ⟨its,rv,p,hz⟩:=I.list hq
  obtain ⟨u,hu,ru⟩:=rv.get hx
  obtain ⟨f0,f1,f2,f3,f4,f5⟩:=hf it (by simp)
  refine wpAny_pyNext_list_item st p.isList (x:=u) (by simpa using hu) fun h' st' sb=>?_
  have I1:Inv X pins σ H { s with heap:=h' }:=I.turned (t':=s.toks) (fun b o hb e=>(sb.2 b hb).trans e) f0 f1 f3 f4 f5
  obtain ⟨o,e,c,d⟩:=id st'
  exact ⟨u,rfl,lV (s:={ s with heap:=h' }) e c d (by decide) ⟨x,H,I1,ru,⟨rfl,fun ys hy=>by rw [I.sE hy hq]; exact hx⟩,st',fun b hb=>(hf b hb).1⟩⟩
 done:=by
  intro X hP hw hK hc i pins s σ H E I hf st hg
  subst hP hw hK
  obtain ⟨xs,hq,hx⟩:=hg
  obtain ⟨its,rv,p,hz⟩:=I.list hq
  obtain ⟨f0,f1,f2,f3,f4,f5⟩:=hf it (by simp)
  have hl:=rv.length
  exact wpAny_pyNext_list_end (I.ok.hd hc) st p.isList (by simp; omega) fun h' eb=>⟨rfl,I.turned (t':=s.toks) (fun b o hb e=>eb b o hb e) f0 f1 f3 f4 f5⟩
 self:=fun _ _ _ _ _ st h=>wpAny_pyIter_listiter st h
theorem pS {P:Program} {w:World} {K:PySem.W.Frag} {tg:Expr} (a it:Addr):Turn P w K tg (Itt K a) [it] it (fun i h=>h.IsTupleIter it a i) where
 mem:=by simp
 obj:=fun i h st b hb=>by
  have e:b=it:=by simpa using hb
  subst e
  obtain ⟨o,e,c,d⟩:=st
  exact ⟨o,e,fun v z=>by rw [d] at z; cases z⟩
 keep:=fun i h h' st k=>st.at fun o e=>k it (by simp) o e
 item:=by
  intro X hP hw hK hc i pins s σ H E I hf st hg
  subst hP hw hK
  obtain ⟨xs,x,hq,hx⟩:=hg
  obtain ⟨its,rv,p,hz⟩:=I.tuple hq
  obtain ⟨u,hu,ru⟩:=rv.get hx
  obtain ⟨f0,f1,f2,f3,f4,f5⟩:=hf it (by simp)
  refine wpAny_pyNext_tuple_item st (show s.heap.IsTuple a its.toArray from p) (x:=u) (by simpa using hu) fun h' st' sb=>?_
  have I1:Inv X pins σ H { s with heap:=h' }:=I.turned (t':=s.toks) (fun b o hb e=>(sb.2 b hb).trans e) f0 f1 f3 f4 f5
  obtain ⟨o,e,c,d⟩:=id st'
  exact ⟨u,rfl,lV (s:={ s with heap:=h' }) e c d (by decide) ⟨x,H,I1,ru,⟨rfl,fun ys hy=>by rw [I.rR hy hq]; exact hx⟩,st',fun b hb=>(hf b hb).1⟩⟩
 done:=by
  intro X hP hw hK hc i pins s σ H E I hf st hg
  subst hP hw hK
  obtain ⟨xs,hq,hx⟩:=hg
  obtain ⟨its,rv,p,hz⟩:=I.tuple hq
  obtain ⟨f0,f1,f2,f3,f4,f5⟩:=hf it (by simp)
  have hl:=rv.length
  exact wpAny_pyNext_tuple_end (I.ok.hd hc) st (show s.heap.IsTuple a its.toArray from p) (by simp; omega) fun h' eb=>⟨rfl,I.turned (t':=s.toks) (fun b o hb e=>eb b o hb e) f0 f1 f3 f4 f5⟩
 self:=fun _ _ _ _ _ st h=>wpAny_pyIter_tupleiter st h
theorem pz {P:Program} {w:World} {K:PySem.W.Frag} {tg:Expr} (it:Addr) (lo:Int) (n:Nat):Turn P w K tg (Itr lo n) [it] it (fun i h=>IsRangeIter h it (lo+(i:Nat)*1) ((n:Int)-(i:Nat)) 1) where
 mem:=by simp
 obj:=fun i h st b hb=>by
  have e:b=it:=by simpa using hb
  subst e
  exact ⟨_,st,fun v z=>by
   have z':Data.fields _=Data.cell v:=z
   cases z'⟩
 keep:=fun i h h' st k=>k it (by simp) _ st
 item:=by
  intro X hP hw hK hc i pins s σ H E I hf st hg
  subst hP hw hK
  obtain ⟨f0,f1,f2,f3,f4,f5⟩:=hf it (by simp)
  have W:=Walks.range (prog:=X.prog) (w:=X.w) (I.ok.hd hc) it lo 1 n
  refine W.item i s _ _ hg st fun v h' tk hv st' kk=>?_
  obtain ⟨t,rfl⟩:=hv
  have I1:Inv X pins σ H { s with heap:=h',toks:=tk }:=I.turned (fun b o hb e=>kk b o (by simpa using hb) e) f0 f1 f3 f4 f5
  refine ⟨_,rfl,lV (s:={ s with heap:=h',toks:=tk }) (n := "range_iterator") st' rfl rfl (by decide) ⟨.int (lo+i),H,I1,⟨t,?_⟩,⟨rfl,rfl⟩,st',fun b hb=>(hf b hb).1⟩⟩
  rw [Int.mul_one]
 done:=by
  intro X hP hw hK hc i pins s σ H E I hf st hg
  subst hP hw hK
  obtain ⟨f0,f1,f2,f3,f4,f5⟩:=hf it (by simp)
  exact wpAny_pyNext_range_end (I.ok.hd hc) st (by have:n<=i:=hg; omega) fun h' eb=>⟨rfl,I.turned (t':=s.toks) (fun b o hb e=>eb b o hb e) f0 f1 f3 f4 f5⟩
 self:=fun _ _ _ _ _ st h=>wpAny_pyIter_rangeiter st h
end L2
namespace L2
open PySem PySem.Spec PyProof.Rows
section
variable {X:Cx} {tg:Expr}
theorem mq {pins:List (Addr × Obj)} {σ:St} {H:Hp} {s:Shared} {R:It->Hp->Prop} {E:Value->Shared->Prop} {lo hi:Int} {t u v:Tok} {tk:Nat} (I:Inv X pins σ H s) (h1:-(2 ^ 62)<=lo) (h2:lo<2 ^ 62) (h3:-(2 ^ 62)<=hi) (h4:hi<2 ^ 62)
  (q:R (Itr lo (hi-lo).toNat) H):wpAny (model X.prog X.w) X.A (pyIter (.ref s.heap.objs.size)) (PIE X pins σ tg R) E { s with heap:=s.heap.push { cls:=.type "range",data:=.fields #[.int lo t,.int hi u,.int 1 v] },toks:=tk }:=by
 refine wpAny_pyIter_range (IsRange.new ..) (small_one h1 h2 h3 h4) ?_
 have I1:Inv X pins σ H { s with heap:=s.heap.push { cls:=.type "range",data:=.fields #[.int lo t,.int hi u,.int 1 v] },toks:=tk }:=I.kept fun b o e=>Heap.get?_push_of_some _ e
 refine ⟨(s.heap.push { cls:=.type "range",data:=.fields #[.int lo t,.int hi u,.int 1 v] }).objs.size,[(s.heap.push { cls:=.type "range",data:=.fields #[.int lo t,.int hi u,.int 1 v] }).objs.size],_,_,H,rfl,
  I1.kept (t':=tk) fun b o e=>Heap.get?_push_of_some _ e,pz _ lo (hi-lo).toNat,?_,fun b hb=>?_,q⟩
 ·have e1:lo+((0:Nat):Int)*1=lo:=by simp
  have e2:(((hi-lo).toNat:Nat):Int)-((0:Nat):Int)=Builtin.Range.rangeSize lo hi 1:=by rw [rangeSize_one]; split <;> omega
  show IsRangeIter _ _ (lo+((0:Nat):Int)*1) ((((hi-lo).toNat:Nat):Int)-((0:Nat):Int)) 1
  rw [e1,e2]
  exact Heap.get?_push_size _ rfl
 ·have e:b=(s.heap.push { cls:=.type "range",data:=.fields #[.int lo t,.int hi u,.int 1 v] }).objs.size:=by simpa using hb
  subst e
  exact I1.kr (Nat.le_refl _) (I1.hok.fresh (Nat.le_refl _))
def A1 (ta:TA):TI:=fun σ H R=>ta σ H fun vs H1=>∃ j:Int,vs=[.int j]/\-(2 ^ 62)<=j/\j<2 ^ 62/\R (Itr 0 j.toNat) H1
def AG (ta:TA):TI:=fun σ H R=>ta σ H fun vs H1=>∃ i j:Int,vs=[.int i,.int j]/\(-(2 ^ 62)<=i/\i<2 ^ 62/\-(2 ^ 62)<=j/\j<2 ^ 62)/\R (Itr i (j-i).toNat) H1
theorem qk {a:Expr} {ta:TA} {p pos:Pos} (hg:Gl X "range") (hm:X.mg "range" = none) (ha:PA X [a] ta) (hs:starEach [a] X.env=[(false,eval a X.env)]:=by rfl):PI X tg (.Call (.Name "range" p) [a] [] pos) (A1 ta):=by
 intro pins s σ H R I h
 refine Call_ (eT I hg hm boot_range (PyProof.Rows.callWith_type1 (thn (ha pos pins s σ H _ I h) fun us s1 ⟨vs,H1,I1,r1,q1⟩=>?_) hs rfl))
 obtain ⟨j,e,q1,q2,q⟩:=q1
 subst e
 cases r1 with
 | cons r rr =>
  cases rr
  obtain ⟨t,rfl⟩:=r
  exact call_range_1 (mq I1 (by omega) (by omega) q1 q2 (by simpa using q))
theorem qh {a b:Expr} {ta:TA} {p pos:Pos} (hg:Gl X "range") (hm:X.mg "range" = none) (ha:PA X [a,b] ta) (hs:starEach [a,b] X.env=[(false,eval a X.env),(false,eval b X.env)]:=by rfl) (hs2:starEach [b] X.env=[(false,eval b X.env)]:=by rfl) :
  PI X tg (.Call (.Name "range" p) [a,b] [] pos) (AG ta):=by
 intro pins s σ H R I h
 refine Call_ (eT I hg hm boot_range (PyProof.Rows.callWith_type1 (thn (ha pos pins s σ H _ I h) fun us s1 ⟨vs,H1,I1,r1,q1⟩=>?_) (by rw [hs,hs2]) (by rw [hs2]; rfl)))
 obtain ⟨i,j,e,⟨q1,q2,q3,q4⟩,q⟩:=q1
 subst e
 cases r1 with
 | cons r rr =>
  cases rr with
  | cons r' rr =>
   cases rr
   obtain ⟨t,rfl⟩:=r
   obtain ⟨t',rfl⟩:=r'
   exact call_range_2 (mq I1 q1 q2 q3 q4 q)
def BZ (wi:TI) (g:TG) (tb:TS):TS:=fun D σ H=>wi σ H fun J H1=>∃ W:Nat->Nat->St->Hp->Prop,(∃ m,W 0 m σ H1)/\∀ i m σ H,W i m σ H ->
 (J.stop i H/\D.nx σ H)\/(J.go i H/\∃ N:St->Hp->Prop,(∀ σ' H',N σ' H'->∃ m',m'<m/\W (i+1) m' σ' H')/\∀ x H',J.yld i H x H'->g x σ H' fun σ2 H2=>tb { D with nx:=N,ct:=N,bk:=D.nx } σ2 H2)
def ic (fp:List Addr) (h:Heap):List (Addr × Obj):=fp.filterMap fun b=>(h.get? b).map fun o=>(b,o)
theorem eE {fp:List Addr} {h:Heap} {b:Addr} {o:Obj} (hb:b∈fp) (e:h.get? b=some o):(b,o)∈ic fp h:=List.mem_filterMap.mpr ⟨b,hb,by rw [e]; rfl⟩
theorem rN {fp:List Addr} {h:Heap} {p:Addr × Obj} (hp:p∈ic fp h):p.1∈fp/\h.get? p.1=some p.2:=by
 obtain ⟨b,hb,e⟩:=List.mem_filterMap.mp hp
 cases q:h.get? b with
 | none=>rw [q] at e; cases e
 | some o =>
  rw [q] at e
  have e':(b,o)=p:=Option.some.inj e
  subst e'
  exact ⟨hb,q⟩
theorem Inv.pinned {pins:List (Addr × Obj)} {σ:St} {H:Hp} {s:Shared} {fp:List Addr} (I:Inv X pins σ H s) (hf:∀ b∈fp,gP X pins H b) (ho:∀ b∈fp,∃ o,s.heap.get? b=some o/\∀ v,o.data≠.cell v):Inv X (pins ++ ic fp s.heap) σ H s :=
 I.ox fun p hp=>(List.mem_append.mp hp).elim (fun z=>I.pin p (List.mem_append_right _ z)) fun z=>by
  obtain ⟨hb,e⟩:=rN z
  obtain ⟨f0,f1,f2,_⟩:=hf p.1 hb
  obtain ⟨o,e',d⟩:=ho p.1 hb
  rw [e] at e'; cases e'
  exact ⟨e,f0,f1,f2,d⟩
theorem Inv.gN {pins pl:List (Addr × Obj)} {σ:St} {H:Hp} {s:Shared} (I:Inv X (pins ++ pl) σ H s):Inv X pins σ H s:=I.ox fun p hp=>I.pin p (List.mem_append_right _ (List.mem_append_left _ hp))
theorem zA {iter:Expr} {body:List Stmt} {wi:TI} {g:TG} {tb:TS} {pos:Pos} (hp:PassesOwn (model X.prog X.w) X.A X.env X.xe) (hc:X.calm=true) (hi:PI X tg iter wi) (hg:PG X tg g) (hb:PSs X body tb)
  (hs:∀ x,foldedSetIterable iter X.env x=pure x:=by intro _; rfl):PS X (.For tg iter body [] pos) (BZ wi g tb):=by
 intro pins s σ H D I h
 refine wpAny_For (thn (hi pins s σ H _ I h) fun v s1 h1=>thn h1 fun itv s2 h2=>?_) hs
 obtain ⟨it,fp,tn,J,H2,e,I2,T,st2,f2,W,⟨m0,w0⟩,turn⟩:=h2
 subst e
 have stat:∀ {H':Hp},(∀ b∈fp,H' b=none)->∀ b∈fp,gP X pins H' b:=fun hn b hb=>⟨hn b hb,(f2 b hb).2⟩
 refine codeAny_forLoop_any (fun n s'=>∃ i σ' H',Inv X pins σ' H' s'/\tn i s'.heap/\(∀ b∈fp,H' b=none)/\W i n σ' H') ?_ m0 ⟨0,σ,H2,I2,st2,fun b hb=>(f2 b hb).1,w0⟩
 rintro n s3 ⟨i,σ3,H3,I3,st3,fr3,w3⟩
 rcases turn i n σ3 H3 w3 with ⟨stop,qn⟩ | ⟨go,N,hN,step⟩
 ·refine wpAny_passesOwn hp (thn (T.done X rfl rfl rfl hc i pins s3 σ3 H3 X.xe I3 (stat fr3) st3 stop) fun r s4 ⟨hr,I4⟩=>?_)
  subst hr
  exact wpAny_execs_nil ⟨σ3,H3,I4,qn⟩
 ·refine wpAny_passesOwn hp (thn (T.item X rfl rfl rfl hc i pins s3 σ3 H3 X.xe I3 (stat fr3) st3 go) fun r s4 ⟨u,hr,h4⟩=>?_)
  subst hr
  refine wpAny_passesOwn hp (thn h4 fun _ s5 ⟨x,H5,I5,r5,y5,st5,fr5⟩=>?_)
  have I5':=I5.pinned (stat fr5) (T.obj _ _ st5)
  refine wpAny_passesOwn hp (thn (hg _ s5 σ3 H5 x u _ I5' r5 (step x H5 y5)) fun _ s6 ⟨σ6,H6,I6,q6⟩=>?_)
  refine wpAny_passesOwn hp (thn (hb _ s6 σ6 H6 _ I6 q6) fun f s7 q7=>?_)
  have again:∀ {σ7:St} {H7:Hp},Inv X (pins ++ ic fp s5.heap) σ7 H7 s7->N σ7 H7->∃ m,m<n/\∃ i σ' H',Inv X pins σ' H' s7/\tn i s7.heap/\(∀ b∈fp,H' b=none)/\W i m σ' H':=fun {σ7 H7} I7 n7=>by
   obtain ⟨m',hm,w7⟩:=hN σ7 H7 n7
   refine ⟨m',hm,i+1,σ7,H7,I7.gN,T.keep _ _ _ st5 fun b hb o e=>(I7.pin (b,o) (List.mem_append_right _ (List.mem_append_right _ (eE hb e)))).1,fun b hb=>?_,w7⟩
   obtain ⟨o,e,d⟩:=T.obj _ _ st5 b hb
   exact (I7.pin (b,o) (List.mem_append_right _ (List.mem_append_right _ (eE hb e)))).2.1
  cases f with
  | next=>obtain ⟨σ7,H7,I7,n7⟩:=q7; exact again I7 n7
  | cont=>obtain ⟨σ7,H7,I7,n7⟩:=q7; exact again I7 n7
  | brk=>obtain ⟨σ7,H7,I7,q7⟩:=q7; exact ⟨σ7,H7,I7.gN,q7⟩
  | ret v=>obtain ⟨x7,σ7,H7,I7,r7,q7⟩:=q7; exact ⟨x7,σ7,H7,I7.gN,r7,q7⟩
end
end L2
namespace L2
open PySem PySem.Spec PyProof.Rows
abbrev R2:=V->V->Hp->VK->Prop
def OpR (X:Cx) (f:Value->Value->Sem Value) (r:R2):Prop :=
 ∀ (pins:List (Addr × Obj)) (s:Shared) (σ:St) (H:Hp) (x y:V) (v u:Value) (Q:VK),Inv X pins σ H s->RelV x v->RelV y u->r x y H Q ->
  wpAny (model X.prog X.w) X.A (f v u) (EP X pins σ Q) X.xe s
def UnR (X:Cx) (f:Value->Sem Value) (r:V->Hp->VK->Prop):Prop :=
 ∀ (pins:List (Addr × Obj)) (s:Shared) (σ:St) (H:Hp) (x:V) (v:Value) (Q:VK),Inv X pins σ H s->RelV x v->r x H Q ->
  wpAny (model X.prog X.w) X.A (f v) (EP X pins σ Q) X.xe s
def aZ (X:Cx) (f:Value) (r:List V->Hp->VK->Prop):Prop :=
 ∀ (pins:List (Addr × Obj)) (s:Shared) (σ:St) (H:Hp) (xs:List V) (us:List Value) (Q:VK),Inv X pins σ H s->Vals xs us->r xs H Q ->
  wpAny (model X.prog X.w) X.A (call f us) (EP X pins σ Q) X.xe s
def BB (X:Cx) (r:V->Hp->(Bool->Hp->Prop)->Prop):Prop :=
 ∀ (pins:List (Addr × Obj)) (s:Shared) (σ:St) (H:Hp) (x:V) (v:Value) (Q:Bool->Hp->Prop),Inv X pins σ H s->RelV x v->r x H Q ->
  wpAny (model X.prog X.w) X.A (truthy v) (TP X pins σ Q) X.xe s
def tOp (r:R2) (ta tb:TE):TE:=fun σ H Q=>ta σ H fun x H1=>tb σ H1 fun y H2=>r x y H2 Q
def tUn (r:V->Hp->VK->Prop) (ta:TE):TE:=fun σ H Q=>ta σ H fun x H1=>r x H1 Q
def rI (C:Int->Int->Prop) (g:Int->Int->V):R2:=fun x y H Q=>∃ i j,x=.int i/\y=.int j/\C i j/\Q (g i j) H
def rI0 (g:Int->Int->V):R2:=fun x y H Q=>∃ i j,x=.int i/\y=.int j/\Q (g i j) H
def rU (g:Int->V):V->Hp->VK->Prop:=fun x H Q=>∃ i,x=.int i/\Q (g i) H
section
variable {X:Cx} {a b c:Expr} {ta tb tc:TE} {pos:Pos}
theorem ug (ha:PE X a ta) (hb:PE X b tb) {pins:List (Addr × Obj)} {s:Shared} {σ:St} {H:Hp} {R:V->V->Hp->Prop} (I:Inv X pins σ H s)
  (h:ta σ H fun x H1=>tb σ H1 fun y H2=>R x y H2) {Q:Value->Shared->Prop} {f:Value->Value->Sem Value}
  (hf:∀ v u s2 x y H2,Inv X pins σ H2 s2->RelV x v->RelV y u->R x y H2->wpAny (model X.prog X.w) X.A (f v u) Q X.xe s2) :
  wpAny (model X.prog X.w) X.A (eval a X.env) (fun v s₁=>wpAny (model X.prog X.w) X.A (eval b X.env) (fun u s₂=>wpAny (model X.prog X.w) X.A (f v u) Q X.xe s₂) X.xe s₁) X.xe s:=by
 refine thn (ha pins s σ H _ I h) fun v s1 ⟨x,H1,I1,r1,q1⟩=>?_
 refine thn (hb pins s1 σ H1 _ I1 q1) fun u s2 ⟨y,H2,I2,r2,q2⟩=>?_
 exact hf v u s2 x y H2 I2 r1 r2 q2
theorem A5 {op:Operator} {r:R2} (ho:OpR X (binaryOp op) r) (ha:PE X a ta) (hb:PE X b tb):PE X (.BinOp a op b pos) (tOp r ta tb):=by
 intro pins s σ H Q I h
 exact wpAny_BinOp (ug ha hb I h fun v u s2 x y H2 I2 rx ry q=>ho pins s2 σ H2 x y v u Q I2 rx ry q)
theorem vz {op:UnaryOp} {r:V->Hp->VK->Prop} (ho:UnR X (unaryOp op) r) (ha:PE X a ta):PE X (.UnaryOp op a pos) (tUn r ta):=by
 intro pins s σ H Q I h
 exact UnaryOp_ (thn (ha pins s σ H _ I h) fun v s1 ⟨x,H1,I1,r1,q1⟩=>ho pins s1 σ H1 x v Q I1 r1 q1)
theorem opI {f:Value->Value->Sem Value} {C:Int->Int->Prop} {g:Int->Int->Int}
  (rule:∀ (i j:Int) (t u:Tok) (s:Shared) (Q:Value->Shared->Prop) (E:Value->Shared->Prop),C i j->Q (.int (g i j) s.toks) { s with toks:=s.toks+1 }->wpAny (model X.prog X.w) X.A (f (.int i t) (.int j u)) Q E s) :
  OpR X f (rI C fun i j=>.int (g i j)):=by
 intro pins s σ H x y v u Q I rx ry h
 obtain ⟨i,j,rfl,rfl,hc,q⟩:=h
 obtain ⟨t,rfl⟩:=rx
 obtain ⟨t',rfl⟩:=ry
 exact rule i j t t' s _ _ hc ⟨.int (g i j),H,I.tok _,⟨_,rfl⟩,q⟩
theorem xP {f:Value->Value->Sem Value} {g:Int->Int->Int}
  (rule:∀ (i j:Int) (t u:Tok) (s:Shared) (Q:Value->Shared->Prop) (E:Value->Shared->Prop),Q (.int (g i j) s.toks) { s with toks:=s.toks+1 }->wpAny (model X.prog X.w) X.A (f (.int i t) (.int j u)) Q E s) :
  OpR X f (rI0 fun i j=>.int (g i j)):=by
 intro pins s σ H x y v u Q I rx ry h
 obtain ⟨i,j,rfl,rfl,q⟩:=h
 obtain ⟨t,rfl⟩:=rx
 obtain ⟨t',rfl⟩:=ry
 exact rule i j t t' s _ _ ⟨.int (g i j),H,I.tok _,⟨_,rfl⟩,q⟩
def zu (i j:Int):Prop:=0<=j/\j<=1000000/\i.natAbs<2 ^ 64
def p9 (i j:Int):Prop:=(-(2 ^ 64)<i/\i<2 ^ 64)\/(-(2 ^ 64)<j/\j<2 ^ 64)
theorem p9.ok {i j:Int} (h:p9 i j):IntMulOk i j:=by
 rcases h with ⟨h1,h2⟩ | ⟨h1,h2⟩
 ·exact .of_left (intBits_le_64 h1 h2)
 ·exact .of_right (intBits_le_64 h1 h2)
theorem xx:OpR X (binaryOp .Add) (rI0 fun i j=>.int (i+j)):=xP fun _ _ _ _ _ _ _ q=>add_int q
theorem yO:OpR X (binaryOp .Sub) (rI0 fun i j=>.int (i-j)):=xP fun _ _ _ _ _ _ _ q=>sub_int q
theorem xR:OpR X (binaryOp .Mult) (rI p9 fun i j=>.int (i*j)):=opI fun _ _ _ _ _ _ _ hc q=>mul_int q hc.ok
theorem Ak:OpR X (binaryOp .Mod) (rI (fun _ j=>0<j) fun i j=>.int (i % j)):=opI fun i j _ _ _ _ _ hc q=>by
 have h1:(0:Int)<j:=hc
 exact mod_int' (by omega) (by rw [Int.fmod_eq_emod_of_nonneg i (by omega)]; exact q)
theorem yr:OpR X (binaryOp .Pow) (rI zu fun i j=>.int (i ^ j.toNat)):=opI fun _ _ _ _ _ _ _ hc q=>pow_int_small hc.1 hc.2.1 hc.2.2 q
theorem unI {f:Value->Sem Value} {g:Int->Int}
  (rule:∀ (i:Int) (t:Tok) (s:Shared) (Q:Value->Shared->Prop) (E:Value->Shared->Prop),Q (.int (g i) s.toks) { s with toks:=s.toks+1 }->wpAny (model X.prog X.w) X.A (f (.int i t)) Q E s) :
  UnR X f (rU fun i=>.int (g i)):=by
 intro pins s σ H x v Q I rx h
 obtain ⟨i,rfl,q⟩:=h
 obtain ⟨t,rfl⟩:=rx
 exact rule i t s _ _ ⟨.int (g i),H,I.tok _,⟨_,rfl⟩,q⟩
theorem qN:UnR X (unaryOp .USub) (rU fun i=>.int (-i)):=unI fun _ _ _ _ _ q=>neg_int q
end
def BO:V->V->Bool
 | .non,.non=>true | .non,.int _=>true | .int _,.non=>true | .non,.bl _=>true | .bl _,.non=>true | .non,.str _=>true | .str _,.non=>true
 | .int _,.int _=>true | .bl _,.bl _=>true | .str _,.str _=>true | .byt _,.byt _=>true
 | .int _,.str _=>true | .str _,.int _=>true | .bl _,.str _=>true | .str _,.bl _=>true
 | _,_=>false
def rNe:R2:=fun x y H Q=>BO x y=true/\Q (.bl (!decide (x=y))) H
theorem vB {i j:Int}:decide (V.int i=V.int j)=(i == j):=by
 rw [Bool.eq_iff_iff]
 simp
theorem zQ {i j:Bool}:decide (V.bl i=V.bl j)=(i == j):=by
 rw [Bool.eq_iff_iff]
 simp
theorem wU {i j:Str}:decide (V.str i=V.str j)=(i == j):=by
 rw [Bool.eq_iff_iff]
 simp
theorem wB {i j:Array UInt8}:decide (V.byt i=V.byt j)=(i.toList == j.toList):=by
 rw [Bool.eq_iff_iff]
 cases i
 cases j
 simp
section
variable {X:Cx} {a b c:Expr} {ta tb tc:TE} {pos:Pos}
theorem bu {pins:List (Addr × Obj)} {σ:St} {H:Hp} {s:Shared} {Q:VK} {k k':Bool} (I:Inv X pins σ H s) (q:Q (.bl k) H) (e:k=k'):EP X pins σ Q (.bool k') s:=by
 subst e
 exact ⟨.bl k,H,I,rfl,q⟩
theorem Bd:OpR X (compareOp .NotEq) rNe:=by
 intro pins s σ H x y v u Q I rx ry h
 obtain ⟨hs,q⟩:=h
 cases x with
 | non =>
  cases rx
  cases y with
  | non=>cases ry; exact PySem.EqNone.ne_none_none (bu I q (by simp))
  | bl j=>cases ry; exact PySem.EqNone.ne_none_bool (bu I q (by simp))
  | int j=>obtain ⟨t',rfl⟩:=ry; exact PySem.EqNone.ne_none_int (bu I q (by simp))
  | str j=>obtain ⟨t',rfl⟩:=ry; exact PySem.EqNone.ne_none_str (bu I q (by simp))
  | _=>exact absurd (show false=true from hs) Bool.false_ne_true
 | bl i =>
  cases rx
  cases y with
  | non=>cases ry; exact PySem.EqNone.ne_bool_none (bu I q (by simp))
  | bl j=>cases ry; exact ne_bool (bu I q (congrArg not zQ))
  | str j=>obtain ⟨t',rfl⟩:=ry; exact PySem.EqMixed.ne_bool_str (bu I q (by simp))
  | _=>exact absurd (show false=true from hs) Bool.false_ne_true
 | int i =>
  obtain ⟨t,rfl⟩:=rx
  cases y with
  | non=>cases ry; exact PySem.EqNone.ne_int_none (bu I q (by simp))
  | int j=>obtain ⟨t',rfl⟩:=ry; exact ne_int (bu I q (congrArg not vB))
  | str j=>obtain ⟨t',rfl⟩:=ry; exact PySem.EqMixed.ne_int_str (bu I q (by simp))
  | _=>exact absurd (show false=true from hs) Bool.false_ne_true
 | str i =>
  obtain ⟨t,rfl⟩:=rx
  cases y with
  | non=>cases ry; exact PySem.EqNone.ne_str_none (bu I q (by simp))
  | bl j=>cases ry; exact PySem.EqMixed.ne_str_bool (bu I q (by simp))
  | int j=>obtain ⟨t',rfl⟩:=ry; exact PySem.EqMixed.ne_str_int (bu I q (by simp))
  | str j=>obtain ⟨t',rfl⟩:=ry; exact ne_str (bu I q (congrArg not wU))
  | _=>exact absurd (show false=true from hs) Bool.false_ne_true
 | byt i =>
  obtain ⟨t,rfl⟩:=rx
  cases y with
  | byt j=>obtain ⟨t',rfl⟩:=ry; exact PySem.W.ne_bytes (bu I q (congrArg not wB))
  | _=>exact absurd (show false=true from hs) Bool.false_ne_true
 | _=>cases y <;> exact absurd (show false=true from hs) Bool.false_ne_true
theorem Al:OpR X (compareOp .Is) (fun x y H Q=>y=.non/\Q (.bl (decide (x=.non))) H):=by
 intro pins s σ H x y v u Q I rx ry h
 obtain ⟨rfl,q⟩:=h
 cases ry
 refine is_none_gen (bu I q ?_)
 cases x <;> first
  | (cases rx; rfl)
  | (obtain ⟨t,rfl⟩:=rx; rfl)
theorem wO:OpR X (compareOp .IsNot) (fun x y H Q=>y=.non/\Q (.bl (!decide (x=.non))) H):=by
 intro pins s σ H x y v u Q I rx ry h
 obtain ⟨rfl,q⟩:=h
 cases ry
 refine isnot_none_gen (bu I q ?_)
 cases x <;> first
  | (cases rx; rfl)
  | (obtain ⟨t,rfl⟩:=rx; rfl)
theorem OpR.or {f:Value->Value->Sem Value} {r r':R2} (h:OpR X f r) (h':OpR X f r'):OpR X f (fun x y H Q=>r x y H Q\/r' x y H Q):=by
 intro pins s σ H x y v u Q I rx ry q
 rcases q with q | q
 ·exact h pins s σ H x y v u Q I rx ry q
 ·exact h' pins s σ H x y v u Q I rx ry q
theorem nY (b:Expr) {op:CmpOp} (h:op≠.In:=by decide) (h2:op≠.NotIn:=by decide):behindInMarks op b=false:=by
 have e1:(op == CmpOp.In)=false:=by cases op <;> first | rfl | exact absurd rfl h
 have e2:(op == CmpOp.NotIn)=false:=by cases op <;> first | rfl | exact absurd rfl h2
 cases b <;> simp [behindInMarks,e1,e2]
theorem oV {op:CmpOp} {r:R2} (ho:OpR X (compareOp op) r) (ha:PE X a ta) (hb:PE X b tb) (hm:behindInMarks op b=false):PE X (.Compare a [op] [b] pos) (tOp r ta tb):=by
 intro pins s σ H Q I h
 exact wpAny_Compare1 (ug ha hb I h fun v u s2 x y H2 I2 rx ry q=>ho pins s2 σ H2 x y v u Q I2 rx ry q) hm
def vc (t:TE):TT:=fun σ H Q=>t σ H fun x H'=>∃ k,x=.bl k/\Q k H'
theorem ko {op:CmpOp} {r:R2} (ho:OpR X (compareOp op) r) (ha:PE X a ta) (hb:PE X b tb) (hm:behindInMarks op b=false):PT X (.Compare a [op] [b] pos) (vc (tOp r ta tb)):=by
 intro pins s σ H Q I h
 refine wpAny_isTrue_Compare1 (thn (ha pins s σ H _ I h) fun v s1 ⟨x,H1,I1,r1,q1⟩=>thn (hb pins s1 σ H1 _ I1 q1) fun u s2 ⟨y,H2,I2,r2,q2⟩ =>
  thn (ho pins s2 σ H2 x y v u _ I2 r1 r2 q2) fun c s3 ⟨z,H3,I3,r3,k,e,q3⟩=>?_) hm
 subst e
 cases r3
 exact wpAny_truthy_bool ⟨H3,I3,q3⟩
def mU (r r':R2) (ta tb tc:TE):TE:=fun σ H Q=>ta σ H fun x H1=>tb σ H1 fun y H2=>r x y H2 fun z H3=>∃ k,z=.bl k /\
 (if k=true then tc σ H3 fun w' H4=>r' y w' H4 Q else Q (.bl false) H3)
theorem tD {op op':CmpOp} {r r':R2} (ho:OpR X (compareOp op) r) (ho':OpR X (compareOp op') r') (ha:PE X a ta) (hb:PE X b tb) (hc:PE X c tc)
  (hm:lastMarks [op,op'] [b,c]=false:=by with_unfolding_all rfl):PE X (.Compare a [op,op'] [b,c] pos) (mU r r' ta tb tc):=by
 intro pins s σ H Q I h
 refine Compare_chain (thn (ha pins s σ H _ I h) fun v s1 ⟨x,H1,I1,r1,q1⟩=>chain_link (thn (hb pins s1 σ H1 _ I1 q1) fun u s2 ⟨y,H2,I2,r2,q2⟩ =>
  thn (ho pins s2 σ H2 x y v u _ I2 r1 r2 q2) fun d s3 ⟨z,H3,I3,r3,k,e,q3⟩=>?_)) hm
 subst e
 cases r3
 refine wpAny_truthy_bool ?_
 cases k with
 | false=>exact ite_ff ⟨.bl false,H3,I3,rfl,q3⟩
 | true=>exact ite_tt (chain_last (thn (hc pins s3 σ H3 _ I3 q3) fun w' s4 ⟨z',H4,I4,r4,q4⟩=>ho' pins s4 σ H4 y z' u w' Q I4 r2 r4 q4))
theorem t6 {op op':CmpOp} {r r':R2} (ho:OpR X (compareOp op) r) (ho':OpR X (compareOp op') r') (ha:PE X a ta) (hb:PE X b tb) (hc:PE X c tc)
  (hm:lastMarks [op,op'] [b,c]=false:=by with_unfolding_all rfl):PT X (.Compare a [op,op'] [b,c] pos) (vc (mU r r' ta tb tc)):=by
 intro pins s σ H Q I h
 refine isTrue_chain (thn (ha pins s σ H _ I h) fun v s1 ⟨x,H1,I1,r1,q1⟩=>test_link (thn (hb pins s1 σ H1 _ I1 q1) fun u s2 ⟨y,H2,I2,r2,q2⟩ =>
  thn (ho pins s2 σ H2 x y v u _ I2 r1 r2 q2) fun d s3 ⟨z,H3,I3,r3,k,e,q3⟩=>?_)) hm
 subst e
 cases r3
 refine wpAny_truthy_bool ?_
 cases k with
 | false =>
  obtain ⟨k',e',q'⟩:=q3
  cases e'
  exact ite_ff ⟨H3,I3,q'⟩
 | true =>
  refine ite_tt (test_last (thn (hc pins s3 σ H3 _ I3 q3) fun w' s4 ⟨z',H4,I4,r4,q4⟩=>thn (ho' pins s4 σ H4 y z' u w' _ I4 r2 r4 q4) fun d' s5 ⟨z2,H5,I5,r5,k2,e2,q5⟩=>?_))
  subst e2
  cases r5
  exact wpAny_truthy_bool ⟨H5,I5,q5⟩
def pG (K:PySem.W.Frag) (x:V) (H:Hp) (k:Bool):Prop :=
 match x with
 | .non=>k=false
 | .bl b=>k=b
 | .int i=>k=(i != 0)
 | .str y=>y.length<=sizeLine/\k=((y.length:Int) != 0)
 | .byt y=>y.size<=sizeLine/\k=((y.size:Int) != 0)
 | .ref p=>(∃ xs,SqL K H p xs/\k=!xs.isEmpty)\/(∃ xs,SqT K H p xs/\k=!xs.isEmpty)\/∃ kvs,H p=some (.dK kvs)/\k=!kvs.isEmpty
 | _=>False
theorem pW {κ:Type} {kvs:List (κ × V)} {vs:List (κ × Value)} (r:KV kvs vs):(!vs.isEmpty)=!kvs.isEmpty:=by
 cases r <;> rfl
theorem ke {xs:List V} {its:List Value} (r:Vals xs its):(!its.toArray.isEmpty)=!xs.isEmpty:=by
 cases r <;> simp
theorem fM:(sizeLine:Nat)<2 ^ 63:=by rw [sizeLine_eq]; decide
theorem rT:BB X (fun x H Q=>∃ k,pG X.K x H k/\Q k H):=by
 intro pins s σ H x v Q I rx h
 obtain ⟨k,e,q⟩:=h
 have hl:=fM
 have hs:sizeLine=16777216:=sizeLine_eq
 cases x with
 | non =>
  cases rx
  have e':k=false:=e
  subst e'
  exact truthy_none ⟨H,I,q⟩
 | bl b =>
  cases rx
  have e':k=b:=e
  subst e'
  exact wpAny_truthy_bool ⟨H,I,q⟩
 | int i =>
  obtain ⟨t,rfl⟩:=rx
  have e':k=(i != 0):=e
  subst e'
  exact PySem.P.truthy_int ⟨H,I,q⟩
 | str y =>
  obtain ⟨t,rfl⟩:=rx
  obtain ⟨hy,e'⟩:y.length<=sizeLine/\k=((y.length:Int) != 0):=e
  subst e'
  exact PySem.P.truthy_str (by omega) ⟨H,I.tok _,q⟩
 | byt y =>
  obtain ⟨t,rfl⟩:=rx
  obtain ⟨hy,e'⟩:y.size<=sizeLine/\k=((y.size:Int) != 0):=e
  subst e'
  exact PySem.W.truthy_bytes (by omega) ⟨H,I.tok _,q⟩
 | ref p =>
  cases rx
  have e':(∃ xs,SqL X.K H p xs/\k=!xs.isEmpty)\/(∃ xs,SqT X.K H p xs/\k=!xs.isEmpty)\/∃ kvs,H p=some (.dK kvs)/\k=!kvs.isEmpty:=e
  rcases e' with ⟨xs,hx,e'⟩ | ⟨xs,hx,e'⟩ | ⟨kvs,hx,e'⟩
  ·subst e'
   obtain ⟨its,r,pl,hz⟩:=I.list hx
   have hlen:=r.length
   exact wpAny_truthy_list pl.isList (by simp only [List.size_toArray]; omega) ⟨H,I.tok _,by rw [ke r]; exact q⟩
  ·subst e'
   obtain ⟨its,r,pl,hz⟩:=I.tuple hx
   have hlen:=r.length
   exact truthy_tuple pl (by simp only [List.size_toArray]; omega) ⟨H,I.tok _,by rw [ke r]; exact q⟩
  ·subst e'
   obtain ⟨hz,hS,vs,r,m⟩:kvs.length<=sizeLine/\(p == sysModules)=false/\∃ vs,KV kvs vs/\s.heap.DictOf (bw X.prog X.w) p vs:=I.hok p _ hx
   have hlen:kvs.length=vs.length:=Paired.length r
   exact wpAny_truthy_dict hS m (by omega) ⟨H,I.tok _,by rw [pW r]; exact q⟩
 | _=>exact (show False from e).elim
theorem uX (ha:PE X a ta) (he:∀ whole,isTrue a X.env whole=(do let v <- whole; standAt a.pos; holding [v] (truthy v))) :
  PT X a (fun σ H Q=>ta σ H fun x H'=>∃ k,pG X.K x H' k/\Q k H'):=by
 intro pins s σ H Q I h
 exact isTrue_plain (thn (ha pins s σ H _ I h) fun v s1 ⟨x,H1,I1,r1,q1⟩=>rT pins s1 σ H1 x v Q I1 r1 q1) (he _)
theorem pX:OpR X (binaryOp .Add) (fun x y H Q=>∃ i j,x=.str i/\y=.str j/\i.length+j.length<=sizeLine/\Q (.str (i ++ j)) H):=by
 intro pins s σ H x y v u Q I rx ry h
 obtain ⟨i,j,rfl,rfl,hz,q⟩:=h
 obtain ⟨t,rfl⟩:=rx
 obtain ⟨t',rfl⟩:=ry
 exact add_str (fun t' tk=>⟨.str (i ++ j),H,I.tok _,⟨_,rfl⟩,q⟩) hz
theorem vals1 {x:V} {us:List Value} (r:Vals [x] us):∃ u,us=[u]/\RelV x u:=by
 cases r with
 | cons r1 r2=>cases r2; exact ⟨_,rfl,r1⟩
theorem vals2 {x y:V} {us:List Value} (r:Vals [x,y] us):∃ u w',us=[u,w']/\RelV x u/\RelV y w':=by
 cases r with
 | cons r1 r2 =>
  cases r2 with
  | cons r3 r4=>cases r4; exact ⟨_,_,rfl,r1,r3⟩
theorem su (hc:X.calm=true):aZ X (.builtin "max") (fun xs H Q=>∃ i j,xs=[.int i,.int j]/\Q (.int (if j > i then j else i)) H):=by
 intro pins s σ H xs us Q I r h
 obtain ⟨i,j,rfl,q⟩:=h
 obtain ⟨u,w',rfl,⟨t,rfl⟩,⟨t',rfl⟩⟩:=vals2 r
 refine max_two_ints (I.ok.hd hc) fun h' tk k=>⟨_,H,I.kept k,?_,q⟩
 by_cases hj:j > i
 ·rw [if_pos hj,if_pos hj]; exact ⟨_,rfl⟩
 ·rw [if_neg hj,if_neg hj]; exact ⟨_,rfl⟩
theorem sf:aZ X (.type "int") (fun xs H Q=>(∃ i,xs=[.int i]/\Q (.int i) H)\/∃ k,xs=[.bl k]/\Q (.int (if k then 1 else 0)) H):=by
 intro pins s σ H xs us Q I r h
 rcases h with ⟨i,rfl,q⟩ | ⟨k,rfl,q⟩
 ·obtain ⟨u,rfl,t,rfl⟩:=vals1 r
  exact call_int_int ⟨.int i,H,I,⟨_,rfl⟩,q⟩
 ·obtain ⟨u,rfl,r1⟩:=vals1 r
  cases r1
  exact call_int_bool ⟨.int (if k then 1 else 0),H,I.tok _,⟨_,rfl⟩,q⟩
def zL (K:PySem.W.Frag) (x:V) (H:Hp) (n:Nat):Prop :=
 match x with
 | .str y=>y.length<=sizeLine/\n=y.length
 | .byt y=>y.size<=sizeLine/\n=y.size
 | .ref p=>(∃ xs,SqL K H p xs/\n=xs.length)\/∃ xs,SqT K H p xs/\n=xs.length
 | _=>False
theorem t9:aZ X (.builtin "len") (fun xs H Q=>∃ x n,xs=[x]/\zL X.K x H n/\Q (.int n) H):=by
 intro pins s σ H xs us Q I r h
 obtain ⟨x,n,rfl,e,q⟩:=h
 obtain ⟨u,rfl,rx⟩:=vals1 r
 have hl:=fM
 have hs:sizeLine=16777216:=sizeLine_eq
 cases x with
 | str y =>
  obtain ⟨t,rfl⟩:=rx
  obtain ⟨hy,e'⟩:y.length<=sizeLine/\n=y.length:=e
  subst e'
  exact len_str (by omega) ⟨.int _,H,I.tok _,⟨_,rfl⟩,q⟩
 | byt y =>
  obtain ⟨t,rfl⟩:=rx
  obtain ⟨hy,e'⟩:y.size<=sizeLine/\n=y.size:=e
  subst e'
  exact PySem.W.len_bytes (by omega) ⟨.int _,H,I.tok _,⟨_,rfl⟩,q⟩
 | ref p =>
  cases rx
  have e':(∃ xs,SqL X.K H p xs/\n=xs.length)\/∃ xs,SqT X.K H p xs/\n=xs.length:=e
  rcases e' with ⟨xs,hx,e'⟩ | ⟨xs,hx,e'⟩
  ·subst e'
   obtain ⟨its,r',pl,hz⟩:=I.list hx
   have hlen:=r'.length
   exact Calls.call_len_list pl.isList (by simp only [List.size_toArray]; omega) ⟨.int xs.length,H,I.tok _,⟨_,by simp only [List.size_toArray]; rw [hlen]⟩,q⟩
  ·subst e'
   obtain ⟨its,r',pl,hz⟩:=I.tuple hx
   have hlen:=r'.length
   exact len_tuple pl (by simp only [List.size_toArray]; omega) ⟨.int xs.length,H,I.tok _,⟨_,by simp only [List.size_toArray]; rw [hlen]⟩,q⟩
 | _=>exact (show False from e).elim
end
end L2
namespace L2
open PySem PySem.Spec PyProof.Rows
structure tG (h:Heap) (x dx C:Addr) (mA:Str->Option Value):Prop where
 obj:h.get? x=some (PySem.W.instObj C dx)
 ns:h.Ns1 dx mA
 ne:dx≠x
theorem rB {h:Heap} {dx:Addr} {mA:Str->Option Value} (n:h.Ns1 dx mA):∃ od,h.get? dx=some od/\∀ name,PySem.W.lookIn name od=some (mA name):=by
 obtain ⟨o,es,ep,ho,hd,hk,_,hm⟩:=n
 refine ⟨o,ho,fun name=>?_⟩
 have e:=hm name
 unfold nsFind findBy at e
 rw [<- Array.find?_toList] at e
 unfold PySem.W.lookIn
 rw [hd]
 dsimp only
 split
 ·rename_i y q
  rw [q] at e
  exact congrArg some e
 ·rename_i q
  rw [q] at e
  have a:es.toList.any (·.refKey)=false:=by
   rw [List.any_eq_false]
   intro y hy
   obtain ⟨z,t,hkey⟩:=hk y (Array.mem_toList_iff.mp hy)
   simp [DictEntry.refKey,hkey]
  have a':¬ es.toList.any (·.refKey)=true:=by rw [a]; exact Bool.false_ne_true
  rw [if_neg a']
  exact congrArg some e
theorem tG.look {h:Heap} {x dx C:Addr} {mA:Str->Option Value} (I:tG h x dx C mA):∃ od,PySem.W.InstAt h x (PySem.W.instObj C dx) C (some od)/\∀ name,PySem.W.lookIn name od=some (mA name) :=
 let ⟨od,ho,hl⟩:=rB I.ns
 ⟨od,⟨I.obj,rfl,rfl,ho⟩,hl⟩
section
variable {prog:Program} {w:World} {A:Around} {E:Value->Shared->Prop} {s:Shared} {K:PySem.W.Frag} {x dx C f:Addr} {mA:Str->Option Value} {name:Str} {v:Value}
end
theorem eU.some_of {v:V} {o:Option Value} (r:eU (some v) o):∃ u,o=some u/\RelV v u:=by
 cases o with
 | none=>exact (show False from r).elim
 | some u=>exact ⟨u,rfl,r⟩
section
variable {P:Program} {w:World} {H H':Hp} {h h':Heap} {a C dx:Addr} {fs fs':List (Str × V)}
theorem vP (hok:HOk P w H h) (e:H a=some (.ins C dx fs)):∃ mA,tG h a dx C mA/\(∀ f,eU (fs.lookup f) (mA f))/\PySem.Within mA (fs.map (·.1))/\fs.length<=1000/\H dx=some (.own a):=by
 obtain ⟨d,z,ne,ob,mA,n,r,q⟩:=(show aQ P w H h a (.ins C dx fs) from hok a _ e)
 exact ⟨mA,⟨ob,n,ne⟩,r,q,z,d⟩
end
structure Cls (K:PySem.W.Frag) (C:Addr):Prop where
 pg:PySem.W.plainGet K C Str.empty=true
 hd:PySem.W.hasDictIn K C=true
 po:PySem.W.plainOver K C=true
 sa:PySem.W.findIn K (.ref C) "__setattr__" = some (some (.builtin "object.__setattr__"))
theorem Cls.get {K:PySem.W.Frag} {C:Addr} (c:Cls K C) (f:Str):PySem.W.plainGet K C f=true:=c.pg
section
variable {X:Cx} {pins:List (Addr × Obj)} {σ:St} {H:Hp} {s:Shared} {a C dx:Addr} {fs:List (Str × V)} {f:Str} {v:V} {A:Around} {E:Value->Shared->Prop}
end
section
variable {X:Cx} {o e value:Expr} {f:Str} {pos pos' tpos:Pos} {ta tv:TE}
end
section
variable {X:Cx} {pins:List (Addr × Obj)} {σ:St} {H:Hp} {s:Shared} {A:Around} {E:Value->Shared->Prop} {Q:Value->Shared->Prop} {c:Value} {b:Bool}
inductive cY (K:PySem.W.Frag) (H:Hp):V->Value->Prop where
 | non:cY K H .non (.type "NoneType")
 | bl (x:Bool):cY K H (.bl x) (.type "bool")
 | int (i:Int):cY K H (.int i) (.type "int")
 | str (x:Str):cY K H (.str x) (.type "str")
 | flt (x:UInt64):cY K H (.flt x) (.type "float")
 | lst {a:Addr} {xs:List V} (e:H a=some (.lst xs)):cY K H (.ref a) (.type "list")
 | frz {a:Addr} {o:Obj} {xs:List V} (e:H a=some (.frz o (.lst xs))):cY K H (.ref a) (.type "list")
 | tup {a:Addr} {xs:List V} (e:H a=some (.tup xs)):cY K H (.ref a) (.type "tuple")
 | dK {a:Addr} {kvs:List (Key × V)} (e:H a=some (.dK kvs)):cY K H (.ref a) (.type "dict")
 | dT {a:Addr} {kvs:List (List Key × V)} (e:H a=some (.dT kvs)):cY K H (.ref a) (.type "dict")
 | ins {a C dx:Addr} {fs:List (Str × V)} (e:H a=some (.ins C dx fs)) (cl:Cls K C) (ha:PySem.W.findIn K (.ref C) "__class__" = some (some (.builtin "object.__class__")))
   (hn:PySem.W.specialIn K (.builtin "object.__class__") "__get__" = some (some (.builtin "getset_descriptor.__get__"))) (htk:PySem.W.takesIn K (.builtin "object.__class__")=some true)
   (hm:PySem.W.mroIn K C (.type "object")=some true):cY K H (.ref a) (.ref C)
theorem rG {x:V} {u t:Value} (I:Inv X pins σ H s) (rx:RelV x u) (ty:cY X.K H x t) (e:PySem.W.kitOne X.K t c=some b) (h:∀ tk,Q (.bool b) { s with toks:=tk }) :
  wpAny (model X.prog X.w) A (call (.builtin "isinstance") [u,c]) Q E s:=by
 cases ty with
 | non=>cases (show u=Value.none from rx); exact PySem.W.kia_one PySem.W.kitx_none I.kIn True.intro e (fun z=>nomatch z) h
 | bl y=>cases (show u=Value.bool y from rx); exact PySem.W.kia_one PySem.W.kitx_bool I.kIn True.intro e (fun z=>nomatch z) h
 | int i=>obtain ⟨t,q⟩:=(show ∃ t,u=Value.int i t from rx); cases q; exact PySem.W.kia_one PySem.W.kitx_int I.kIn True.intro e (fun z=>nomatch z) h
 | str y=>obtain ⟨t,q⟩:=(show ∃ t,u=Value.str y t from rx); cases q; exact PySem.W.kia_one PySem.W.kitx_str I.kIn True.intro e (fun z=>nomatch z) h
 | flt y=>obtain ⟨t,q⟩:=(show ∃ t,u=Value.float y t from rx); cases q; exact PySem.W.kia_one PySem.W.kitx_float I.kIn True.intro e (fun z=>nomatch z) h
 | @lst a xs ea =>
  cases (show u=Value.ref a from rx)
  obtain ⟨_,_,n,_,h1⟩:=(show aQ X.prog X.w H s.heap a (.lst xs) from I.hok a _ ea)
  exact PySem.W.kia_one PySem.W.kitx_list I.kIn ⟨_,h1,rfl⟩ e (fun z=>nomatch z) h
 | @frz a ob xs ea =>
  cases (show u=Value.ref a from rx)
  obtain ⟨_,_,_,n,_,h1⟩:=(show aQ X.prog X.w H s.heap a (.frz ob (.lst xs)) from I.hok a _ ea)
  exact PySem.W.kia_one PySem.W.kitx_list I.kIn ⟨_,h1,rfl⟩ e (fun z=>nomatch z) h
 | @tup a xs ea =>
  cases (show u=Value.ref a from rx)
  obtain ⟨_,_,_,p⟩:=(show aQ X.prog X.w H s.heap a (.tup xs) from I.hok a _ ea)
  obtain ⟨o,h1,h2,_⟩:=p
  exact PySem.W.kia_one PySem.W.kitx_tuple I.kIn ⟨o,h1,h2⟩ e (fun z=>nomatch z) h
 | @dK a kvs ea =>
  cases (show u=Value.ref a from rx)
  obtain ⟨_,_,vs,_,p⟩:=(show aQ X.prog X.w H s.heap a (.dK kvs) from I.hok a _ ea)
  obtain ⟨o,es,ep,h1,h2,_⟩:=p
  exact PySem.W.kia_one PySem.W.kitx_dict I.kIn ⟨o,h1,h2.1⟩ e (fun z=>nomatch z) h
 | @dT a kvs ea =>
  cases (show u=Value.ref a from rx)
  obtain ⟨_,_,xs,_,o,es,ep,h1,h2,_⟩:=(show aQ X.prog X.w H s.heap a (.dT kvs) from I.hok a _ ea)
  exact PySem.W.kia_one PySem.W.kitx_dict I.kIn ⟨o,h1,h2.1⟩ e (fun z=>nomatch z) h
 | @ins a C dx fs ea cl ha hn htk hm =>
  cases (show u=Value.ref a from rx)
  obtain ⟨mA,O,_⟩:=vP I.hok ea
  obtain ⟨od,J,_⟩:=O.look
  exact PySem.W.kia_one (PySem.W.kitx_own (cl.get _) cl.hd ha hn htk hm) I.kIn J e (fun z=>nomatch z) h
end
end L2
namespace L2
open PySem PySem.Spec PyProof.Rows
structure cP (k:Nat) (A:Around):Prop where
 hd:A.handled=none
 dp:A.depth+3*k+5<recursionLimit
 un:A.units+16*k+200<cLine
theorem cP.deeper {k:Nat} {A:Around} (r:cP (k+1) A) (env:Env):cP k (A.deeper env) :=
 ⟨r.hd,by have:=r.dp; show A.depth+1+3*k+5<_; omega,by have:=r.un; show A.units+3+16*k+200<_; omega⟩
theorem cP.depth {k:Nat} {A:Around} (r:cP k A):A.depth<recursionLimit:=by have:=r.dp; omega
def uC:TA:=fun _ H Q=>Q [] H
def lM (ta:TE) (tr:TA):TA:=fun σ H Q=>ta σ H fun x H1=>tr σ H1 fun xs H2=>Q (x :: xs) H2
section
variable {X:Cx} {e:Expr} {es:List Expr} {te:TE} {t:TA} {pos:Pos}
theorem d9:PA X [] uC:=fun _ _ _ _ H Q I h=>Calls.spliced_nil ⟨[],H,I,.nil,h⟩
theorem bA (ha:PE X e te) (hr:PA X es t) (hs:starEach (e :: es) X.env=(false,eval e X.env) :: starEach es X.env:=by rfl):PA X (e :: es) (lM te t):=by
 intro pos pins s σ H Q I h
 rw [hs]
 show wpAny _ _ (spliced ((false,eval e X.env) :: backTo pos (starEach es X.env))) _ _ s
 refine Calls.spliced_cons (thn (ha pins s σ H _ I h) fun u s1 ⟨x,H1,I1,r1,q1⟩=>?_)
 exact thn (hr pos pins s1 σ H1 _ I1 q1) fun us s2 ⟨xs,H2,I2,r2,q2⟩=>⟨x :: xs,H2,I2,.cons r1 r2,q2⟩
def BR (t:TA):TE:=fun σ H Q=>t σ H fun xs H1=>xs.length<=sizeLine/\∀ p,H1 p=none->Q (.ref p) (upd H1 p (.tup xs))
def Bz (t:TA):TE:=fun σ H Q=>t σ H fun xs H1=>xs.length<=sizeLine/\∀ p,H1 p=none->Q (.ref p) (upd H1 p (.lst xs))
theorem zi {x1} (h:PA X es t):PE X (.Tuple es x1 pos) (BR t):=by
 intro pins s σ H Q I hq
 refine wpAny_Tuple_spliced (thn (h pos pins s σ H _ I hq) fun us s1 ⟨xs,H1,I1,r,z,q⟩=>⟨by rw [<- r.length]; exact z,?_⟩)
 have hf:H1 s1.heap.objs.size=none:=I1.hok.fresh (Nat.le_refl _)
 refine ⟨.ref s1.heap.objs.size,upd H1 s1.heap.objs.size (.tup xs),I1.laid (t':=s1.toks) (fun b u e=>Heap.get?_push_of_some _ e) (Nat.le_refl _) ?_,rfl,q _ hf⟩
 exact ⟨z,us,r,⟨_,Heap.get?_push_size _ rfl,rfl,_,rfl⟩⟩
theorem yK (h:PA X es t):PE X (.List es pos) (Bz t):=by
 intro pins s σ H Q I hq
 refine wpAny_List_spliced (thn (h pos pins s σ H _ I hq) fun us s1 ⟨xs,H1,I1,r,z,q⟩=>⟨by rw [<- r.length]; exact z,?_⟩)
 have hf:H1 s1.heap.objs.size=none:=I1.hok.fresh (Nat.le_refl _)
 refine ⟨.ref s1.heap.objs.size,upd H1 s1.heap.objs.size (.lst xs),I1.laid (t':=s1.toks) (fun b u e=>Heap.get?_push_of_some _ e) (Nat.le_refl _) ?_,rfl,q _ hf⟩
 exact ⟨z,us,0,r,Heap.get?_push_size _ rfl⟩
end
abbrev Sp:=List V->Hp->VK->XK->Prop
abbrev CXT:=List Env->Hp->Shared->XK->Value->Shared->Prop
structure pK (P:Program) (w:World) (K:PySem.W.Frag) (mg:Str->Option Value) (base:Heap) (A:Around) (outer:List Env) (s:Shared) (H:Hp):Prop where
 frames:A.frames=some outer
 mod:Mod K mg base
 bs:∀ b o,base.get? b=some o->s.heap.get? b=some o/\H b=none
 bsz:base.objs.size<=s.heap.objs.size
 eR:s.heap.FunFrames base outer
 frf:∀ b∈frs outer,H b=none
 hok:HOk P w H s.heap
 bare:AllBare s.gens
def CE (outer:List Env) (P:Program) (w:World) (H:Hp) (s:Shared) (Q:VK) (u:Value) (s':Shared):Prop :=
 ∃ v H',s'.os=s.os/\AllBare s'.gens/\Un (frs outer) [] H H' s.heap s'.heap/\HOk P w H' s'.heap/\RelV v u/\Q v H'
def CR (CX:CXT) (outer:List Env) (P:Program) (w:World) (H:Hp) (s:Shared) (Q:VK) (E:XK) (r:Result) (s':Shared):Prop :=
 match r with
 | .ok (.ret u)=>CE outer P w H s Q u s'
 | .ok _=>False
 | .error e=>CX outer H s E e s'
structure fC (P:Program) (w:World) (K:PySem.W.Frag) (mg:Str->Option Value) (base:Heap) (CX:CXT) (k:Nat) (f:Addr) (fd:FuncData) (ps:List Str) (sp:Sp):Prop where
 len:∀ vs H Q E,sp vs H Q E->vs.length=ps.length
 run:∀ (A:Around) (outer:List Env) (s:Shared) (H:Hp) (args:Args) (us:List Value) (vs:List V) (Q:VK) (E:XK),cP k A->pK P w K mg base A outer s H->BindsTo s fd args (ps.zip us)->Vals vs us->sp vs H Q E ->
  codeAny (model P w) A (.call (.ref f) args) (CR CX outer P w H s Q E) s
section
variable {X:Cx} {pins:List (Addr × Obj)} {σ:St} {H:Hp} {s s':Shared}
theorem Inv.BE (I:Inv X pins σ H s):pK X.prog X.w X.K X.mg X.base X.A X.stack s H :=
 ⟨I.ok.frames,I.ok.mod,I.bs,Nat.le_trans I.ok.bsz I.sz,I.stack,I.oU,I.hok,I.bare⟩
theorem Inv.after {Q:VK} {u:Value} (I:Inv X pins σ H s) (h:CE X.stack X.prog X.w H s Q u s'):EP X pins σ Q u s':=by
 obtain ⟨v,H',os,bare,un,hok,r,q⟩:=h
 obtain ⟨hh,g,d,t,os'⟩:=s'
 obtain rfl:os'=s.os:=os
 exact ⟨v,H',I.call (h':=hh) (g':=g) (d':=d) (t':=t) (ch:=[]) un hok bare (fun b z=>absurd z (by simp)),r,q⟩
end
def Ba (sp:Sp) (dvs:List V) (E:XK) (t:TA):TE:=fun σ H Q=>t σ H fun vs H1=>sp (vs ++ dvs) H1 Q E
def Binds (K:PySem.W.Frag) (fd:FuncData) (ps:List Str) (ds:List Value):Prop :=
 ∀ (s:Shared) (us:List Value),K.In s.heap->(us ++ ds).length=ps.length->BindsTo s fd ⟨us,[]⟩ (ps.zip (us ++ ds))
theorem Binds.all {K:PySem.W.Frag} {fd:FuncData} {ps:List Str} (h:∀ us:List Value,us.length=ps.length->bindArgs fd ⟨us,[]⟩=pure (ps.zip us)):Binds K fd ps []:=fun s us _ hl=>by
 rw [List.append_nil] at hl ⊢
 exact .of_eq (h us hl)
def Passes (CX:CXT) (X:Cx) (E:XK):Prop:=∀ (pins:List (Addr × Obj)) (σ:St) (H:Hp) (s:Shared) (e:Value) (s':Shared),Inv X pins σ H s->CX X.stack H s E e s'->X.xe e s'
section
variable {X:Cx} {CX:CXT} {k:Nat} {f C:Addr} {fd:FuncData} {ps:List Str} {sp:Sp} {dvs:List V} {ds:List Value} {E:XK} {x m:Str} {p pos apos:Pos} {e o:Expr} {es:List Expr} {ta:TE} {t:TA}
theorem zF {pins:List (Addr × Obj)} {σ:St} {H:Hp} {s:Shared} {Q:VK} {us:List Value} {vs:List V} (F:fC X.prog X.w X.K X.mg X.base CX k f fd ps sp) (hr:cP k X.A) (hb:Binds X.K fd ps ds) (hd:Vals dvs ds) (hx:Passes CX X E)
  (I:Inv X pins σ H s) (r:Vals vs us) (h:sp (vs ++ dvs) H Q E):wpAny (model X.prog X.w) X.A (call (.ref f) us) (EP X pins σ Q) X.xe s:=by
 have r2:Vals (vs ++ dvs) (us ++ ds):=r.append hd
 have hl:(us ++ ds).length=ps.length:=by rw [<- r2.length]; exact F.len _ _ _ _ h
 refine wpAny_call (codeAny_mono (F.run X.A X.stack s H ⟨us,[]⟩ (us ++ ds) (vs ++ dvs) Q E hr I.BE (hb s us I.kIn hl) r2 h) fun r s' hq=>?_)
 cases r with
 | error e=>exact hx pins σ H s e s' I hq
 | ok fl =>
  cases fl with
  | ret u=>exact I.after hq
  | next=>exact False.elim hq
  | brk=>exact False.elim hq
  | cont=>exact False.elim hq
theorem wk (F:fC X.prog X.w X.K X.mg X.base CX k f fd ps sp) (hr:cP k X.A) (hg:Gl X x) (hm:X.mg x=some (.ref f)) (hk:PySem.W.keepIn X.K (.ref f)=true) (hb:Binds X.K fd ps ds) (hd:Vals dvs ds) (hx:Passes CX X E)
  (ha:PA X (e :: es) t) (hdb:(x == ("__debug__" : Str))=false:=by decide) (he:starEach (e :: es) X.env=(false,eval e X.env) :: starEach es X.env:=by rfl) (hpl:(backTo pos (starEach es X.env)).any (·.1)=false:=by rfl) :
  PE X (.Call (.Name x p) (e :: es) [] pos) (Ba sp dvs E t):=by
 intro pins s σ H Q I h
 refine wpAny_Call_Name_kw (oN I hg hm ?_ hdb)
 refine PySem.W.callWith_K (h₀:=X.base) I.ok.mod.kin hk (thn (ha pos pins s σ H _ I h) fun us s1 ⟨vs,H1,I1,r,q⟩=>⟨I1.kIn,?_⟩) he hpl
 exact zF F hr hb hd hx I1 r q
end
section
variable {X:Cx} {CX:CXT} {k:Nat} {f C:Addr} {fd:FuncData} {ps ks:List Str} {sp:Sp} {E:XK} {x m:Str} {p pos apos kpos:Pos} {e o:Expr} {es:List Expr} {kws:List Keyword} {te ta:TE} {t tk:TA} {nm:Option Str}
variable {g:List Value->List Value->List Value} {gV:List V->List V->List V}
end
structure iN (N P:List Str) (sc:Scope):Prop where
 kind:sc.kind=.function
 co:sc.isCoroutine=false
 gen:sc.isGenerator=false
 nd:N.Nodup
 pre:N.take P.length=P
 par:∀ x∈P,sc.names.lookup x=some .local\/sc.names.lookup x=some .cell
 zq:∀ y∈sc.names,y.2≠.free
theorem lD {kindOf:Str->Option NameKind} {x:Str}:∀ {binds:List (Str × Value)} {m:Str->Option Value},(∀ v,(x,v)∉binds)->bindL kindOf binds m x=m x
 | [],_,_=>rfl
 | (n,v) :: r,m,h=>by
  unfold bindL
  rw [lD fun w hw=>h w (List.mem_cons_of_mem _ hw)]
  split
  ·have:x≠n:=by rintro rfl; exact h v List.mem_cons_self
   simp [this]
  ·rfl
theorem lu {kindOf:Str->Option NameKind} {x:Str}:∀ {binds:List (Str × Value)} {m:Str->Option Value},(∀ v,(x,v)∉binds)->bindC kindOf binds m x=m x
 | [],_,_=>rfl
 | (n,v) :: r,m,h=>by
  unfold bindC
  rw [lu fun w hw=>h w (List.mem_cons_of_mem _ hw)]
  split
  ·rfl
  ·have:x≠n:=by rintro rfl; exact h v List.mem_cons_self
   simp [this]
theorem l3 {kindOf:Str->Option NameKind} {x:Str} {v:Value}:∀ {P:List Str} {vs:List Value} {i:Nat} {m:Str->Option Value},P.Nodup->P[i]?=some x->vs[i]?=some v->kindOf x=some .local ->
  bindL kindOf (P.zip vs) m x=some v
 | [],_,_,_,_,h,_,_=>by simp at h
 | _ :: _,[],_,_,_,_,h,_=>by simp at h
 | p :: P,w :: vs,0,m,nd,h1,h2,hk=>by
  simp at h1 h2; subst h1; subst h2
  show bindL kindOf ((p,w) :: P.zip vs) m p=_
  unfold bindL
  rw [lD fun v hv=>(List.nodup_cons.mp nd).1 (List.of_mem_zip hv).1,if_pos hk]
  simp
 | p :: P,w :: vs,i+1,m,nd,h1,h2,hk=>by
  show bindL kindOf ((p,w) :: P.zip vs) m x=_
  unfold bindL
  exact l3 (i:=i) (List.nodup_cons.mp nd).2 (by simpa using h1) (by simpa using h2) hk
theorem lC {kindOf:Str->Option NameKind} {x:Str} {v:Value}:∀ {P:List Str} {vs:List Value} {i:Nat} {m:Str->Option Value},P.Nodup->P[i]?=some x->vs[i]?=some v->kindOf x≠some .local ->
  bindC kindOf (P.zip vs) m x=some v
 | [],_,_,_,_,h,_,_=>by simp at h
 | _ :: _,[],_,_,_,_,h,_=>by simp at h
 | p :: P,w :: vs,0,m,nd,h1,h2,hk=>by
  simp at h1 h2; subst h1; subst h2
  show bindC kindOf ((p,w) :: P.zip vs) m p=_
  unfold bindC
  rw [lu fun v hv=>(List.nodup_cons.mp nd).1 (List.of_mem_zip hv).1,if_neg hk]
  simp
 | p :: P,w :: vs,i+1,m,nd,h1,h2,hk=>by
  show bindC kindOf ((p,w) :: P.zip vs) m x=_
  unfold bindC
  exact lC (i:=i) (List.nodup_cons.mp nd).2 (by simpa using h1) (by simpa using h2) hk
def start (N:List Str) (vs:List V):St:=vs.map some ++ List.replicate (N.length-vs.length) none
def j8 (CX:CXT) (P:Program) (w:World) (K:PySem.W.Frag) (mg:Str->Option Value) (base:Heap) (N:List Str) (qual:Str) (scope:Scope) (f:Addr) (cd:Value) (A:Around) (outer:List Env) (s:Shared) (H:Hp) (E:XK):Cx where
 prog:=P
 w:=w
 K:=K
 mg:=mg
 base:=base
 A:=A.deeper (envOfC qual scope s.heap.objs.size f cd)
 N:=N
 s₀:=s
 H₀:=H
 env:=envOfC qual scope s.heap.objs.size f cd
 outer:=outer
 stack:=envOfC qual scope s.heap.objs.size f cd :: outer
 ex:=[]
 calm:=true
 fn:=fun _=>true
 pn:=[]
 xe:=fun e s'=>wpAny (model P w) (A.deeper (envOfC qual scope s.heap.objs.size f cd)) (leaving (envOfC qual scope s.heap.objs.size f cd) e) (fun _ s''=>CX outer H s E e s'') (fun e' s''=>CX outer H s E e' s'') s'
theorem mw {sc:Scope} {n:Nat} {x:Str} (h:sc.names.lookup x=some .cell):∃ c,(cellsFrom n sc.names []).lookup x=some c:=by
 have q:=PySem.W.cellsFrom_some sc.names n [] (.inl h)
 exact Option.isSome_iff_exists.mp q
theorem qg {CX:CXT} {P:Program} {w:World} {K:PySem.W.Frag} {mg:Str->Option Value} {base:Heap} {N ps:List Str} {qual:Str} {scope:Scope} {f:Addr} {cd:Value} {A:Around} {outer:List Env} {s s1:Shared} {H:Hp} {E:XK} {us:List Value} {vs:List V}
  (S:iN N ps scope) (hd:A.handled=none) (e0:pK P w K mg base A outer s H) (hl:vs.length=ps.length) (r:Vals vs us)
  (x:InCallC s s.heap.objs.size (bindL (envOfC qual scope s.heap.objs.size f cd).kindOf (ps.zip us) fun _=>none) (cellsFrom (s.heap.objs.size+1) scope.names []) (bindC (envOfC qual scope s.heap.objs.size f cd).kindOf (ps.zip us) fun _=>none) s1) :
  Inv (j8 CX P w K mg base N qual scope f cd A outer s H E) [] (start N vs) H s1:=by
 have hpl:ps.length<=N.length:=by have:=congrArg List.length S.pre; rw [List.length_take] at this; omega
 obtain ⟨h1,tk,rfl,hk⟩:=x.done
 have noA:∀ b:Addr,b∉(j8 CX P w K mg base N qual scope f cd A outer s H E).ex:=fun b z=>absurd (show b∈([]:List Addr) from z) (by simp)
 refine ⟨⟨e0.mod,S.kind,rfl,rfl,Nat.le_refl _,fun y z c h1 h2=>?_,fun y hy=>?_,fun y c _ h=>?_,fun _=>hd,Around.frames_deeper e0.frames,.inr ⟨rfl,rfl⟩,fun b z=>absurd z (noA b),e0.bs,e0.bsz,fun b _ _=>noA b,fun b z=>absurd z (noA b),e0.eR,e0.frf⟩,
  rfl,e0.bare,Un.kept hk,⟨_,x.toInCall.ns,fun i y v h1 h2 h3=>?_⟩,fun y c h=>⟨_,x.cell y c h⟩,e0.hok.fresh (Nat.le_refl _),fun y c h=>?_,fun p hp=>absurd (show p∈([]:List (Addr × Obj)) from hp) (by simp),e0.hok.kept hk,?_⟩
 ·exact name_of_addr x.apart (PySem.mem_of_lookup h1) (PySem.mem_of_lookup h2)
 ·have hy:scope.names.lookup y=some .cell\/scope.names.lookup y=some .free:=hy
  rcases hy with hy | hy
  ·exact mw hy
  ·exact absurd rfl (S.zq _ (PySem.mem_of_lookup hy))
 ·exact Nat.le_of_lt (x.above y c (PySem.mem_of_lookup h))
 ·have hi:i<vs.length:=by
   unfold start at h2
   by_cases hi:i<vs.length
   ·exact hi
   ·rw [List.getElem?_append_right (by simpa using hi)] at h2
    rw [List.getElem?_replicate] at h2
    split at h2 <;> cases h2
  have ha:vs[i]?=some v:=by
   unfold start at h2
   rw [List.getElem?_append_left (by simpa using hi),List.getElem?_map] at h2
   cases e:vs[i]? with
   | none=>rw [e] at h2; cases h2
   | some a=>rw [e] at h2; cases h2; rfl
  obtain ⟨u,hu,rv⟩:=r.get ha
  have hp:ps[i]?=some y:=by
   rw [<- S.pre,List.getElem?_take_of_lt (by omega)]; exact h1
  have ndP:ps.Nodup:=by rw [<- S.pre]; exact S.nd.sublist (List.take_sublist _ _)
  refine ⟨u,rv,?_⟩
  rcases S.par y (List.mem_of_getElem? hp) with k | k
  ·exact .inl ⟨k,l3 ndP hp hu k⟩
  ·obtain ⟨c,e⟩:=mw (n:=s.heap.objs.size+1) k
   refine .inr ⟨.inl k,c,e,?_⟩
   have q:=x.cell y c e
   rw [lC ndP hp hu (by show scope.names.lookup y≠_; rw [k]; decide)] at q
   exact q
 ·exact e0.hok.fresh (Nat.le_of_lt (x.above y c (PySem.mem_of_lookup h)))
 ·unfold start
  show _=N.length
  rw [List.length_append,List.length_map,List.length_replicate]
  omega
theorem Aq {CX:CXT} {P:Program} {w:World} {K:PySem.W.Frag} {mg:Str->Option Value} {base:Heap} {k:Nat} {f:Addr} {name qual:Str} {params:Arguments} {body:List Stmt} {scope:Scope} {dV kV doc pm cdv ct oc:Value} {an od:Option Addr}
  {osl:Array (Option Value)} {N ps:List Str} {sp:Sp} (lk:K.lookup f=some ⟨oc,od,.func (PySem.W.fnOf name qual params body scope dV kV doc pm an cdv ct),osl⟩) (hcd:PySem.W.codeIn K cdv qual=true) (S:iN N ps scope)
  (len:∀ vs H Q E,sp vs H Q E->vs.length=ps.length)
  (hbody:∀ (A:Around) (outer:List Env) (s:Shared) (H:Hp) (vs:List V) (Q:VK) (E:XK),cP k (A.deeper (envOfC qual scope s.heap.objs.size f cdv))->sp vs H Q E ->
   ∃ t,PSs (j8 CX P w K mg base N qual scope f cdv A outer s H E) body t/\t { nx:=fun _ H'=>Q .non H',rt:=Q } (start N vs) H) :
  fC P w K mg base CX (k+1) f (PySem.W.fnOf name qual params body scope dV kV doc pm an cdv ct) ps sp:=by
 refine ⟨len,fun A outer s H args us vs Q E hr e0 hb r hsp=>?_⟩
 have hl:=len _ _ _ _ hsp
 have KX:K.In s.heap:=e0.mod.kin.keeps fun b o e=>(e0.bs b o e).1
 have lim:s.heap.NoLimit:=e0.mod.nolimit.keeps fun b o e=>(e0.bs b o e).1
 have hkind:∀ y∈ps.zip us,scope.names.lookup y.1=some .local\/(scope.names.lookup y.1=some .cell/\((cellsFrom (s.heap.objs.size+1) scope.names []).lookup y.1).isSome=true):=fun ⟨n,v⟩ hy=>by
  rcases S.par n (List.of_mem_zip hy).1 with q | q
  ·exact .inl q
  ·exact .inr ⟨q,PySem.W.cellsFrom_some _ _ _ (.inl q)⟩
 refine codeAny_call_function hr.depth (KX _ _ lk) rfl S.co S.gen rfl (PySem.W.codeRec_of KX hcd) (hb _ _ _ _ ?_)
 refine wpAny_newFunctionEnv_cells S.kind hkind fun env he s1 x=>?_
 subst he
 refine ⟨lim.keeps x.toInCall.keep,codeAny_func ?_⟩
 obtain ⟨t,ht,hq⟩:=hbody A outer s H vs Q E (hr.deeper _) hsp
 have I:Inv (j8 CX P w K mg base N qual scope f cdv A outer s H E) [] (start N vs) H s1:=qg S hr.hd e0 hl r x
 refine wpAny_mono (ht [] s1 (start N vs) H _ I hq) (fun fl s' hs=>?_) fun e s' hs=>hs
 have fin:∀ {σ':St} {H':Hp} {v:V} {u:Value},Inv (j8 CX P w K mg base N qual scope f cdv A outer s H E) [] σ' H' s'->RelV v u->Q v H'->CE outer P w H s Q u s' :=
  fun {σ' H' v u} J rv q=>⟨v,H',J.os,J.bare,J.base,J.hok,rv,q⟩
 cases fl with
 | ret u =>
  obtain ⟨v,σ',H',J,rv,q⟩:=hs
  exact fin J rv q
 | next =>
  obtain ⟨σ',H',J,q⟩:=hs
  exact fin (v:=V.non) (u:=Value.none) J rfl q
 | brk =>
  obtain ⟨_,_,_,q⟩:=hs
  exact False.elim q
 | cont =>
  obtain ⟨_,_,_,q⟩:=hs
  exact False.elim q
end L2
namespace L2
open PySem PySem.Spec PyProof.Rows
section
variable {X:Cx} {x:Str} {p pos:Pos} {e:Expr} {es:List Expr} {t:TA} {id T:String} {r:List V->Hp->VK->Prop}
def tCB (r:List V->Hp->VK->Prop) (t:TA):TE:=fun σ H Q=>t σ H fun vs H1=>r vs H1 Q
theorem gR (hc:aZ X (.builtin id) r) (hg:Gl X x) (hm:X.mg x=none) (hv:bootBuiltins x=some (.builtin id)) (ha:PA X (e :: es) t) (hn:x ≠ "__name__" := by decide) (hdb:(x == ("__debug__" : Str))=false:=by decide)
  (he:starEach (e :: es) X.env=(false,eval e X.env) :: starEach es X.env:=by rfl) (hpl:(backTo pos (starEach es X.env)).any (·.1)=false:=by rfl):PE X (.Call (.Name x p) (e :: es) [] pos) (tCB r t):=by
 intro pins s σ H Q I h
 refine wpAny_Call_Name_kw (eT I hg hm hv ?_ hn hdb)
 exact PyProof.Rows.callWith_builtin1 (thn (ha pos pins s σ H _ I h) fun us s1 ⟨vs,H1,I1,r1,q1⟩=>hc pins s1 σ H1 vs us Q I1 r1 q1) he hpl
theorem bH (hc:aZ X (.type T) r) (hg:Gl X x) (hm:X.mg x=none) (hv:bootBuiltins x=some (.type T)) (ha:PA X (e :: es) t) (hn:x ≠ "__name__" := by decide) (hdb:(x == ("__debug__" : Str))=false:=by decide)
  (he:starEach (e :: es) X.env=(false,eval e X.env) :: starEach es X.env:=by rfl) (hpl:(backTo pos (starEach es X.env)).any (·.1)=false:=by rfl):PE X (.Call (.Name x p) (e :: es) [] pos) (tCB r t):=by
 intro pins s σ H Q I h
 refine wpAny_Call_Name_kw (eT I hg hm hv ?_ hn hdb)
 exact PyProof.Rows.callWith_type1 (thn (ha pos pins s σ H _ I h) fun us s1 ⟨vs,H1,I1,r1,q1⟩=>hc pins s1 σ H1 vs us Q I1 r1 q1) he hpl
end
end L2
namespace HT
open PySem PyProof.Rows
section
open PySem.SeqAt
open PySem.AutoSeq1 (wpAny_loadPart')
open PySem.MeetsSeq PySem.MeetsSeq2 PySem.MeetsSeq3
end
section
variable {prog:Program} {w:World} {A:Around} {E:Value->Shared->Prop} {s:Shared}
theorem vW {t b:Addr} {vs ws:List Value} {Q:Value->Shared->Prop} (ht:IsTup s.heap t vs.toArray) (hb:IsTup s.heap b ws.toArray) (hv:vs≠[])
  (h1:ws=[]->Q (.ref t) s) (h2:ws≠[]->Q (.ref s.heap.objs.size) { s with heap:=s.heap.push { cls:=.type "tuple",data:=.seq (vs ++ ws).toArray } })
  (hsz:vs.length+ws.length<=sizeLine):wpAny (model prog w) A (binaryOp .Add (.ref t) (.ref b)) Q E s:=by
 obtain ⟨⟨cls,dd,data,sl⟩,ho,hc,n,hd⟩:=id ht
 obtain ⟨⟨cls2,dd2,data2,sl2⟩,ho2,hc2,n2,hd2⟩:=id hb
 simp only at hc hd hc2 hd2
 subst hc hd hc2 hd2
 have e:vs.toArray ++ ws.toArray=(vs ++ ws).toArray:=by simp
 by_cases hw:ws=[]
 ·exact concat_meets ⟨_,ho,rfl⟩ ⟨_,ho2,rfl⟩ noFill_tuple_add seq_tuple_add PySem.F.slot_tuple_add PySem.F.entry_tuple_add (PySem.F.args_tuple_add_2 _ _)
   (tuple_addW1 t b vs.toArray ws.toArray n n2 dd dd2 sl sl2 (by simpa using hv) (by simp [hw])) ⟨ho,ho2,h1 hw⟩
 ·refine concat_meets ⟨_,ho,rfl⟩ ⟨_,ho2,rfl⟩ noFill_tuple_add seq_tuple_add PySem.F.slot_tuple_add PySem.F.entry_tuple_add (PySem.F.args_tuple_add_2 _ _)
   (tuple_addW2 t b vs.toArray ws.toArray n n2 dd dd2 sl sl2 (by simpa using hv) (by simpa using hw) (by rw [List.size_toArray,List.size_toArray]; exact hsz)) ⟨ho,ho2,?_⟩
  rw [e]
  exact h2 hw
def sIx (n d:Nat):Option Int->Nat
 | none=>d
 | some v=>if v<0 then (v+(n:Int)).toNat else min v.toNat n
theorem sT (n d:Nat):sIx n d none=d:=rfl
theorem ym (n d:Nat) (hd:d<=n) (o:Option Int):sIx n d o<=n:=by
 cases o with
 | none=>exact hd
 | some v =>
  show (if v<0 then (v+(n:Int)).toNat else min v.toNat n)<=n
  by_cases hv:v<0
  ·rw [if_pos hv]; omega
  ·rw [if_neg hv]; exact Nat.min_le_right _ _
theorem iQ (v:Int) (n d:Nat):(if v<0 then max (v+(n:Int)) 0 else min v (n:Int))=((sIx n d (some v):Nat):Int):=by
 show (if v<0 then max (v+(n:Int)) 0 else min v (n:Int))=(((if v<0 then (v+(n:Int)).toNat else min v.toNat n):Nat):Int)
 by_cases hv:v<0
 ·simp only [if_pos hv]; omega
 ·simp only [if_neg hv]; omega
theorem p8 (lo hi:Option Int) (n:Nat):Builtin.Slice.sliceAdjust lo hi 1 (n:Int)=(((sIx n 0 lo:Nat):Int),((sIx n n hi:Nat):Int)):=by
 have h1:¬ ((1:Int)<0):=by omega
 unfold Builtin.Slice.sliceAdjust
 simp only [h1,if_false]
 refine Prod.ext ?_ ?_
 ·cases lo with
  | none=>rfl
  | some v=>exact iQ v n 0
 ·cases hi with
  | none=>rfl
  | some v=>exact iQ v n n
theorem pY (i j:Nat):Builtin.Slice.slicePlaces (i:Int) (j:Int) 1=j-i:=by
 unfold Builtin.Slice.slicePlaces
 have h1:(1:Int) > 0:=by omega
 simp only [h1,if_true,Int.ediv_one]
 split <;> omega
theorem jW {v:Value} {o:Option Int} {Q:Option Int->Shared->Prop} (p:IsPart v o) (h:Q o s):wpAny (model prog w) A (Builtin.Slice.slicePartIndex v) Q E s:=by
 cases p with
 | none=>exact slicePart_none h
 | int i t=>exact slicePart_int h
theorem jl {sl:Addr} {vl vu:Value} {lo hi:Option Int} {n:Nat} {Q:Int × Int × Nat->Shared->Prop} (hs:s.heap.IsSliceOf sl vl vu .none) (pl:IsPart vl lo) (pu:IsPart vu hi)
  (h:Q (((sIx n 0 lo:Nat):Int),1,sIx n n hi-sIx n 0 lo) s):wpAny (model prog w) A (Builtin.Slice.sliceApplied (.ref sl) (pure (n:Int))) Q E s:=by
 obtain ⟨os,hos,hcs,hds⟩:=id hs
 unfold Builtin.Slice.sliceApplied Builtin.Slice.sliceFields
 refine wpAny_bind (wpAny_bind (wpAny_field hos hds (x:=vl) rfl (wpAny_bind (wpAny_field hos hds (x:=vu) rfl (wpAny_bind (wpAny_field hos hds (x:=.none) rfl (wpAny_pure ?_)))))))
 refine wpAny_bind (slicePart_none ?_)
 show wpAny _ _ (if ((1:Int) == 0)=true then _ else _) _ _ s
 rw [if_neg (by decide)]
 refine wpAny_bind (jW pl (wpAny_bind (jW pu (wpAny_bind (wpAny_pure ?_)))))
 show wpAny _ _ (match Builtin.Slice.sliceAdjust lo hi 1 (n:Int) with | (lo,hi)=>pure (lo,(1:Int),Builtin.Slice.slicePlaces lo hi 1)) _ _ s
 rw [p8 lo hi n]
 show wpAny _ _ (pure (((sIx n 0 lo:Nat):Int),(1:Int),Builtin.Slice.slicePlaces ((sIx n 0 lo:Nat):Int) ((sIx n n hi:Nat):Int) 1)) _ _ s
 rw [pY]
 exact wpAny_pure h
theorem sC (xs:Array Value) (i k:Nat):((List.range k).filterMap fun (m:Nat)=>xs[((i:Int)+(m:Int)*1).toNat]?).toArray=((xs.toList.drop i).take k).toArray:=by
 have e:(fun (m:Nat)=>xs[((i:Int)+(m:Int)*1).toNat]?)=fun m=>xs[i+m]?:=by
  funext m
  have:((i:Int)+(m:Int)*1).toNat=i+m:=by omega
  rw [this]
 rw [e]
 have:=pick_run xs i k
 rw [List.filterMap_map] at this
 have e2:((fun x=>xs[x]?) ∘ fun x=>i+x)=fun m=>xs[i+m]?:=rfl
 rw [e2] at this
 rw [this]
theorem je {t sl:Addr} {items:Array Value} {vl vu:Value} {lo hi:Option Int} {Q:Value->Shared->Prop} (ht:IsTup s.heap t items) (hs:s.heap.IsSliceOf sl vl vu .none) (pl:IsPart vl lo) (pu:IsPart vu hi)
  (hw:¬ (sIx items.size 0 lo=0/\sIx items.size items.size hi=items.size))
  (h:Q (.ref s.heap.objs.size) { s with heap:=s.heap.push { cls:=.type "tuple",data:=.seq ((items.toList.drop (sIx items.size 0 lo)).take (sIx items.size items.size hi-sIx items.size 0 lo)).toArray } })
  (hsz:items.size<=sizeLine):wpAny (model prog w) A (getItem (.ref t) (.ref sl)) Q E s:=by
 have htake:sizeOk (.seq ((items.toList.drop (sIx items.size 0 lo)).take (sIx items.size items.size hi-sIx items.size 0 lo)).toArray):=by
  show ((items.toList.drop (sIx items.size 0 lo)).take (sIx items.size items.size hi-sIx items.size 0 lo)).toArray.size<=sizeLine
  rw [List.size_toArray,List.length_take,List.length_drop,Array.length_toList]
  omega
 have hj:sIx items.size items.size hi<=items.size:=ym _ _ (Nat.le_refl _) hi
 obtain ⟨os,hos,hcs,hds⟩:=id hs
 have hTs:s.TypeIs (.ref sl) "slice" := ⟨os,hos,hcs⟩
 unfold getItem
 try with_reducible refine wpAny_holding ?_
 first | refine wpAny_bind (wpAny_pure ?_) | skip
 refine wpAny_bind (wpAny_sequenceKey ht.typeIs (by decide) ?_)
 refine wpAny_bind (wpAny_callSpecial?_slot (name:=Str.ofString "__getitem__") ht.typeIs PyProof.Rows.slot_tuple_getitem
  (wpAny_call_entry PyProof.Rows.slot_tuple_getitem ht.typeIs entry_tuple_getitem ?_ (args_tuple_getitem _ _)))
 show wpAny _ _ (Builtin.Tuple.tupleItemsOf (.ref t) >>= _) _ _ s
 refine wpAny_bind (tupleItemsOf_ ht ?_)
 refine wpAny_bind (wpAny_typeOf hTs ?_)
 rw [if_pos (by decide)]
 refine wpAny_bind (jl hs pl pu ?_)
 have hno:¬ ((((sIx items.size 0 lo:Nat):Int) == 0 && (1:Int) == 1 && (sIx items.size items.size hi-sIx items.size 0 lo) == items.size)=true):=by
  intro q
  rw [Bool.and_eq_true,Bool.and_eq_true] at q
  have q1:((sIx items.size 0 lo:Nat):Int)=0:=eq_of_beq q.1.1
  have q2:sIx items.size items.size hi-sIx items.size 0 lo=items.size:=eq_of_beq q.2
  exact hw ⟨by omega,by omega⟩
 show wpAny _ _ (if (((sIx items.size 0 lo:Nat):Int) == 0 && (1:Int) == 1 && (sIx items.size items.size hi-sIx items.size 0 lo) == items.size)=true then _ else _) _ _ s
 rw [if_neg hno,sC]
 first
  | exact wpAny_bind (m:=Builtin.Tuple.tupleExact _) (wpAny_newObj_type (wpAny_pure ⟨_,rfl,wpAny_pure h⟩) htake)
  | exact wpAny_bind (m:=Builtin.Tuple.tupleExact _) (wpAny_newObj_type (wpAny_bind (wpAny_pure (wpAny_pure ⟨_,rfl,wpAny_pure h⟩))) htake)
  | exact wpAny_bind (wpAny_bind (m:=Builtin.Tuple.tupleExact _) (wpAny_newObj_type (wpAny_pure (wpAny_pure ⟨_,rfl,wpAny_pure h⟩)) htake))
  | exact wpAny_bind (wpAny_bind (m:=Builtin.Tuple.tupleExact _) (wpAny_newObj_type (wpAny_pure ⟨_,rfl,wpAny_pure h⟩) htake))
end
end HT
namespace L2
open PySem PySem.Spec PyProof.Rows
abbrev TO:=St->Hp->(Option Int->Hp->Prop)->Prop
def PO (X:Cx) (e:Option Expr) (t:TO):Prop :=
 ∀ (pins:List (Addr × Obj)) (s:Shared) (σ:St) (H:Hp) (Q:Option Int->Hp->Prop),Inv X pins σ H s->t σ H Q ->
  wpAny (model X.prog X.w) X.A (evalPart e X.env) (fun u s'=>∃ o H',Inv X pins σ H' s'/\IsPart u o/\Q o H') X.xe s
def xk:TO:=fun _ H Q=>Q none H
def A8 (t:TE):TO:=fun σ H Q=>t σ H fun x H1=>∃ i,x=.int i/\Q (some i) H1
theorem intsAre_of {ns:List Int}:∀ {us:List Value},Vals (ns.map V.int) us->IntsAre us ns:=by
 induction ns with
 | nil=>intro us r; rw [List.map_nil] at r; cases r; exact .nil
 | cons n ns ih =>
  intro us r
  rw [List.map_cons] at r
  cases r with
  | cons r1 r2 =>
   obtain ⟨t,e⟩:=r1
   subst e
   exact .cons n t (ih r2)
section
variable {X:Cx} {e:Expr} {te:TE} {lo hi:Option Expr} {tl th:TO} {pos p2:Pos}
theorem vV:PO X none xk:=by
 intro pins s σ H Q I h
 rw [evalPart_none]
 exact wpAny_pure ⟨none,H,I,.none,h⟩
theorem wY (h:PE X e te):PO X (some e) (A8 te):=by
 intro pins s σ H Q I hw
 rw [evalPart_some]
 refine thn (h pins s σ H _ I hw) fun u s1 ⟨x,H1,I1,r1,q1⟩=>?_
 obtain ⟨i,rfl,q⟩:=q1
 obtain ⟨t,rfl⟩:=r1
 exact ⟨some i,H1,I1,.int i t,q⟩
def SlR (X:Cx) (r:V->Option Int->Option Int->Hp->VK->Prop):Prop :=
 ∀ (pins:List (Addr × Obj)) (s:Shared) (σ:St) (H:Hp) (x:V) (v vl vu:Value) (lo hi:Option Int) (sl:Addr) (Q:VK),Inv X pins σ H s->RelV x v->s.heap.IsSliceOf sl vl vu .none->IsPart vl lo->IsPart vu hi->r x lo hi H Q ->
  ∃ T id,typeLookup (.type T) "__getitem__" = pure (some (.builtin id))/\s.TypeIs v T/\wpAny (model X.prog X.w) X.A (getItem v (.ref sl)) (EP X pins σ Q) X.xe s
theorem SlR.or {r r':V->Option Int->Option Int->Hp->VK->Prop} (h:SlR X r) (h':SlR X r'):SlR X (fun x lo hi H Q=>r x lo hi H Q\/r' x lo hi H Q):=by
 intro pins s σ H x v vl vu lo hi sl Q I rx hs pl pu q
 rcases q with q | q
 ·exact h pins s σ H x v vl vu lo hi sl Q I rx hs pl pu q
 ·exact h' pins s σ H x v vl vu lo hi sl Q I rx hs pl pu q
def tSl (r:V->Option Int->Option Int->Hp->VK->Prop) (te:TE) (tl th:TO):TE:=fun σ H Q=>te σ H fun x H1=>tl σ H1 fun l H2=>th σ H2 fun u H3=>r x l u H3 Q
theorem tR {r:V->Option Int->Option Int->Hp->VK->Prop} (hr:SlR X r) (he:PE X e te) (hl:PO X lo tl) (hu:PO X hi th):PE X (.Subscript e (.Slice lo hi none p2) pos) (tSl r te tl th):=by
 intro pins s σ H Q I h
 refine Subscript_ (thn (he pins s σ H _ I h) fun v s1 ⟨x,H1,I1,r1,q1⟩=>?_)
 refine wpAny_Slice (thn (hl pins s1 σ H1 _ I1 q1) fun vl s2 ⟨l,H2,I2,pl,q2⟩=>thn (hu pins s2 σ H2 _ I2 q2) fun vu s3 ⟨u,H3,I3,pu,q3⟩=>?_)
 rw [evalPart_none]
 refine wpAny_pure ?_
 have I4:Inv X pins σ H3 { s3 with heap:=s3.heap.push { cls:=.type "slice",data:=.fields #[vl,vu,.none] } }:=I3.kept (t':=s3.toks) fun b ob q=>Heap.get?_push_of_some _ q
 obtain ⟨T,id,hT,ht,hg⟩:=hr pins { s3 with heap:=s3.heap.push { cls:=.type "slice",data:=.fields #[vl,vu,.none] } } σ H3 x v vl vu l u s3.heap.objs.size Q I4 r1 (Heap.IsSliceOf.new ..) pl pu q3
 show wpAny (model X.prog X.w) X.A (subscriptTail e (.Slice lo hi none p2) v (.ref s3.heap.objs.size)) (EP X pins σ Q) X.xe { s3 with heap:=s3.heap.push { cls:=.type "slice",data:=.fields #[vl,vu,.none] } }
 exact tail_any (ops:=[.ref s3.heap.objs.size,v]) ht hT hg (by with_unfolding_all rfl)
def gr (xs:List V) (lo hi:Option Int):List V:=(xs.drop (HT.sIx xs.length 0 lo)).take (HT.sIx xs.length xs.length hi-HT.sIx xs.length 0 lo)
theorem ji (xs:List V) (lo hi:Option Int):(gr xs lo hi).length<=xs.length:=by
 unfold gr
 rw [List.length_take,List.length_drop]
 omega
def Br (K:PySem.W.Frag):V->Option Int->Option Int->Hp->VK->Prop:=fun x lo hi H Q=>∃ a xs,x=.ref a/\SqT K H a xs /\
 ¬ (HT.sIx xs.length 0 lo=0/\HT.sIx xs.length xs.length hi=xs.length)/\∀ p,H p=none->Q (.ref p) (upd H p (.tup (gr xs lo hi)))
theorem yD:SlR X (Br X.K):=by
 intro pins s σ H x v vl vu lo hi sl Q I rx hs pl pu h
 obtain ⟨a,xs,rfl,hx,hw,q⟩:=h
 cases rx
 obtain ⟨its,r,ht,hz⟩:=I.tuple hx
 have hlen:its.toArray.size=xs.length:=by rw [List.size_toArray]; exact r.length.symm
 refine ⟨"tuple",_,PyProof.Rows.slot_tuple_getitem.lookup,ht.typeIs,?_⟩
 refine HT.je ht hs pl pu (by rw [hlen]; exact hw) ?_ (by rw [hlen]; exact hz)
 rw [hlen]
 refine ⟨.ref s.heap.objs.size,_,I.laid (t':=s.toks) (o:=.tup (gr xs lo hi)) (fun b ob q=>Heap.get?_push_of_some _ q) (Nat.le_refl _) ?_,rfl,q _ (I.hok.fresh (Nat.le_refl _))⟩
 exact ⟨Nat.le_trans (ji xs lo hi) hz,_,(r.drop (HT.sIx xs.length 0 lo)).take (HT.sIx xs.length xs.length hi-HT.sIx xs.length 0 lo),IsTup.new _ _⟩
def Az (K:PySem.W.Frag):R2:=fun x y H Q=>∃ a b xs ys,x=.ref a/\y=.ref b/\SqT K H a xs/\SqT K H b ys/\xs≠[]/\xs.length+ys.length<=sizeLine /\
 (ys=[]->Q (.ref a) H)/\(ys≠[]->∀ p,H p=none->Q (.ref p) (upd H p (.tup (xs ++ ys))))
theorem Vals.kY {xs:List V} {us:List Value} (r:Vals xs us):us=[]↔xs=[]:=by
 cases r with
 | nil=>simp
 | cons _ _=>simp
theorem wg:OpR X (binaryOp .Add) (Az X.K):=by
 intro pins s σ H x y v u Q I rx ry h
 obtain ⟨a,b,xs,ys,rfl,rfl,ha,hb,hx,hz,q1,q2⟩:=h
 cases rx
 cases ry
 obtain ⟨its,r1,p1,_⟩:=I.tuple ha
 obtain ⟨its2,r2,p2,_⟩:=I.tuple hb
 refine HT.vW p1 p2 (fun z=>hx (r1.kY.mp z)) (fun z=>⟨.ref a,H,I,rfl,q1 (r2.kY.mp z)⟩) (fun z=>?_) (by rw [<- r1.length,<- r2.length]; exact hz)
 refine ⟨.ref s.heap.objs.size,_,I.laid (t':=s.toks) (o:=.tup (xs ++ ys)) (fun b ob q=>Heap.get?_push_of_some _ q) (Nat.le_refl _) ?_,rfl,q2 (fun w=>z (r2.kY.mpr w)) _ (I.hok.fresh (Nat.le_refl _))⟩
 exact ⟨by rw [List.length_append]; exact hz,_,r1.append r2,IsTup.new _ _⟩
end
end L2
namespace L2
open PySem PySem.Spec PyProof.Rows
def ixN (n:Nat) (i:Int):Option Nat:=if 0<=i then (if i<n then some i.toNat else none) else if -(n:Int)<=i then some (i+n).toNat else none
def atI {α:Type} (xs:List α) (i:Int):Option α:=(ixN xs.length i).bind fun j=>xs[j]?
theorem ou {n:Nat} {i:Int} {j:Nat} (h:ixN n i=some j):seqIndex? i n=some j/\j<n/\-(n:Int)<=i/\i<n:=by
 unfold ixN at h
 by_cases h0:0<=i
 ·rw [if_pos h0] at h
  by_cases h1:i<n
  ·rw [if_pos h1] at h
   have e:i.toNat=j:=Option.some.inj h
   exact ⟨by rw [seqIndex_of h0 h1,e],by omega,by omega,h1⟩
  ·rw [if_neg h1] at h; cases h
 ·rw [if_neg h0] at h
  by_cases h1:-(n:Int)<=i
  ·rw [if_pos h1] at h
   have e:(i+n).toNat=j:=Option.some.inj h
   exact ⟨by rw [seqIndex_neg (by omega) h1,e],by omega,h1,by omega⟩
  ·rw [if_neg h1] at h; cases h
theorem kG {α:Type} {xs:List α} {i:Int} {v:α} (h:atI xs i=some v):∃ j,seqIndex? i xs.length=some j/\xs[j]?=some v/\j<xs.length/\-(xs.length:Int)<=i/\i<xs.length:=by
 unfold atI at h
 cases e:ixN xs.length i with
 | none=>rw [e] at h; cases h
 | some j =>
  rw [e] at h
  obtain ⟨h1,h2,h3,h4⟩:=ou e
  exact ⟨j,h1,h,h2,h3,h4⟩
def oO (b:Expr):Prop:=∀ o i,subscripted b false o i=operate [o,i] (getItem o i)
def IxR (X:Cx) (r:R2):Prop :=
 ∀ (value slice:Expr) (pins:List (Addr × Obj)) (s:Shared) (σ:St) (H:Hp) (x y:V) (v u:Value) (Q:VK),Inv X pins σ H s->RelV x v->RelV y u->r x y H Q ->
  subscripted slice false v u=operate [v,u] (getItem v u)->wpAny (model X.prog X.w) X.A (subscriptTail value slice v u) (EP X pins σ Q) X.xe s
def MtR (X:Cx) (id:String) (r:V->List V->Hp->VK->Prop):Prop :=
 ∀ (pins:List (Addr × Obj)) (s:Shared) (σ:St) (H:Hp) (x:V) (xs:List V) (v:Value) (us:List Value) (Q:VK),Inv X pins σ H s->RelV x v->Vals xs us->r x xs H Q ->
  wpAny (model X.prog X.w) X.A (call (.builtin id) (v :: us)) (EP X pins σ Q) X.xe s
section
variable {X:Cx} {a b:Expr} {ta tb:TE} {pos:Pos}
theorem IxR.or {r r':R2} (h:IxR X r) (h':IxR X r'):IxR X (fun x y H Q=>r x y H Q\/r' x y H Q):=by
 intro value slice pins s σ H x y v u Q I rx ry q hs
 rcases q with q | q
 ·exact h value slice pins s σ H x y v u Q I rx ry q hs
 ·exact h' value slice pins s σ H x y v u Q I rx ry q hs
theorem AJ {r:R2} (hr:IxR X r) (ha:PE X a ta) (hb:PE X b tb) (hs:oO b):PE X (.Subscript a b pos) (tOp r ta tb):=by
 intro pins s σ H Q I h
 exact Subscript_ (ug ha hb I h fun v u s2 x y H2 I2 rx ry q=>hr a b pins s2 σ H2 x y v u Q I2 rx ry q (hs _ _))
def zR (K:PySem.W.Frag):R2:=fun x y H Q=>∃ p xs i v,x=.ref p/\y=.int i/\SqL K H p xs/\atI xs i=some v/\Q v H
def yP (K:PySem.W.Frag):R2:=fun x y H Q=>∃ p xs i v,x=.ref p/\y=.int i/\SqT K H p xs/\atI xs i=some v/\Q v H
def zd:R2:=fun x y H Q=>∃ z i c,x=.str z/\y=.int i/\z.length<=sizeLine/\atI z.cps.toList i=some c/\Q (.str ⟨#[c]⟩) H
theorem vD:IxR X (zR X.K):=by
 intro value slice pins s σ H x y v u Q I rx ry h hs
 obtain ⟨p,xs,i,z,rfl,rfl,hq,he,q⟩:=h
 cases rx
 obtain ⟨t,rfl⟩:=ry
 obtain ⟨its,r,pl,hz⟩:=I.list hq
 obtain ⟨j,h1,h2,h3,h4,h5⟩:=kG he
 obtain ⟨w,ew,rw'⟩:=r.get h2
 have hl:=r.length
 have hn:=fM
 have fin:EP X pins σ Q w s:=⟨z,H,I,rw',q⟩
 by_cases h0:0<=i
 ·have hj:i.toNat=j:=by
   rw [seqIndex_of h0 h5] at h1
   exact Option.some.inj h1
  exact item_listR pl.isList h0 (by omega) (by rw [hj]; simpa using ew) fin hs
 ·have hj:(i+(its.toArray.size:Int)).toNat=j:=by
   rw [seqIndex_neg (by omega) h4] at h1
   rw [List.size_toArray,<- hl]
   exact Option.some.inj h1
  exact subscriptTail_builtinR (x:=w) pl.isList.typeIs slot_list_getitem.lookup
   (wpAny_getItem_list_neg (Q:=fun r s'=>r=w/\EP X pins σ Q r s') pl.isList (by omega) (by rw [List.size_toArray] <;> omega) (by omega) (by rw [hj]; simpa using ew) ⟨rfl,fin⟩) hs
theorem cM:IxR X (yP X.K):=by
 intro value slice pins s σ H x y v u Q I rx ry h hs
 obtain ⟨p,xs,i,z,rfl,rfl,hq,he,q⟩:=h
 cases rx
 obtain ⟨t,rfl⟩:=ry
 obtain ⟨its,r,pl,hz⟩:=I.tuple hq
 obtain ⟨j,h1,h2,h3,h4,h5⟩:=kG he
 obtain ⟨w,ew,rw'⟩:=r.get h2
 have hl:=r.length
 have hn:=fM
 have fin:EP X pins σ Q w s:=⟨z,H,I,rw',q⟩
 exact subscriptTail_builtinR (x:=w) pl.typeIs slot_tuple_getitem.lookup
  (getItem_tuple (j:=j) (Q:=fun r s'=>r=w/\EP X pins σ Q r s') pl (by omega) (by omega) (by rw [List.size_toArray,<- hl]; exact h1) (by simpa using ew) ⟨rfl,fin⟩) hs
theorem yC:IxR X zd:=by
 intro value slice pins s σ H x y v u Q I rx ry h hs
 obtain ⟨z,i,c,rfl,rfl,hz,he,q⟩:=h
 obtain ⟨t,rfl⟩:=rx
 obtain ⟨t',rfl⟩:=ry
 obtain ⟨j,h1,h2,h3,h4,h5⟩:=kG he
 have hl:z.cps.toList.length=z.length:=by simp [Str.length]
 rw [hl] at h1 h4 h5
 have hn:=fM
 exact tail_any (typeIs_str s z t) slot_str_getitem.lookup (getItem_str (c:=c) (by
  have e1:decide (i < -(2 ^ 63:Int))=false:=decide_eq_false (by omega)
  have e2:decide (i≥2 ^ 63)=false:=decide_eq_false (by omega)
  rw [e1,e2,Bool.or_false]) (by rw [h1]; simpa using h2) ⟨.str ⟨#[c]⟩,H,I.tok _,⟨_,rfl⟩,q⟩) hs
def rIx (K:PySem.W.Frag):R2:=fun x y H Q=>zR K x y H Q\/yP K x y H Q\/zd x y H Q
theorem Ab:IxR X (rIx X.K):=vD.or (cM.or yC)
theorem pI (its:List Value) (n j:Nat) (u:Value):Obj.mapSeq (·.setIfInBounds j u) { cls:=.type "list",data:=.seq its.toArray n }={ cls:=.type "list",data:=.seq (its.set j u).toArray n }:=by
 simp [Obj.mapSeq]
theorem Inv.lst {pins:List (Addr × Obj)} {σ:St} {H:Hp} {s:Shared} {p:Addr} {xs:List V} (I:Inv X pins σ H s) (h:H p=some (.lst xs)) :
  ∃ (its:List Value) (n:Nat),Vals xs its/\s.heap.get? p=some { cls:=.type "list",data:=.seq its.toArray n }/\xs.length<=sizeLine:=by
 obtain ⟨z,its,n,r,e⟩:=I.hok p _ h
 exact ⟨its,n,r,e,z⟩
theorem Inv.zx {pins:List (Addr × Obj)} {σ:St} {H:Hp} {s:Shared} {p:Addr} {xs ys:List V} {its its':List Value} {n n':Nat} {f:Obj->Obj} (I:Inv X pins σ H s) (h:H p=some (.lst xs))
  (ho:s.heap.get? p=some { cls:=.type "list",data:=.seq its.toArray n }) (hf:f { cls:=.type "list",data:=.seq its.toArray n }={ cls:=.type "list",data:=.seq its'.toArray n' }) (r:Vals ys its') (hz:ys.length<=sizeLine) (t:Nat) :
  Inv X pins σ (upd H p (.lst ys)) { s with heap:=s.heap.update p f,toks:=t }:=by
 have e:(s.heap.update p f).get? p=some { cls:=.type "list",data:=.seq its'.toArray n' }:=by
  rw [Heap.get?_update_self f ho (by rw [hf] <;> rfl),hf]
 refine I.write (x:=p) (e:=p) (by rw [h]; trivial) (.inl rfl) (fun b u hb q=>(Heap.get?_update_other _ _ (Ne.symm hb)).trans q) ⟨_,e⟩ ?_
 exact ⟨hz,its',n',r,e⟩
def pE:V->V->V->Hp->(Hp->Prop)->Prop:=fun o i v H Q=>∃ p xs k j,o=.ref p/\i=.int k/\H p=some (.lst xs)/\ixN xs.length k=some j/\Q (upd H p (.lst (xs.set j v)))
theorem set_list:yp X pE:=by
 intro pins s σ H o i v ov iv u Q I ro ri rv h
 obtain ⟨p,xs,k,j,rfl,rfl,hp,hj,q⟩:=h
 cases ro
 obtain ⟨t,rfl⟩:=ri
 obtain ⟨its,n,r,ho,hz⟩:=I.lst hp
 obtain ⟨h1,h2,h3,h4⟩:=ou hj
 have hl:=r.length
 have hn:=fM
 have I':Inv X pins σ (upd H p (.lst (xs.set j v))) { s with heap:=s.heap.update p (Obj.mapSeq (·.setIfInBounds j u)) } :=
  I.zx hp ho (pI its n j u) (r.set rv j) (by rw [List.length_set]; exact hz) s.toks
 by_cases h0:0<=k
 ·have hk:k.toNat=j:=by
   rw [seqIndex_of h0 h4] at h1
   exact Option.some.inj h1
  exact PySem.W.ki_setAt ho h0 (by omega) (by rw [List.size_toArray,<- hl]; exact h4) (by rw [hk]; exact ⟨_,I',q⟩)
 ·have hk:(k+(its.toArray.size:Int)).toNat=j:=by
   rw [seqIndex_neg (by omega) h3] at h1
   rw [List.size_toArray,<- hl]
   exact Option.some.inj h1
  exact PySem.W.ki_setBack ho (by omega) (by rw [List.size_toArray,<- hl]; exact h3) (by omega) (by rw [hk]; exact ⟨_,I',q⟩)
theorem nU (lo hi:Option Int) (n:Nat):(sliceBounds lo hi none n).1=((HT.sIx n 0 lo:Nat):Int)/\(sliceBounds lo hi none n).2.1=((HT.sIx n n hi:Nat):Int)/\(sliceBounds lo hi none n).2.2=1:=by
 refine ⟨?_,?_,rfl⟩
 ·cases lo with
  | none=>simp [sliceBounds,HT.sIx]
  | some i =>
   simp only [sliceBounds,HT.sIx,Option.getD_none,show (1:Int) > 0 by decide,if_true]
   by_cases h:i<0
   ·simp only [h,if_true] <;> omega
   ·simp only [h,if_false] <;> omega
 ·cases hi with
  | none=>simp [sliceBounds,HT.sIx]
  | some i =>
   simp only [sliceBounds,HT.sIx,Option.getD_none,show (1:Int) > 0 by decide,if_true]
   by_cases h:i<0
   ·simp only [h,if_true] <;> omega
   ·simp only [h,if_false] <;> omega
theorem lI (its:List Value) (lo hi:Option Int):slicePick its.toArray lo hi none=((its.drop (HT.sIx its.length 0 lo)).take (HT.sIx its.length its.length hi-HT.sIx its.length 0 lo)).toArray:=by
 obtain ⟨h1,h2,h3⟩:=nU lo hi its.toArray.size
 unfold slicePick
 rw [h1,h2,h3]
 simp only [sliceRange_one,pick_run,List.size_toArray] <;> rfl
def BK (K:PySem.W.Frag):V->Option Int->Option Int->Hp->VK->Prop:=fun x lo hi H Q=>∃ a xs,x=.ref a/\SqL K H a xs/\∀ p,H p=none->Q (.ref p) (upd H p (.lst (gr xs lo hi)))
theorem wG:SlR X (BK X.K):=by
 intro pins s σ H x v vl vu lo hi sl Q I rx hs pl pu h
 obtain ⟨a,xs,rfl,hx,q⟩:=h
 cases rx
 obtain ⟨its,r,ht,hz⟩:=I.list hx
 have hlen:=r.length
 refine ⟨"list",_,slot_list_getitem.lookup,ht.isList.typeIs,?_⟩
 refine wpAny_getItem_list_slice ht.isList hs pl pu .none (by simp) ?_ (by rw [List.size_toArray] <;> omega)
 rw [lI,<- hlen]
 refine ⟨.ref s.heap.objs.size,_,I.laid (t':=s.toks) (o:=.lst (gr xs lo hi)) (fun b ob q=>Heap.get?_push_of_some _ q) (Nat.le_refl _) ?_,rfl,q _ (I.hok.fresh (Nat.le_refl _))⟩
 exact ⟨Nat.le_trans (ji xs lo hi) hz,_,0,(r.drop (HT.sIx xs.length 0 lo)).take (HT.sIx xs.length xs.length hi-HT.sIx xs.length 0 lo),Heap.get?_push_size _ rfl⟩
theorem aZ.or {f:Value} {r r':List V->Hp->VK->Prop} (h:aZ X f r) (h':aZ X f r'):aZ X f (fun xs H Q=>r xs H Q\/r' xs H Q):=by
 intro pins s σ H xs us Q I rs q
 rcases q with q | q
 ·exact h pins s σ H xs us Q I rs q
 ·exact h' pins s σ H xs us Q I rs q
theorem nH:aZ X (.type "list") (fun xs H Q=>∃ p ys,xs=[.ref p]/\(SqL X.K H p ys\/SqT X.K H p ys)/\∀ l,H l=none->Q (.ref l) (upd H l (.lst ys))):=by
 intro pins s σ H xs us Q I r h
 obtain ⟨p,ys,rfl,hq,q⟩:=h
 obtain ⟨u,rfl,rx⟩:=vals1 r
 cases rx
 have fin:∀ (its:List Value),Vals ys its->ys.length<=sizeLine->∀ (h':Heap) (c':Nat),(∀ b o',s.heap.get? b=some o'->h'.get? b=some o') ->
   h'.get? s.heap.objs.size=some { cls:=.type "list",dict:=none,data:=.seq its.toArray c',slots:=#[] }->EP X pins σ Q (.ref s.heap.objs.size) { s with heap:=h' }:=fun its r' hz h' c' kp e =>
  ⟨.ref s.heap.objs.size,_,I.laid (t':=s.toks) kp (Nat.le_refl _) (show aQ X.prog X.w _ h' _ (.lst ys) from ⟨hz,its,c',r',e⟩),rfl,q _ (I.hok.fresh (Nat.le_refl _))⟩
 rcases hq with hq | hq
 ·obtain ⟨its,r',pl,hz⟩:=I.list hq
  have hlen:=r'.length
  obtain ⟨o,ho,hc,n,hd⟩:=pl.isList
  exact call_list_seq p (.inl rfl) ho hc hd (fun h' c' kp e=>fin its r' hz h' c' kp e) (by simp only [List.size_toArray] <;> omega)
 ·obtain ⟨its,r',pl,hz⟩:=I.tuple hq
  have hlen:=r'.length
  obtain ⟨o,ho,hc,n,hd⟩:=pl
  exact call_list_seq p (.inr rfl) ho hc hd (fun h' c' kp e=>fin its r' hz h' c' kp e) (by simp only [List.size_toArray] <;> omega)
theorem lK:aZ X (.type "tuple") (fun xs H Q=>∃ p ys,xs=[.ref p]/\((SqL X.K H p ys/\∀ l,H l=none->Q (.ref l) (upd H l (.tup ys)))\/(SqT X.K H p ys/\Q (.ref p) H))):=by
 intro pins s σ H xs us Q I r h
 obtain ⟨p,ys,rfl,h⟩:=h
 obtain ⟨u,rfl,rx⟩:=vals1 r
 cases rx
 rcases h with ⟨hq,q⟩ | ⟨hq,q⟩
 ·obtain ⟨its,r',pl,hz⟩:=I.list hq
  have hlen:=r'.length
  refine call_tuple_list pl.isList (fun h' kp=>?_) (by simp only [List.size_toArray] <;> omega)
  have I1:Inv X pins σ H { s with heap:=h' }:=I.kept (t':=s.toks) kp
  have I2:Inv X pins σ (upd H h'.objs.size (.tup ys)) { s with heap:=h'.push { cls:=.type "tuple",data:=.seq its.toArray } } :=
   I1.laid (t':=s.toks) (fun b o e=>Heap.get?_push_of_some _ e) (Nat.le_refl _) (show aQ X.prog X.w _ _ _ (.tup ys) from ⟨hz,its,r',IsTup.new _ _⟩)
  exact ⟨.ref h'.objs.size,_,I2,rfl,q _ (I1.hok.fresh (Nat.le_refl _))⟩
 ·obtain ⟨its,r',pl,hz⟩:=I.tuple hq
  exact call_tuple_same pl ⟨.ref p,H,I,rfl,q⟩
def tyV (K:PySem.W.Frag) (T:String) (x:V) (H:Hp):Prop:=match x with
 | .str _=>T = "str"
 | .int _=>T = "int"
 | .ref p=>(T = "list" /\ ∃ xs,SqL K H p xs)\/(T = "tuple" /\ ∃ o,K.lookup p=some o/\o.cls=.type "tuple" /\ o.dict=none) \/
   (T = "dict" /\ ((∃ kvs,H p=some (.dK kvs))\/∃ kvs,H p=some (.dT kvs)))\/(T = "set" /\ ∃ S n,H p=some (.set S n))
 | _=>False
theorem rE {pins:List (Addr × Obj)} {σ:St} {H:Hp} {s:Shared} {T:String} {x:V} {v:Value} (I:Inv X pins σ H s) (r:RelV x v) (ty:tyV X.K T x H) :
  s.TypeIs v T/\∀ a,v=.ref a->∃ ob,s.heap.get? a=some ob/\ob.dict=none:=by
 cases x with
 | str z =>
  obtain ⟨t,rfl⟩:=r
  cases (show T = "str" from ty)
  exact ⟨typeIs_str s z t,fun _ e=>nomatch e⟩
 | int i =>
  obtain ⟨t,rfl⟩:=r
  cases (show T = "int" from ty)
  exact ⟨typeIs_int s i t,fun _ e=>nomatch e⟩
 | ref p =>
  cases r
  rcases ty with ⟨rfl,xs,hq⟩ | ⟨rfl,o,hk,hc,hd⟩ | ⟨rfl,hk⟩ | ⟨rfl,S,n,hk⟩
  ·obtain ⟨its,_,pl,_⟩:=I.list hq
   refine ⟨pl.isList.typeIs,fun a e=>?_⟩
   cases e
   obtain ⟨o,n,e,c,hd,_⟩:=pl
   exact ⟨o,e,hd⟩
  ·refine ⟨⟨o,I.kIn p o hk,hc⟩,fun a e=>?_⟩
   cases e
   exact ⟨o,I.kIn _ o hk,hd⟩
  ·have z:∃ o,s.heap.get? p=some o/\o.ExactDict:=by
    rcases hk with ⟨kvs,hk⟩ | ⟨kvs,hk⟩
    ·obtain ⟨_,_,_,_,o,_,_,e,ex,_⟩:=I.hok p _ hk
     exact ⟨o,e,ex⟩
    ·obtain ⟨_,_,_,_,o,_,_,e,ex,_⟩:=I.hok p _ hk
     exact ⟨o,e,ex⟩
   obtain ⟨o,e,ex⟩:=z
   refine ⟨⟨o,e,ex.1⟩,fun a e2=>?_⟩
   cases e2
   exact ⟨o,e,ex.2.1⟩
  ·obtain ⟨o,_,_,_,e,ex,_⟩:=I.hok p _ hk
   refine ⟨⟨o,e,ex.1⟩,fun a e2=>?_⟩
   cases e2
   exact ⟨o,e,ex.2.1⟩
 | _=>exact False.elim ty
def uI (K:PySem.W.Frag) (T:String) (r:V->List V->Hp->VK->Prop) (to:TE):TE:=fun σ H Q=>to σ H fun x H1=>tyV K T x H1/\r x [] H1 Q
def tBM (K:PySem.W.Frag) (T:String) (r:V->List V->Hp->VK->Prop) (to:TE) (t:TA):TE:=fun σ H Q=>to σ H fun x H1=>tyV K T x H1/\t σ H1 fun xs H2=>r x xs H2 Q
variable {o e:Expr} {es:List Expr} {to:TE} {t:TA} {name:Str} {apos cpos:Pos} {T id:String} {r:V->List V->Hp->VK->Prop}
theorem qH (pa:PlainAttrs T) (slot:Slot T name id) (hty:typeOf (.builtin id)=pure (.type "method_descriptor")) (hm:MtR X id r) (ho:PE X o to)
  (hbase:attributeBase o name X.env (eval o X.env)=eval o X.env:=by rfl) (hline:(apos.endLine == cpos.line)=true:=by rfl):PE X (.Call (.Attribute o name apos) [] [] cpos) (uI X.K T r to):=by
 intro pins s σ H Q I h
 refine wpAny_Call_method0_late hbase hline (thn (ho pins s σ H _ I h) fun v s1 ⟨x,H1,I1,r1,ty,q1⟩=>?_)
 obtain ⟨h1,h2⟩:=rE I1 r1 ty
 exact ⟨T,id,pa,slot,hty,h1,h2,Calls.callWith_builtin rfl (PySem.evalArgs_none (hm pins s1 σ H1 x [] v [] Q I1 r1 .nil q1))⟩
theorem A6 (pa:PlainAttrs T) (slot:Slot T name id) (hty:typeOf (.builtin id)=pure (.type "method_descriptor")) (hm:MtR X id r) (ho:PE X o to) (ha:PA X (e :: es) t)
  (hbase:attributeBase o name X.env (eval o X.env)=eval o X.env:=by rfl)
  (hfew:((backTo cpos (starEach (e :: es) X.env)).all (fun x=>!x.1) && (backToKw cpos (keywordEach [] X.env)).all (fun x=>x.1.isSome)
   && decide ((e :: es).length+([]:List Keyword).length+(if ([]:List Keyword).isEmpty then 0 else 1)<30))=true:=by rfl)
  (hline:(apos.endLine == cpos.line)=true:=by rfl) (hs:starEach (e :: es) X.env=(false,eval e X.env) :: starEach es X.env:=by rfl) (hplain:(backTo cpos (starEach es X.env)).any (·.1)=false:=by rfl) :
  PE X (.Call (.Attribute o name apos) (e :: es) [] cpos) (tBM X.K T r to t):=by
 intro pins s σ H Q I h
 refine wpAny_Call_method_late hbase hfew hline rfl (thn (ho pins s σ H _ I h) fun v s1 ⟨x,H1,I1,r1,ty,q1⟩=>?_)
 obtain ⟨h1,h2⟩:=rE I1 r1 ty
 refine ⟨T,id,pa,slot,hty,h1,h2,?_⟩
 have hA:=ha cpos pins s1 σ H1 _ I1 q1
 rw [hs] at hA ⊢
 refine Calls.callWith_builtin (by show (false || (backTo cpos (starEach es X.env)).any (·.1))=false; rw [hplain] <;> rfl) (Calls.evalArgs_plain ?_)
 exact thn hA fun us s2 ⟨vs,H2,I2,r2,q2⟩=>hm pins s2 σ H2 x vs v us Q I2 r1 r2 q2
/- xs.append(e),list.index on a module's tuple .. are MtR facts of 06m -/
end
end L2
namespace L2
open PySem PySem.Spec PyProof.Rows
def MtM (X:Cx) (id:String) (r:V->List V->Hp->VK->Prop):Prop :=
 ∀ (pins:List (Addr × Obj)) (s:Shared) (σ:St) (H:Hp) (x:V) (xs:List V) (v:Value) (us:List Value) (Q:VK),Inv X pins σ H s->RelV x v->Vals xs us->r x xs H Q ->
  wpAny (model X.prog X.w) X.A (call (.builtin id) (v :: us)) (EP X pins σ Q) X.xe s
theorem Vals.one:∀ {x:V} {us:List Value},Vals [x] us->∃ u,us=[u]/\RelV x u
 | _,_,.cons r .nil=>⟨_,rfl,r⟩
theorem Vals.zero:∀ {us:List Value},Vals [] us->us=[]
 | _,.nil=>rfl
theorem Vals.dropLast {xs:List V} {us:List Value} (h:Vals xs us):Vals xs.dropLast us.dropLast:=by
 induction h with
 | nil=>exact .nil
 | cons r t ih =>
  cases t with
  | nil=>exact .nil
  | cons q t'=>exact .cons r ih
theorem Vals.reverse {xs:List V} {us:List Value} (h:Vals xs us):Vals xs.reverse us.reverse:=by
 induction h with
 | nil=>exact .nil
 | cons r t ih=>rw [List.reverse_cons,List.reverse_cons]; exact Vals.append ih (.cons r .nil)
theorem Vals.rep {xs:List V} {us:List Value} (h:Vals xs us):∀ k:Nat,Vals (List.replicate k xs).flatten (List.replicate k us).flatten
 | 0=>.nil
 | k+1=>by
  rw [List.replicate_succ,List.replicate_succ,List.flatten_cons,List.flatten_cons]
  exact Vals.append h (Vals.rep h k)
theorem pR {α:Type} (l:List α):l.eraseIdx (l.length-1)=l.dropLast:=by
 induction l with
 | nil=>rfl
 | cons a r ih =>
  cases r with
  | nil=>rfl
  | cons b r =>
   have e:(a :: b :: r).length-1=((b :: r).length-1)+1:=by
    have h1:(a :: b :: r).length=r.length+2:=rfl
    have h2:(b :: r).length=r.length+1:=rfl
    omega
   rw [e,List.eraseIdx_cons_succ,ih]
   all_goals rfl
theorem foldl_rep (its:List Value):∀ (k:Nat) (acc:List Value),
  List.foldl (fun x1 x2=>x1 ++ x2) acc.toArray (List.replicate k its.toArray)=(acc ++ (List.replicate k its).flatten).toArray
 | 0,acc=>by simp
 | k+1,acc=>by
  have e:acc.toArray ++ its.toArray=(acc ++ its).toArray:=by simp
  have e2:(acc ++ its) ++ (List.replicate k its).flatten=acc ++ (List.replicate (k+1) its).flatten:=by
   rw [List.replicate_succ,List.flatten_cons,List.append_assoc]
  rw [<- e2,<- foldl_rep its k (acc ++ its),<- e,List.replicate_succ,List.foldl_cons]
section
variable {X:Cx} {pins:List (Addr × Obj)} {σ:St} {H:Hp} {s:Shared} {l b:Addr} {xs ys zs:List V}
theorem Inv.y9 {its its':List Value} {n:Nat} {f:Array Value->Array Value} {t':Nat} (I:Inv X pins σ H s) (hH:H l=some (.lst xs))
  (e:s.heap.get? l=some { cls:=.type "list",data:=.seq its.toArray n }) (hf:f its.toArray=its'.toArray) (hv:Vals ys its') (hz:ys.length<=sizeLine) :
  Inv X pins σ (upd H l (.lst ys)) { s with heap:=s.heap.update l (Obj.mapSeq f),toks:=t' }:=by
 have q:=PySem.IsL.update e f
 rw [hf] at q
 refine I.write (x:=l) (e:=l) (by rw [hH]; exact trivial) (.inl rfl) (fun b' u hb hu=>(Heap.get?_update_other s.heap (Obj.mapSeq f) (Ne.symm hb)).trans hu) ⟨_,q⟩ ?_
 exact ⟨hz,its',_,hv,q⟩
theorem Inv.zN {its:List Value} {t':Nat} (I:Inv X pins σ H s) (hv:Vals ys its) (hz:ys.length<=sizeLine) :
  Inv X pins σ (upd H s.heap.objs.size (.lst ys)) { s with heap:=s.heap.push { cls:=.type "list",data:=.seq its.toArray },toks:=t' } :=
 I.laid (fun _ _ q=>Heap.get?_push_of_some _ q) (Nat.le_refl _) ⟨hz,its,0,hv,Heap.get?_push_size _ rfl⟩
theorem Inv.fresh (I:Inv X pins σ H s):H s.heap.objs.size=none:=I.hok.fresh (Nat.le_refl _)
theorem Inv.mN (I:Inv X pins σ H s) (hH:H l=some (.lst xs)):xs.length<=sizeLine/\∃ (its:List Value) (n:Nat),Vals xs its/\xs.length=its.length/\s.heap.get? l=some { cls:=.type "list",data:=.seq its.toArray n }:=by
 obtain ⟨z,its,n,r,e⟩:=I.hok l _ hH
 exact ⟨z,its,n,r,r.length,e⟩
theorem tY {n:Nat} (h:n<=sizeLine):Builtin.List.listTooLong n=false:=by
 unfold Builtin.List.listTooLong
 exact decide_eq_false (by omega)
end
section
variable {X:Cx}
def oQ:V->List V->Hp->VK->Prop:=fun x vs H Q=>∃ l xs y,x=.ref l/\vs=[y]/\H l=some (.lst xs)/\xs.length<sizeLine/\Q .non (upd H l (.lst (xs ++ [y])))
theorem l6:MtM X "list.append" oQ:=by
 intro pins s σ H x vs v us Q I rx rv h
 obtain ⟨l,xs,y,rfl,rfl,hH,hz,q⟩:=h
 cases rx
 obtain ⟨u,rfl,ru⟩:=rv.one
 obtain ⟨z,its,n,r,hl,e⟩:=I.mN hH
 refine call_meets F.slot_list_append ⟨_,e,rfl⟩ F.entry_list_append (F.args_list_append_2 _ _) (PySem.list_append l its.toArray n u (by rw [List.size_toArray]; omega)) ⟨e,?_⟩
 refine ⟨.non,_,I.y9 (its':=its ++ [u]) hH e (by simp) (r.append (.cons ru .nil)) ?_,rfl,q⟩
 rw [List.length_append,List.length_singleton]
 omega
def uk:V->List V->Hp->VK->Prop:=fun x vs H Q=>∃ l xs y,x=.ref l/\vs=[]/\H l=some (.lst xs)/\xs[xs.length-1]?=some y/\Q y (upd H l (.lst xs.dropLast))
theorem r0:MtM X "list.pop" uk:=by
 intro pins s σ H x vs v us Q I rx rv h
 obtain ⟨l,xs,y,rfl,rfl,hH,hy,q⟩:=h
 cases rx
 have hus:=rv.zero
 subst hus
 obtain ⟨z,its,n,r,hl,e⟩:=I.mN hH
 obtain ⟨u,hu,ru⟩:=r.get hy
 have hy':its.toArray[its.toArray.size-1]?=some u:=by
  show its.toArray[its.length-1]?=some u
  rw [<- Array.getElem?_toList,<- hl]
  exact hu
 refine call_meets F.slot_list_pop ⟨_,e,rfl⟩ F.entry_list_pop (F.args_list_pop_1 _) (MeetsSeq.list_pop_last l its.toArray n u hy' (by rw [List.size_toArray]; omega)) ⟨e,?_⟩
 refine ⟨y,_,I.y9 (its':=its.dropLast) hH e ?_ r.dropLast ?_,ru,q⟩
 ·show its.toArray.eraseIdxIfInBounds (its.toArray.size-1)=its.dropLast.toArray
  rw [List.size_toArray,List.eraseIdxIfInBounds_toArray,pR]
 ·rw [List.length_dropLast]
  omega
def BS:R2:=fun x y H Q=>∃ l b xs zs,x=.ref l/\y=.ref b/\H l=some (.lst xs)/\H b=some (.lst zs)/\xs.length+zs.length<=sizeLine/\∀ p,H p=none->Q (.ref p) (upd H p (.lst (xs ++ zs)))
theorem yd:OpR X (binaryOp .Add) BS:=by
 intro pins s σ H x y v u Q I rx ry h
 obtain ⟨l,b,xs,zs,rfl,rfl,hH,hB,hz,q⟩:=h
 cases rx
 cases ry
 obtain ⟨z,its,n,r,hl,e⟩:=I.mN hH
 obtain ⟨z2,its2,n2,r2,hl2,e2⟩:=I.mN hB
 refine PySem.P.add_list e e2 ?_ (by rw [List.size_toArray,List.size_toArray]; omega)
 have ea:its.toArray ++ its2.toArray=(its ++ its2).toArray:=by simp
 rw [ea]
 exact ⟨.ref _,_,I.zN (t':=s.toks) (r.append r2) (by rw [List.length_append]; omega),rfl,q _ I.fresh⟩
def BC:R2:=fun x y H Q=>∃ l k xs,x=.ref l/\y=.int k/\H l=some (.lst xs)/\-(2 ^ 63)<=k/\k<2 ^ 63/\xs.length*k.toNat<=sizeLine /\
 ∀ p,H p=none->Q (.ref p) (upd H p (.lst (List.replicate k.toNat xs).flatten))
theorem len_rep {α:Type} (xs:List α) (k:Nat):(List.replicate k xs).flatten.length=k*xs.length:=by
 induction k with
 | zero=>simp
 | succ k ih=>rw [List.replicate_succ,List.flatten_cons,List.length_append,ih,Nat.succ_mul,Nat.add_comm]
theorem Aa:OpR X (binaryOp .Mult) BC:=by
 intro pins s σ H x y v u Q I rx ry h
 obtain ⟨l,k,xs,rfl,rfl,hH,h1,h2,hz,q⟩:=h
 cases rx
 obtain ⟨t,rfl⟩:=ry
 obtain ⟨z,its,n,r,hl,e⟩:=I.mN hH
 have hlen:its.toArray.size*k.toNat<=sizeLine:=by rw [List.size_toArray,<- hl]; exact hz
 have hcap:¬ its.toArray.size*k.toNat > (2 ^ 63-1) / 8:=by
  have:(sizeLine:Nat)<=(2 ^ 63-1) / 8:=by decide
  omega
 have hfit:¬ (!Builtin.List.listFitsIndex k)=true:=by
  rw [fitsIndex_both h1 h2]
  exact Bool.false_ne_true
 have hlong:¬ Builtin.List.listTooLong (its.toArray.size*k.toNat)=true:=by
  rw [tY hlen]
  exact Bool.false_ne_true
 have hnew:List.foldl (fun x1 x2=>x1 ++ x2) #[] (List.replicate (if its.toArray.isEmpty=true then 0 else k.toNat) its.toArray)=(List.replicate k.toNat its).flatten.toArray:=by
  have f0:∀ m:Nat,List.foldl (fun x1 x2=>x1 ++ x2) #[] (List.replicate m its.toArray)=(List.replicate m its).flatten.toArray:=fun m=>by
   have:=foldl_rep its m []
   rw [List.nil_append] at this
   exact this
  rw [f0]
  cases its with
  | nil=>simp
  | cons a r'=>rw [if_neg (by simp)]
 refine wpAny_binaryOp_repeat_ref (T := "list") (U := "int") (by decide) ⟨_,e,rfl⟩ (fun s'=>typeIs_int s' k t) noFill_list_mul F.fills_int_mul F.slot_int_rmul repeat_list F.slot_int_index.lookup
  (call_meets F.slot_int_rmul (typeIs_int s k t) F.entry_int_rmul (F.args_int_rmul_2 _ _) (int___rmul___int_list k t l its.toArray n)
   ⟨e,rfl,⟨_,e,rfl⟩,call_meets F.slot_list_mul ⟨_,e,rfl⟩ F.entry_list_mul (F.args_list_mul_2 _ _) (AutoListH.list___mul___list_int_3 l its.toArray n k t hfit hcap hlong) ⟨e,?_⟩⟩)
 rw [hnew]
 exact ⟨.ref _,_,I.zN (t':=s.toks) (r.rep k.toNat) (by rw [len_rep,Nat.mul_comm]; exact hz),rfl,q _ I.fresh⟩
end
section
variable {prog:Program} {w:World} {A:Around} {E:Value->Shared->Prop} {s:Shared}
set_option maxRecDepth 100000 in
end
section
variable {X:Cx}
end
end L2
namespace L2
open PySem PySem.Spec PyProof.Rows
section
variable {κ:Type} [DecidableEq κ]
def dz (kvs:List (κ × V)) (k:κ):Option V:=(kvs.find? fun kv=>decide (kv.1=k)).map (·.2)
def putK (kvs:List (κ × V)) (k:κ) (v:V):List (κ × V) :=
 if (kvs.any fun kv=>decide (kv.1=k))=true then kvs.map (fun kv=>if kv.1=k then (kv.1,v) else kv) else kvs ++ [(k,v)]
theorem gU {p:κ × V} {r:List (κ × V)} {k:κ} (e:p.1=k):dz (p :: r) k=some p.2:=by simp [dz,List.find?_cons,e]
theorem gS {p:κ × V} {r:List (κ × V)} {k:κ} (e:¬ p.1=k):dz (p :: r) k=dz r k:=by simp [dz,List.find?_cons,e]
theorem mr (k:κ):∀ kvs:List (κ × V),(kvs.any fun kv=>decide (kv.1=k))=(dz kvs k).isSome
 | []=>rfl
 | p :: r=>by
  rw [List.any_cons]
  by_cases e:p.1=k
  ·simp only [gU e,decide_eq_true e,Bool.true_or,Option.isSome_some]
  ·rw [gS e,decide_eq_false e,Bool.false_or]; exact mr k r
theorem jf (kvs:List (κ × V)) (k:κ) (v:V):(putK kvs k v).length<=kvs.length+1:=by
 unfold putK
 split
 ·rw [List.length_map]; omega
 ·rw [List.length_append,List.length_cons,List.length_nil]; omega
theorem eU.dZ {o:Option V} {u:Option Value} (r:eU o u):o.isSome=u.isSome:=by
 cases o with
 | none=>cases u with
  | none=>rfl
  | some _=>exact (show False from r).elim
 | some _=>cases u with
  | none=>exact (show False from r).elim
  | some _=>rfl
theorem KV.val {kvs:List (κ × V)} {vs:List (κ × Value)} (r:KV kvs vs) (k:κ):eU (dz kvs k) (valueAt vs k):=by
 unfold KV at r
 induction r with
 | nil=>exact True.intro
 | @cons p q ps qs h t ih =>
  obtain ⟨h1,h2⟩:=h
  by_cases e:p.1=k
  ·have e':q.1=k:=h1.symm.trans e
   have b:valueAt (q :: qs) k=some q.2:=by simp [valueAt,List.find?_cons,e']
   rw [gU e,b]; exact h2
  ·have e':¬ q.1=k:=fun z=>e (h1.trans z)
   have b:valueAt (q :: qs) k=valueAt qs k:=by simp [valueAt,List.find?_cons,e']
   rw [gS e,b]; exact ih
theorem KV.any {kvs:List (κ × V)} {vs:List (κ × Value)} (r:KV kvs vs) (k:κ):(kvs.any fun kv=>decide (kv.1=k))=vs.any fun kv=>decide (kv.1=k):=by
 unfold KV at r
 induction r with
 | nil=>rfl
 | cons h t ih=>rw [List.any_cons,List.any_cons,ih,h.1]
theorem KV.sO {kvs:List (κ × V)} {vs:List (κ × Value)} (r:KV kvs vs) (k:κ) {y:V} {u:Value} (ry:RelV y u) :
  KV (kvs.map fun kv=>if kv.1=k then (kv.1,y) else kv) (vs.map fun kv=>if kv.1=k then (kv.1,u) else kv):=by
 unfold KV at r ⊢
 induction r with
 | nil=>exact .nil
 | @cons p q ps qs h t ih =>
  rw [List.map_cons,List.map_cons]
  refine .cons ?_ ih
  obtain ⟨h1,h2⟩:=h
  by_cases e:p.1=k
  ·rw [if_pos e,if_pos (h1.symm.trans e)]; exact ⟨h1,ry⟩
  ·rw [if_neg e,if_neg (fun z=>e (h1.trans z))]; exact ⟨h1,h2⟩
theorem KV.put {kvs:List (κ × V)} {vs:List (κ × Value)} (r:KV kvs vs) (k:κ) {y:V} {u:Value} (ry:RelV y u):KV (putK kvs k y) (stored vs k u):=by
 unfold putK stored
 rw [r.any k]
 by_cases e:(vs.any fun kv=>decide (kv.1=k))=true
 ·rw [if_pos e,if_pos e]; exact r.sO k ry
 ·rw [if_neg e,if_neg e]; exact Paired.snoc r ⟨rfl,ry⟩
theorem KV.length {kvs:List (κ × V)} {vs:List (κ × Value)} (r:KV kvs vs):kvs.length=vs.length:=Paired.length r
end
theorem jZ {P:Program} {w:World} {k:Key} {u:Value} (r:RelV (kV k) u):(bw P w).is k u=true:=by
 cases k with
 | inl i=>obtain ⟨t,e⟩:=(show ∃ t,u=Value.int i t from r); subst e; exact oj P w i t
 | inr x=>obtain ⟨t,e⟩:=(show ∃ t,u=Value.str x t from r); subst e; exact nZ P w x t
theorem l9 {P:Program} {w:World}:∀ {ks:List Key} {us:List Value},Vals (ks.map kV) us->ItemsAre (bw P w) ks us
 | [],_,r=>by rw [List.map_nil] at r; cases r; exact .nil
 | k :: ks,_,r=>by
  rw [List.map_cons] at r
  cases r with
  | cons h t=>exact .cons (jZ h) (l9 t)
abbrev KT (H:Hp):List (List Key × V)->List (List Key × Addr × Value)->Prop:=Paired fun p q=>p.1=q.1/\H q.2.1=some (.tup (p.1.map kV))/\RelV p.2 q.2.2
theorem KT.val {H:Hp} {kvs:List (List Key × V)} {xs:List (List Key × Addr × Value)} (r:KT H kvs xs) (k:List Key):eU (dz kvs k) ((atKey xs k).map (·.2)):=by
 induction r with
 | nil=>exact True.intro
 | @cons p q ps qs h t ih =>
  obtain ⟨h1,_,h2⟩:=h
  by_cases e:p.1=k
  ·have e':q.1=k:=h1.symm.trans e
   have b:atKey (q :: qs) k=some q.2:=by simp [atKey,List.find?_cons,e']
   rw [gU e,b]; exact h2
  ·have e':¬ q.1=k:=fun z=>e (h1.trans z)
   have b:atKey (q :: qs) k=atKey qs k:=by simp [atKey,List.find?_cons,e']
   rw [gS e,b]; exact ih
theorem KT.sO {H:Hp} {kvs:List (List Key × V)} {xs:List (List Key × Addr × Value)} (r:KT H kvs xs) (k:List Key) {y:V} {u:Value} (ry:RelV y u) :
  KT H (kvs.map fun kv=>if kv.1=k then (kv.1,y) else kv) (xs.map (putAt k u)):=by
 induction r with
 | nil=>exact .nil
 | @cons p q ps qs h t ih =>
  rw [List.map_cons,List.map_cons]
  refine .cons ?_ ih
  obtain ⟨h1,h2,h3⟩:=h
  unfold putAt
  by_cases e:p.1=k
  ·rw [if_pos e,if_pos (h1.symm.trans e)]; exact ⟨h1,h2,ry⟩
  ·rw [if_neg e,if_neg (fun z=>e (h1.trans z))]; exact ⟨h1,h2,h3⟩
theorem KT.put {H:Hp} {kvs:List (List Key × V)} {xs:List (List Key × Addr × Value)} (r:KT H kvs xs) (k:List Key) {b:Addr} {y:V} {u:Value} (hb:H b=some (.tup (k.map kV))) (ry:RelV y u) :
  KT H (putK kvs k y) (storedH xs k b u):=by
 have e:(kvs.any fun kv=>decide (kv.1=k))=(atKey xs k).isSome:=by
  rw [mr,(r.val k).dZ,Option.isSome_map]
 unfold putK storedH
 rw [e]
 by_cases q:(atKey xs k).isSome=true
 ·rw [if_pos q,if_pos q]; exact r.sO k ry
 ·rw [if_neg q,if_neg q]; exact Paired.snoc r ⟨rfl,hb,ry⟩
theorem KT.keeps {H H':Hp} {kvs:List (List Key × V)} {xs:List (List Key × Addr × Value)} (r:KT H kvs xs) (ht:∀ b ys,H b=some (.tup ys)->H' b=some (.tup ys)):KT H' kvs xs :=
 Paired.uv r fun _ _ z=>⟨z.1,ht _ _ z.2.1,z.2.2⟩
section
variable {P:Program} {w:World} {H:Hp} {h:Heap} {a:Addr}
theorem uZ {u:HO} (ok:HOk P w H h) (e:Rd H a u):aQ P w H h a u:=e.ok ok
theorem iV {kvs:List (Key × V)} (ok:HOk P w H h) (e:Rd H a (.dK kvs)):kvs.length<=sizeLine/\(a == sysModules)=false/\∃ vs,KV kvs vs/\h.DictOf (bw P w) a vs :=
 show aQ P w H h a (.dK kvs) from uZ ok e
theorem AW {kvs:List (Key × V)} (ok:HOk P w H h) (e:H a=some (.dK kvs)):kvs.length<=sizeLine/\(a == sysModules)=false/\∃ vs,KV kvs vs/\h.DictOf (bw P w) a vs:=iV ok (.inl e)
theorem ie {ks:List Key} (ok:HOk P w H h) (e:H a=some (.tup (ks.map kV))):(tupleKind (bw P w)).is h ks a:=by
 obtain ⟨_,its,r,o,h1,h2,n,h3⟩:=(show aQ P w H h a (.tup (ks.map kV)) from ok a _ e)
 exact ⟨o,its.toArray,n,h1,h2,h3,by simpa using l9 r⟩
theorem jE {kvs:List (List Key × V)} (ok:HOk P w H h) (e:Rd H a (.dT kvs)):kvs.length<=sizeLine/\(a == sysModules)=false /\
  ∃ xs,KT H kvs xs/\h.DictOfH (tupleKind (bw P w)) a xs:=by
 obtain ⟨z,y,xs,r,o,es,ep,h1,h2,h3,h4,h5⟩:=(show aQ P w H h a (.dT kvs) from uZ ok e)
 refine ⟨z,y,xs,r,o,es,ep,h1,h2,h3,h4,fun x hx=>?_,h5⟩
 have all:∀ {l:List (List Key × V)} {m:List (List Key × Addr × Value)},KT H l m->∀ x∈m,(tupleKind (bw P w)).is h x.1 x.2.1:=by
  intro l m q
  induction q with
  | nil=>intro x hx; exact nomatch hx
  | @cons p q ps qs hq t ih =>
   intro x hx
   rcases List.mem_cons.mp hx with e | hx
   ·subst e
    exact ie ok (by rw [<- hq.1]; exact hq.2.1)
   ·exact ih x hx
 exact all r x hx
theorem Bc {kvs:List (List Key × V)} (ok:HOk P w H h) (e:H a=some (.dT kvs)):kvs.length<=sizeLine/\(a == sysModules)=false /\
  ∃ xs,KT H kvs xs/\h.DictOfH (tupleKind (bw P w)) a xs:=jE ok (.inl e)
end
def dh (H:Hp) (a:Addr) (y:V) (r:Option V):Prop :=
 (∃ kvs k,Rd H a (.dK kvs)/\y=kV k/\r=dz kvs k)\/∃ kvs k b,Rd H a (.dT kvs)/\y=.ref b/\H b=some (.tup (k.map kV))/\r=dz kvs k
def iq (H:Hp) (a:Addr) (y v:V) (H':Hp):Prop :=
 (∃ kvs k,H a=some (.dK kvs)/\y=kV k/\kvs.length<sizeLine/\H'=upd H a (.dK (putK kvs k v))) \/
 ∃ kvs k b,H a=some (.dT kvs)/\y=.ref b/\H b=some (.tup (k.map kV))/\kvs.length<sizeLine/\H'=upd H a (.dT (putK kvs k v))
theorem dh.k {H:Hp} {a:Addr} {kvs:List (Key × V)} {k:Key} (e:H a=some (.dK kvs)):dh H a (kV k) (dz kvs k):=.inl ⟨kvs,k,.inl e,rfl,rfl⟩
theorem dh.t {H:Hp} {a b:Addr} {kvs:List (List Key × V)} {k:List Key} (e:H a=some (.dT kvs)) (eb:H b=some (.tup (k.map kV))):dh H a (.ref b) (dz kvs k):=.inr ⟨kvs,k,b,.inl e,rfl,eb,rfl⟩
theorem iq.k {H:Hp} {a:Addr} {kvs:List (Key × V)} {k:Key} {v:V} (e:H a=some (.dK kvs)) (hl:kvs.length<sizeLine):iq H a (kV k) v (upd H a (.dK (putK kvs k v))):=.inl ⟨kvs,k,e,rfl,hl,rfl⟩
theorem iq.t {H:Hp} {a b:Addr} {kvs:List (List Key × V)} {k:List Key} {v:V} (e:H a=some (.dT kvs)) (eb:H b=some (.tup (k.map kV))) (hl:kvs.length<sizeLine) :
  iq H a (.ref b) v (upd H a (.dT (putK kvs k v))):=.inr ⟨kvs,k,b,e,rfl,eb,hl,rfl⟩
section
variable {X:Cx} {pins:List (Addr × Obj)} {σ:St} {H:Hp} {s:Shared} {a:Addr} {y v:V} {u r:Value} {o:Option V} {A:Around} {E:Value->Shared->Prop}
theorem Inv.big (I:Inv X pins σ H s):sysModules<s.heap.objs.size:=by
 have h:mainGlobals<s.heap.objs.size:=(I.mod.glob.keeps I.bk).lt
 exact Nat.lt_trans (by decide) h
theorem qe {Q:Value->Shared->Prop} (hu:A.units+1<cLine) (I:Inv X pins σ H s) (g:dh H a y (some v)) (ry:RelV y u) (h:∀ w' s',Inv X pins σ H s'->RelV v w'->Q w' s') :
  wpAny (model X.prog X.w) A (getItem (.ref a) u) Q E s:=by
 rcases g with ⟨kvs,k,e,ey,l⟩ | ⟨kvs,k,b,e,ey,eb,l⟩
 ·subst ey
  obtain ⟨z,hd,vs,rel,dd⟩:=iV I.hok e
  obtain ⟨w',hw,rw'⟩:=eU.some_of (v:=v) (o:=valueAt vs k) (by rw [l]; exact rel.val k)
  exact wpAny_getItem_of (jZ ry) dd.mapOf hw (h w' _ (I.tok _) rw')
 ·subst ey
  cases (show u=Value.ref b from ry)
  obtain ⟨z,hd,xs,rel,dd⟩:=jE I.hok e
  obtain ⟨w',hw,rw'⟩:=eU.some_of (v:=v) (o:=(atKey xs k).map (·.2)) (by rw [l]; exact rel.val k)
  obtain ⟨p,hp,hp2⟩:=Option.map_eq_some_iff.mp hw
  refine wpAny_getItem_heap (tupleKind_room_in1 hu) (ie I.hok eb) dd hp ?_
  rw [hp2]
  exact h w' _ (I.tok _) rw'
theorem Cg {Q:Value->Shared->Prop} (hu:A.units+1<cLine) (I:Inv X pins σ H s) (g:dh H a y o) (ry:RelV y u) (h:∀ s',Inv X pins σ H s'->Q (.bool o.isSome) s') :
  wpAny (model X.prog X.w) A (compareOp .In u (.ref a)) Q E s:=by
 rcases g with ⟨kvs,k,e,ey,l⟩ | ⟨kvs,k,b,e,ey,eb,l⟩
 ·subst ey
  obtain ⟨z,hd,vs,rel,dd⟩:=iV I.hok e
  refine wpAny_in_of (jZ ry) hd dd.mapOf ?_
  rw [<- (rel.val k).dZ,<- l]
  exact h _ (I.tok _)
 ·subst ey
  cases (show u=Value.ref b from ry)
  obtain ⟨z,hd,xs,rel,dd⟩:=jE I.hok e
  refine wpAny_in_heap (tupleKind_room_in1 hu) (ie I.hok eb) hd dd ?_
  have q:=(rel.val k).dZ
  rw [Option.isSome_map] at q
  rw [<- q,<- l]
  exact h _ (I.tok _)
theorem vR {Q:Value->Shared->Prop} (hu:A.units+1<cLine) (I:Inv X pins σ H s) (g:dh H a y o) (ry:RelV y u) (h:∀ s',Inv X pins σ H s'->Q (.bool (!o.isSome)) s') :
  wpAny (model X.prog X.w) A (compareOp .NotIn u (.ref a)) Q E s:=by
 rcases g with ⟨kvs,k,e,ey,l⟩ | ⟨kvs,k,b,e,ey,eb,l⟩
 ·subst ey
  obtain ⟨z,hd,vs,rel,dd⟩:=iV I.hok e
  refine wpAny_notIn_of (jZ ry) hd dd.mapOf ?_
  rw [<- (rel.val k).dZ,<- l]
  exact h _ (I.tok _)
 ·subst ey
  cases (show u=Value.ref b from ry)
  obtain ⟨z,hd,xs,rel,dd⟩:=jE I.hok e
  refine wpAny_notIn_heap (tupleKind_room_in1 hu) (ie I.hok eb) hd dd ?_
  have q:=(rel.val k).dZ
  rw [Option.isSome_map] at q
  rw [<- q,<- l]
  exact h _ (I.tok _)
theorem oY {h':Heap} {t':Nat} {ob:HO} (I:Inv X pins σ H s) (mu:Mut (H a)) (hs:Heap.SameBut a s.heap h') (he:∃ q,h'.get? a=some q) (new:aQ X.prog X.w (upd H a ob) h' a ob) :
  Inv X pins σ (upd H a ob) { s with heap:=h',toks:=t' } :=
 I.write (x:=a) (e:=a) mu (.inl rfl) (fun b q hb z=>(hs.2 b hb).trans z) he new
theorem yu {P:Program} {w:World} {H':Hp} {h':Heap} {kvs:List (Key × V)} {vs:List (Key × Value)} (z:kvs.length<=sizeLine) (hd:(a == sysModules)=false) (rel:KV kvs vs) (dd:h'.DictOf (bw P w) a vs) :
  aQ P w H' h' a (.dK kvs):=⟨z,hd,vs,rel,dd⟩
theorem rL {H':Hp} {Q:Unit->Shared->Prop} (hu:A.units+1<cLine) (I:Inv X pins σ H s) (g:iq H a y v H') (ry:RelV y u) (rv:RelV v r) (h:∀ s',Inv X pins σ H' s'->Q () s') :
  wpAny (model X.prog X.w) A (setItem (.ref a) u r) Q E s:=by
 rcases g with ⟨kvs,k,e,ey,l,eH⟩ | ⟨kvs,k,b,e,ey,eb,l,eH⟩
 ·subst ey eH
  obtain ⟨z,hd,vs,rel,dd⟩:=AW I.hok e
  have hz:vs.length<=sizeLine:=by rw [<- rel.length]; exact z
  have hl:(putK kvs k v).length<=sizeLine:=by have:=jf kvs k v; omega
  refine wpAny_setItem_pairs (hsz:=hz) (jZ ry) dd fun h' dd' hs=>h _ ?_
  have he:∃ q,h'.get? a=some q:=let ⟨q,_,_,hq,_⟩:=dd'; ⟨q,hq⟩
  exact oY I (by rw [e]; exact True.intro) hs he (yu hl hd (rel.put k rv) dd')
 ·subst ey eH
  cases (show u=Value.ref b from ry)
  obtain ⟨z,hd,xs,rel,dd⟩:=Bc I.hok e
  have hz:xs.length<=sizeLine:=by rw [<- Paired.length rel]; exact z
  have hl:(putK kvs k v).length<=sizeLine:=by have:=jf kvs k v; omega
  refine wpAny_setItem_heap (hsz:=hz) (tupleKind_room_in1 hu) (ie I.hok eb) dd fun h' dd' hs=>h _ ?_
  obtain ⟨q,es,ep,hq,h2,h3,h4,_,h5⟩:=dd'
  refine oY I (by rw [e]; exact True.intro) hs ⟨q,hq⟩ ⟨hl,hd,_,(rel.put k eb rv).keeps fun c ys ec=>?_,q,es,ep,hq,h2,h3,h4,h5⟩
  rw [aD (pV ec e (fun z=>nomatch z))]
  exact ec
end
section
variable {X:Cx} {pins:List (Addr × Obj)} {σ:St} {H:Hp} {s:Shared} {a:Addr} {kvs:List (Key × V)} {k:Key} {u:Value} {A:Around} {E:Value->Shared->Prop}
theorem AN {Q:Value->Shared->Prop} (I:Inv X pins σ H s) (e:Rd H a (.dK kvs)) (h:∀ t s',Inv X pins σ H s'->Q (.int kvs.length t) s'):wpAny (model X.prog X.w) A (call (.builtin "len") [.ref a]) Q E s:=by
 obtain ⟨z,hd,vs,rel,dd⟩:=iV I.hok e
 refine call_len_dict hd dd (by rw [<- rel.length]; rw [sizeLine_eq] at z; omega) ?_
 rw [<- rel.length]
 exact h _ _ (I.tok _)
end
def pH (i:Expr):Prop:=∀ ov iv,subscripted i false ov iv=operate [ov,iv] (getItem ov iv)
theorem wa {prog:Program} {w:World} {A:Around} {E:Value->Shared->Prop} {s:Shared} {env:Env} {value slice:Expr} {pos:Pos} {T id:String} {Q:Value->Shared->Prop}
  (hl:typeLookup (.type T) "__getitem__" = pure (some (.builtin id))) (hs:pH slice)
  (h:wpAny (model prog w) A (eval value env) (fun o s₁=>wpAny (model prog w) A (eval slice env) (fun i s₂=>s₂.TypeIs o T/\wpAny (model prog w) A (getItem o i) Q E s₂) E s₁) E s) :
  wpAny (model prog w) A (eval (.Subscript value slice pos) env) Q E s:=by
 refine Subscript_ (wpAny_mono h (fun o s₁ h₁=>wpAny_mono h₁ (fun i s₂ h₂=>?_) fun _ _ x=>x) fun _ _ x=>x)
 obtain ⟨hT,h₂⟩:=h₂
 unfold subscriptTail
 refine wpAny_bind ?_
 rw [getitemInPython_of_ne hT.not_modules]
 refine wpAny_bind (wpAny_specialOf hT hl ?_)
 have fin:wpAny (model prog w) A (subscripted slice false o i) (fun r s₃=>wpAny (model prog w) A (letTemporaryGo value o r >>= fun _=>pure r) Q E s₃) E s₂:=by
  rw [hs o i]
  exact wpAny_operating (wpAny_mono h₂ (fun r s₃ h₃=>wpAny_bind (wpAny_letTemporaryGo (wpAny_pure h₃))) fun _ _ x=>x)
 first
  | exact wpAny_pure (wpAny_bind fin)
  | exact wpAny_bind (wpAny_pure (wpAny_bind fin))
  | exact wpAny_bind fin
theorem oq {X:Cx} {pins:List (Addr × Obj)} {σ:St} {H:Hp} {s:Shared} {a:Addr} {y:V} {o:Option V} (I:Inv X pins σ H s) (g:dh H a y o):s.TypeIs (.ref a) "dict" := by
 rcases g with ⟨kvs,k,e,_,_⟩ | ⟨kvs,k,b,e,_,_,_⟩
 ·obtain ⟨_,_,vs,_,dd⟩:=iV I.hok e
  exact dd.typeIs
 ·obtain ⟨_,_,xs,_,dd⟩:=jE I.hok e
  exact dd.typeIs
def Av (td ty:TE):TE:=fun σ H Q=>td σ H fun x H1=>ty σ H1 fun y H2=>∃ a v,x=.ref a/\dh H2 a y (some v)/\Q v H2
def x9 (ty td:TE):TE:=fun σ H Q=>ty σ H fun y H1=>td σ H1 fun x H2=>∃ a o,x=.ref a/\dh H2 a y o/\Q (.bl o.isSome) H2
def oS (ty td:TE):TE:=fun σ H Q=>ty σ H fun y H1=>td σ H1 fun x H2=>∃ a o,x=.ref a/\dh H2 a y o/\Q (.bl (!o.isSome)) H2
def pJ (td ty tv:TE):TS:=fun D σ H=>tv σ H fun v H1=>td σ H1 fun x H2=>ty σ H2 fun y H3=>∃ a H4,x=.ref a/\iq H3 a y v H4/\D.nx σ H4
section
variable {X:Cx} {o i e value:Expr} {pos pos' tpos:Pos} {td ty tv:TE}
theorem vY (hu:X.A.units+1<cLine) (ho:PE X o td) (hi:PE X i ty) (hs:pH i):PE X (.Subscript o i pos) (Av td ty):=by
 intro pins s σ H Q I h
 refine wa PySem.F.slot_dict_getitem.lookup hs (thn (ho pins s σ H _ I h) fun u s1 ⟨x,H1,I1,rx,q1⟩=>thn (hi pins s1 σ H1 _ I1 q1) fun iv s2 ⟨y,H2,I2,ry,a,v,ex,g,q2⟩=>?_)
 subst ex
 obtain rfl:u=Value.ref a:=rx
 exact ⟨oq I2 g,qe hu I2 g ry fun w' s3 I3 rw'=>⟨v,H2,I3,rw',q2⟩⟩
theorem yU (hu:X.A.units+1<cLine) (hi:PE X i ty) (ho:PE X o td):PC X .In i o (x9 ty td):=by
 intro pins s σ H Q I h
 refine thn (hi pins s σ H _ I h) fun iv s1 ⟨y,H1,I1,ry,q1⟩=>thn (ho pins s1 σ H1 _ I1 q1) fun u s2 ⟨x,H2,I2,rx,a,ov,ex,g,q2⟩=>?_
 subst ex
 obtain rfl:u=Value.ref a:=rx
 exact Cg hu I2 g ry fun s3 I3=>⟨.bl ov.isSome,H2,I3,rfl,q2⟩
theorem q0 (hu:X.A.units+1<cLine) (hi:PE X i ty) (ho:PE X o td):PC X .NotIn i o (oS ty td):=by
 intro pins s σ H Q I h
 refine thn (hi pins s σ H _ I h) fun iv s1 ⟨y,H1,I1,ry,q1⟩=>thn (ho pins s1 σ H1 _ I1 q1) fun u s2 ⟨x,H2,I2,rx,a,ov,ex,g,q2⟩=>?_
 subst ex
 obtain rfl:u=Value.ref a:=rx
 exact vR hu I2 g ry fun s3 I3=>⟨.bl (!ov.isSome),H2,I3,rfl,q2⟩
theorem xc (hu:X.A.units+1<cLine) (ho:PE X o td) (hi:PE X i ty) (hv:PE X value tv) (hs:swapsWith value (some (.Subscript o i pos')) pos.line X.env=pure false) :
  PS X (.Assign [.Subscript o i pos'] value pos) (pJ td ty tv):=by
 intro pins s σ H D I h
 refine wpAny_Assign_Subscript (thn (hv pins s σ H _ I h) fun r s1 ⟨v,H1,I1,rv,q1⟩=>thn (ho pins s1 σ H1 _ I1 q1) fun u s2 ⟨x,H2,I2,rx,q2⟩=>thn (hi pins s2 σ H2 _ I2 q2) fun iv s3 ⟨y,H3,I3,ry,a,H4,ex,g,q3⟩=>?_) hs
 subst ex
 obtain rfl:u=Value.ref a:=rx
 exact rL hu I3 g ry rv fun s4 I4=>⟨σ,H4,I4,q3⟩
end
theorem tu {P:Program} {w:World} {H:Hp} (h:Heap) (hb:sysModules<h.objs.size):aQ P w H (h.push { cls:=.type "dict",data:=.dict #[] }) h.objs.size (.dK []) :=
 ⟨Nat.zero_le _,beq_eq_false_iff_ne.mpr (Ne.symm (Nat.ne_of_lt hb)),[],.nil,Heap.DictOf.new h⟩
theorem uq {P:Program} {w:World} {H:Hp} (h:Heap) (hb:sysModules<h.objs.size):aQ P w H (h.push { cls:=.type "dict",data:=.dict #[] }) h.objs.size (.dT []) :=
 ⟨Nat.zero_le _,beq_eq_false_iff_ne.mpr (Ne.symm (Nat.ne_of_lt hb)),[],.nil,_,#[],0,Heap.get?_push_size _ rfl,⟨rfl,rfl,rfl⟩,rfl,rfl,List.nodup_nil⟩
def x5:TE:=fun _ H Q=>∀ p,H p=none->Q (.ref p) (upd H p (.dK []))
def yw:TE:=fun _ H Q=>∀ p,H p=none->Q (.ref p) (upd H p (.dT []))
section
variable {X:Cx} {pos:Pos}
theorem sF:PE X (.Dict [] [] pos) x5:=fun pins s σ H Q I h =>
 wpAny_Dict_empty ⟨.ref s.heap.objs.size,_,I.laid (a:=s.heap.objs.size) (o:=.dK []) (t':=s.toks) (fun _ _ q=>Heap.get?_push_of_some _ q) (Nat.le_refl _) (tu s.heap I.big),rfl,h _ (I.hok.fresh (Nat.le_refl _))⟩
theorem ur:PE X (.Dict [] [] pos) yw:=fun pins s σ H Q I h =>
 wpAny_Dict_empty ⟨.ref s.heap.objs.size,_,I.laid (a:=s.heap.objs.size) (o:=.dT []) (t':=s.toks) (fun _ _ q=>Heap.get?_push_of_some _ q) (Nat.le_refl _) (uq s.heap I.big),rfl,h _ (I.hok.fresh (Nat.le_refl _))⟩
end
section
variable {X:Cx} {pins:List (Addr × Obj)} {σ:St} {H:Hp} {s:Shared} {a:Addr} {y d:V} {u r:Value} {o:Option V} {A:Around} {E:Value->Shared->Prop}
end
section
variable {X:Cx} {o e f:Expr} {apos cpos:Pos} {td ty tx:TE}
end
section
variable {X:Cx} {pins:List (Addr × Obj)} {σ:St} {H:Hp} {s:Shared} {a:Addr} {kvs:List (Key × V)} {A:Around} {E:Value->Shared->Prop}
end
section
variable {X:Cx} {pins:List (Addr × Obj)} {σ:St} {H:Hp} {s:Shared} {a:Addr} {y:V} {u:Value} {A:Around} {E:Value->Shared->Prop}
end
end L2
namespace Att
open PySem PySem.W PySem.Calls PyProof.Rows
theorem jU {P:Params} {h:Heap}:∀ (ns:List Int) (vs:List Value),WellAll P h vs (ns.map WData.int)->IntsAre vs ns:=by
 intro ns
 induction ns with
 | nil =>
  intro vs w
  rw [List.map_nil] at w
  cases w
  exact .nil
 | cons n ns ih =>
  intro vs w
  rw [List.map_cons] at w
  cases w with
  | cons a b =>
   cases a
   exact .cons _ _ (ih _ b)
theorem rj {l:OpenLaw} {n:Nat} (hn:l.most=some n) {P:Params} {h:Heap} {args:List WData} {vals:List Value}
  (hpre:l.row.toRowW.claim.pre args=true) (hwl:WellAll P h vals args) :
  ∃ a vs ns,vals=[Value.ref a]/\args=[WData.list (ns.map WData.int)]/\h.get? a=some { cls:=.type "list",data:=.seq vs.toArray }/\IntsAre vs ns/\ns.length<=n:=by
 have hsh:WShape.hasAll [] args [.list .int]=true:=(pre_splitW hpre).1
 have hc:l.pre.holds [] { args:=args }=true:=(pre_splitW hpre).2
 obtain ⟨d,r,rfl,h1,h2⟩:=hasAllW_cons hsh
 obtain rfl:=hasAllW_nil h2
 obtain ⟨xs,rfl,h3⟩:=hasW_list h1
 obtain ⟨ns,rfl⟩:=items_int h3
 have hlen:ns.length<=n:=by
  unfold OpenLaw.pre at hc
  have h4:(WTm.not (.lt (.lit (.int (n:Int))) (.len (.arg 0)))).holds [] { args:=[.list (ns.map .int)] }=true:=by
   have h4:=(holds_andW hc).1
   rw [hn] at h4
   exact h4
  have h5:=condW_of h4 (w_not (w_lt w_lit (w_len_list (w_arg rfl))))
  rw [List.length_map] at h5
  refine Nat.le_of_not_lt fun q=>?_
  have q':(n:Int)<((ns.length:Nat):Int):=by omega
  first
   | (rw [decide_eq_true q'] at h5; exact absurd h5 (by decide))
   | (simp at h5; omega)
 cases hwl with
 | cons w1 w2 =>
  cases w2
  cases w1 with
  | list ho hall=>exact ⟨_,_,ns,rfl,rfl,ho,jU ns _ hall,hlen⟩
theorem rQ (l:OpenLaw) (args:List WData):l.row.toRowW.claim.post args (.bool true) args=true :=
 postW_of (r:=l.row.toRowW) (X:=(true == true))
  (show WShape.has [] (.bool true) .bool=true by first | rfl | decide | simp [WShape.has,WShape.arms,WShape.armsAll])
  (show (WTm.eq .res (.lit (.bool true))).value [] { args:=args,res:=some (.bool true),after:=args }=some (.bool (true == true)) from w_eq_bool (w_res rfl) w_lit) rfl
theorem oa {l:OpenLaw} {n:Nat} {q:Program} {loose:List Str} {XP:(Str->Option Value)->Heap->Prop} {YP:World->Heap->Prop} {d:DefRec}
  (hn:l.most=some n) (hdf:d.params.defaults=[])
  (call:∀ (w:World) (s₀ s₁:Shared) (mg mb:Str->Option Value) (fa:Addr) (o:Obj) (pm cd doc:Value) (a:Addr) (vs:List Value) (ns:List Int),
   Ground q loose [] XP w s₀ mg mb s₁.heap->YP w s₁.heap ->
   s₁.heap.get? fa=some o->o.data=.func (docDef d.name d.params d.body d.scope pm cd doc)->s₁.heap.CodeRec cd d.name->mg d.name=some (.ref fa) ->
   s₁.heap.get? a=some { cls:=.type "list",data:=.seq vs.toArray }->IntsAre vs ns->ns.length<=n->s₁.gens=#[] ->
   codeAny (model l.prog w) callerA (.call (.ref fa) ⟨[.ref a],[]⟩) (fun r s'=>r=.ok (.ret (.bool true))/\OldK s₁.heap s'.heap/\s'.os=s₁.os/\AllBare s'.gens) s₁) :
  WalkO q loose XP YP l.row.toRowW d [] (fun f vs=>PySem.call f vs):=by
 intro w s₀ s₁ mg mb G Y fa o pm cd doc dV kV ho hd hcd hD hmg hg args vals as hpre hlay hrd hwl hlo
 obtain rfl:dV=.none:=Dflts.none hD hdf
 obtain rfl:kV=.none:=Dflts.noKw hD
 obtain ⟨a,vs,ns,rfl,rfl,hobj,hints,hlen⟩:=rj hn hpre hwl
 refine enter_call (codeAny_mono (call w s₀ s₁ mg mb fa o pm cd doc a vs ns G Y ho (fd_plain hd) hcd hmg hobj hints hlen hg) fun r s' hq=>?_)
 obtain ⟨rfl,h2,h3,h4⟩:=hq
 exact ⟨.inl ⟨.bool true,.bool true,[],rfl,fun _=>rfl,.bool true,rQ l _,fun _=>⟨List.Pairwise.nil,fun _ hm=>(nomatch hm)⟩⟩,h2,h3,h4⟩
section
variable {prog:Program} {w:World} {A:Around} {E:Value->Shared->Prop} {s:Shared} {K:Frag}
end
end Att
namespace L2
open PySem PySem.Spec PyProof.Rows
theorem iI:∀ {vs:List Value} {ns:List Int},IntsAre vs ns->Vals (ns.map V.int) vs
 | _,_,.nil=>.nil
 | _,_,.cons n t h=>.cons ⟨t,rfl⟩ (iI h)
def nq (H:Hp):Prop:=∀ b,H b=none\/∃ o xs,H b=some (.frz o (.lst xs))
theorem sG {P:Program} {w:World} {K:PySem.W.Frag} {mg mb:Str->Option Value} {CX:CXT} {k:Nat} {fa a:Addr} {fd:FuncData} {x:Str} {sp:Sp} {s₁:Shared} {vs:List Value} {ns:List Int}
  (KX:K.In s₁.heap) (hns:s₁.heap.Ns mainGlobals mg) (hb:s₁.heap.Ns builtinsNs mb) (hbb:∀ x:Str,x ≠ "__name__" -> mb x=bootBuiltins x) (hlim:s₁.heap.NoLimit) (hg:s₁.gens=#[])
  (ha:s₁.heap.get? a=some { cls:=.type "list",data:=.seq vs.toArray }) (hi:IntsAre vs ns) (hl:ns.length<=sizeLine) (hr:cP k callerA)
  (F:∀ base:Heap,K.In base->base.Ns mainGlobals mg->fC P w K mg base CX k fa fd [x] sp) (hbind:∀ (s:Shared) (u:Value),BindsTo s fd ⟨[u],[]⟩ [(x,u)])
  (hsp:∀ H:Hp,nq H->SqL K H a (ns.map V.int)->sp [.ref a] H (fun v _=>v=.bl true) fun _ _ _=>False)
  (hCX:∀ H e s',CX [] H s₁ (fun _ _ _=>False) e s'->False) :
  codeAny (model P w) callerA (.call (.ref fa) ⟨[.ref a],[]⟩) (fun r s'=>r=.ok (.ret (.bool true))/\OldK s₁.heap s'.heap/\s'.os=s₁.os/\AllBare s'.gens) s₁:=by
 have rv:=iI hi
 have lenV:=hi.length
 have core:∀ H:Hp,nq H->SqL K H a (ns.map V.int)->HOk P w H s₁.heap->(∀ b,H b≠none->b=a)->(H a≠none->K.lookup a=none) ->
   codeAny (model P w) callerA (.call (.ref fa) ⟨[.ref a],[]⟩) (fun r s'=>r=.ok (.ret (.bool true))/\OldK s₁.heap s'.heap/\s'.os=s₁.os/\AllBare s'.gens) s₁:=by
  intro H hO hS hok hA hK
  have base_of:∀ {b:Addr} {o:Obj},s₁.heap.get? b=some o->H b=none->(gy s₁.heap H).get? b=some o:=fun e n=>sH e n
  have noA:∀ {b:Addr} {o:Obj} {es:Array DictEntry} {ep:Nat},s₁.heap.get? b=some o->o.data=.dict es ep->H b=none:=fun {b o es ep} e d=>by
   cases q:H b with
   | none=>rfl
   | some u =>
    have e':b=a:=hA b (by rw [q]; simp)
    subst e'
    rw [ha] at e; cases e
    have d':Data.seq vs.toArray _=Data.dict es ep:=d
    cases d'
  have nsK:∀ {b:Addr} {m:Str->Option Value},s₁.heap.Ns b m->(gy s₁.heap H).Ns b m:=fun {b m} ⟨o,es,ep,e,d,r⟩=>⟨o,es,ep,base_of e (noA e d),d,r⟩
  have hKb:K.In (gy s₁.heap H):=fun b o e=>base_of (KX b o e) (by
   cases q:H b with
   | none=>rfl
   | some u =>
    have e':b=a:=hA b (by rw [q]; simp)
    subst e'
    rw [hK (by rw [q]; simp)] at e; cases e)
  have hM:Mod K mg (gy s₁.heap H):=⟨hKb,nsK hns,⟨mb,nsK hb,hbb⟩,let ⟨mc,h1,h2⟩:=hlim; ⟨mc,nsK h1,h2⟩⟩
  have e0:pK P w K mg (gy s₁.heap H) callerA [] s₁ H:=⟨rfl,hM,fun b o e=>xf e,Nat.le_of_eq (qZ _ _),trivial,fun b hb=>absurd (show b∈([]:List Addr) from hb) (by simp),hok,.of_eq hg⟩
  refine codeAny_mono ((F _ hKb (nsK hns)).run callerA [] s₁ H ⟨[.ref a],[]⟩ [.ref a] [.ref a] _ _ hr e0 (hbind s₁ (.ref a)) (.cons rfl .nil) (hsp H hO hS)) fun r s' h=>?_
  cases r with
  | error e=>exact (hCX H e s' h).elim
  | ok fl =>
   cases fl with
   | next=>exact False.elim h
   | brk=>exact False.elim h
   | cont=>exact False.elim h
   | ret u =>
    obtain ⟨v,H',os,bare,un,hok',r',q⟩:=h
    have q':v=.bl true:=q
    subst q'
    obtain rfl:u=Value.bool true:=r'
    refine ⟨rfl,OldK.of_keep fun b o e=>?_,os,bare⟩
    cases q:H b with
    | none=>exact un.keep b o e q (by intro z; exact absurd (show b∈([]:List Addr) from z) (by simp)) (by simp)
    | some u =>
     rcases hO b with z | ⟨ob,xs,z⟩
     ·rw [q] at z; cases z
     ·have z2:=un.gW b ob _ z
      obtain ⟨e1,_⟩:=hok b _ z
      obtain ⟨e2,_⟩:=hok' b _ z2
      rw [e] at e1; cases e1
      exact e2
 cases hk:K.lookup a with
 | some o =>
  have e:=KX a o hk
  rw [ha] at e
  cases e
  refine core (fun _=>none) (fun _=>.inl rfl) (.inr ⟨_,vs.toArray,_,hk,rfl,rfl,rfl,by rw [List.size_toArray,lenV]; exact hl,by simpa using rv⟩) (fun b u z=>by have z':(none:Option HO)=some u:=z; cases z') (fun b z=>absurd rfl z) fun z=>absurd rfl z
 | none =>
  refine core (fun b=>if b=a then some (.frz { cls:=.type "list",data:=.seq vs.toArray } (.lst (ns.map V.int))) else none) (fun b=>?_) (.inl (.inr ⟨{ cls:=.type "list",data:=.seq vs.toArray },if_pos rfl⟩)) (fun b u z=>?_) (fun b z=>?_) fun _=>hk
  ·by_cases hb:b=a
   ·exact .inr ⟨_,_,if_pos hb⟩
   ·exact .inl (if_neg hb)
  ·by_cases hb:b=a
   ·have z':=(if_pos hb).symm.trans z
    cases z'
    subst hb
    exact ⟨ha,by rw [List.length_map]; exact hl,vs,_,rv,ha⟩
   ·have z':=(if_neg hb).symm.trans z
    cases z'
  ·by_cases hb:b=a
   ·exact hb
   ·exact absurd (if_neg hb) z
end L2
namespace L2
open PySem PySem.Spec PyProof.Rows
abbrev KOf {K:PySem.W.Frag} {h:Heap} (_:K.In h):PySem.W.Frag:=K
theorem oB {l:PySem.W.OpenLaw} {n k:Nat} {q:Program} {loose:List Str} {XP:(Str->Option Value)->Heap->Prop} {YP:World->Heap->Prop} {d:DefRec} {K:Params->PySem.W.Frag} {CX:World->CXT} {sp:World->Sp} {x:Str}
  (hn:l.most=some n) (hn2:n<=sizeLine) (hdf:d.params.defaults=[]) (hr:cP k callerA)
  (hY:∀ (w:World) (h:Heap),YP w h->(K w.params).In h)
  (F:∀ (w:World) (mg:Str->Option Value) (fa:Addr) (h:Heap),(K w.params).In h->h.Ns mainGlobals mg->mg d.name=some (.ref fa) ->
   ∃ fd:FuncData,(∀ (s:Shared) (u:Value),BindsTo s fd ⟨[u],[]⟩ [(x,u)]) /\
    ∀ base:Heap,(K w.params).In base->base.Ns mainGlobals mg->fC l.prog w (K w.params) mg base (CX w) k fa fd [x] (sp w))
  (hsp:∀ (w:World) (H:Hp) (a:Addr) (ns:List Int),ns.length<=n->nq H->SqL (K w.params) H a (ns.map V.int)->sp w [.ref a] H (fun v _=>v=.bl true) fun _ _ _=>False)
  (hCX:∀ (w:World) (H:Hp) (s:Shared) (e:Value) (s':Shared),CX w [] H s (fun _ _ _=>False) e s'->False) :
  PySem.W.WalkO q loose XP YP l.row.toRowW d [] (fun f vs=>PySem.call f vs):=by
 refine Att.oa hn hdf fun w s₀ s₁ mg mb fa o pm cd doc a vs ns G Y ho hd hcd hmg hobj hints hlen hg=>?_
 have KX:=hY w _ Y
 obtain ⟨fd,hb,hF⟩:=F w mg fa _ KX G.T.g hmg
 exact sG KX G.T.g G.T.b G.T.builtins G.T.nolimit hg hobj hints (Nat.le_trans hlen hn2) hr hF hb (fun H hO hS=>hsp w H a ns hlen hO hS) fun H e s'=>hCX w H s₁ e s'
theorem tq {l:PySem.W.OpenLaw} {n k:Nat} {q:Program} {loose:List Str} {XP:(Str->Option Value)->Heap->Prop} {YP:World->Heap->Prop} {d:DefRec} {K:Params->PySem.W.Frag} {CX:CXT} {sp:PySem.W.Frag->Sp} {x:Str}
  (hn:l.most=some n) (hn2:n<=sizeLine) (hdf:d.params.defaults=[]) (hr:cP k callerA)
  (hY:∀ (w:World) (h:Heap),YP w h->(K w.params).In h)
  (F:∀ (w:World) (mg:Str->Option Value) (fa:Addr) (h:Heap),(K w.params).In h->h.Ns mainGlobals mg->mg d.name=some (.ref fa) ->
   ∃ fd:FuncData,(∀ (s:Shared) (u:Value),BindsTo s fd ⟨[u],[]⟩ [(x,u)]) /\
    ∀ base:Heap,(K w.params).In base->base.Ns mainGlobals mg->fC l.prog w (K w.params) mg base CX k fa fd [x] (sp (K w.params)))
  (hsp:∀ (K:PySem.W.Frag) (H:Hp) (a:Addr) (ns:List Int),ns.length<=n->nq H->SqL K H a (ns.map V.int)->sp K [.ref a] H (fun v _=>v=.bl true) fun _ _ _=>False)
  (hCX:∀ (H:Hp) (s:Shared) (e:Value) (s':Shared),CX [] H s (fun _ _ _=>False) e s'->False) :
  PySem.W.WalkO q loose XP YP l.row.toRowW d [] (fun f vs=>PySem.call f vs) :=
 oB (K:=K) (CX:=fun _=>CX) (sp:=fun w=>sp (K w.params)) hn hn2 hdf hr hY F (fun w H a ns h1 h2 h3=>hsp (K w.params) H a ns h1 h2 h3) fun _ H s e s'=>hCX H s e s'
end L2
/- THE LAST THEOREM (shape; LID,My.* are yours):
   My.Adr: a structure of the addresses that your layer names (classes,functions); My.Txt K t: a structure (Prop) of the equations over K;
   My.txt_mk:{K} {implicit addresses ..} (e1:nsIn K mainGlobals "law" = some (some (.ref f))) (e2:K.lookup f=some ⟨oc,od,.func (fnOf "law" "law" params body scope dV kV doc pm an cdv ct),sl⟩) (e3:codeIn K cdv "law" = true) ..:∃ t,My.Txt K t
set_option maxRecDepth 100000 in
set_option maxHeartbeats 0 in
theorem PySem.Challenge.cw_LID_holds : PySem.Challenge.rw_LID.Holds := by
 w_on; o_law; k_head; (case hw=>w_witness2)
 k_fill
 refine L2.oB (l:=PySem.Challenge.rw_LID) (n:=63) (k:=40) (x := "script") (CX:=fun w=>..) (sp:=fun _=>My.sp_law) rfl (by decide) rfl ⟨rfl,by decide,by decide⟩ (fun w h Y=>PySem.W.kIn_of Y) ?F ?S ?C
 case F =>
  intro w mg fa h KX G hmg
  have T:∃ t,My.Txt (L2.KOf KX) t:=by
   dsimp only [L2.KOf]                          -- K must stand as «<heap const> w.params» for k_is
   refine' My.txt_mk ?e1 ?e2 ?e3 ..
   (case e1=>PySem.W.k_is)                    -- in the order: a name -> its address -> its object -> its parts
   (case e2=>PySem.W.k_is)
   ..
  obtain ⟨t,T⟩:=T
  have e0:=hmg.symm.trans (PySem.W.mg_of KX G T.law)
  cases e0                                       -- fa is the law's own address
  exact ⟨_,fun s u=>.of_eq rfl,fun base kb nb=>My.law_fn T kb nb⟩     -- if «.of_eq rfl» comes too early: refine' ⟨_,?b,fun base kb nb=>My.law_fn T kb nb⟩; exact fun s u=>.of_eq rfl
 case S=>exact fun w H a ns hl hO hS=>..
 case C=>exact ..
(the tactic k_is has no namespace: write k_is) -/
namespace L2
open PySem PySem.Spec PyProof.Rows
def gg (s:Stmt):Arguments:=match s with
 | .FunctionDef _ a _ _ _ _ _ _ _ _=>a
 | _=>{ posonlyargs:=[],args:=[],vararg:=none,kwonlyargs:=[],kw_defaults:=[],kwarg:=none,defaults:=[] }
def dH (s:Stmt):List Stmt:=match s with
 | .FunctionDef _ _ b _ _ _ _ _ _ _=>b
 | _=>[]
def bD (s:Stmt):Scope:=match s with
 | .FunctionDef _ _ _ _ _ _ sc _ _ _=>sc
 | _=>{ kind:=.function,names:=[],isGenerator:=false,isCoroutine:=false }
abbrev CX0:CXT:=fun _ _ _ _ _ _=>False
abbrev E0:XK:=fun _ _ _=>False
theorem AV {X:Cx}:Passes CX0 X E0:=fun _ _ _ _ _ _ _ h=>h.elim
structure Fun (K:PySem.W.Frag) (x qual:Str) (st:Stmt) (f:Addr) (fd:FuncData):Prop where
 ex:∃ (oc:Value) (od:Option Addr) (kV doc pm:Value) (an:Option Addr) (cdv ct:Value) (osl:Array (Option Value)),
  fd=PySem.W.fnOf x qual (gg st) (dH st) (bD st) .none kV doc pm an cdv ct/\K.lookup f=some ⟨oc,od,.func fd,osl⟩/\PySem.W.codeIn K cdv qual=true
 kp:PySem.W.keepIn K (.ref f)=true
section
variable {P:Program} {w:World} {K:PySem.W.Frag} {mg:Str->Option Value} {base:Heap}
theorem Fun.ok {x qual:Str} {st:Stmt} {f:Addr} {fd:FuncData} {N ps:List Str} {k:Nat} {sp:Sp} (F:Fun K x qual st f fd) (S:iN N ps (bD st)) (len:∀ vs H Q E,sp vs H Q E->vs.length=ps.length)
  (hbody:∀ (cdv:Value) (A:Around) (outer:List Env) (s:Shared) (H:Hp) (vs:List V) (Q:VK) (E:XK),cP k (A.deeper (envOfC qual (bD st) s.heap.objs.size f cdv))->sp vs H Q E ->
   ∃ t,PSs (j8 CX0 P w K mg base N qual (bD st) f cdv A outer s H E).nox (dH st) t/\t { nx:=fun _ H'=>Q .non H',rt:=Q } (start N vs) H):fC P w K mg base CX0 (k+1) f fd ps sp:=by
 obtain ⟨oc,od,kV,doc,pm,an,cdv,ct,osl,rfl,lk,hcd⟩:=F.ex
 refine Aq lk hcd S len fun A outer s H vs Q E hr hsp=>?_
 obtain ⟨t,h,q⟩:=hbody cdv A outer s H vs Q E hr hsp
 exact ⟨t,h.nox,q⟩
theorem Fun.binds {x qual:Str} {st:Stmt} {f:Addr} {fd:FuncData} {ps:List Str} (F:Fun K x qual st f fd)
  (h:∀ (kV doc pm:Value) (an:Option Addr) (cdv ct:Value) (us:List Value),us.length=ps.length->bindArgs (PySem.W.fnOf x qual (gg st) (dH st) (bD st) .none kV doc pm an cdv ct) ⟨us,[]⟩=pure (ps.zip us)):Binds K fd ps []:=by
 obtain ⟨oc,od,kV,doc,pm,an,cdv,ct,osl,rfl,lk,hcd⟩:=F.ex
 exact .all (h kV doc pm an cdv ct)
theorem zm {x qual:Str} {st:Stmt} {f:Addr} {oc:Value} {od an:Option Addr} {osl:Array (Option Value)} {kV doc pm cdv ct:Value} (l:K.lookup f=some ⟨oc,od,.func (PySem.W.fnOf x qual (gg st) (dH st) (bD st) .none kV doc pm an cdv ct),osl⟩)
  (c:PySem.W.codeIn K cdv qual=true) (k:PySem.W.keepIn K (.ref f)=true):Fun K x qual st f (PySem.W.fnOf x qual (gg st) (dH st) (bD st) .none kV doc pm an cdv ct):=⟨⟨oc,od,kV,doc,pm,an,cdv,ct,osl,rfl,l,c⟩,k⟩
end
theorem lE {n:Nat} (h:n<=1000):n<sizeLine:=Nat.lt_of_le_of_lt h (by decide)
section
variable {X:Cx}
end
theorem eu {A B:Prop} (h:B):if false=true then A else B:=by
 rw [if_neg Bool.false_ne_true]
 exact h
theorem cZ {A B:Prop} (h:A):if true=true then A else B:=by
 rw [if_pos rfl]
 exact h
def ao (H H':Hp):Prop:=∀ b o,H b=some o->H' b=some o
theorem ao.refl (H:Hp):ao H H:=fun _ _ h=>h
theorem ao.trans {H H1 H2:Hp} (a:ao H H1) (b:ao H1 H2):ao H H2:=fun c o h=>b c o (a c o h)
theorem ao.free {H H':Hp} (e:ao H H') {l:Addr} (h:H' l=Option.none):H l=Option.none:=by
 cases q:H l with
 | none=>rfl
 | some o =>
  rw [e l o q] at h
  cases h
end L2
namespace L2
open PySem PySem.Spec PyProof.Rows
section
variable {X:Cx}
theorem r9:aZ X (.builtin "len") (fun xs H Q=>∃ a kvs,xs=[V.ref a]/\H a=some (.dK kvs)/\Q (.int kvs.length) H):=by
 intro pins s σ H xs us Q I r h
 obtain ⟨a,kvs,rfl,ha,q⟩:=h
 obtain ⟨u,rfl,ru⟩:=vals1 r
 cases ru
 exact AN I (.inl ha) fun t s' I'=>⟨.int kvs.length,H,I',⟨t,rfl⟩,q⟩
end
section
variable {κ:Type} [DecidableEq κ]
end
end L2
namespace RS
open PySem PySem.Spec PyProof.Rows L2
noncomputable def nP:Addr->Prop:=fun _=>False
noncomputable def iE (K:PySem.W.Frag) (H:Hp) (a:Addr) (xs:List V):Prop:=(∃ o,H a=some (.frz o (.lst xs)))\/SqL K (fun _=>none) a xs
theorem iE.seq {K:PySem.W.Frag} {H:Hp} {a:Addr} {xs:List V} (h:iE K H a xs):SqL K H a xs:=by
 rcases h with ⟨o,h⟩ | (h | ⟨o,h⟩) | h
 ·exact .inl (.inr ⟨o,h⟩)
 ·cases h
 ·cases h
 ·exact .inr h
theorem iE.same {K:PySem.W.Frag} {H H':Hp} {a:Addr} {xs:List V} (e:ao H H') (h:iE K H a xs):iE K H' a xs:=by
 rcases h with ⟨o,h⟩ | h
 ·exact .inl ⟨o,e _ _ h⟩
 ·exact .inr h
mutual
noncomputable def Rep (P:Addr->Prop) (K:PySem.W.Frag) (H:Hp):RL.D->V->Prop
 | .non,v=>v=.non
 | .bl b,v=>v=.bl b
 | .int i,v=>v=.int i
 | .str x,v=>v=.str x
 | .tup ds,v=>∃ a xs,v=.ref a/\H a=some (.tup xs)/\aa P K H ds xs
 | .lst ds,v=>∃ a xs,v=.ref a/\¬ P a/\H a=some (.lst xs)/\aa P K H ds xs
 | .dK ks ds,v=>∃ a xs,v=.ref a/\¬ P a/\H a=some (.dK (ks.zip xs))/\ks.length=ds.length/\aa P K H ds xs
 | .dT ks ds,v=>∃ a xs,v=.ref a/\¬ P a/\H a=some (.dT (ks.zip xs))/\ks.length=ds.length/\aa P K H ds xs
 | .scr ds,v=>∃ a xs,v=.ref a/\iE K H a xs/\aa P K H ds xs
noncomputable def aa (P:Addr->Prop) (K:PySem.W.Frag) (H:Hp):List RL.D->List V->Prop
 | [],xs=>xs=[]
 | d :: r,xs=>∃ x t,xs=x :: t/\Rep P K H d x/\aa P K H r t
end
mutual
theorem Rep.same {P:Addr->Prop} {K:PySem.W.Frag} {H H':Hp} (e:ao H H'):∀ {d:RL.D} {v:V},Rep P K H d v->Rep P K H' d v
 | .non,v,h=>by simpa [Rep] using h
 | .bl _,v,h=>by simpa [Rep] using h
 | .int _,v,h=>by simpa [Rep] using h
 | .str _,v,h=>by simpa [Rep] using h
 | .tup ds,v,h=>by
  rw [Rep] at h ⊢
  obtain ⟨a,xs,e1,e2,e3⟩:=h
  exact ⟨a,xs,e1,e _ _ e2,aa.same e e3⟩
 | .lst ds,v,h=>by
  rw [Rep] at h ⊢
  obtain ⟨a,xs,e1,e0,e2,e3⟩:=h
  exact ⟨a,xs,e1,e0,e _ _ e2,aa.same e e3⟩
 | .dK ks ds,v,h=>by
  rw [Rep] at h ⊢
  obtain ⟨a,xs,e1,e0,e2,el,e3⟩:=h
  exact ⟨a,xs,e1,e0,e _ _ e2,el,aa.same e e3⟩
 | .dT ks ds,v,h=>by
  rw [Rep] at h ⊢
  obtain ⟨a,xs,e1,e0,e2,el,e3⟩:=h
  exact ⟨a,xs,e1,e0,e _ _ e2,el,aa.same e e3⟩
 | .scr ds,v,h=>by
  rw [Rep] at h ⊢
  obtain ⟨a,xs,e1,e2,e3⟩:=h
  exact ⟨a,xs,e1,iE.same e e2,aa.same e e3⟩
theorem aa.same {P:Addr->Prop} {K:PySem.W.Frag} {H H':Hp} (e:ao H H'):∀ {ds:List RL.D} {xs:List V},aa P K H ds xs->aa P K H' ds xs
 | [],xs,h=>by rw [aa] at h ⊢; exact h
 | d :: r,xs,h=>by
  rw [aa] at h ⊢
  obtain ⟨x,t,e1,e2,e3⟩:=h
  exact ⟨x,t,e1,Rep.same e e2,aa.same e e3⟩
end
mutual
theorem Rep.weak {P P':Addr->Prop} {K:PySem.W.Frag} {H:Hp} (e:∀ a,P' a->P a):∀ {d:RL.D} {v:V},Rep P K H d v->Rep P' K H d v
 | .non,v,h=>by simpa [Rep] using h
 | .bl _,v,h=>by simpa [Rep] using h
 | .int _,v,h=>by simpa [Rep] using h
 | .str _,v,h=>by simpa [Rep] using h
 | .tup ds,v,h=>by
  rw [Rep] at h ⊢
  obtain ⟨a,xs,e1,e2,e3⟩:=h
  exact ⟨a,xs,e1,e2,aa.weak e e3⟩
 | .lst ds,v,h=>by
  rw [Rep] at h ⊢
  obtain ⟨a,xs,e1,e0,e2,e3⟩:=h
  exact ⟨a,xs,e1,fun z=>e0 (e a z),e2,aa.weak e e3⟩
 | .dK ks ds,v,h=>by
  rw [Rep] at h ⊢
  obtain ⟨a,xs,e1,e0,e2,el,e3⟩:=h
  exact ⟨a,xs,e1,fun z=>e0 (e a z),e2,el,aa.weak e e3⟩
 | .dT ks ds,v,h=>by
  rw [Rep] at h ⊢
  obtain ⟨a,xs,e1,e0,e2,el,e3⟩:=h
  exact ⟨a,xs,e1,fun z=>e0 (e a z),e2,el,aa.weak e e3⟩
 | .scr ds,v,h=>by
  rw [Rep] at h ⊢
  obtain ⟨a,xs,e1,e2,e3⟩:=h
  exact ⟨a,xs,e1,e2,aa.weak e e3⟩
theorem aa.weak {P P':Addr->Prop} {K:PySem.W.Frag} {H:Hp} (e:∀ a,P' a->P a):∀ {ds:List RL.D} {xs:List V},aa P K H ds xs->aa P' K H ds xs
 | [],xs,h=>by rw [aa] at h ⊢; exact h
 | d :: r,xs,h=>by
  rw [aa] at h ⊢
  obtain ⟨x,t,e1,e2,e3⟩:=h
  exact ⟨x,t,e1,Rep.weak e e2,aa.weak e e3⟩
end
theorem Rep.none {P:Addr->Prop} {K:PySem.W.Frag} {H:Hp} {d:RL.D} {v:V} (h:Rep P K H d v):Rep nP K H d v:=h.weak fun _ z=>z.elim
mutual
theorem Rep.imm {P P':Addr->Prop} {K:PySem.W.Frag} {H:Hp}:∀ {d:RL.D} {v:V},d.imm=true->Rep P K H d v->Rep P' K H d v
 | .non,v,_,h=>by simpa [Rep] using h
 | .bl _,v,_,h=>by simpa [Rep] using h
 | .int _,v,_,h=>by simpa [Rep] using h
 | .str _,v,_,h=>by simpa [Rep] using h
 | .tup ds,v,i,h=>by
  rw [Rep] at h ⊢
  rw [RL.D.imm] at i
  obtain ⟨a,xs,e1,e2,e3⟩:=h
  exact ⟨a,xs,e1,e2,aa.imm i e3⟩
 | .lst ds,v,i,h=>by rw [RL.D.imm] at i; cases i
 | .dK ks ds,v,i,h=>by rw [RL.D.imm] at i; cases i
 | .dT ks ds,v,i,h=>by rw [RL.D.imm] at i; cases i
 | .scr ds,v,i,h=>by
  rw [Rep] at h ⊢
  rw [RL.D.imm] at i
  obtain ⟨a,xs,e1,e2,e3⟩:=h
  exact ⟨a,xs,e1,e2,aa.imm i e3⟩
theorem aa.imm {P P':Addr->Prop} {K:PySem.W.Frag} {H:Hp}:∀ {ds:List RL.D} {xs:List V},RL.ai ds=true->aa P K H ds xs->aa P' K H ds xs
 | [],xs,_,h=>by rw [aa] at h ⊢; exact h
 | d :: r,xs,i,h=>by
  rw [aa] at h ⊢
  rw [RL.ai,Bool.and_eq_true] at i
  obtain ⟨x,t,e1,e2,e3⟩:=h
  exact ⟨x,t,e1,Rep.imm i.1 e2,aa.imm i.2 e3⟩
end
noncomputable def cx (o:HO):Prop:=(∃ xs,o=.lst xs)\/(∃ kvs,o=.dK kvs)\/(∃ kvs,o=.dT kvs)
mutual
theorem Rep.upd {P:Addr->Prop} {K:PySem.W.Frag} {H:Hp} {a:Addr} {o o':HO} (ha:H a=some o) (m:cx o) (p:P a):∀ {d:RL.D} {v:V},Rep P K H d v->Rep P K (upd H a o') d v
 | .non,v,h=>by simpa [Rep] using h
 | .bl _,v,h=>by simpa [Rep] using h
 | .int _,v,h=>by simpa [Rep] using h
 | .str _,v,h=>by simpa [Rep] using h
 | .tup ds,v,h=>by
  rw [Rep] at h ⊢
  obtain ⟨b,xs,e1,e2,e3⟩:=h
  have n:b≠a:=pV e2 ha (by rcases m with ⟨z,rfl⟩ | ⟨z,rfl⟩ | ⟨z,rfl⟩ <;> (intro q; cases q))
  exact ⟨b,xs,e1,by rw [L2.aD n]; exact e2,aa.upd ha m p e3⟩
 | .lst ds,v,h=>by
  rw [Rep] at h ⊢
  obtain ⟨b,xs,e1,e0,e2,e3⟩:=h
  have n:b≠a:=fun z=>e0 (z ▸ p)
  exact ⟨b,xs,e1,e0,by rw [L2.aD n]; exact e2,aa.upd ha m p e3⟩
 | .dK ks ds,v,h=>by
  rw [Rep] at h ⊢
  obtain ⟨b,xs,e1,e0,e2,el,e3⟩:=h
  have n:b≠a:=fun z=>e0 (z ▸ p)
  exact ⟨b,xs,e1,e0,by rw [L2.aD n]; exact e2,el,aa.upd ha m p e3⟩
 | .dT ks ds,v,h=>by
  rw [Rep] at h ⊢
  obtain ⟨b,xs,e1,e0,e2,el,e3⟩:=h
  have n:b≠a:=fun z=>e0 (z ▸ p)
  exact ⟨b,xs,e1,e0,by rw [L2.aD n]; exact e2,el,aa.upd ha m p e3⟩
 | .scr ds,v,h=>by
  rw [Rep] at h ⊢
  obtain ⟨b,xs,e1,e2,e3⟩:=h
  refine ⟨b,xs,e1,?_,aa.upd ha m p e3⟩
  rcases e2 with ⟨q,e2⟩ | e2
  ·have n:b≠a:=pV e2 ha (by rcases m with ⟨z,rfl⟩ | ⟨z,rfl⟩ | ⟨z,rfl⟩ <;> (intro q; cases q))
   exact .inl ⟨q,by rw [L2.aD n]; exact e2⟩
  ·exact .inr e2
theorem aa.upd {P:Addr->Prop} {K:PySem.W.Frag} {H:Hp} {a:Addr} {o o':HO} (ha:H a=some o) (m:cx o) (p:P a):∀ {ds:List RL.D} {xs:List V},aa P K H ds xs->aa P K (upd H a o') ds xs
 | [],xs,h=>by rw [aa] at h ⊢; exact h
 | d :: r,xs,h=>by
  rw [aa] at h ⊢
  obtain ⟨x,t,e1,e2,e3⟩:=h
  exact ⟨x,t,e1,Rep.upd ha m p e2,aa.upd ha m p e3⟩
end
section lists
variable {P:Addr->Prop} {K:PySem.W.Frag} {H:Hp}
theorem aa.nil:aa P K H [] []:=by rw [aa]
theorem aa.cons {d:RL.D} {ds:List RL.D} {x:V} {xs:List V} (h:Rep P K H d x) (t:aa P K H ds xs):aa P K H (d :: ds) (x :: xs):=by rw [aa]; exact ⟨x,xs,rfl,h,t⟩
theorem aa.length:∀ {ds:List RL.D} {xs:List V},aa P K H ds xs->ds.length=xs.length
 | [],xs,h=>by rw [aa] at h; rw [h]; rfl
 | d :: r,xs,h=>by
  rw [aa] at h
  obtain ⟨x,t,rfl,_,e3⟩:=h
  rw [List.length_cons,List.length_cons,aa.length e3]
theorem aa.append:∀ {ds es:List RL.D} {xs ys:List V},aa P K H ds xs->aa P K H es ys->aa P K H (ds ++ es) (xs ++ ys)
 | [],_,xs,_,h,k=>by rw [aa] at h; rw [h]; exact k
 | d :: r,_,xs,_,h,k=>by
  rw [aa] at h
  obtain ⟨x,t,rfl,e2,e3⟩:=h
  exact aa.cons e2 (aa.append e3 k)
theorem aa.get:∀ {ds:List RL.D} {xs:List V} {i:Nat} {d:RL.D},aa P K H ds xs->ds[i]?=some d->∃ x,xs[i]?=some x/\Rep P K H d x
 | [],_,i,d,_,e=>by simp at e
 | d :: r,xs,0,d',h,e=>by
  rw [aa] at h
  obtain ⟨x,t,rfl,e2,_⟩:=h
  simp at e; subst e
  exact ⟨x,rfl,e2⟩
 | d :: r,xs,i+1,d',h,e=>by
  rw [aa] at h
  obtain ⟨x,t,rfl,_,e3⟩:=h
  obtain ⟨y,h1,h2⟩:=aa.get (i:=i) e3 (by simpa using e)
  exact ⟨y,by simpa using h1,h2⟩
theorem aa.set:∀ {ds:List RL.D} {xs:List V} (i:Nat) {d:RL.D} {x:V},aa P K H ds xs->Rep P K H d x->aa P K H (ds.set i d) (xs.set i x)
 | [],xs,_,_,_,h,_=>by rw [aa] at h; rw [h]; exact aa.nil
 | d :: r,xs,0,_,_,h,k=>by
  rw [aa] at h
  obtain ⟨x,t,rfl,_,e3⟩:=h
  exact aa.cons k e3
 | d :: r,xs,i+1,_,_,h,k=>by
  rw [aa] at h
  obtain ⟨x,t,rfl,e2,e3⟩:=h
  exact aa.cons e2 (aa.set i e3 k)
theorem aa.take:∀ {ds:List RL.D} {xs:List V} (n:Nat),aa P K H ds xs->aa P K H (ds.take n) (xs.take n)
 | _,_,0,_=>by simpa using aa.nil
 | [],xs,n+1,h=>by rw [aa] at h; rw [h]; simpa using aa.nil
 | d :: r,xs,n+1,h=>by
  rw [aa] at h
  obtain ⟨x,t,rfl,e2,e3⟩:=h
  exact aa.cons e2 (aa.take n e3)
theorem aa.rev {ds:List RL.D} {xs:List V} (h:aa P K H ds xs):aa P K H ds.reverse xs.reverse:=by
 induction ds generalizing xs with
 | nil=>rw [aa] at h; rw [h]; exact aa.nil
 | cons d r ih =>
  rw [aa] at h
  obtain ⟨x,t,rfl,e2,e3⟩:=h
  rw [List.reverse_cons,List.reverse_cons]
  exact aa.append (ih e3) (aa.cons e2 aa.nil)
theorem aa.rep {ds:List RL.D} {xs:List V} (h:aa P K H ds xs):∀ n:Nat,aa P K H (List.replicate n ds).flatten (List.replicate n xs).flatten
 | 0=>aa.nil
 | n+1=>by
  rw [List.replicate_succ,List.replicate_succ,List.flatten_cons,List.flatten_cons]
  exact aa.append h (aa.rep h n)
end lists
noncomputable def RV0 (K:PySem.W.Frag) (σD:RL.St) (σ:L2.St) (H:Hp):Prop:=σD.length<=σ.length/\∀ (i:Nat) (d:RL.D),σD[i]?=some (some d)->∃ v,σ[i]?=some (some v)/\Rep nP K H d v
theorem RV0.same {K:PySem.W.Frag} {σD:RL.St} {σ:L2.St} {H H':Hp} (h:RV0 K σD σ H) (e:ao H H'):RV0 K σD σ H':=⟨h.1,fun i d q=>by
 obtain ⟨v,h1,h2⟩:=h.2 i d q
 exact ⟨v,h1,h2.same e⟩⟩
noncomputable def jn:RL.D->Bool
 | .lst _=>true
 | .dK _ _=>true
 | .dT _ _=>true
 | _=>false
structure Res (K:PySem.W.Frag) (σD:RL.St) (σ:L2.St) (H:Hp) (e:RL.E) (d:RL.D) (v:V) (H':Hp):Prop where
 same:ao H H'
 rep:Rep nP K H' d v
 fresh:RL.au e=true->jn d=true->∀ a,v=.ref a->H a=none
 av:∀ M,RL.avE M e=true->∀ P:Addr->Prop,(∀ a,P a->H a≠none)->(∀ (j:Nat) (dj:RL.D) (vj:V),M.contains j=false->σD[j]?=some (some dj)->σ[j]?=some (some vj)->Rep P K H dj vj)->Rep P K H' d v
noncomputable def tE (K:PySem.W.Frag) (cl:RL.Cl) (e:RL.E):TE:=fun σ H Q=>∃ σD d,RV0 K σD σ H/\RL.ev cl σD e=some d/\∀ v H',Res K σD σ H e d v H'->Q v H'
noncomputable def SE (X:Cx) (cl:RL.Cl) (e:Expr) (e':RL.E):Prop:=PE X e (tE X.K cl e')
theorem PE.weak {X:Cx} {e:Expr} {t t':TE} (h:PE X e t) (w:∀ σ H Q,t' σ H Q->t σ H Q):PE X e t':=fun pins s σ H Q I q=>h pins s σ H Q I (w σ H Q q)
noncomputable def tEs (K:PySem.W.Frag) (cl:RL.Cl) (es:RL.Es):TA:=fun σ H Q=>∃ σD ds,RV0 K σD σ H/\RL.evs cl σD es=some ds/\∀ vs H',ao H H'->aa nP K H' ds vs->Q vs H'
noncomputable def SEs (X:Cx) (cl:RL.Cl) (es:List Expr) (es':RL.Es):Prop:=PA X es (tEs X.K cl es')
section rules
variable {X:Cx} {cl:RL.Cl} {a b c:Expr} {a' b' c':RL.E} {pos:Pos}
theorem two {σD:RL.St} {σ:L2.St} {H:Hp} {x y:RL.D} {R:V->V->Hp->Prop} (rv:RV0 X.K σD σ H) (ea:RL.ev cl σD a'=some x) (eb:RL.ev cl σD b'=some y)
  (k:∀ v u H1 H2,ao H H1->ao H1 H2->Rep nP X.K H2 x v->Rep nP X.K H2 y u->Res X.K σD σ H a' x v H1->Res X.K σD σ H1 b' y u H2->R v u H2) :
  tE X.K cl a' σ H fun v H1=>tE X.K cl b' σ H1 fun u H2=>R v u H2 :=
 ⟨σD,x,rv,ea,fun v H1 r1=>⟨σD,y,rv.same r1.same,eb,fun u H2 r2=>k v u H1 H2 r1.same r2.same (r1.rep.same r2.same) r2.rep r1 r2⟩⟩
theorem bind_some {α β:Type} {o:Option α} {f:α->Option β} {y:β} (h:o.bind f=some y):∃ x,o=some x/\f x=some y:=by
 cases o with
 | none=>cases h
 | some x=>exact ⟨x,rfl,h⟩
theorem map_some {α β:Type} {o:Option α} {f:α->β} {y:β} (h:o.map f=some y):∃ x,o=some x/\f x=y:=by
 cases o with
 | none=>cases h
 | some x=>exact ⟨x,rfl,Option.some.inj h⟩
theorem b9:RL.most<=sizeLine:=by decide
theorem ao.bc {H:Hp} {p:Addr} {o:HO} (hn:H p=none):ao H (upd H p o):=fun b u e=>by rw [aD (aC e hn)]; exact e
theorem zf {i:Nat} {x:Str} (hN:X.N[i]?=some x) (hv:Vis X.env.scope x) (hd:(x == ("__debug__" : Str))=false) (hcd:(x == ("__classdict__" : Str))=false):SE X cl (.Name x pos) (.var i):=by
 refine PE.weak (fT hN hv hd hcd) fun σ H Q h=>?_
 obtain ⟨σD,d,rv,e,k⟩:=h
 have e':σD[i]?=some (some d):=by
  rw [RL.ev] at e
  obtain ⟨o,h1,h2⟩:=bind_some e
  cases o with
  | none=>cases h2
  | some z=>cases h2; exact h1
 obtain ⟨v,h1,h2⟩:=rv.2 i d e'
 refine ⟨v,h1,k v H ⟨ao.refl H,h2,fun z=>(by cases z),fun M z P hP av=>?_⟩⟩
 rw [RL.avE] at z
 exact av i d v (by simpa using z) e' h1
theorem kh {j:Nat} {k:Const} {d:RL.D} {v:V} (h:PE X (.Constant k j pos) (tC v)) (r:∀ P H,Rep P X.K H d v) (hm:jn d=false):SE X cl (.Constant k j pos) (.cst d):=by
 refine PE.weak h fun σ H Q q=>?_
 obtain ⟨σD,d',rv,e,k⟩:=q
 rw [RL.ev] at e
 cases e
 exact k v H ⟨ao.refl H,r _ _,fun z=>(by cases z),fun M z=>nomatch (show false=true from z)⟩
theorem xy {x:Str} {i:Int} {u:Value} (h:PE X (.Name x pos) (tC (.int i))):SE X cl (.Name x pos) (.glb x i):=by
 refine PE.weak h fun σ H Q q=>?_
 obtain ⟨σD,d',rv,e,k⟩:=q
 rw [RL.ev] at e
 cases e
 exact k _ H ⟨ao.refl H,(by rw [Rep]),fun z=>(by cases z),fun M z=>nomatch (show false=true from z)⟩
end rules
end RS
namespace RS
open PySem PySem.Spec PyProof.Rows L2
section rules
variable {X:Cx} {cl:RL.Cl} {a b c:Expr} {a' b' c':RL.E} {pos:Pos}
theorem bW {σD:RL.St} {σ:L2.St} {H H':Hp} {e:RL.E} {d:RL.D} {v:V} (sm:ao H H') (r:Rep nP X.K H' d v) (im:d.imm=true):Res X.K σD σ H e d v H' where
 same:=sm
 rep:=r
 fresh:=fun _ m=>by
  cases d with
  | lst _=>cases im
  | dK _ _=>cases im
  | dT _ _=>cases im
  | _=>cases m
 av:=fun M _ P _ _=>r.imm im
theorem sL:OpR X (binaryOp .FloorDiv) (rI (fun _ j=>0<j/\j<2 ^ 200) fun i j=>.int (i / j)):=opI fun i j _ _ _ _ _ hc q=>by
 refine floordiv_int (by omega) ?_ (.inl (PyProof.noPylong_of_log2 ?_))
 ·rw [Int.fdiv_eq_ediv_of_nonneg _ (by omega)]
  exact q
 ·have h0:j.natAbs≠0:=by omega
  have h1:j.natAbs<2 ^ 200:=by
   have:=hc.2
   omega
  have h2:j.natAbs.log2<200:=(Nat.log2_lt h0).mpr h1
  omega
theorem cI {σD:RL.St} {σ:L2.St} {H H1:Hp} {e:RL.E} {ds:List RL.D} {xs:List V} {p:Addr} (sm:ao H H1) (hn:H1 p=none) (r:aa nP X.K H1 ds xs) (hav:∀ M,RL.avE M e=false):Res X.K σD σ H e (.lst ds) (.ref p) (upd H1 p (.lst xs)) where
 same:=sm.trans (ao.bc hn)
 rep:=by
  rw [Rep]
  exact ⟨p,xs,rfl,fun z=>z,aN,r.same (ao.bc hn)⟩
 fresh:=fun _ _ a z=>by
  cases z
  exact sm.free hn
 av:=fun M z=>by rw [hav M] at z; cases z
theorem gL {σD:RL.St} {σ:L2.St} {H H1:Hp} {e:RL.E} {ds:List RL.D} {xs:List V} {p:Addr} (sm:ao H H1) (hn:H1 p=none) (r:aa nP X.K H1 ds xs) (hav:∀ M,RL.avE M e=false):Res X.K σD σ H e (.tup ds) (.ref p) (upd H1 p (.tup xs)) where
 same:=sm.trans (ao.bc hn)
 rep:=by
  rw [Rep]
  exact ⟨p,xs,rfl,aN,r.same (ao.bc hn)⟩
 fresh:=fun _ m=>by cases m
 av:=fun M z=>by rw [hav M] at z; cases z
noncomputable def mQ:RL.Bop->Operator
 | .add=>.Add
 | .sub=>.Sub
 | .mul=>.Mult
 | .fdiv=>.FloorDiv
 | .mod=>.Mod
 | .pow=>.Pow
theorem aI {P:Addr->Prop} {K:PySem.W.Frag} {H:Hp} {i:Int}:Rep P K H (.int i) (.int i):=by rw [Rep]
theorem mP {P:Addr->Prop} {K:PySem.W.Frag} {H:Hp} {i:Bool}:Rep P K H (.bl i) (.bl i):=by rw [Rep]
theorem fP {P:Addr->Prop} {K:PySem.W.Frag} {H:Hp} {i:Str}:Rep P K H (.str i) (.str i):=by rw [Rep]
theorem af {P:Addr->Prop} {K:PySem.W.Frag} {H:Hp} {i:Int} {v:V} (h:Rep P K H (.int i) v):v=.int i:=by rw [Rep] at h; exact h
theorem aH {P:Addr->Prop} {K:PySem.W.Frag} {H:Hp} {i:Bool} {v:V} (h:Rep P K H (.bl i) v):v=.bl i:=by rw [Rep] at h; exact h
theorem aB {P:Addr->Prop} {K:PySem.W.Frag} {H:Hp} {i:Str} {v:V} (h:Rep P K H (.str i) v):v=.str i:=by rw [Rep] at h; exact h
noncomputable def jG (X:Cx) (o:RL.Bop) (r:R2):Prop :=
 ∀ (σD:RL.St) (σ:L2.St) (H H2:Hp) (e:RL.E) (x y d:RL.D) (v u:V) (Q:VK),ao H H2->Rep nP X.K H2 x v->Rep nP X.K H2 y u->RL.ay o x y=some d->(∀ M,RL.avE M e=false) ->
  (∀ w H',Res X.K σD σ H e d w H'->Q w H')->r v u H2 Q
theorem eN {o:RL.Bop} {r:R2} (ho:OpR X (binaryOp (mQ o)) r) (ok:jG X o r) (ha:SE X cl a a') (hb:SE X cl b b'):SE X cl (.BinOp a (mQ o) b pos) (.bin o a' b'):=by
 refine PE.weak (A5 ho ha hb) fun σ H Q h=>?_
 obtain ⟨σD,d,rv,e,k⟩:=h
 rw [RL.ev] at e
 obtain ⟨x,ea,e⟩:=bind_some e
 obtain ⟨y,eb,e⟩:=bind_some e
 refine two rv ea eb fun v u H1 H2 s1 s2 rx ry _ _=>?_
 exact ok σD σ H H2 _ x y d v u Q (s1.trans s2) rx ry e (fun _=>rfl) k
end rules
end RS
namespace RS
open PySem PySem.Spec PyProof.Rows L2
section rules
variable {X:Cx} {cl:RL.Cl} {a b c:Expr} {a' b' c':RL.E} {pos:Pos}
theorem bT {α:Type} {c:Prop} [Decidable c] {a d:α} (h:(if c then some a else none)=some d):c/\d=a:=by
 by_cases hc:c
 ·rw [if_pos hc] at h
  exact ⟨hc,(Option.some.inj h).symm⟩
 ·rw [if_neg hc] at h
  cases h
theorem noN {α:Type} {o:Option α} {d:α} {p:Prop} (e:o=none) (h:o=some d):p:=by rw [e] at h; cases h
theorem uf {x y d:RL.D} (h:RL.ay .add x y=some d):(∃ i j,x=.int i/\y=.int j/\d=.int (i+j))\/(∃ i j:Str,x=.str i/\y=.str j/\i.length+j.length<=RL.most/\d=.str (i ++ j)) \/
  (∃ i j,x=.lst i/\y=.lst j/\i.length+j.length<=RL.most/\d=.lst (i ++ j)) \/
  (∃ i j,x=.tup i/\y=.tup j/\(i.length+j.length<=RL.most/\0<i.length/\0<j.length)/\d=.tup (i ++ j)):=by
 cases x with
 | int i=>cases y with
  | int j=>cases h; exact .inl ⟨i,j,rfl,rfl,rfl⟩
  | _=>exact noN rfl h
 | str i=>cases y with
  | str j =>
   obtain ⟨hc,e⟩:=bT h
   exact .inr (.inl ⟨i,j,rfl,rfl,hc,e⟩)
  | _=>exact noN rfl h
 | lst i=>cases y with
  | lst j =>
   obtain ⟨hc,e⟩:=bT h
   exact .inr (.inr (.inl ⟨i,j,rfl,rfl,hc,e⟩))
  | _=>exact noN rfl h
 | tup i=>cases y with
  | tup j =>
   obtain ⟨hc,e⟩:=bT h
   exact .inr (.inr (.inr ⟨i,j,rfl,rfl,hc,e⟩))
  | _=>exact noN rfl h
 | _=>exact noN rfl h
theorem tN {x y d:RL.D} (h:RL.ay .mul x y=some d):(∃ i j,x=.int i/\y=.int j/\p9 i j/\d=.int (i*j)) \/
  (∃ i j,x=.lst i/\y=.int j/\(0<=j/\j<=RL.most/\i.length*j.toNat<=RL.most)/\d=.lst (List.replicate j.toNat i).flatten):=by
 cases x with
 | int i=>cases y with
  | int j =>
   obtain ⟨hc,e⟩:=bT h
   exact .inl ⟨i,j,rfl,rfl,hc,e⟩
  | _=>exact noN rfl h
 | lst i=>cases y with
  | int j =>
   obtain ⟨hc,e⟩:=bT h
   exact .inr ⟨i,j,rfl,rfl,hc,e⟩
  | _=>exact noN rfl h
 | _=>exact noN rfl h
theorem fx {o:RL.Bop} {x y d:RL.D} (h:RL.ay o x y=some d) (ho:o≠.add) (hm:o≠.mul):∃ i j,x=.int i/\y=.int j/\RL.ay o (.int i) (.int j)=some d:=by
 have no:∀ {a b:RL.D},RL.ay .sub a b=none->RL.ay .fdiv a b=none->RL.ay .mod a b=none->RL.ay .pow a b=none->RL.ay o a b=some d->False:=fun e1 e2 e3 e4 h=>by
  cases o with
  | add=>exact ho rfl
  | mul=>exact hm rfl
  | sub=>rw [e1] at h; cases h
  | fdiv=>rw [e2] at h; cases h
  | mod=>rw [e3] at h; cases h
  | pow=>rw [e4] at h; cases h
 cases x with
 | int i=>cases y with
  | int j=>exact ⟨i,j,rfl,rfl,h⟩
  | _=>exact (no rfl rfl rfl rfl h).elim
 | _=>exact (no rfl rfl rfl rfl h).elim
theorem tP {x y d:RL.D} (h:RL.ay .sub x y=some d):∃ i j,x=.int i/\y=.int j/\d=.int (i-j):=by
 obtain ⟨i,j,e1,e2,h⟩:=fx h (by decide) (by decide)
 cases h
 exact ⟨i,j,e1,e2,rfl⟩
theorem rq {x y d:RL.D} (h:RL.ay .fdiv x y=some d):∃ i j,x=.int i/\y=.int j/\(0<j/\j<2 ^ 200)/\d=.int (i / j):=by
 obtain ⟨i,j,e1,e2,h⟩:=fx h (by decide) (by decide)
 obtain ⟨hc,e⟩:=bT h
 exact ⟨i,j,e1,e2,hc,e⟩
theorem uE {x y d:RL.D} (h:RL.ay .mod x y=some d):∃ i j,x=.int i/\y=.int j/\0<j/\d=.int (i % j):=by
 obtain ⟨i,j,e1,e2,h⟩:=fx h (by decide) (by decide)
 obtain ⟨hc,e⟩:=bT h
 exact ⟨i,j,e1,e2,hc,e⟩
theorem tV {x y d:RL.D} (h:RL.ay .pow x y=some d):∃ i j,x=.int i/\y=.int j/\(0<=j/\j<=1000/\i.natAbs<2 ^ 64)/\d=.int (i ^ j.toNat):=by
 obtain ⟨i,j,e1,e2,h⟩:=fx h (by decide) (by decide)
 obtain ⟨hc,e⟩:=bT h
 exact ⟨i,j,e1,e2,hc,e⟩
theorem a4 {P:Addr->Prop} {K:PySem.W.Frag} {H:Hp} {ds:List RL.D} {v:V} (h:Rep P K H (.lst ds) v):∃ a xs,v=.ref a/\¬ P a/\H a=some (.lst xs)/\aa P K H ds xs:=by rw [Rep] at h; exact h
theorem aP {P:Addr->Prop} {K:PySem.W.Frag} {H:Hp} {ds:List RL.D} {v:V} (h:Rep P K H (.tup ds) v):∃ a xs,v=.ref a/\H a=some (.tup xs)/\aa P K H ds xs:=by rw [Rep] at h; exact h
theorem yL:jG X .sub (rI0 fun i j=>.int (i-j)):=by
 intro σD σ H H2 e x y d v u Q sm rx ry h hav k
 obtain ⟨i,j,rfl,rfl,rfl⟩:=tP h
 exact ⟨i,j,af rx,af ry,k _ _ (bW sm aI rfl)⟩
theorem wd:jG X .fdiv (rI (fun _ j=>0<j/\j<2 ^ 200) fun i j=>.int (i / j)):=by
 intro σD σ H H2 e x y d v u Q sm rx ry h hav k
 obtain ⟨i,j,rfl,rfl,hc,rfl⟩:=rq h
 exact ⟨i,j,af rx,af ry,hc,k _ _ (bW sm aI rfl)⟩
theorem yc:jG X .mod (rI (fun _ j=>0<j) fun i j=>.int (i % j)):=by
 intro σD σ H H2 e x y d v u Q sm rx ry h hav k
 obtain ⟨i,j,rfl,rfl,hc,rfl⟩:=uE h
 exact ⟨i,j,af rx,af ry,hc,k _ _ (bW sm aI rfl)⟩
theorem zC:jG X .pow (rI zu fun i j=>.int (i ^ j.toNat)):=by
 intro σD σ H H2 e x y d v u Q sm rx ry h hav k
 obtain ⟨i,j,rfl,rfl,hc,rfl⟩:=tV h
 exact ⟨i,j,af rx,af ry,⟨hc.1,Int.le_trans hc.2.1 (by decide),hc.2.2⟩,k _ _ (bW sm aI rfl)⟩
theorem Ai (ha:SE X cl a a') (hb:SE X cl b b'):SE X cl (.BinOp a .Add b pos) (.bin .add a' b'):=by
 refine eN (o:=.add) (xx.or (pX.or (yd.or wg))) ?_ ha hb
 intro σD σ H H2 e x y d v u Q sm rx ry h hav k
 rcases uf h with ⟨i,j,rfl,rfl,rfl⟩ | ⟨i,j,rfl,rfl,hc,rfl⟩ | ⟨i,j,rfl,rfl,hc,rfl⟩ | ⟨i,j,rfl,rfl,⟨hc,ha,hb⟩,rfl⟩
 ·exact .inl ⟨i,j,af rx,af ry,k _ _ (bW sm aI rfl)⟩
 ·exact .inr (.inl ⟨i,j,aB rx,aB ry,Nat.le_trans hc b9,k _ _ (bW sm fP rfl)⟩)
 ·obtain ⟨p,xs,e1,_,e2,e3⟩:=a4 rx
  obtain ⟨q,ys,f1,_,f2,f3⟩:=a4 ry
  refine .inr (.inr (.inl ⟨p,q,xs,ys,e1,f1,e2,f2,?_,fun l hl=>k _ _ (cI sm hl (e3.append f3) hav)⟩))
  rw [<- e3.length,<- f3.length]
  exact Nat.le_trans hc b9
 ·obtain ⟨p,xs,e1,e2,e3⟩:=aP rx
  obtain ⟨q,ys,f1,f2,f3⟩:=aP ry
  refine .inr (.inr (.inr ⟨p,q,xs,ys,e1,f1,SqT.of e2,SqT.of f2,fun z=>?_,?_,fun z=>?_,fun _ l hl=>k _ _ (gL sm hl (e3.append f3) hav)⟩))
  ·rw [e3.length,z] at ha
   exact absurd ha (by decide)
  ·rw [<- e3.length,<- f3.length]
   exact Nat.le_trans hc b9
  ·rw [f3.length,z] at hb
   exact absurd hb (by decide)
theorem yF (ha:SE X cl a a') (hb:SE X cl b b'):SE X cl (.BinOp a .Mult b pos) (.bin .mul a' b'):=by
 refine eN (o:=.mul) (xR.or Aa) ?_ ha hb
 intro σD σ H H2 e x y d v u Q sm rx ry h hav k
 rcases tN h with ⟨i,j,rfl,rfl,hc,rfl⟩ | ⟨i,j,rfl,rfl,hc,rfl⟩
 ·exact .inl ⟨i,j,af rx,af ry,hc,k _ _ (bW sm aI rfl)⟩
 ·obtain ⟨p,xs,e1,_,e2,e3⟩:=a4 rx
  refine .inr ⟨p,j,xs,e1,af ry,e2,?_,?_,?_,fun l hl=>k _ _ (cI sm hl (e3.rep _) hav)⟩
  ·exact Int.le_trans (by decide) hc.1
  ·exact Int.lt_of_le_of_lt hc.2.1 (by decide)
  ·rw [<- e3.length]
   exact Nat.le_trans hc.2.2 b9
theorem xv {o:RL.Bop} (ha:SE X cl a a') (hb:SE X cl b b'):SE X cl (.BinOp a (mQ o) b pos) (.bin o a' b'):=by
 cases o with
 | add=>exact Ai ha hb
 | mul=>exact yF ha hb
 | sub=>exact eN (o:=.sub) yO yL ha hb
 | fdiv=>exact eN (o:=.fdiv) sL wd ha hb
 | mod=>exact eN (o:=.mod) Ak yc ha hb
 | pow=>exact eN (o:=.pow) yr zC ha hb
theorem cT {σD:RL.St} {σ:L2.St} {H H':Hp} {e:RL.E} {k:Bool} (sm:ao H H'):Res X.K σD σ H e (.bl k) (.bl k) H':=bW sm mP rfl
theorem yx {rest:List Expr} (ha:SE X cl a a') (hb:SE X cl (.BoolOp .And (b :: rest) pos) b'):SE X cl (.BoolOp .And (a :: b :: rest) pos) (.and a' b'):=by
 refine PE.weak (yI ha hb) fun σ H Q h=>?_
 obtain ⟨σD,d,rv,e,k⟩:=h
 rw [RL.ev] at e
 obtain ⟨x,ea,e⟩:=bind_some e
 refine ⟨σD,x,rv,ea,fun v H1 r1=>?_⟩
 cases x with
 | bl t =>
  refine ⟨t,aH r1.rep,?_⟩
  cases t with
  | true =>
   refine cZ ?_
   refine ⟨σD,d,rv.same r1.same,e,fun w H2 r2=>k w H2 ?_⟩
   exact ⟨r1.same.trans r2.same,r2.rep,fun z=>(by cases z),fun M z=>nomatch (show false=true from z)⟩
  | false =>
   refine eu ?_
   cases e
   exact k _ _ (cT r1.same)
 | _=>cases e
theorem Bg {rest:List Expr} (ha:SE X cl a a') (hb:SE X cl (.BoolOp .Or (b :: rest) pos) b'):SE X cl (.BoolOp .Or (a :: b :: rest) pos) (.or a' b'):=by
 refine PE.weak (AO ha hb) fun σ H Q h=>?_
 obtain ⟨σD,d,rv,e,k⟩:=h
 rw [RL.ev] at e
 obtain ⟨x,ea,e⟩:=bind_some e
 refine ⟨σD,x,rv,ea,fun v H1 r1=>?_⟩
 cases x with
 | bl t =>
  refine ⟨t,aH r1.rep,?_⟩
  cases t with
  | false =>
   refine eu ?_
   refine ⟨σD,d,rv.same r1.same,e,fun w H2 r2=>k w H2 ?_⟩
   exact ⟨r1.same.trans r2.same,r2.rep,fun z=>(by cases z),fun M z=>nomatch (show false=true from z)⟩
  | true =>
   refine cZ ?_
   cases e
   exact k _ _ (cT r1.same)
 | _=>cases e
theorem qI {op} (ha:SE X cl a a'):SE X cl (.BoolOp op [a] pos) a':=xA ha
noncomputable def tT (K:PySem.W.Frag) (cl:RL.Cl) (e:RL.E):TT:=fun σ H Q=>∃ σD k,RV0 K σD σ H/\(RL.ev cl σD e).bind RL.truth=some k/\∀ H',ao H H'->Q k H'
noncomputable def ST (X:Cx) (cl:RL.Cl) (e:Expr) (e':RL.E):Prop:=PT X e (tT X.K cl e')
noncomputable def SW (X:Cx) (cl:RL.Cl) (e:Expr) (e':RL.E):Prop:=PW X e (tT X.K cl e')
theorem PT.weak {e:Expr} {t t':TT} (h:PT X e t) (w:∀ σ H Q,t' σ H Q->t σ H Q):PT X e t':=fun pins s σ H Q I q=>h pins s σ H Q I (w σ H Q q)
theorem PW.weak {e:Expr} {t t':TT} (h:PW X e t) (w:∀ σ H Q,t' σ H Q->t σ H Q):PW X e t':=fun wh pins s σ H Q I q=>h wh pins s σ H Q I (w σ H Q q)
theorem aa.isEmpty {P:Addr->Prop} {K:PySem.W.Frag} {H:Hp} {ds:List RL.D} {xs:List V} (h:aa P K H ds xs):ds.isEmpty=xs.isEmpty:=by
 cases ds with
 | nil=>rw [aa] at h; rw [h]; rfl
 | cons d r =>
  rw [aa] at h
  obtain ⟨x,t,rfl,_⟩:=h
  rfl
theorem xV {K:PySem.W.Frag} {H:Hp} {d:RL.D} {v:V} {k:Bool} (r:Rep nP K H d v) (h:RL.truth d=some k):pG K v H k:=by
 cases d <;> simp only [RL.truth] at h <;> first | (cases h; done) | skip
 case bl t=>cases h; rw [aH r]; exact rfl
 case int t =>
  cases h
  rw [af r]
  simp [pG]
 case tup ds =>
  obtain ⟨a,xs,rfl,e,rs⟩:=aP r
  cases h
  exact .inr (.inl ⟨xs,SqT.of e,by rw [rs.isEmpty]⟩)
 case lst ds =>
  obtain ⟨a,xs,rfl,_,e,rs⟩:=a4 r
  cases h
  exact .inl ⟨xs,SqL.of e,by rw [rs.isEmpty]⟩
theorem sR (ha:SE X cl a a') (he:∀ whole,isTrue a X.env whole=(do let v <- whole; standAt a.pos; holding [v] (truthy v))):ST X cl a a':=by
 refine PT.weak (uX ha he) fun σ H Q h=>?_
 obtain ⟨σD,k,rv,e,q⟩:=h
 obtain ⟨d,e1,e2⟩:=bind_some e
 exact ⟨σD,d,rv,e1,fun v H1 r1=>⟨k,xV r1.rep e2,q H1 r1.same⟩⟩
theorem qJ {op:BoolOp} (ha:ST X cl a a'):SW X cl (.BoolOp op [a] pos) a':=by
 cases op with
 | And=>exact vG ha
 | Or=>exact zB ha
theorem qX {σD:RL.St} {k:Bool} (h:(RL.ev cl σD (.and a' b')).bind RL.truth=some k):∃ t,(RL.ev cl σD a').bind RL.truth=some t/\(if t=true then (RL.ev cl σD b').bind RL.truth=some k else k=false):=by
 rw [RL.ev] at h
 cases ea:RL.ev cl σD a' with
 | none=>rw [ea] at h; cases h
 | some x =>
  rw [ea] at h
  cases x with
  | bl t =>
   cases t with
   | true=>exact ⟨true,rfl,cZ h⟩
   | false=>exact ⟨false,rfl,eu (by cases h; rfl)⟩
  | _=>exact noN rfl h
theorem uK {σD:RL.St} {k:Bool} (h:(RL.ev cl σD (.or a' b')).bind RL.truth=some k):∃ t,(RL.ev cl σD a').bind RL.truth=some t/\(if t=true then k=true else (RL.ev cl σD b').bind RL.truth=some k):=by
 rw [RL.ev] at h
 cases ea:RL.ev cl σD a' with
 | none=>rw [ea] at h; cases h
 | some x =>
  rw [ea] at h
  cases x with
  | bl t =>
   cases t with
   | true=>exact ⟨true,rfl,cZ (by cases h; rfl)⟩
   | false=>exact ⟨false,rfl,eu h⟩
  | _=>exact noN rfl h
theorem yA {rest:List Expr} (ha:ST X cl a a') (hb:SW X cl (.BoolOp .And (b :: rest) pos) b'):SW X cl (.BoolOp .And (a :: b :: rest) pos) (.and a' b'):=by
 refine PW.weak (xD ha hb) fun σ H Q h=>?_
 obtain ⟨σD,k,rv,e,q⟩:=h
 obtain ⟨t,e1,e2⟩:=qX e
 refine ⟨σD,t,rv,e1,fun H1 s1=>?_⟩
 cases t with
 | true=>exact cZ ⟨σD,k,rv.same s1,e2,fun H2 s2=>q H2 (s1.trans s2)⟩
 | false =>
  have e2:k=false:=e2
  subst e2
  exact eu (q H1 s1)
theorem AM {rest:List Expr} (ha:ST X cl a a') (hb:SW X cl (.BoolOp .Or (b :: rest) pos) b'):SW X cl (.BoolOp .Or (a :: b :: rest) pos) (.or a' b'):=by
 refine PW.weak (A2 ha hb) fun σ H Q h=>?_
 obtain ⟨σD,k,rv,e,q⟩:=h
 obtain ⟨t,e1,e2⟩:=uK e
 refine ⟨σD,t,rv,e1,fun H1 s1=>?_⟩
 cases t with
 | true =>
  have e2:k=true:=e2
  subst e2
  exact cZ (q H1 s1)
 | false=>exact eu ⟨σD,k,rv.same s1,e2,fun H2 s2=>q H2 (s1.trans s2)⟩
theorem yg (ha:ST X cl a a'):ST X cl (.UnaryOp .Not a pos) (.not a'):=by
 refine PT.weak (xC ha) fun σ H Q h=>?_
 obtain ⟨σD,k,rv,e,q⟩:=h
 rw [RL.ev] at e
 obtain ⟨d,e1,e2⟩:=bind_some e
 obtain ⟨t,e3,e4⟩:=map_some e1
 subst e4
 cases e2
 exact ⟨σD,t,rv,e3,fun H1 s1=>q H1 s1⟩
theorem yS (hc:ST X cl c c') (ha:SE X cl a a') (hb:SE X cl b b'):SE X cl (.IfExp c a b pos) (.ifx c' a' b'):=by
 refine PE.weak (tU hc ha hb) fun σ H Q h=>?_
 obtain ⟨σD,d,rv,e,q⟩:=h
 rw [RL.ev] at e
 obtain ⟨t,e1,e2⟩:=bind_some e
 refine ⟨σD,t,rv,e1,fun H1 s1=>?_⟩
 have fin:∀ (a':RL.E) (v:V) (H2:Hp),(∀ M,RL.avE M (.ifx c' a' b')=true->RL.avE M a'=true)->True:=fun _ _ _ _=>trivial
 cases t with
 | true =>
  refine cZ ⟨σD,d,rv.same s1,e2,fun v H2 r2=>q v H2 ⟨s1.trans r2.same,r2.rep,fun z=>(by cases z),fun M z P hP av=>?_⟩⟩
  have z:(RL.avE M a' && RL.avE M b')=true:=z
  rw [Bool.and_eq_true] at z
  exact r2.av M z.1 P (fun a p=>(Option.ne_none_iff_exists'.mpr (by obtain ⟨o,ho⟩:=Option.ne_none_iff_exists'.mp (hP a p); exact ⟨o,s1 _ _ ho⟩))) fun j dj vj h1 h2 h3=>(av j dj vj h1 h2 h3).same s1
 | false =>
  refine eu ⟨σD,d,rv.same s1,e2,fun v H2 r2=>q v H2 ⟨s1.trans r2.same,r2.rep,fun z=>(by cases z),fun M z P hP av=>?_⟩⟩
  have z:(RL.avE M a' && RL.avE M b')=true:=z
  rw [Bool.and_eq_true] at z
  exact r2.av M z.2 P (fun a p=>(Option.ne_none_iff_exists'.mpr (by obtain ⟨o,ho⟩:=Option.ne_none_iff_exists'.mp (hP a p); exact ⟨o,s1 _ _ ho⟩))) fun j dj vj h1 h2 h3=>(av j dj vj h1 h2 h3).same s1
end rules
end RS
namespace RS
open PySem PySem.Spec PyProof.Rows L2
section rules
variable {X:Cx} {cl:RL.Cl} {a b c:Expr} {a' b' c':RL.E} {pos:Pos}
theorem Af (ha:SE X cl a a'):SE X cl (.UnaryOp .Not a pos) (.not a'):=by
 intro pins s σ H Q I h
 obtain ⟨σD,d,rv,e,k⟩:=h
 rw [RL.ev] at e
 obtain ⟨t,e1,e2⟩:=map_some e
 obtain ⟨x,e3,e4⟩:=bind_some e1
 subst e2
 refine UnaryOp_ (thn (ha pins s σ H (fun v H1=>ao H H1/\Rep nP X.K H1 x v) I ⟨σD,x,rv,e3,fun v H1 r1=>⟨r1.same,r1.rep⟩⟩) fun v s1 ⟨y,H1,I1,r1,sm,rp⟩=>?_)
 refine not_of (thn (rT pins s1 σ H1 y v (fun k H2=>k=t/\H2=H1) I1 r1 ⟨t,xV rp e4,rfl,rfl⟩) fun k2 s2 ⟨H2,I2,q1,q2⟩=>?_)
 subst q1
 subst q2
 exact ⟨.bl (!k2),H2,I2,rfl,k _ _ (cT sm)⟩
noncomputable def noStar:Expr->Bool
 | .Starred _ _=>false
 | _=>true
theorem aw {e:Expr} (es:List Expr) (h:noStar e=true):starEach (e :: es) X.env=(false,eval e X.env) :: starEach es X.env:=by
 cases e <;> first | rfl | (cases h)
theorem dP:∀ {es:List Expr} {pos:Pos},es.all noStar=true->(backTo pos (starEach es X.env)).any (·.1)=false
 | [],_,_=>rfl
 | e :: es,pos,h=>by
  rw [List.all_cons,Bool.and_eq_true] at h
  rw [aw es h.1]
  show (false || (backTo pos (starEach es X.env)).any (·.1))=false
  rw [dP h.2]
  rfl
theorem bQ:SEs X cl [] .nil:=by
 intro pos pins s σ H Q I h
 obtain ⟨σD,ds,rv,e,k⟩:=h
 rw [RL.evs] at e
 cases e
 exact d9 pos pins s σ H Q I (k [] H (ao.refl H) aa.nil)
theorem aX {e:Expr} {es:List Expr} {e':RL.E} {es':RL.Es} (he:SE X cl e e') (hr:SEs X cl es es') (hn:noStar e=true):SEs X cl (e :: es) (.cons e' es'):=by
 intro pos pins s σ H Q I h
 refine bA he hr (aw es hn) pos pins s σ H Q I ?_
 obtain ⟨σD,ds,rv,e,k⟩:=h
 rw [RL.evs] at e
 obtain ⟨d,e1,e2⟩:=bind_some e
 obtain ⟨r,e3,e4⟩:=map_some e2
 subst e4
 refine ⟨σD,d,rv,e1,fun v H1 r1=>⟨σD,r,rv.same r1.same,e3,fun vs H2 s2 r2=>k (v :: vs) H2 (r1.same.trans s2) (aa.cons (r1.rep.same s2) r2)⟩⟩
noncomputable def de:RL.Es->Nat
 | .nil=>0
 | .cons _ r=>de r+1
theorem jy {σD:RL.St}:∀ {es:RL.Es} {ds:List RL.D},RL.evs cl σD es=some ds->ds.length=de es
 | .nil,ds,h=>by rw [RL.evs] at h; cases h; rfl
 | .cons e r,ds,h=>by
  rw [RL.evs] at h
  obtain ⟨d,e1,e2⟩:=bind_some h
  obtain ⟨t,e3,e4⟩:=map_some e2
  subst e4
  rw [List.length_cons,jy e3,de]
theorem xr {es:List Expr} {es':RL.Es} {x1} (h:SEs X cl es es') (hl:de es'<=1000):SE X cl (.Tuple es x1 pos) (.tup es'):=by
 refine PE.weak (zi h) fun σ H Q q=>?_
 obtain ⟨σD,d,rv,e,k⟩:=q
 rw [RL.ev] at e
 obtain ⟨ds,e1,e2⟩:=map_some e
 subst e2
 refine ⟨σD,ds,rv,e1,fun vs H1 s1 r1=>⟨?_,fun p hp=>k _ _ (gL s1 hp r1 fun _=>rfl)⟩⟩
 rw [<- r1.length,jy e1]
 exact Nat.le_of_lt (lE hl)
theorem yM {es:List Expr} {es':RL.Es} (h:SEs X cl es es') (hl:de es'<=1000):SE X cl (.List es pos) (.lst es'):=by
 refine PE.weak (yK h) fun σ H Q q=>?_
 obtain ⟨σD,d,rv,e,k⟩:=q
 rw [RL.ev] at e
 obtain ⟨ds,e1,e2⟩:=map_some e
 subst e2
 refine ⟨σD,ds,rv,e1,fun vs H1 s1 r1=>⟨?_,fun p hp=>k _ _ (cI s1 hp r1 fun _=>rfl)⟩⟩
 rw [<- r1.length,jy e1]
 exact Nat.le_of_lt (lE hl)
theorem ku {α:Type} {xs:List α} {i:Int} {x:α} (h:RL.bZ xs i=some x):atI xs i=some x:=by
 unfold RL.bZ at h
 unfold atI ixN
 by_cases h0:0<=i
 ·rw [if_pos h0] at h
  rw [if_pos h0]
  obtain ⟨h1,_⟩:=List.getElem?_eq_some_iff.mp h
  rw [if_pos (by omega)]
  exact h
 ·rw [if_neg h0] at h
  rw [if_neg h0]
  by_cases h1:-(xs.length:Int)<=i
  ·rw [if_pos h1] at h
   rw [if_pos h1]
   exact h
  ·rw [if_neg h1] at h
   cases h
theorem f9 {P:Addr->Prop} {K:PySem.W.Frag} {H:Hp} {ds:List RL.D} {xs:List V} {i:Int} {d:RL.D} (r:aa P K H ds xs) (h:RL.bZ ds i=some d):∃ x,RL.bZ xs i=some x/\Rep P K H d x:=by
 unfold RL.bZ at h ⊢
 rw [<- r.length]
 by_cases h0:0<=i
 ·rw [if_pos h0] at h ⊢
  exact r.get h
 ·rw [if_neg h0] at h ⊢
  by_cases h1:-(ds.length:Int)<=i
  ·rw [if_pos h1] at h ⊢
   exact r.get h
  ·rw [if_neg h1] at h
   cases h
noncomputable def j4:Expr->Bool
 | .Slice _ _ _ _=>false
 | _=>true
theorem vL {b:Expr} (h:j4 b=true):oO b:=by
 intro o i
 cases b <;> first | rfl | (cases h)
theorem sh {x y d:RL.D} (h:RL.ixV x y=some d):(∃ xs i,x=.lst xs/\y=.int i/\RL.bZ xs i=some d)\/(∃ xs i,x=.tup xs/\y=.int i/\RL.bZ xs i=some d) \/
  (∃ (z:Str) (i:Int) (c:Nat),x=.str z/\y=.int i/\z.length<=RL.most/\RL.bZ z.cps.toList i=some c/\d=.str ⟨#[c]⟩):=by
 have no:∀ {o:Option RL.D},o=none->o=some d->False:=fun e h=>by rw [e] at h; cases h
 cases x with
 | lst xs=>cases y with
  | int i=>exact .inl ⟨xs,i,rfl,rfl,h⟩
  | _=>exact (no rfl h).elim
 | tup xs=>cases y with
  | int i=>exact .inr (.inl ⟨xs,i,rfl,rfl,h⟩)
  | _=>exact (no rfl h).elim
 | str z=>cases y with
  | int i =>
   by_cases hc:z.length<=RL.most
   ·obtain ⟨c,e1,e2⟩:=map_some (show (RL.bZ z.cps.toList i).map (fun c=>RL.D.str ⟨#[c]⟩)=some d from (if_pos hc).symm.trans h)
    exact .inr (.inr ⟨z,i,c,rfl,rfl,hc,e1,e2.symm⟩)
   ·exact (no (if_neg hc) h).elim
  | _=>exact (no rfl h).elim
 | _=>exact (no rfl h).elim
theorem Bf (ha:SE X cl a a') (hb:SE X cl b b') (hs:j4 b=true):SE X cl (.Subscript a b pos) (.ix a' b'):=by
 refine PE.weak (AJ Ab ha hb (vL hs)) fun σ H Q h=>?_
 obtain ⟨σD,d,rv,e,k⟩:=h
 rw [RL.ev] at e
 obtain ⟨x,ea,e⟩:=bind_some e
 obtain ⟨y,eb,e⟩:=bind_some e
 refine two rv ea eb fun v u H1 H2 s1 s2 rx ry ra rb=>?_
 have fin:∀ (w:V),Rep nP X.K H2 d w->(∀ P:Addr->Prop,Rep P X.K H2 x v->Rep P X.K H2 d w)->Res X.K σD σ H (.ix a' b') d w H2:=fun w h1 h2=>{
  same:=s1.trans s2
  rep:=h1
  fresh:=fun z=>by cases z
  av:=fun M z P hP av=>h2 P ((ra.av M z P hP av).same s2) }
 rcases sh e with ⟨xs,i,rfl,rfl,hd⟩ | ⟨xs,i,rfl,rfl,hd⟩ | ⟨z,i,c,rfl,rfl,hz,hd,rfl⟩
 ·obtain ⟨p,ys,rfl,_,e2,e3⟩:=a4 rx
  obtain ⟨w,h1,h2⟩:=f9 e3 hd
  refine .inl ⟨p,ys,i,w,rfl,af ry,SqL.of e2,ku h1,k _ _ (fin w h2 fun P rp=>?_)⟩
  obtain ⟨p',ys',q1,_,q2,q3⟩:=a4 rp
  cases q1
  rw [e2] at q2
  cases q2
  obtain ⟨w',h3,h4⟩:=f9 q3 hd
  rw [h1] at h3
  cases h3
  exact h4
 ·obtain ⟨p,ys,rfl,e2,e3⟩:=aP rx
  obtain ⟨w,h1,h2⟩:=f9 e3 hd
  refine .inr (.inl ⟨p,ys,i,w,rfl,af ry,SqT.of e2,ku h1,k _ _ (fin w h2 fun P rp=>?_)⟩)
  obtain ⟨p',ys',q1,q2,q3⟩:=aP rp
  cases q1
  rw [e2] at q2
  cases q2
  obtain ⟨w',h3,h4⟩:=f9 q3 hd
  rw [h1] at h3
  cases h3
  exact h4
 ·exact .inr (.inr ⟨z,i,c,aB rx,af ry,Nat.le_trans hz b9,ku hd,k _ _ (fin _ fP fun P _=>fP)⟩)
end rules
end RS
namespace RS
open PySem PySem.Spec PyProof.Rows L2
section rules
variable {X:Cx} {cl:RL.Cl} {a b c:Expr} {a' b' c':RL.E} {pos:Pos}
theorem eK {f:RL.D->RL.D->Option Bool}:∀ {as bs:List RL.D} {k:Bool},RL.eqs f as bs=some k ->
  ∃ e:Nat->Bool,k=(List.range (min as.length bs.length)).all e/\∀ j x y,as[j]?=some x->bs[j]?=some y->f x y=some (e j)
 | [],bs,k,h=>by
  have h:some true=some k:=by simpa [RL.eqs] using h
  cases h
  exact ⟨fun _=>true,by simp,fun j x y h1=>by simp at h1⟩
 | a :: r,[],k,h=>by
  have h:some true=some k:=by simpa [RL.eqs] using h
  cases h
  exact ⟨fun _=>true,by simp,fun j x y h1 h2=>by simp at h2⟩
 | a :: r,b :: s,k,h=>by
  rw [RL.eqs] at h
  obtain ⟨e0,h1,h2⟩:=bind_some h
  obtain ⟨k',h3,h4⟩:=map_some h2
  obtain ⟨e,h5,h6⟩:=eK h3
  refine ⟨fun j=>match j with | 0=>e0 | j+1=>e j,?_,fun j x y hx hy=>?_⟩
  ·rw [<- h4,h5,List.length_cons,List.length_cons,Nat.succ_min_succ,List.range_succ_eq_map,List.all_cons,List.all_map]
   rfl
  ·cases j with
   | zero =>
    simp at hx hy
    subst hx hy
    exact h1
   | succ j=>exact h6 j x y (by simpa using hx) (by simpa using hy)
theorem eg {n:Nat} {x y:RL.D} {k:Bool} (h:RL.eqD n x y=some k):(∃ i j,x=.bl i/\y=.bl j/\(i == j)=k)\/(∃ i j,x=.int i/\y=.int j/\(i == j)=k)\/(∃ i j,x=.str i/\y=.str j/\(i == j)=k) \/
  (∃ m i j,n=m+1/\x=.tup i/\y=.tup j/\Option.map (fun k=>k && i.length == j.length) (RL.eqs (RL.eqD m) i j)=some k)\/(∃ m i j,n=m+1/\x=.lst i/\y=.lst j/\Option.map (fun k=>k && i.length == j.length) (RL.eqs (RL.eqD m) i j)=some k):=by
 cases n with
 | zero=>cases x with
  | bl i=>cases y with
   | bl j=>exact .inl ⟨i,j,rfl,rfl,Option.some.inj h⟩
   | _=>exact noN rfl h
  | int i=>cases y with
   | int j=>exact .inr (.inl ⟨i,j,rfl,rfl,Option.some.inj h⟩)
   | _=>exact noN rfl h
  | str i=>cases y with
   | str j=>exact .inr (.inr (.inl ⟨i,j,rfl,rfl,Option.some.inj h⟩))
   | _=>exact noN rfl h
  | _=>exact noN rfl h
 | succ m=>cases x with
  | bl i=>cases y with
   | bl j=>exact .inl ⟨i,j,rfl,rfl,Option.some.inj h⟩
   | _=>exact noN rfl h
  | int i=>cases y with
   | int j=>exact .inr (.inl ⟨i,j,rfl,rfl,Option.some.inj h⟩)
   | _=>exact noN rfl h
  | str i=>cases y with
   | str j=>exact .inr (.inr (.inl ⟨i,j,rfl,rfl,Option.some.inj h⟩))
   | _=>exact noN rfl h
  | tup i=>cases y with
   | tup j=>exact .inr (.inr (.inr (.inl ⟨m,i,j,rfl,rfl,rfl,h⟩)))
   | _=>exact noN rfl h
  | lst i=>cases y with
   | lst j=>exact .inr (.inr (.inr (.inr ⟨m,i,j,rfl,rfl,rfl,h⟩)))
   | _=>exact noN rfl h
  | _=>exact noN rfl h
theorem l7 {K:PySem.W.Frag} {H:Hp}:∀ (n:Nat) (x y:RL.D) (v:V) (k:Bool),Rep nP K H x v->Rep nP K H y v->RL.eqD n x y=some k->k=true:=by
 intro n
 induction n with
 | zero =>
  intro x y v k rx ry h
  rcases eg h with ⟨i,j,rfl,rfl,rfl⟩ | ⟨i,j,rfl,rfl,rfl⟩ | ⟨i,j,rfl,rfl,rfl⟩ | ⟨m,i,j,hn,hx,hy,h⟩ | ⟨m,i,j,hn,hx,hy,h⟩
  ·have:=aH rx; rw [aH ry] at this; cases this; simp
  ·have:=af rx; rw [af ry] at this; cases this; simp
  ·have:=aB rx; rw [aB ry] at this; cases this; simp
  ·cases hn
  ·cases hn
 | succ n ih =>
  intro x y v k rx ry h
  have seq:∀ (i j:List RL.D) (xs:List V) (k:Bool),aa nP K H i xs->aa nP K H j xs->Option.map (fun k=>k && i.length == j.length) (RL.eqs (RL.eqD n) i j)=some k->k=true:=by
   intro i j xs k e3 f3 h
   obtain ⟨k',h1,h2⟩:=map_some h
   obtain ⟨e,h3,h4⟩:=eK h1
   have hl:i.length=j.length:=e3.length.trans f3.length.symm
   have hk:k'=true:=by
    rw [h3,List.all_eq_true]
    intro m hm
    rw [List.mem_range] at hm
    obtain ⟨w,w1,w2⟩:=e3.get (i:=m) (d:=i[m]'(by omega)) (by simp)
    obtain ⟨w',w1',w2'⟩:=f3.get (i:=m) (d:=j[m]'(by omega)) (by simp)
    rw [w1] at w1'
    cases w1'
    exact ih _ _ w (e m) w2 w2' (h4 m _ _ (by simp) (by simp))
   rw [<- h2,hk,hl]
   simp
  rcases eg h with ⟨i,j,rfl,rfl,rfl⟩ | ⟨i,j,rfl,rfl,rfl⟩ | ⟨i,j,rfl,rfl,rfl⟩ | ⟨m,i,j,hn,hx,hy,h⟩ | ⟨m,i,j,hn,hx,hy,h⟩
  ·have:=aH rx; rw [aH ry] at this; cases this; simp
  ·have:=af rx; rw [af ry] at this; cases this; simp
  ·have:=aB rx; rw [aB ry] at this; cases this; simp
  ·cases hn; subst hx; subst hy
   obtain ⟨p,xs,rfl,e2,e3⟩:=aP rx
   obtain ⟨q,ys,q1,f2,f3⟩:=aP ry
   cases q1
   rw [e2] at f2
   cases f2
   exact seq i j xs k e3 f3 h
  ·cases hn; subst hx; subst hy
   obtain ⟨p,xs,rfl,_,e2,e3⟩:=a4 rx
   obtain ⟨q,ys,q1,_,f2,f3⟩:=a4 ry
   cases q1
   rw [e2] at f2
   cases f2
   exact seq i j xs k e3 f3 h
open SeqAt in
theorem deep {pins:List (Addr × Obj)} {σ:L2.St} {H:Hp} {s:Shared} (I:Inv X pins σ H s):∀ (n:Nat) (A:Around) (x y:RL.D) (v u:V) (va ua:Value) (k:Bool),A.units+n<cLine->Rep nP X.K H x v->Rep nP X.K H y u->RelV v va->RelV u ua ->
  RL.eqD n x y=some k->RcAt A s va ua k/\EqAt A s va ua k:=by
 intro n
 induction n with
 | zero =>
  intro A x y v u va ua k hu rx ry qx qy h
  rcases eg h with ⟨i,j,rfl,rfl,rfl⟩ | ⟨i,j,rfl,rfl,rfl⟩ | ⟨i,j,rfl,rfl,rfl⟩ | ⟨m,i,j,hn,hx,hy,h⟩ | ⟨m,i,j,hn,hx,hy,h⟩
  ·rw [aH rx] at qx; rw [aH ry] at qy; cases qx; cases qy; exact ⟨RcAt.bool_bool i j,EqAt.bool_bool i j⟩
  ·rw [af rx] at qx; rw [af ry] at qy; obtain ⟨t,rfl⟩:=qx; obtain ⟨t',rfl⟩:=qy; exact ⟨RcAt.int_int i t j t',EqAt.int_int i t j t'⟩
  ·rw [aB rx] at qx; rw [aB ry] at qy; obtain ⟨t,rfl⟩:=qx; obtain ⟨t',rfl⟩:=qy; exact ⟨RcAt.str_str i t j t',EqAt.str_str i t j t'⟩
  ·cases hn
  ·cases hn
 | succ n ih =>
  intro A x y v u va ua k hu rx ry qx qy h
  rcases eg h with ⟨i,j,rfl,rfl,rfl⟩ | ⟨i,j,rfl,rfl,rfl⟩ | ⟨i,j,rfl,rfl,rfl⟩ | ⟨m,i,j,hn,hx,hy,h⟩ | ⟨m,i,j,hn,hx,hy,h⟩
  ·rw [aH rx] at qx; rw [aH ry] at qy; cases qx; cases qy; exact ⟨RcAt.bool_bool i j,EqAt.bool_bool i j⟩
  ·rw [af rx] at qx; rw [af ry] at qy; obtain ⟨t,rfl⟩:=qx; obtain ⟨t',rfl⟩:=qy; exact ⟨RcAt.int_int i t j t',EqAt.int_int i t j t'⟩
  ·rw [aB rx] at qx; rw [aB ry] at qy; obtain ⟨t,rfl⟩:=qx; obtain ⟨t',rfl⟩:=qy; exact ⟨RcAt.str_str i t j t',EqAt.str_str i t j t'⟩
  ·cases hn; subst hx; subst hy
   obtain ⟨p,xs,rfl,e2,e3⟩:=aP rx
   obtain ⟨q,ys,rfl,f2,f3⟩:=aP ry
   cases qx; cases qy
   obtain ⟨its,r1,t1,z1⟩:=I.tuple (SqT.of e2)
   obtain ⟨jts,r2,t2,z2⟩:=I.tuple (SqT.of f2)
   obtain ⟨k',h1,h2⟩:=map_some h
   obtain ⟨e,h3,h4⟩:=eK h1
   have l1:i.length=its.length:=e3.length.trans r1.length
   have l2:j.length=jts.length:=f3.length.trans r2.length
   have he:∀ m (g1:m<its.toArray.size) (g2:m<jts.toArray.size),EqAt A.in1 s its.toArray[m] jts.toArray[m] (e m):=fun m g1 g2=>by
    rw [List.size_toArray] at g1 g2
    obtain ⟨w,w1,w2⟩:=e3.get (i:=m) (d:=i[m]'(by omega)) (by simp)
    obtain ⟨w',w1',w2'⟩:=f3.get (i:=m) (d:=j[m]'(by omega)) (by simp)
    obtain ⟨uu,b1,b2⟩:=r1.get w1
    obtain ⟨uu',b1',b2'⟩:=r2.get w1'
    have c1:its.toArray[m]=uu:=by simpa using (List.getElem?_eq_some_iff.mp b1).2
    have c2:jts.toArray[m]=uu':=by simpa using (List.getElem?_eq_some_iff.mp b1').2
    rw [c1,c2]
    exact (ih A.in1 _ _ w w' uu uu' (e m) (by show A.units+1+n<cLine; omega) w2 w2' b2 b2' (h4 m _ _ (by simp) (by simp))).2
   have main:RcAt A s (.ref p) (.ref q) k:=by
    have z:=RcAt.tuples (e:=e) t1 t2 (by omega) he
    rw [List.size_toArray,List.size_toArray,<- l1,<- l2,<- h3,h2] at z
    exact z
   refine ⟨main,?_⟩
   by_cases z:p=q
   ·subst z
    rw [l7 (n+1) _ _ _ k rx ry h]
    exact EqAt.same _
   ·exact EqAt.of_refs z main
  ·cases hn; subst hx; subst hy
   obtain ⟨p,xs,rfl,_,e2,e3⟩:=a4 rx
   obtain ⟨q,ys,rfl,_,f2,f3⟩:=a4 ry
   cases qx; cases qy
   obtain ⟨its,r1,t1,z1⟩:=I.list (SqL.of e2)
   obtain ⟨jts,r2,t2,z2⟩:=I.list (SqL.of f2)
   obtain ⟨k',h1,h2⟩:=map_some h
   obtain ⟨e,h3,h4⟩:=eK h1
   have l1:i.length=its.length:=e3.length.trans r1.length
   have l2:j.length=jts.length:=f3.length.trans r2.length
   have he:∀ m (g1:m<its.toArray.size) (g2:m<jts.toArray.size),EqAt A.in1 s its.toArray[m] jts.toArray[m] (e m):=fun m g1 g2=>by
    rw [List.size_toArray] at g1 g2
    obtain ⟨w,w1,w2⟩:=e3.get (i:=m) (d:=i[m]'(by omega)) (by simp)
    obtain ⟨w',w1',w2'⟩:=f3.get (i:=m) (d:=j[m]'(by omega)) (by simp)
    obtain ⟨uu,b1,b2⟩:=r1.get w1
    obtain ⟨uu',b1',b2'⟩:=r2.get w1'
    have c1:its.toArray[m]=uu:=by simpa using (List.getElem?_eq_some_iff.mp b1).2
    have c2:jts.toArray[m]=uu':=by simpa using (List.getElem?_eq_some_iff.mp b1').2
    rw [c1,c2]
    exact (ih A.in1 _ _ w w' uu uu' (e m) (by show A.units+1+n<cLine; omega) w2 w2' b2 b2' (h4 m _ _ (by simp) (by simp))).2
   have main:RcAt A s (.ref p) (.ref q) k:=by
    by_cases hl:its.length=jts.length
    ·have z:=RcAt.lists (e:=e) t1.isList t2.isList (by rw [List.size_toArray,List.size_toArray]; exact hl) (by omega) he
     rw [List.size_toArray] at z
     have hk:k=(List.range its.length).all e:=by
      rw [<- h2,h3,l1,l2,hl]
      simp
     rw [hk]
     exact z
    ·have hk:k=false:=by
      rw [<- h2,l1,l2]
      simp [hl]
     rw [hk]
     exact RcAt.lists_lengths t1.isList t2.isList (by rw [List.size_toArray,List.size_toArray]; simpa using hl) (by omega)
   refine ⟨main,?_⟩
   by_cases z:p=q
   ·subst z
    rw [l7 (n+1) _ _ _ k rx ry h]
    exact EqAt.same _
   ·exact EqAt.of_refs z main
end rules
end RS
namespace RS
open PySem PySem.Spec PyProof.Rows L2
section rules
variable {X:Cx} {cl:RL.Cl} {a b c:Expr} {a' b' c':RL.E} {pos:Pos}
open SeqAt in
theorem x8 {pins:List (Addr × Obj)} {σ:L2.St} {H:Hp} {s:Shared} (I:Inv X pins σ H s) (n:Nat) (A:Around) (x y:RL.D) (v u:V) (va ua:Value) (k:Bool) (hu:A.units+n<cLine) (rx:Rep nP X.K H x v) (ry:Rep nP X.K H y u) (qx:RelV v va) (qy:RelV u ua)
  (h:RL.eqD n x y=some k):RcNeAt A s va ua (!k):=by
 rcases eg h with ⟨i,j,rfl,rfl,rfl⟩ | ⟨i,j,rfl,rfl,rfl⟩ | ⟨i,j,rfl,rfl,rfl⟩ | ⟨nn,i,j,hn,hx,hy,h⟩ | ⟨nn,i,j,hn,hx,hy,h⟩
 ·rw [aH rx] at qx; rw [aH ry] at qy; cases qx; cases qy; exact RcNeAt.bool_bool i j
 ·rw [af rx] at qx; rw [af ry] at qy; obtain ⟨t,rfl⟩:=qx; obtain ⟨t',rfl⟩:=qy; exact RcNeAt.int_int i t j t'
 ·rw [aB rx] at qx; rw [aB ry] at qy; obtain ⟨t,rfl⟩:=qx; obtain ⟨t',rfl⟩:=qy; exact RcNeAt.str_str i t j t'
 ·subst hn; subst hx; subst hy
  obtain ⟨p,xs,rfl,e2,e3⟩:=aP rx
  obtain ⟨q,ys,rfl,f2,f3⟩:=aP ry
  cases qx; cases qy
  obtain ⟨its,r1,t1,z1⟩:=I.tuple (SqT.of e2)
  obtain ⟨jts,r2,t2,z2⟩:=I.tuple (SqT.of f2)
  obtain ⟨k',h1,h2⟩:=map_some h
  obtain ⟨e,h3,h4⟩:=eK h1
  have l1:i.length=its.length:=e3.length.trans r1.length
  have l2:j.length=jts.length:=f3.length.trans r2.length
  have he:∀ m (g1:m<its.toArray.size) (g2:m<jts.toArray.size),EqAt A.in1 s its.toArray[m] jts.toArray[m] (e m):=fun m g1 g2=>by
   rw [List.size_toArray] at g1 g2
   obtain ⟨w,w1,w2⟩:=e3.get (i:=m) (d:=i[m]'(by omega)) (by simp)
   obtain ⟨w',w1',w2'⟩:=f3.get (i:=m) (d:=j[m]'(by omega)) (by simp)
   obtain ⟨uu,b1,b2⟩:=r1.get w1
   obtain ⟨uu',b1',b2'⟩:=r2.get w1'
   have c1:its.toArray[m]=uu:=by simpa using (List.getElem?_eq_some_iff.mp b1).2
   have c2:jts.toArray[m]=uu':=by simpa using (List.getElem?_eq_some_iff.mp b1').2
   rw [c1,c2]
   exact (deep I nn A.in1 _ _ w w' uu uu' (e m) (by show A.units+1+nn<cLine; omega) w2 w2' b2 b2' (h4 m _ _ (by simp) (by simp))).2
  have z:=RcNeAt.tuples (e:=e) t1 t2 (by omega) he
  rw [List.size_toArray,List.size_toArray,<- l1,<- l2,<- h3,h2] at z
  exact z
 ·subst hn; subst hx; subst hy
  obtain ⟨p,xs,rfl,_,e2,e3⟩:=a4 rx
  obtain ⟨q,ys,rfl,_,f2,f3⟩:=a4 ry
  cases qx; cases qy
  obtain ⟨its,r1,t1,z1⟩:=I.list (SqL.of e2)
  obtain ⟨jts,r2,t2,z2⟩:=I.list (SqL.of f2)
  obtain ⟨k',h1,h2⟩:=map_some h
  obtain ⟨e,h3,h4⟩:=eK h1
  have l1:i.length=its.length:=e3.length.trans r1.length
  have l2:j.length=jts.length:=f3.length.trans r2.length
  have he:∀ m (g1:m<its.toArray.size) (g2:m<jts.toArray.size),EqAt A.in1 s its.toArray[m] jts.toArray[m] (e m):=fun m g1 g2=>by
   rw [List.size_toArray] at g1 g2
   obtain ⟨w,w1,w2⟩:=e3.get (i:=m) (d:=i[m]'(by omega)) (by simp)
   obtain ⟨w',w1',w2'⟩:=f3.get (i:=m) (d:=j[m]'(by omega)) (by simp)
   obtain ⟨uu,b1,b2⟩:=r1.get w1
   obtain ⟨uu',b1',b2'⟩:=r2.get w1'
   have c1:its.toArray[m]=uu:=by simpa using (List.getElem?_eq_some_iff.mp b1).2
   have c2:jts.toArray[m]=uu':=by simpa using (List.getElem?_eq_some_iff.mp b1').2
   rw [c1,c2]
   exact (deep I nn A.in1 _ _ w w' uu uu' (e m) (by show A.units+1+nn<cLine; omega) w2 w2' b2 b2' (h4 m _ _ (by simp) (by simp))).2
  by_cases hl:its.length=jts.length
  ·have z:=RcNeAt.lists (e:=e) t1.isList t2.isList (by rw [List.size_toArray,List.size_toArray]; exact hl) (by omega) he
   rw [List.size_toArray] at z
   have hk:k=(List.range its.length).all e:=by
    rw [<- h2,h3,l1,l2,hl]
    simp
   rw [hk]
   exact z
  ·have hk:k=false:=by
    rw [<- h2,l1,l2]
    simp [hl]
   rw [hk]
   exact RcNeAt.lists_lengths t1.isList t2.isList (by rw [List.size_toArray,List.size_toArray]; simpa using hl) (by omega)
noncomputable def cz:RL.Cop->CmpOp
 | .lt=>.Lt
 | .le=>.LtE
 | .gt=>.Gt
 | .ge=>.GtE
 | .eq=>.Eq
 | .ne=>.NotEq
noncomputable def pD (K:PySem.W.Frag) (c:RL.Cop):R2:=fun v u H Q=>∃ x y k,Rep nP K H x v/\Rep nP K H y u/\RL.aR c x y=some k/\Q (.bl k) H
theorem gY {c:RL.Cop} (hc:c≠.eq) (hc2:c≠.ne) {x y:RL.D} {k:Bool} (h:RL.aR c x y=some k):∃ i j,x=.int i/\y=.int j:=by
 have no:∀ {a b:RL.D},RL.aR .lt a b=none->RL.aR .le a b=none->RL.aR .gt a b=none->RL.aR .ge a b=none->RL.aR c a b=some k->False:=fun e1 e2 e3 e4 h=>by
  cases c with
  | eq=>exact hc rfl
  | ne=>exact hc2 rfl
  | lt=>rw [e1] at h; cases h
  | le=>rw [e2] at h; cases h
  | gt=>rw [e3] at h; cases h
  | ge=>rw [e4] at h; cases h
 cases x with
 | int i=>cases y with
  | int j=>exact ⟨_,_,rfl,rfl⟩
  | _=>exact (no rfl rfl rfl rfl h).elim
 | _=>exact (no rfl rfl rfl rfl h).elim
theorem fR {c:RL.Cop} (hu:X.A.units+100<cLine):OpR X (compareOp (cz c)) (pD X.K c):=by
 intro pins s σ H x y v u Q I rx ry h
 obtain ⟨dx,dy,k,ex,ey,e,q⟩:=h
 have fin:EP X pins σ Q (.bool k) s:=⟨.bl k,H,I,rfl,q⟩
 cases c with
 | eq =>
  have e:RL.eqD 8 dx dy=some k:=e
  exact (deep I 8 X.A dx dy x y v u k (by omega) ex ey rx ry e).1 X.prog X.w X.xe _ fin
 | ne =>
  obtain ⟨k',e1,e2⟩:=map_some (show (RL.eqD 8 dx dy).map not=some k from e)
  subst e2
  exact x8 I 8 X.A dx dy x y v u k' (by omega) ex ey rx ry e1 X.prog X.w X.xe _ fin
 | lt =>
  obtain ⟨i,j,rfl,rfl⟩:=gY (by decide) (by decide) e
  cases e
  rw [af ex] at rx; rw [af ey] at ry
  obtain ⟨t,rfl⟩:=rx; obtain ⟨t',rfl⟩:=ry
  exact lt_int fin
 | le =>
  obtain ⟨i,j,rfl,rfl⟩:=gY (by decide) (by decide) e
  cases e
  rw [af ex] at rx; rw [af ey] at ry
  obtain ⟨t,rfl⟩:=rx; obtain ⟨t',rfl⟩:=ry
  exact le_int fin
 | gt =>
  obtain ⟨i,j,rfl,rfl⟩:=gY (by decide) (by decide) e
  cases e
  rw [af ex] at rx; rw [af ey] at ry
  obtain ⟨t,rfl⟩:=rx; obtain ⟨t',rfl⟩:=ry
  exact gt_int fin
 | ge =>
  obtain ⟨i,j,rfl,rfl⟩:=gY (by decide) (by decide) e
  cases e
  rw [af ex] at rx; rw [af ey] at ry
  obtain ⟨t,rfl⟩:=rx; obtain ⟨t',rfl⟩:=ry
  exact ge_int fin
theorem gG {c:RL.Cop} (b:Expr):behindInMarks (cz c) b=false:=by cases c <;> exact nY b
theorem qC {c:RL.Cop} {σ:L2.St} {H:Hp} {Q:VK} (h:∃ σD d,RV0 X.K σD σ H/\RL.ev cl σD (.cmp c a' b')=some d/\∀ H',ao H H'->∃ k,d=.bl k/\Q (.bl k) H'):tOp (pD X.K c) (tE X.K cl a') (tE X.K cl b') σ H Q:=by
 obtain ⟨σD,d,rv,e,k⟩:=h
 rw [RL.ev] at e
 obtain ⟨x,ea,e⟩:=bind_some e
 obtain ⟨y,eb,e⟩:=bind_some e
 obtain ⟨t,e1,e2⟩:=map_some e
 refine two rv ea eb fun v u H1 H2 s1 s2 rx ry _ _=>?_
 obtain ⟨k',h1,h2⟩:=k H2 (s1.trans s2)
 rw [h1] at e2
 cases e2
 exact ⟨x,y,t,rx,ry,e1,h2⟩
theorem lp {c:RL.Cop} {σD:RL.St} {d:RL.D} (e:RL.ev cl σD (.cmp c a' b')=some d):∃ k,d=.bl k:=by
 rw [RL.ev] at e
 obtain ⟨x,ea,e⟩:=bind_some e
 obtain ⟨y,eb,e⟩:=bind_some e
 obtain ⟨t,e1,e2⟩:=map_some e
 exact ⟨t,e2.symm⟩
theorem Am {c:RL.Cop} (hu:X.A.units+100<cLine) (ha:SE X cl a a') (hb:SE X cl b b'):SE X cl (.Compare a [cz c] [b] pos) (.cmp c a' b'):=by
 refine PE.weak (oV (fR hu) ha hb (gG b)) fun σ H Q h=>?_
 obtain ⟨σD,d,rv,e,k⟩:=h
 obtain ⟨t,rfl⟩:=lp e
 exact qC ⟨σD,_,rv,e,fun H' sm=>⟨t,rfl,k _ _ (cT sm)⟩⟩
theorem yB {c:RL.Cop} (hu:X.A.units+100<cLine) (ha:SE X cl a a') (hb:SE X cl b b'):ST X cl (.Compare a [cz c] [b] pos) (.cmp c a' b'):=by
 refine PT.weak (ko (fR hu) ha hb (gG b)) fun σ H Q h=>?_
 obtain ⟨σD,k,rv,e,q⟩:=h
 obtain ⟨d,e1,e2⟩:=bind_some e
 obtain ⟨t,rfl⟩:=lp e1
 cases e2
 exact qC ⟨σD,_,rv,e1,fun H' sm=>⟨k,rfl,k,rfl,q H' sm⟩⟩
theorem uY {c c':RL.Cop} (b e:Expr):lastMarks [cz c,cz c'] [b,e]=false:=by
 show behindInMarks (cz c') e=false
 exact gG e
variable {e:Expr} {e':RL.E}
theorem jg {c c':RL.Cop} {σD:RL.St} {d:RL.D} (h:RL.ev cl σD (.chain c c' a' b' e')=some d):∃ k,d=.bl k:=by
 rw [RL.ev] at h
 obtain ⟨x,ea,h⟩:=bind_some h
 obtain ⟨y,eb,h⟩:=bind_some h
 obtain ⟨t,e1,h⟩:=bind_some h
 cases t with
 | true =>
  obtain ⟨z,ec,h⟩:=bind_some (show (RL.ev cl σD e').bind _=some d from h)
  obtain ⟨t,e1,e2⟩:=map_some h
  exact ⟨t,e2.symm⟩
 | false=>exact ⟨false,(Option.some.inj (show some (RL.D.bl false)=some d from h)).symm⟩
theorem mG {c c':RL.Cop} {σ:L2.St} {H:Hp} {Q:VK} (h:∃ σD k,RV0 X.K σD σ H/\RL.ev cl σD (.chain c c' a' b' e')=some (.bl k)/\∀ H',ao H H'->Q (.bl k) H') :
  mU (pD X.K c) (pD X.K c') (tE X.K cl a') (tE X.K cl b') (tE X.K cl e') σ H Q:=by
 obtain ⟨σD,k,rv,h,q⟩:=h
 rw [RL.ev] at h
 obtain ⟨x,ea,h⟩:=bind_some h
 obtain ⟨y,eb,h⟩:=bind_some h
 obtain ⟨t,e1,h⟩:=bind_some h
 refine two rv ea eb fun v u H1 H2 s1 s2 rx ry _ _=>?_
 refine ⟨x,y,t,rx,ry,e1,t,rfl,?_⟩
 have sm:=s1.trans s2
 cases t with
 | true =>
  rw [if_pos rfl] at h
  obtain ⟨z,ec,h⟩:=bind_some h
  obtain ⟨t,e3,e2⟩:=map_some h
  cases e2
  exact cZ ⟨σD,z,rv.same sm,ec,fun w H3 r3=>⟨y,z,k,ry.same r3.same,r3.rep,e3,q H3 (sm.trans r3.same)⟩⟩
 | false =>
  rw [if_neg (by decide)] at h
  cases h
  exact eu (q H2 sm)
theorem uM {c c':RL.Cop} (hu:X.A.units+100<cLine) (ha:SE X cl a a') (hb:SE X cl b b') (he:SE X cl e e'):SE X cl (.Compare a [cz c,cz c'] [b,e] pos) (.chain c c' a' b' e'):=by
 refine PE.weak (tD (fR hu) (fR hu) ha hb he (uY b e)) fun σ H Q h=>?_
 obtain ⟨σD,d,rv,h,k⟩:=h
 obtain ⟨t,rfl⟩:=jg h
 exact mG ⟨σD,t,rv,h,fun H' sm=>k _ _ (cT sm)⟩
theorem uc {c c':RL.Cop} (hu:X.A.units+100<cLine) (ha:SE X cl a a') (hb:SE X cl b b') (he:SE X cl e e'):ST X cl (.Compare a [cz c,cz c'] [b,e] pos) (.chain c c' a' b' e'):=by
 refine PT.weak (t6 (fR hu) (fR hu) ha hb he (uY b e)) fun σ H Q h=>?_
 obtain ⟨σD,k,rv,h,q⟩:=h
 obtain ⟨d,e1,e2⟩:=bind_some h
 obtain ⟨t,rfl⟩:=jg e1
 cases e2
 exact mG ⟨σD,k,rv,e1,fun H' sm=>⟨k,rfl,q H' sm⟩⟩
end rules
end RS
namespace RS
open PySem PySem.Spec PyProof.Rows L2
section rules
variable {X:Cx} {cl:RL.Cl} {a b c:Expr} {a' b' c':RL.E} {pos:Pos}
theorem l8 {neg:Bool} (b:Expr):behindInMarks (if neg then .IsNot else .Is) b=false:=by cases neg <;> exact nY b
theorem ot {neg:Bool}:OpR X (compareOp (if neg then .IsNot else .Is)) (fun x y H Q=>y=.non/\Q (.bl (if neg then !decide (x=.non) else decide (x=.non))) H):=by
 cases neg with
 | true=>exact wO
 | false=>exact Al
theorem qE {neg:Bool} {σD:RL.St} {d:RL.D} (h:RL.ev cl σD (.isN neg a')=some d):∃ x,RL.ev cl σD a'=some x/\∀ v (H:Hp),Rep nP X.K H x v->d=.bl (if neg then !decide (v=.non) else decide (v=.non)):=by
 rw [RL.ev] at h
 obtain ⟨x,ea,h⟩:=bind_some h
 refine ⟨x,ea,fun v H r=>?_⟩
 cases x with
 | non=>cases h; rw [Rep] at r; subst r; cases neg <;> rfl
 | bl k=>cases h; rw [aH r]; cases neg <;> rfl
 | int k=>cases h; rw [af r]; cases neg <;> rfl
 | str k=>cases h; rw [aB r]; cases neg <;> rfl
 | tup k=>cases h; obtain ⟨p,xs,rfl,_⟩:=aP r; cases neg <;> rfl
 | lst k=>cases h; obtain ⟨p,xs,rfl,_⟩:=a4 r; cases neg <;> rfl
 | scr k=>cases h; rw [Rep] at r; obtain ⟨p,xs,rfl,_⟩:=r; cases neg <;> rfl
 | dK _ _=>cases h
 | dT _ _=>cases h
theorem yh {neg:Bool} {j:Nat} {p:Pos} (ha:SE X cl a a'):SE X cl (.Compare a [if neg then .IsNot else .Is] [.Constant .none j p] pos) (.isN neg a'):=by
 refine PE.weak (oV ot ha m9 (l8 _)) fun σ H Q h=>?_
 obtain ⟨σD,d,rv,e,q⟩:=h
 obtain ⟨x,ea,hx⟩:=qE (X:=X) e
 refine ⟨σD,_,rv,ea,fun v H1 r1=>⟨rfl,?_⟩⟩
 have hd:=hx v H1 r1.rep
 subst hd
 exact q _ _ (cT r1.same)
theorem zV {neg:Bool} {j:Nat} {p:Pos} (ha:SE X cl a a'):ST X cl (.Compare a [if neg then .IsNot else .Is] [.Constant .none j p] pos) (.isN neg a'):=by
 refine PT.weak (ko ot ha m9 (l8 _)) fun σ H Q h=>?_
 obtain ⟨σD,k,rv,e,q⟩:=h
 obtain ⟨d,e1,e2⟩:=bind_some e
 obtain ⟨x,ea,hx⟩:=qE (X:=X) e1
 refine ⟨σD,_,rv,ea,fun v H1 r1=>⟨rfl,?_⟩⟩
 have hd:=hx v H1 r1.rep
 subst hd
 cases e2
 exact ⟨_,rfl,q _ r1.same⟩
theorem fj {P:Addr->Prop} {K:PySem.W.Frag} {H:Hp} {d:RL.D} {ds:List RL.D} {v:V} (h:RL.items d=some ds) (r:Rep P K H d v):∃ p xs,v=.ref p/\((H p=some (.lst xs)/\d=.lst ds)\/(H p=some (.tup xs)/\d=.tup ds))/\aa P K H ds xs:=by
 cases d <;> simp only [RL.items] at h <;> first | (cases h; done) | skip
 case lst ys=>cases h; obtain ⟨p,xs,e1,_,e2,e3⟩:=a4 r; exact ⟨p,xs,e1,.inl ⟨e2,rfl⟩,e3⟩
 case tup ys=>cases h; obtain ⟨p,xs,e1,e2,e3⟩:=aP r; exact ⟨p,xs,e1,.inr ⟨e2,rfl⟩,e3⟩
noncomputable def pT:Expr->Bool
 | .Set _ _ _=>false
 | _=>true
theorem lB {op:CmpOp} {b:Expr} (h:pT b=true):behindInMarks op b=false:=by
 cases b <;> first | rfl | (cases h)
noncomputable def spF (K:PySem.W.Frag) (cl:RL.Cl) (f:Nat):Sp:=fun vs H Q _=>∃ ds d,aa nP K H ds vs/\cl f ds=some d/\∀ v H',ao H H'->Rep (fun p=>H p≠none) K H' d v->Q v H'
theorem wz {es:List Expr} {e:Expr} {es':RL.Es} {e':RL.E} {f:Nat} {x:Str} {p:Pos} {k:Nat} {fa:Addr} {fd:FuncData} {ps:List Str} (F:fC X.prog X.w X.K X.mg X.base CX0 k fa fd ps (spF X.K cl f)) (hr:cP k X.A) (hg:Gl X x)
  (hm:X.mg x=some (.ref fa)) (hk:PySem.W.keepIn X.K (.ref fa)=true) (hb:Binds X.K fd ps []) (he:SEs X cl (e :: es) (.cons e' es')) (hdb:(x == ("__debug__" : Str))=false) (hn:noStar e=true) (hns:es.all noStar=true) :
  SE X cl (.Call (.Name x p) (e :: es) [] pos) (.call f (.cons e' es')):=by
 refine PE.weak (wk F hr hg hm hk hb .nil AV he hdb (aw es hn) (dP hns)) fun σ H Q h=>?_
 obtain ⟨σD,d,rv,ev,q⟩:=h
 rw [RL.ev] at ev
 obtain ⟨ds,e1,e2⟩:=bind_some ev
 refine ⟨σD,ds,rv,e1,fun vs H1 s1 r1=>?_⟩
 show spF X.K cl f (vs ++ []) H1 Q E0
 rw [List.append_nil]
 refine ⟨ds,d,r1,e2,fun v H2 s2 r2=>q v H2 ⟨s1.trans s2,r2.none,fun _ m a z=>?_,fun M _ P hP _=>?_⟩⟩
 ·subst z
  have hh:H1 a=none:=by
   cases d with
   | lst ds=>obtain ⟨p,xs,e1,e2,_⟩:=a4 r2; cases e1; exact Classical.byContradiction e2
   | dK ks ds=>rw [Rep] at r2; obtain ⟨p,xs,e1,e2,_⟩:=r2; cases e1; exact Classical.byContradiction e2
   | dT ks ds=>rw [Rep] at r2; obtain ⟨p,xs,e1,e2,_⟩:=r2; cases e1; exact Classical.byContradiction e2
   | _=>cases m
  exact s1.free hh
 ·refine r2.weak fun a z=>?_
  obtain ⟨o,ho⟩:=Option.ne_none_iff_exists'.mp (hP a z)
  rw [s1 _ _ ho]
  exact fun q=>nomatch q
end rules
end RS
namespace RS
open PySem PySem.Spec PyProof.Rows L2
noncomputable def Off (P:Addr->Prop) (H H':Hp):Prop:=∀ b o,¬ P b->H b=some o->H' b=some o
theorem Off.same {H H':Hp} (h:ao H H') {P:Addr->Prop}:Off P H H':=fun b o _ e=>h b o e
mutual
theorem Rep.off {P:Addr->Prop} {K:PySem.W.Frag} {H H':Hp} (hm:∀ b o,P b->H b=some o->cx o) (k:Off P H H'):∀ {d:RL.D} {v:V},Rep P K H d v->Rep P K H' d v
 | .non,v,h=>by simpa [Rep] using h
 | .bl _,v,h=>by simpa [Rep] using h
 | .int _,v,h=>by simpa [Rep] using h
 | .str _,v,h=>by simpa [Rep] using h
 | .tup ds,v,h=>by
  rw [Rep] at h ⊢
  obtain ⟨b,xs,e1,e2,e3⟩:=h
  have n:¬ P b:=fun p=>by rcases hm b _ p e2 with ⟨z,q⟩ | ⟨z,q⟩ | ⟨z,q⟩ <;> cases q
  exact ⟨b,xs,e1,k _ _ n e2,aa.off hm k e3⟩
 | .lst ds,v,h=>by
  rw [Rep] at h ⊢
  obtain ⟨b,xs,e1,e0,e2,e3⟩:=h
  exact ⟨b,xs,e1,e0,k _ _ e0 e2,aa.off hm k e3⟩
 | .dK ks ds,v,h=>by
  rw [Rep] at h ⊢
  obtain ⟨b,xs,e1,e0,e2,el,e3⟩:=h
  exact ⟨b,xs,e1,e0,k _ _ e0 e2,el,aa.off hm k e3⟩
 | .dT ks ds,v,h=>by
  rw [Rep] at h ⊢
  obtain ⟨b,xs,e1,e0,e2,el,e3⟩:=h
  exact ⟨b,xs,e1,e0,k _ _ e0 e2,el,aa.off hm k e3⟩
 | .scr ds,v,h=>by
  rw [Rep] at h ⊢
  obtain ⟨b,xs,e1,e2,e3⟩:=h
  refine ⟨b,xs,e1,?_,aa.off hm k e3⟩
  rcases e2 with ⟨q,e2⟩ | e2
  ·have n:¬ P b:=fun p=>by rcases hm b _ p e2 with ⟨z,q⟩ | ⟨z,q⟩ | ⟨z,q⟩ <;> cases q
   exact .inl ⟨q,k _ _ n e2⟩
  ·exact .inr e2
theorem aa.off {P:Addr->Prop} {K:PySem.W.Frag} {H H':Hp} (hm:∀ b o,P b->H b=some o->cx o) (k:Off P H H'):∀ {ds:List RL.D} {xs:List V},aa P K H ds xs->aa P K H' ds xs
 | [],xs,h=>by rw [aa] at h ⊢; exact h
 | d :: r,xs,h=>by
  rw [aa] at h ⊢
  obtain ⟨x,t,e1,e2,e3⟩:=h
  exact ⟨x,t,e1,Rep.off hm k e2,aa.off hm k e3⟩
end
structure gH (K:PySem.W.Frag) (J:L2.It) (ds:List RL.D) (P:Addr->Prop) (H:Hp):Prop where
 go:∀ H' i,Off P H H'->i<ds.length->J.go i H'
 stop:∀ H',Off P H H'->J.stop ds.length H'
 yld:∀ H' i d x H2,Off P H H'->ds[i]?=some d->J.yld i H' x H2->ao H' H2/\(d.imm=true\/ao H H'->Rep nP K H2 d x)
noncomputable def vd (K:PySem.W.Frag) (σD:RL.St) (σ:L2.St) (H:Hp) (it:RL.It) (J:L2.It) (ds:List RL.D) (H1:Hp):Prop :=
 gH K J ds nP H1/\∀ (M:List Nat) (P:Addr->Prop),RL.pB M it=true->(∀ b,P b->∃ o,H b=some o/\cx o)->(∀ (j:Nat) (dj:RL.D) (vj:V),M.contains j=false->σD[j]?=some (some dj)->σ[j]?=some (some vj)->Rep P K H dj vj)->gH K J ds P H1
noncomputable def tI (K:PySem.W.Frag) (cl:RL.Cl) (it:RL.It):TI:=fun σ H R=>∃ σD ds,RV0 K σD σ H/\RL.a8 cl σD it=some ds/\∀ J H1,ao H H1->vd K σD σ H it J ds H1->R J H1
noncomputable def SI (X:Cx) (cl:RL.Cl) (tg iter:Expr) (it:RL.It):Prop:=PI X tg iter (tI X.K cl it)
theorem PI.weak {X:Cx} {tg iter:Expr} {t t':TI} (h:PI X tg iter t) (w:∀ σ H R,t' σ H R->t σ H R):PI X tg iter t':=fun pins s σ H R I q=>h pins s σ H R I (w σ H R q)
theorem eQ {K:PySem.W.Frag} {P:Addr->Prop} {H H':Hp} {d:RL.D} {v:V} (hm:∀ b o,P b->H b=some o->cx o) (k:Off P H H') (r:Rep nP K H d v) (i:d.imm=true):Rep nP K H' d v :=
 ((r.imm i).off hm k).imm i
theorem oF {K:PySem.W.Frag} {H:Hp} {a:Addr} {ds:List RL.D} {xs:List V} {P:Addr->Prop} (h:H a=some (.lst xs)) (r:aa nP K H ds xs) (hp:¬ P a) (hm:∀ b o,P b->H b=some o->cx o):gH K (Itl K a) ds P H where
 go:=fun H' i k hi=>by
  obtain ⟨x,e,_⟩:=r.get (i:=i) (d:=ds[i]) (by simp [hi])
  exact ⟨xs,x,SqL.of (k _ _ hp h),e⟩
 stop:=fun H' k=>⟨xs,SqL.of (k _ _ hp h),by rw [r.length]; exact Nat.le_refl _⟩
 yld:=fun H' i d x H2 k e y=>by
  obtain ⟨z,y⟩:=y
  subst z
  have hx:=y xs (SqL.of (k _ _ hp h))
  obtain ⟨x',e1,e2⟩:=r.get e
  rw [hx] at e1
  cases e1
  refine ⟨ao.refl _,fun q=>?_⟩
  rcases q with q | q
  ·exact eQ hm k e2 q
  ·exact e2.same q
theorem rD {K:PySem.W.Frag} {H:Hp} {a:Addr} {ds:List RL.D} {xs:List V} {P:Addr->Prop} (h:H a=some (.tup xs)) (r:aa nP K H ds xs) (hm:∀ b o,P b->H b=some o->cx o):gH K (Itt K a) ds P H:=by
 have hp:¬ P a:=fun p=>by rcases hm a _ p h with ⟨z,q⟩ | ⟨z,q⟩ | ⟨z,q⟩ <;> cases q
 exact {
  go:=fun H' i k hi=>by
   obtain ⟨x,e,_⟩:=r.get (i:=i) (d:=ds[i]) (by simp [hi])
   exact ⟨xs,x,SqT.of (k _ _ hp h),e⟩
  stop:=fun H' k=>⟨xs,SqT.of (k _ _ hp h),by rw [r.length]; exact Nat.le_refl _⟩
  yld:=fun H' i d x H2 k e y=>by
   obtain ⟨z,y⟩:=y
   subst z
   have hx:=y xs (SqT.of (k _ _ hp h))
   obtain ⟨x',e1,e2⟩:=r.get e
   rw [hx] at e1
   cases e1
   refine ⟨ao.refl _,fun q=>?_⟩
   rcases q with q | q
   ·exact eQ hm k e2 q
   ·exact e2.same q }
theorem jM:∀ (n:Nat) (lo:Int) (i:Nat) (d:RL.D),(RL.bJ lo n)[i]?=some d->d=.int (lo+i)
 | 0,lo,i,d,h=>by simp [RL.bJ] at h
 | n+1,lo,0,d,h=>by simp [RL.bJ] at h; simp [h]
 | n+1,lo,i+1,d,h=>by
  rw [RL.bJ,List.getElem?_cons_succ] at h
  rw [jM n (lo+1) i d h]
  congr 1
  omega
theorem gX:∀ (n:Nat) (lo:Int),(RL.bJ lo n).length=n
 | 0,_=>rfl
 | n+1,lo=>by rw [RL.bJ,List.length_cons,gX n]
theorem kc {K:PySem.W.Frag} {H:Hp} {lo:Int} {n:Nat} {P:Addr->Prop}:gH K (Itr lo n) (RL.bJ lo n) P H where
 go:=fun H' i k hi=>by rw [gX] at hi; exact hi
 stop:=fun H' k=>by rw [gX]; exact Nat.le_refl _
 yld:=fun H' i d x H2 k e y=>by
  obtain ⟨z,y⟩:=y
  subst z
  refine ⟨ao.refl _,fun _=>?_⟩
  rw [jM n lo i d e,y]
  exact aI
section rules
variable {X:Cx} {cl:RL.Cl} {tg a b l:Expr} {a' b' e':RL.E} {pos p:Pos}
theorem AL {t t':TE} {l:Expr} (hl:PE X l t):PI X tg l (fun σ H R=>t σ H fun x H1=>(∃ a,x=.ref a/\(∃ xs,SqL X.K H1 a xs)/\R (Itl X.K a) H1)\/(∃ a,x=.ref a/\(∃ xs,SqT X.K H1 a xs)/\R (Itt X.K a) H1)):=by
 intro pins s σ H R I h
 refine thn (hl pins s σ H _ I h) fun v s1 ⟨x,H1,I1,r1,q1⟩=>?_
 rcases q1 with ⟨a,e,⟨xs,hq⟩,q⟩ | ⟨a,e,⟨xs,hq⟩,q⟩
 ·subst e
  cases r1
  obtain ⟨its,rv,p,hz⟩:=I1.list hq
  refine wpAny_pyIter_list p.isList ⟨s1.heap.objs.size,[s1.heap.objs.size],_,_,H1,rfl,I1.kept (t':=s1.toks) fun b o e=>Heap.get?_push_of_some _ e,qm a _,⟨_,Heap.get?_push_size _ rfl,rfl,rfl⟩,fun b hb=>?_,q⟩
  rw [show b=s1.heap.objs.size by simpa using hb]
  exact I1.kr (Nat.le_refl _) (I1.hok.fresh (Nat.le_refl _))
 ·subst e
  cases r1
  obtain ⟨its,rv,p,hz⟩:=I1.tuple hq
  refine wpAny_pyIter_tuple (show s1.heap.IsTuple a its.toArray from p) ⟨s1.heap.objs.size,[s1.heap.objs.size],_,_,H1,rfl,I1.kept (t':=s1.toks) fun b o e=>Heap.get?_push_of_some _ e,pS a _,⟨_,Heap.get?_push_size _ rfl,rfl,rfl⟩,fun b hb=>?_,q⟩
  rw [show b=s1.heap.objs.size by simpa using hb]
  exact I1.kr (Nat.le_refl _) (I1.hok.fresh (Nat.le_refl _))
theorem jL {σD:RL.St} {σ:L2.St} {H H1:Hp} {d:RL.D} {v:V} {M:List Nat} {P:Addr->Prop} (r1:Res X.K σD σ H e' d v H1) (z:(RL.avE M e' || RL.au e')=true) (hP:∀ b,P b->∃ o,H b=some o/\cx o)
  (av:∀ (j:Nat) (dj:RL.D) (vj:V),M.contains j=false->σD[j]?=some (some dj)->σ[j]?=some (some vj)->Rep P X.K H dj vj):∀ ds a,d=.lst ds->v=.ref a->¬ P a:=by
 intro ds a hd hv
 subst hd hv
 rw [Bool.or_eq_true] at z
 rcases z with z | z
 ·obtain ⟨p,xs,e1,e2,_⟩:=a4 (r1.av M z P (fun b q=>by obtain ⟨o,ho,_⟩:=hP b q; rw [ho]; exact fun z=>nomatch z) av)
  cases e1
  exact e2
 ·intro q
  obtain ⟨o,ho,_⟩:=hP a q
  rw [r1.fresh z rfl a rfl] at ho
  cases ho
theorem cQ {P:Addr->Prop} {H H1:Hp} (s:ao H H1) (hP:∀ b,P b->∃ o,H b=some o/\cx o):∀ b o,P b->H1 b=some o->cx o:=fun b o q e=>by
 obtain ⟨o',ho,m⟩:=hP b q
 rw [s _ _ ho] at e
 cases e
 exact m
theorem fh {H1:Hp}:∀ b o,nP b->H1 b=some o->cx o:=fun b o q=>q.elim
theorem zX (hl:SE X cl l e') (hs:True):PI X tg l (fun σ H R=>∃ σD d ds,RV0 X.K σD σ H/\RL.ev cl σD e'=some d/\RL.items d=some ds/\∀ J H1,ao H H1->vd X.K σD σ H (.seq e') J ds H1->R J H1):=by
 refine PI.weak (AL (t':=tE X.K cl e') hl) fun σ H R h=>?_
 obtain ⟨σD,d,ds,rv,e,ei,k⟩:=h
 refine ⟨σD,d,rv,e,fun v H1 r1=>?_⟩
 obtain ⟨p,xs,rfl,hp,rs⟩:=fj ei r1.rep
 rcases hp with ⟨hp,rfl⟩ | ⟨hp,rfl⟩
 ·refine .inl ⟨p,rfl,⟨xs,SqL.of hp⟩,k _ _ r1.same ⟨oF hp rs (fun z=>z) fh,fun M P z hP av=>oF hp rs (jL r1 z hP av _ _ rfl rfl) (cQ r1.same hP)⟩⟩
 ·exact .inr ⟨p,rfl,⟨xs,SqT.of hp⟩,k _ _ r1.same ⟨rD hp rs fh,fun M P z hP av=>rD hp rs (cQ r1.same hP)⟩⟩
theorem kd {x y:RL.D} {ds:List RL.D} (h:RL.cF x y=some ds):∃ i j:Int,x=.int i/\y=.int j/\(-(2 ^ 62)<=i/\i<2 ^ 62/\-(2 ^ 62)<=j/\j<2 ^ 62)/\(j-i).toNat<=RL.most/\ds=RL.bJ i (j-i).toNat:=by
 have no:∀ {o:Option (List RL.D)},o=none->o=some ds->False:=fun e h=>by rw [e] at h; cases h
 cases x with
 | int i=>cases y with
  | int j =>
   obtain ⟨hc,e⟩:=bT h
   have lo:-(2 ^ 62:Int)<=-(2 ^ 60):=by decide
   have hi:(2 ^ 60:Int)<2 ^ 62:=by decide
   exact ⟨i,j,rfl,rfl,⟨Int.le_trans lo hc.2.1,Int.lt_trans hc.2.2.1 hi,Int.le_trans lo hc.2.2.2.1,Int.lt_trans hc.2.2.2.2 hi⟩,hc.1,e⟩
  | _=>exact (no rfl h).elim
 | _=>exact (no rfl h).elim
theorem wc (hg:Gl X "range") (hm:X.mg "range" = none) (ha:SE X cl a a') (hn:noStar a=true):SI X cl tg (.Call (.Name "range" p) [a] [] pos) (.rng1 a'):=by
 refine PI.weak (qk hg hm (aX (cl:=cl) ha bQ hn) (aw [] hn)) fun σ H R h=>?_
 obtain ⟨σD,ds,rv,e,k⟩:=h
 rw [RL.a8] at e
 obtain ⟨x,ea,e⟩:=bind_some e
 obtain ⟨i,j,e1,rfl,hb,_,rfl⟩:=kd e
 cases e1
 refine ⟨σD,[.int j],rv,by rw [RL.evs,ea]; rfl,fun vs H1 s1 r1=>?_⟩
 rw [aa] at r1
 obtain ⟨v,t,rfl,r2,r3⟩:=r1
 rw [aa] at r3
 subst r3
 refine ⟨j,by rw [af r2],hb.2.2.1,hb.2.2.2,?_⟩
 have hz:(j-0).toNat=j.toNat:=by simp
 rw [hz] at k
 exact k _ _ s1 ⟨kc,fun _ _ _ _ _=>kc⟩
theorem vS (hg:Gl X "range") (hm:X.mg "range" = none) (ha:SE X cl a a') (hb:SE X cl b b') (hn:noStar a=true) (hn2:noStar b=true):SI X cl tg (.Call (.Name "range" p) [a,b] [] pos) (.rng2 a' b'):=by
 refine PI.weak (qh hg hm (aX (cl:=cl) ha (aX hb bQ hn2) hn) (by rw [aw _ hn,aw _ hn2]; rfl) (aw [] hn2)) fun σ H R h=>?_
 obtain ⟨σD,ds,rv,e,k⟩:=h
 rw [RL.a8] at e
 obtain ⟨x,ea,e⟩:=bind_some e
 obtain ⟨y,eb,e⟩:=bind_some e
 obtain ⟨i,j,rfl,rfl,hb,_,rfl⟩:=kd e
 refine ⟨σD,[.int i,.int j],rv,by rw [RL.evs,ea,RL.evs,eb]; rfl,fun vs H1 s1 r1=>?_⟩
 rw [aa] at r1
 obtain ⟨v,t,rfl,r2,r3⟩:=r1
 rw [aa] at r3
 obtain ⟨u,t,rfl,r4,r5⟩:=r3
 rw [aa] at r5
 subst r5
 exact ⟨i,j,by rw [af r2,af r4],hb,k _ _ s1 ⟨kc,fun _ _ _ _ _=>kc⟩⟩
end rules
end RS
namespace L2
open PySem PySem.Spec PyProof.Rows
noncomputable def fg (ifs:List Expr) (env:Env):Sem Bool:=forIn ifs true fun c r=>if r=true then do let ok <- isTrue c env (eval c env); pure (ForInStep.yield ok) else pure (ForInStep.yield r)
section
variable {M:Model} {A:Around} {Q:Fin->Shared->Prop} {E:Value->Shared->Prop} {s:Shared}
theorem yv {α:Type} {m:Sem α} {P:α->Shared->Prop} {E:Value->Shared->Prop} {s:Shared} (h:wpAny M A m P (fun _ _=>False) s):wpAny M A m P E s :=
 wpAny_mono h (fun _ _ q=>q) fun _ _ z=>z.elim
theorem cu {α β:Type} {m:Sem α} {k:α->Sem β} {P:β->Shared->Prop} {E:Value->Shared->Prop} {s:Shared} (h:wpAny M A m (fun a s1=>wpAny M A (k a) P E s1) (fun _ _=>False) s):wpAny M A (m >>= k) P E s:=wpAny_bind (yv h)
end
section
variable {prog:Program} {w:World} {A:Around} {elt tg iter:Expr} {ifs:List Expr} {scope:Scope} {pos:Pos} {it acc:Value} {env:Env}
noncomputable def lx (prog:Program) (w:World) (A:Around) (elt tg:Expr) (ifs:List Expr) (it acc:Value) (env:Env) (stop next:Shared->Prop) (s:Shared):Prop :=
 wpAny (model prog w) A (pyNext it) (fun r s1=>match r with
  | none=>stop s1
  | some v=>wpAny (model prog w) A (letOwnedTupleGo tg it v) (fun _ s2=>wpAny (model prog w) A (assign tg env v) (fun _ s3=>wpAny (model prog w) A (fg ifs env) (fun ok s4 =>
     if ok=true then wpAny (model prog w) A (eval elt env) (fun x s5=>wpAny (model prog w) A (call (.builtin "list.append") [acc,x]) (fun _ s6=>next s6) (fun _ _=>False) s5) (fun _ _=>False) s4
     else next s4) (fun _ _=>False) s3) (fun _ _=>False) s2) (fun _ _=>False) s1) (fun _ _=>False) s
theorem uN {stop next:Shared->Prop} {E:Value->Shared->Prop} {s:Shared} (h:lx prog w A elt tg ifs it acc env stop next s) :
  wpAny (model prog w) A (compTurn (.ListComp elt [⟨tg,iter,ifs,0⟩] scope pos) 0 it acc env) (fun fin s'=>match fin with
   | .done f=>f=.next/\stop s'
   | .again c=>c=.compLoop (.ListComp elt [⟨tg,iter,ifs,0⟩] scope pos) 0 it acc env/\next s') E s:=by
 rw [compTurn_list]
 apply wpAny_bind
 apply wpAny_standAt
 apply cu
 refine thn h fun r s1 h1=>?_
 cases r with
 | none =>
  apply wpAny_pure
  exact ⟨rfl,h1⟩
 | some v =>
  apply cu
  refine thn h1 fun _ s2 h2=>?_
  apply cu
  refine thn h2 fun _ s3 h3=>?_
  apply cu
  refine thn h3 fun ok s4 h4=>?_
  cases ok
  ·apply wpAny_pure
   exact ⟨rfl,h4⟩
  ·apply wpAny_bind
   apply cu
   refine thn h4 fun x s5 h5=>?_
   apply cu
   refine thn h5 fun _ s6 h6=>?_
   apply wpAny_pure
   apply wpAny_pure
   exact ⟨rfl,h6⟩
theorem qS {R:Result->Shared->Prop} {s:Shared} (I:Nat->Shared->Prop) (turn:∀ n s,I n s->lx prog w A elt tg ifs it acc env (R (.ok .next)) (fun s'=>∃ m,m<n/\I m s') s)
  (n:Nat) (h:I n s):codeAny (model prog w) A (.compLoop (.ListComp elt [⟨tg,iter,ifs,0⟩] scope pos) 0 it acc env) R s :=
 codeAny_loop (M:=model prog w) rfl I (fun n s hI=>wpAny_noted (thn (uN (turn n s hI)) fun fin s' q=>by
  cases fin with
  | done f =>
   obtain ⟨rfl,q⟩:=q
   exact q
  | again c=>exact q)) n h
end
theorem iW:∀ (names:List (Str × NameKind)) (n:Nat) (acc:List (Str × Addr)) (x:Str) (c:Addr),(cellsFrom n names acc).lookup x=some c->(acc.lookup x=some c/\(x,NameKind.cell)∉names)\/(n<=c/\(x,NameKind.cell)∈names)
 | [],n,acc,x,c,h=>.inl ⟨h,by simp⟩
 | (nm,k) :: r,n,acc,x,c,h=>by
  unfold cellsFrom at h
  by_cases hk:(k == NameKind.cell)=true
  ·rw [if_pos hk] at h
   have ek:k=.cell:=by simpa using hk
   subst ek
   rcases iW r (n+1) ((nm,n) :: acc) x c h with ⟨a,b⟩ | ⟨a,b⟩
   ·rw [List.lookup_cons] at a
    cases hx:x == nm with
    | true =>
     rw [hx] at a
     cases a
     have:x=nm:=by simpa using hx
     subst this
     exact .inr ⟨Nat.le_refl _,List.mem_cons_self ..⟩
    | false =>
     rw [hx] at a
     refine .inl ⟨a,fun z=>?_⟩
     rcases List.mem_cons.mp z with z | z
     ·cases z
      simp at hx
     ·exact b z
   ·exact .inr ⟨Nat.le_of_succ_le a,List.mem_cons_of_mem _ b⟩
  ·rw [if_neg hk] at h
   rcases iW r n acc x c h with ⟨a,b⟩ | ⟨a,b⟩
   ·refine .inl ⟨a,fun z=>?_⟩
    rcases List.mem_cons.mp z with z | z
    ·cases z
     exact hk (by simp)
    ·exact b z
   ·exact .inr ⟨a,List.mem_cons_of_mem _ b⟩
theorem kP:∀ (names:List (Str × NameKind)) (n:Nat) (acc:List (Str × Addr)) (x:Str),(x,NameKind.cell)∉names->(cellsFrom n names acc).lookup x=acc.lookup x
 | [],n,acc,x,_=>rfl
 | (nm,k) :: r,n,acc,x,h=>by
  have hr:(x,NameKind.cell)∉r:=fun z=>h (List.mem_cons_of_mem _ z)
  unfold cellsFrom
  by_cases hk:(k == NameKind.cell)=true
  ·rw [if_pos hk,kP r (n+1) _ x hr,List.lookup_cons]
   have ek:k=.cell:=by simpa using hk
   subst ek
   have:(x == nm)=false:=by
    rw [beq_eq_false_iff_ne]
    intro z
    subst z
    exact h (List.mem_cons_self ..)
   rw [this]
  ·rw [if_neg hk]
   exact kP r n acc x hr
theorem nL:∀ (names:List (Str × NameKind)) (n:Nat) (acc:List (Str × Addr)),(∀ x c,acc.lookup x=some c->c<n)->(∀ x y c,acc.lookup x=some c->acc.lookup y=some c->x=y)->∀ x y c,(cellsFrom n names acc).lookup x=some c->(cellsFrom n names acc).lookup y=some c->x=y
 | [],n,acc,_,hi,x,y,c,h1,h2=>hi x y c h1 h2
 | (nm,k) :: r,n,acc,hl,hi,x,y,c,h1,h2=>by
  unfold cellsFrom at h1 h2
  by_cases hk:(k == NameKind.cell)=true
  ·rw [if_pos hk] at h1 h2
   refine nL r (n+1) ((nm,n) :: acc) (fun x c e=>?_) (fun x y c e1 e2=>?_) x y c h1 h2
   ·rw [List.lookup_cons] at e
    cases hx:x == nm with
    | true=>rw [hx] at e; cases e; exact Nat.lt_succ_self _
    | false=>rw [hx] at e; exact Nat.lt_succ_of_lt (hl x c e)
   ·rw [List.lookup_cons] at e1 e2
    cases hx:x == nm with
    | true =>
     rw [hx] at e1
     cases e1
     cases hy:y == nm with
     | true =>
      have a:x=nm:=by simpa using hx
      have b:y=nm:=by simpa using hy
      rw [a,b]
     | false =>
      rw [hy] at e2
      exact absurd (hl y n e2) (Nat.lt_irrefl _)
    | false =>
     rw [hx] at e1
     cases hy:y == nm with
     | true =>
      rw [hy] at e2
      cases e2
      exact absurd (hl x n e1) (Nat.lt_irrefl _)
     | false =>
      rw [hy] at e2
      exact hi x y c e1 e2
  ·rw [if_neg hk] at h1 h2
   exact nL r n acc hl hi x y c h1 h2
theorem kA:∀ (names:List (Str × NameKind)) (h:Heap) (acc:List (Str × Addr)) (x:Str) (c:Addr),(cellsFrom h.objs.size names acc).lookup x=some c->acc.lookup x=some c\/(pushCells h names).IsCell c none
 | [],h,acc,x,c,e=>.inl e
 | (nm,k) :: r,h,acc,x,c,e=>by
  unfold cellsFrom at e
  unfold pushCells
  by_cases hk:(k == NameKind.cell)=true
  ·rw [if_pos hk] at e ⊢
   have e':(cellsFrom (h.push { cls:=.type "cell",data:=.cell none }).objs.size r ((nm,h.objs.size) :: acc)).lookup x=some c:=by rw [Heap.size_push]; exact e
   rcases kA r (h.push { cls:=.type "cell",data:=.cell none }) ((nm,h.objs.size) :: acc) x c e' with a | a
   ·rw [List.lookup_cons] at a
    cases hx:x == nm with
    | true =>
     rw [hx] at a
     cases a
     exact .inr ⟨_,pushCells_keeps r _ _ _ (Heap.get?_push_size _ rfl),rfl⟩
    | false =>
     rw [hx] at a
     exact .inl a
   ·exact .inr a
  ·rw [if_neg hk] at e ⊢
   exact kA r h acc x c e
theorem we {M:Model} {A:Around} {E:Value->Shared->Prop} {s:Shared} {scope:Scope} {globals:Addr} {closure:List (Str × Addr)} {qual:Str} {func:Option Addr} {code:Value} {outer:Env} {builtins:Addr} {Q:Env->Shared->Prop}
  (hQ:Q (newEnv scope s.heap.objs.size globals (cellsFrom (s.heap.objs.size+1) scope.names closure) qual func code (some outer) builtins) { s with heap:=pushCells (s.heap.push { cls:=.type "dict",data:=.dict #[] }) scope.names }) :
  wpAny M A (newFunctionEnv scope globals closure [] qual func code (some outer) builtins) Q E s:=by
 simp only [newFunctionEnv,Option.isSome_some,if_true]
 refine wpAny_bind (wpAny_alloc ?_)
 refine wpAny_bind (wpAny_layCells _ (fun name kind cells=>by cases hkc:kind == NameKind.cell <;> simp [hkc]) _ _ _ _ ?_)
 rw [show ({ s with heap:=s.heap.push { cls:=.type "dict",data:=.dict #[] } }:Shared).heap.objs.size=s.heap.objs.size+1 from Heap.size_push ..]
 refine wpAny_bind ?_
 rw [List.forIn_nil]
 exact wpAny_pure (wpAny_pure hQ)
noncomputable def blk (X:Cx) (scope:Scope) (cls:List (Str × Addr)) (C:Addr) (fp:List Addr) (s:Shared) (H:Hp):Cx where
 prog:=X.prog
 w:=X.w
 K:=X.K
 mg:=X.mg
 base:=X.base
 A:=X.A
 N:=X.N
 s₀:=s
 H₀:=H
 env:=compEnvC scope cls C X.env
 outer:=X.stack
 stack:=X.stack
 ex:=fp
 fn:=fun x=>scope.names.lookup x == some .cell
 calm:=X.calm
 pn:=[]
 xe:=fun _ _=>False
structure dX (scope:Scope) (sc:Scope) (cls:List (Str × Addr)) (cells:List (Str × Addr)):Prop where
 kind:scope.kind=.function
 own:∀ x∈scope.names,x.2=.cell->scope.names.lookup x.1=some .cell
 loc:∀ x∈scope.names,x.2=.local->scope.names.lookup x.1=some .local
 sub:∀ x c,cls.lookup x=some c->cells.lookup x=some c
 has:∀ x,scope.names.lookup x=some .free->∃ c,cls.lookup x=some c
 vis:∀ x,scope.names.lookup x=some .free->sc.names.lookup x=some .cell\/sc.names.lookup x=some .free
theorem bh {env:Env}:∀ {names:List (Str × NameKind)} {x:Str} {k:NameKind},
  (names.map fun (n,k)=>if (k == NameKind.free && env.scope.kind == .function && env.kindOf n == some .cell) then (n,NameKind.cell) else (n,k)).lookup x=some k ->
  names.lookup x=some k\/(k=.cell/\names.lookup x=some .free/\env.kindOf x=some .cell)
 | [],x,k,h=>by simp at h
 | (n,k') :: r,x,k,h=>by
  have ih:=@bh env r x k
  rw [List.map_cons] at h
  cases hx:x == n with
  | true =>
   have en:x=n:=by simpa using hx
   subst en
   by_cases hc:(k' == NameKind.free && env.scope.kind == .function && env.kindOf x == some .cell)=true
   ·simp only [hc,if_true] at h
    rw [List.lookup_cons,hx] at h
    cases h
    simp only [Bool.and_eq_true,beq_iff_eq] at hc
    refine .inr ⟨rfl,?_,hc.2⟩
    rw [List.lookup_cons,hx,hc.1.1]
   ·simp only [Bool.not_eq_true] at hc
    simp only [hc,Bool.false_eq_true,if_false] at h
    rw [List.lookup_cons,hx] at h
    cases h
    exact .inl (by rw [List.lookup_cons,hx])
  | false =>
   have h':(r.map fun (n,k)=>if (k == NameKind.free && env.scope.kind == .function && env.kindOf n == some .cell) then (n,NameKind.cell) else (n,k)).lookup x=some k:=by
    by_cases hc:(k' == NameKind.free && env.scope.kind == .function && env.kindOf n == some .cell)=true
    ·simp only [hc,if_true] at h
     rw [List.lookup_cons,hx] at h
     exact h
    ·simp only [Bool.not_eq_true] at hc
     simp only [hc,Bool.false_eq_true,if_false] at h
     rw [List.lookup_cons,hx] at h
     exact h
   rcases ih h' with q | ⟨q1,q2,q3⟩
   ·exact .inl (by rw [List.lookup_cons,hx]; exact q)
   ·exact .inr ⟨q1,by rw [List.lookup_cons,hx]; exact q2,q3⟩
noncomputable def vn (X:Cx) (scope:Scope) (σ σB:St):Prop:=σB.length=σ.length/\∀ (i:Nat) (x:Str) (v:V),X.N[i]?=some x->σB[i]?=some (some v)->σ[i]?=some (some v)/\scope.names.lookup x≠some .local/\scope.names.lookup x≠some .cell
section
variable {X:Cx} {pins:List (Addr × Obj)} {σ σB:St} {H:Hp} {s:Shared} {scope:Scope} {cls:List (Str × Addr)} {fp:List Addr}
theorem wt {h':Heap} {t:Nat} (I:Inv X pins σ H s) (S:dX scope X.env.scope cls X.env.cells) (hf:∀ b∈fp,gP X pins H b/\b<s.heap.objs.size) (ho:vn X scope σ σB)
  (hns:h'.Ns s.heap.objs.size (fun _=>none)) (hk:∀ b o,s.heap.get? b=some o->h'.get? b=some o) (hcl:∀ x c,(cellsFrom (s.heap.objs.size+1) scope.names cls).lookup x=some c->cls.lookup x=some c\/h'.IsCell c none) :
  Inv (blk X scope (cellsFrom (s.heap.objs.size+1) scope.names cls) s.heap.objs.size fp s H) [] σB H { s with heap:=h',toks:=t }:=by
 have hC:H s.heap.objs.size=none:=I.hok.fresh (Nat.le_refl _)
 have clt:∀ x c,cls.lookup x=some c->c<s.heap.objs.size:=fun x c e=>by
  obtain ⟨v,q⟩:=I.cell x c (S.sub x c e)
  exact q.lt
 have cas:∀ x c,(cellsFrom (s.heap.objs.size+1) scope.names cls).lookup x=some c->(X.env.cells.lookup x=some c/\c<s.heap.objs.size)\/(s.heap.objs.size+1<=c/\scope.names.lookup x=some .cell):=fun x c e=>by
  rcases iW _ _ _ _ _ e with ⟨a,_⟩ | ⟨a,b⟩
  ·exact .inl ⟨S.sub x c a,clt x c a⟩
  ·exact .inr ⟨a,S.own _ b rfl⟩
 have fre:∀ x c,cls.lookup x=some c->scope.names.lookup x=some .free->(cellsFrom (s.heap.objs.size+1) scope.names cls).lookup x=some c:=fun x c e f=>by
  rw [kP _ _ _ _ fun z=>by rw [S.own _ z rfl] at f; cases f]
  exact e
 refine ⟨⟨I.ok.mod,?_,I.ok.glob,I.ok.blt,Nat.le_refl _,fun x y c h1 h2=>nL _ _ _ (fun x c e=>Nat.lt_succ_of_lt (clt x c e)) (fun x y c e1 e2=>I.ok.inj x y c (S.sub x c e1) (S.sub y c e2)) x y c h1 h2,fun x hx=>?_,fun x c z e=>?_,I.ok.hd,I.ok.frames,.inl rfl,fun b hb=>?_,fun b o e=>I.bs b o e,Nat.le_trans I.ok.bsz I.sz,fun b o e hb=>?_,fun b hb=>?_,I.stack,I.oU⟩,
  rfl,I.bare,Un.kept hk,⟨_,hns,fun i x v h1 h2 h3=>?_⟩,fun x c e=>?_,hC,fun x c e=>?_,fun p hp=>absurd hp (by simp [blk]),I.hok.kept hk,ho.1.trans I.len⟩
 ·exact S.kind
 ·have hx:(relabel scope X.env).names.lookup x=some .cell\/(relabel scope X.env).names.lookup x=some .free:=hx
  have key:scope.names.lookup x=some .cell\/scope.names.lookup x=some .free:=by
   rcases hx with hx | hx
   ·rcases bh hx with q | ⟨_,q,_⟩
    ·exact .inl q
    ·exact .inr q
   ·rcases bh hx with q | ⟨q,_⟩
    ·exact .inr q
    ·cases q
  rcases key with q | q
  ·have:=PySem.W.cellsFrom_some scope.names (s.heap.objs.size+1) cls (.inl q)
   exact Option.isSome_iff_exists.mp this
  ·obtain ⟨c,hc⟩:=S.has x q
   exact ⟨c,fre x c hc q⟩
 ·have z:(scope.names.lookup x == some .cell)=true:=z
  rcases iW _ _ _ _ _ (show (cellsFrom (s.heap.objs.size+1) scope.names cls).lookup x=some c from e) with ⟨_,b⟩ | ⟨b,_⟩
  ·exact absurd (PySem.mem_of_lookup (by simpa using z)) b
  ·exact Nat.le_of_succ_le b
 ·obtain ⟨⟨f0,f1,f2,f3,f4,f5⟩,f6⟩:=hf b hb
  refine ⟨Nat.ne_of_lt f6,fun x c e=>?_⟩
  rcases cas x c e with ⟨a,_⟩ | ⟨a,_⟩
  ·exact f4 x c a
  ·exact Nat.ne_of_gt (Nat.lt_trans f6 a)
 ·obtain ⟨⟨f0,f1,f2,f3,f4,f5⟩,f6⟩:=hf b hb
  rcases f3 with z | z
  ·exact I.ok.mT b o e z
  ·exact absurd (Nat.lt_of_lt_of_le (Heap.lt_size e) I.ok.bsz) (Nat.not_lt.mpr z)
 ·obtain ⟨⟨f0,f1,f2,f3,f4,f5⟩,f6⟩:=hf b hb
  intro z
  rcases List.mem_cons.mp (I.nR b z) with e | e
  ·exact f1 e
  ·exact f2 e
 ·obtain ⟨h4,h5,h6⟩:=ho.2 i x v h1 h2
  have h3:(relabel scope X.env).names.lookup x=some .local\/(relabel scope X.env).names.lookup x=some .cell\/(relabel scope X.env).names.lookup x=some .free:=h3
  have key:scope.names.lookup x=some .free:=by
   rcases h3 with z | z | z
   ·rcases bh z with q | ⟨q,_⟩
    ·exact absurd q h5
    ·cases q
   ·rcases bh z with q | ⟨_,q,_⟩
    ·exact absurd q h6
    ·exact q
   ·rcases bh z with q | ⟨q,_⟩
    ·exact q
    ·cases q
  obtain ⟨c,hc⟩:=S.has x key
  have hcx:=S.sub x c hc
  obtain ⟨m,hn,hl⟩:=I.loc
  have hv:Vis X.env.scope x:=.inr (S.vis x key)
  obtain ⟨u,ru,lk⟩:=hl i x v h1 h4 hv
  refine ⟨u,ru,.inr ⟨?_,c,fre x c hc key,?_⟩⟩
  ·rcases h3 with z | z
   ·rcases bh z with q | ⟨q,_⟩
    ·exact absurd q h5
    ·cases q
   ·exact z
  ·rcases lk with ⟨z,_⟩ | ⟨_,c',e',q⟩
   ·have z:X.env.scope.names.lookup x=some .local:=z
    rcases S.vis x key with z' | z' <;> (rw [z] at z'; cases z')
   ·rw [hcx] at e'
    cases e'
    obtain ⟨o,g1,g2⟩:=q
    exact ⟨o,hk _ _ g1,g2⟩
 ·rcases hcl x c e with a | a
  ·obtain ⟨v,q⟩:=I.cell x c (S.sub x c a)
   obtain ⟨o,h1,h2⟩:=q
   exact ⟨v,o,hk _ _ h1,h2⟩
  ·exact ⟨none,a⟩
 ·rcases cas x c e with ⟨a,_⟩ | ⟨a,_⟩
  ·exact I.df x c a
  ·exact I.hok.fresh (Nat.le_of_succ_le a)
noncomputable def eo (wi:TI) (clr:St->St) (g:TG) (tc:TT) (te:TE):TE:=fun σ H Q=>wi σ H fun J H1=>∀ l,H1 l=none->∃ W:Nat->Nat->List V->Hp->Prop,(∃ m,W 0 m [] (upd H1 l (.lst []))) /\
 ∀ i m ys H2,W i m ys H2->H2 l=some (.lst ys)/\((J.stop i H2/\Q (.ref l) H2)\/(J.go i H2/\∀ x H3,J.yld i H2 x H3->g x (clr σ) H3 fun σ4 H4=>tc σ4 H4 fun k H5 =>
  if k=true then te σ4 H5 fun y H6=>H6 l=some (.lst ys)/\ys.length<sizeLine/\∃ m',m'<m/\W (i+1) m' (ys ++ [y]) (upd H6 l (.lst (ys ++ [y]))) else ∃ m',m'<m/\W (i+1) m' ys H5))
structure lN (X:Cx) (scope:Scope) (tg:Expr) (ifs:List Expr) (elt:Expr) (clr:St->St) (g:TG) (tc:TT) (te:TE):Prop where
 htg:∀ cls C fp s H,PG (blk X scope cls C fp s H) tg g
 htc:∀ cls C fp s H pins s' σ H' Q,Inv (blk X scope cls C fp s H) pins σ H' s'->tc σ H' Q->wpAny (model X.prog X.w) X.A (fg ifs (compEnvC scope cls C X.env)) (TP (blk X scope cls C fp s H) pins σ Q) (fun _ _=>False) s'
 hte:∀ cls C fp s H,PE (blk X scope cls C fp s H) elt te
 xI:∀ σ:St,σ.length=X.N.length->vn X scope σ (clr σ)
 vm:∀ (x:V) (σ:St) (H:Hp) (Q:St->Hp->Prop),g x (clr σ) H Q->g x (clr σ) H fun σ2 H2=>Q σ2 H2/\(clr σ).length=σ2.length/\∀ (i:Nat) v,(clr σ)[i]?=some (some v)->σ2[i]?=some (some v)
theorem lj {elt tg iter:Expr} {ifs:List Expr} {pos:Pos} {wi:TI} {clr:St->St} {g:TG} {tc:TT} {te:TE} {Q:VK} {RR:Value->Addr->Result->Shared->Prop} (hc:X.calm=true) (S:dX scope X.env.scope cls X.env.cells)
  (hi:PI X tg iter wi) (B:lN X scope tg ifs elt clr g tc te) (I:Inv X pins σ H s) (h:eo wi clr g tc te σ H Q)
  (hRR:∀ l C H' s',Inv X pins σ H' s'->(∃ m,s'.heap.Ns C m)->H' C=none->C≠X.env.locals->X.s₀.heap.objs.size<=C->(∀ x c,X.env.cells.lookup x=some c->c≠C)->(∀ p∈X.pn ++ pins,p.1≠C)->Q (.ref l) H'->RR (.ref l) C (.ok .next) s') :
  wpAny (model X.prog X.w) X.A (eval iter X.env) (fun x s1=>wpAny (model X.prog X.w) X.A (pyIter x) (fun it s2=>wpAny (model X.prog X.w) X.A (newList []) (fun acc s3 =>
   wpAny (model X.prog X.w) X.A (newFunctionEnv scope X.env.globals cls [] X.env.qual none .none (some X.env)) (fun cenv s4 =>
    codeAny (model X.prog X.w) X.A (.compStart (.ListComp elt [⟨tg,iter,ifs,0⟩] scope pos) 0 it acc { cenv with scope:=relabel scope X.env }) (RR acc cenv.locals) s4) X.xe s3) X.xe s2) X.xe s1) X.xe s:=by
 refine thn (hi pins s σ H _ I h) fun x s1 h1=>thn h1 fun itv s2 h2=>?_
 obtain ⟨it,fp,tn,J,H2,e,I2,T,st2,f2,h3⟩:=h2
 subst e
 have flt:∀ b∈fp,b<s2.heap.objs.size:=fun b hb=>by
  obtain ⟨o,e,_⟩:=T.obj _ _ st2 b hb
  exact Heap.lt_size e
 refine wpAny_newObj_type ?_
 have I3:Inv X pins σ (upd H2 s2.heap.objs.size (.lst [])) { s2 with heap:=s2.heap.push { cls:=.type "list",dict:=none,data:=.seq ([]:List Value).toArray } } :=
  I2.laid (t':=s2.toks) (fun b u e=>Heap.get?_push_of_some _ e) (Nat.le_refl _) ⟨Nat.zero_le _,[],0,.nil,Heap.get?_push_size _ rfl⟩
 have hl2:H2 s2.heap.objs.size=none:=I2.hok.fresh (Nat.le_refl _)
 obtain ⟨W,⟨m0,w0⟩,turn⟩:=h3 s2.heap.objs.size hl2
 have f3:∀ b∈fp,gP X pins (upd H2 s2.heap.objs.size (.lst [])) b/\b<(s2.heap.push { cls:=.type "list",dict:=none,data:=.seq ([]:List Value).toArray }).objs.size:=fun b hb=>by
  obtain ⟨z0,z⟩:=f2 b hb
  refine ⟨⟨?_,z⟩,?_⟩
  ·rw [aD (Nat.ne_of_lt (flt b hb))]
   exact z0
  ·rw [Heap.size_push]
   exact Nat.lt_succ_of_lt (flt b hb)
 generalize hs3:({ s2 with heap:=s2.heap.push { cls:=.type "list",dict:=none,data:=.seq ([]:List Value).toArray } }:Shared)=s3 at I3
 have hs3h:s3.heap=s2.heap.push { cls:=.type "list",dict:=none,data:=.seq ([]:List Value).toArray }:=by rw [<- hs3]
 rw [<- hs3h] at f3
 have st3:tn 0 s3.heap:=T.keep _ _ _ st2 fun b hb o e=>by rw [hs3h]; exact Heap.get?_push_of_some _ e
 refine we ?_
 have k4:∀ b o,s3.heap.get? b=some o->(pushCells (s3.heap.push { cls:=.type "dict",data:=.dict #[] }) scope.names).get? b=some o:=fun b o e=>pushCells_keeps _ _ b o (Heap.get?_push_of_some _ e)
 have hns4:(pushCells (s3.heap.push { cls:=.type "dict",data:=.dict #[] }) scope.names).Ns s3.heap.objs.size (fun _=>none):=(Heap.Ns.new s3.heap (.type "dict")).keeps (pushCells_keeps _ _)
 have hcl4:∀ x c,(cellsFrom (s3.heap.objs.size+1) scope.names cls).lookup x=some c->cls.lookup x=some c\/(pushCells (s3.heap.push { cls:=.type "dict",data:=.dict #[] }) scope.names).IsCell c none:=fun x c e=>kA scope.names (s3.heap.push { cls:=.type "dict",data:=.dict #[] }) cls x c (by rw [Heap.size_push]; exact e)
 generalize pushCells (s3.heap.push { cls:=.type "dict",data:=.dict #[] }) scope.names=h4 at k4 hns4 hcl4
 have I4:Inv (blk X scope (cellsFrom (s3.heap.objs.size+1) scope.names cls) s3.heap.objs.size fp s3 (upd H2 s2.heap.objs.size (.lst []))) [] (clr σ) (upd H2 s2.heap.objs.size (.lst [])) { s3 with heap:=h4 } :=
  wt (t:=s3.toks) I3 S f3 (B.xI σ I.len) hns4 k4 hcl4
 generalize hs4:({ s3 with heap:=h4 }:Shared)=s4 at I4
 have hs4h:s4.heap=h4:=by rw [<- hs4]
 generalize hH3:upd H2 s2.heap.objs.size (.lst [])=H3 at I3 I4 w0
 have st4:tn 0 s4.heap:=T.keep _ _ _ st3 fun b hb o e=>by rw [hs4h]; exact k4 b o e
 have fn4:∀ b∈fp,H3 b=none:=fun b hb=>by rw [<- hH3]; exact (f3 b hb).1.1
 have stat:∀ {H':Hp} {σ':St} {s':Shared},Inv (blk X scope (cellsFrom (s3.heap.objs.size+1) scope.names cls) s3.heap.objs.size fp s3 H3) [] σ' H' s'->(∀ b∈fp,H' b=none)->∀ b∈fp,gP (blk X scope (cellsFrom (s3.heap.objs.size+1) scope.names cls) s3.heap.objs.size fp s3 H3) [] H' b :=
  fun {H' σ' s'} J hn b hb=>⟨hn b hb,(J.ok.exf b hb).1,J.ok.mC b hb,.inl hb,(J.ok.exf b hb).2,fun p hp=>absurd hp (by simp [blk])⟩
 have fin:∀ {H':Hp} {s':Shared},Inv (blk X scope (cellsFrom (s3.heap.objs.size+1) scope.names cls) s3.heap.objs.size fp s3 H3) [] (clr σ) H' s'->Q (.ref s2.heap.objs.size) H'->RR (.ref s2.heap.objs.size) s3.heap.objs.size (.ok .next) s':=fun {H' s'} J q=>by
  obtain ⟨m,hn,_⟩:=J.loc
  have J1:Inv X pins σ H' s':=I3.vv (s':=s') (ch:=fp) (J.os.trans rfl) J.base J.hok J.bare fun b hb=>by
   obtain ⟨⟨g0,g1,g2,g3,g4,g5⟩,_⟩:=f3 b hb
   exact ⟨g3,g1,g4,g5⟩
  refine hRR _ _ H' s' J1 ⟨m,hn⟩ J.free (Nat.ne_of_gt I3.lt) I3.sz (fun x c e=>?_) (fun p hp=>?_) q
  ·obtain ⟨v,z⟩:=I3.cell x c e
   exact Nat.ne_of_lt z.lt
  ·exact Nat.ne_of_lt (Heap.lt_size (I3.pin p hp).1)
 have loop:codeAny (model X.prog X.w) X.A (.compLoop (.ListComp elt [⟨tg,iter,ifs,0⟩] scope pos) 0 (.ref it) (.ref s2.heap.objs.size) (compEnvC scope (cellsFrom (s3.heap.objs.size+1) scope.names cls) s3.heap.objs.size X.env))
   (RR (.ref s2.heap.objs.size) s3.heap.objs.size) s4:=by
  refine qS (fun n s'=>∃ i ys H',Inv (blk X scope (cellsFrom (s3.heap.objs.size+1) scope.names cls) s3.heap.objs.size fp s3 H3) [] (clr σ) H' s'/\tn i s'.heap/\(∀ b∈fp,H' b=none)/\W i n ys H') ?_ m0 ⟨0,[],H3,I4,st4,fn4,w0⟩
  rintro n s5 ⟨i,ys,H5,I5,st5,fr5,w5⟩
  obtain ⟨hl5,tr⟩:=turn i n ys H5 w5
  rcases tr with ⟨stop,qn⟩ | ⟨go,step⟩
  ·refine thn (T.done (blk X scope (cellsFrom (s3.heap.objs.size+1) scope.names cls) s3.heap.objs.size fp s3 H3) rfl rfl rfl hc i [] s5 (clr σ) H5 (fun _ _=>False) I5 (stat I5 fr5) st5 stop) fun r s6 ⟨hr,I6⟩=>?_
   subst hr
   exact fin I6 qn
  ·refine thn (T.item (blk X scope (cellsFrom (s3.heap.objs.size+1) scope.names cls) s3.heap.objs.size fp s3 H3) rfl rfl rfl hc i [] s5 (clr σ) H5 (fun _ _=>False) I5 (stat I5 fr5) st5 go) fun r s6 ⟨u,hr,h6⟩=>?_
   subst hr
   refine thn h6 fun _ s7 ⟨x,H7,I7,r7,y7,st7,fr7⟩=>?_
   have I7':=I7.pinned (stat I7 fr7) (T.obj _ _ st7)
   have back:∀ {σ':St} {H':Hp} {s':Shared},Inv (blk X scope (cellsFrom (s3.heap.objs.size+1) scope.names cls) s3.heap.objs.size fp s3 H3) ([] ++ ic fp s7.heap) σ' H' s'->(clr σ).length=σ'.length->(∀ (i:Nat) v,(clr σ)[i]?=some (some v)->σ'[i]?=some (some v))->(∃ m ys',m<n/\W (i+1) m ys' H') ->
     ∃ m,m<n/\∃ i ys H',Inv (blk X scope (cellsFrom (s3.heap.objs.size+1) scope.names cls) s3.heap.objs.size fp s3 H3) [] (clr σ) H' s'/\tn i s'.heap/\(∀ b∈fp,H' b=none)/\W i m ys H':=fun {σ' H' s'} J el ew hw=>by
    obtain ⟨m,ys',hm,w8⟩:=hw
    refine ⟨m,hm,i+1,ys',H',J.gN.weak el ew,T.keep _ _ _ st7 fun b hb o e=>(J.pin (b,o) (List.mem_append_right _ (List.mem_append_right _ (eE hb e)))).1,fun b hb=>?_,w8⟩
    obtain ⟨o,e,d⟩:=T.obj _ _ st7 b hb
    exact (J.pin (b,o) (List.mem_append_right _ (List.mem_append_right _ (eE hb e)))).2.1
   refine thn (B.htg _ s3.heap.objs.size fp s3 H3 _ s7 (clr σ) H7 x u _ I7' r7 (B.vm x σ H7 _ (step x H7 y7))) fun _ s8 ⟨σ8,H8,I8,q8,el8,ew8⟩=>?_
   refine thn (B.htc _ s3.heap.objs.size fp s3 H3 _ s8 σ8 H8 _ I8 q8) fun ok s9 ⟨H9,I9,q9⟩=>?_
   cases ok with
   | false =>
    have q9:∃ m',m'<n/\W (i+1) m' ys H9:=q9
    obtain ⟨m',hm,w9⟩:=q9
    exact back I9 el8 ew8 ⟨m',ys,hm,w9⟩
   | true =>
    refine thn (B.hte _ s3.heap.objs.size fp s3 H3 _ s9 σ8 H9 _ I9 q9) fun v s10 ⟨y,H10,I10,r10,hl10,hz,m',hm,w10⟩=>?_
    refine thn (l6 (X:=blk X scope (cellsFrom (s3.heap.objs.size+1) scope.names cls) s3.heap.objs.size fp s3 H3) _ s10 σ8 H10 (.ref s2.heap.objs.size) [y] (.ref s2.heap.objs.size) [v] (fun _ H'=>H'=upd H10 s2.heap.objs.size (.lst (ys ++ [y]))) I10 rfl (.cons r10 .nil) ⟨_,ys,y,rfl,rfl,hl10,hz,rfl⟩) fun _ s11 ⟨_,H11,I11,_,e11⟩=>?_
    subst e11
    exact back I11 el8 ew8 ⟨m',_,hm,w10⟩
 exact codeAny_compStart_list loop (T.self _ 0 _ _ _ st4 loop)
theorem kq {elt tg iter:Expr} {ifs:List Expr} {pos:Pos} {wi:TI} {clr:St->St} {g:TG} {tc:TT} {te:TE} (hc:X.calm=true) (S:dX scope X.env.scope cls X.env.cells) (hclos:closureFor scope X.env=pure cls)
  (hi:PI X tg iter wi) (B:lN X scope tg ifs elt clr g tc te) (hs:∀ x,foldedSetIterable iter X.env x=pure x):PE X (.ListComp elt [⟨tg,iter,ifs,0⟩] scope pos) (eo wi clr g tc te):=by
 intro pins s σ H Q I h
 rw [eval_ListComp]
 refine wpAny_comprehension_free (use:=none) rfl hs hclos S.kind S.loc (lj (RR:=fun acc C=>compPost (model X.prog X.w) X.A X.xe none (EP X pins σ Q) acc C) hc S hi B I h ?_)
 intro l C H' s' J hn c0 c1 c2 c3 c4 q
 obtain ⟨m,hn⟩:=hn
 exact ⟨m,hn,fun h' sb=>⟨.ref l,H',J.turned (it:=C) (h':=h') (t':=s'.toks) (fun b o hb e=>(sb.2 b hb).trans e) c0 (Ne.symm (Ne.symm c1)) (.inr c2) c3 c4,rfl,q⟩⟩
noncomputable def As (i:Nat) (t:TE):TS:=fun D σ H=>t σ H fun v H1=>D.nx (σ.set i (some v)) H1
theorem kz {elt tg iter:Expr} {ifs:List Expr} {pos spos py:Pos} {y:Str} {i:Nat} {wi:TI} {clr:St->St} {g:TG} {tc:TT} {te:TE} (hc:X.calm=true) (hN:X.N.Nodup) (hiy:X.N[i]?=some y) (hy:X.env.scope.names.lookup y=some .local)
  (S:dX scope X.env.scope cls X.env.cells) (hclos:closureFor scope X.env=pure cls)
  (hi:PI X tg iter wi) (B:lN X scope tg ifs elt clr g tc te) (hs:∀ x,foldedSetIterable iter X.env x=pure x)
  (hsw:swapsWith (.ListComp elt [⟨tg,iter,ifs,0⟩] scope pos) (some (.Name y py)) spos.line X.env=pure true) :
  PS X (.Assign [.Name y py] (.ListComp elt [⟨tg,iter,ifs,0⟩] scope pos) spos) (As i (eo wi clr g tc te)):=by
 intro pins s σ H D I h
 have back:∀ (l C:Addr) (H':Hp) (s':Shared),Inv X pins σ H' s'->(∃ m,s'.heap.Ns C m)->H' C=none->C≠X.env.locals->X.s₀.heap.objs.size<=C->(∀ x c,X.env.cells.lookup x=some c->c≠C)->(∀ p∈X.pn ++ pins,p.1≠C)->D.nx (σ.set i (some (.ref l))) H' ->
   compPost (model X.prog X.w) X.A X.xe (some (assign (.Name y py) X.env)) (fun _ s'=>SP X pins D .next s') (.ref l) C (.ok .next) s':=by
  intro l C H' s' J hn c0 c1 c2 c3 c4 q
  obtain ⟨m,hn⟩:=hn
  show wpAny _ X.A (assign (.Name y py) X.env (.ref l)) _ _ s'
  refine wpAny_assign_Name (l4 (v:=.ref l) J hN hiy (.inl hy) rfl (fun s2 J2 ⟨a,sb,ha⟩=>?_) (.inr hy))
  have hne:C≠a:=by
   rcases ha with z | z
   ·rw [z]; exact c1
   ·exact (c3 _ _ z).symm
  exact ⟨m,hn.sameBut sb hne,fun h' sb'=>⟨σ.set i (some (.ref l)),H',J2.turned (it:=C) (h':=h') (t':=s2.toks) (fun b o hb e=>(sb'.2 b hb).trans e) c0 c1 (.inr c2) c3 c4,q⟩⟩
 have core:=lj (RR:=fun acc C=>compPost (model X.prog X.w) X.A X.xe (some (assign (.Name y py) X.env)) (fun _ s'=>SP X pins D .next s') acc C) (pos:=pos) hc S hi B I h back
 have whole:=wpAny_comprehension_free (e:=.ListComp elt [⟨tg,iter,ifs,0⟩] scope pos) (newAcc:=newList []) (use:=some (assign (.Name y py) X.env)) (Q:=fun _ s'=>SP X pins D .next s') (pos:=iter.pos) rfl hs hclos S.kind S.loc core
 rw [exec_Assign_Name_used (hs:=hsw)]
 apply wpAny_bind
 apply wpAny_standAt
 apply wpAny_bind
 apply wpAny_bind
 refine thn whole fun _ s' hq=>?_
 apply wpAny_pure
 apply wpAny_pure
 exact hq
end
end L2
namespace RS
open PySem PySem.Spec PyProof.Rows L2
theorem gO {env:Env}:∀ (names:List (Str × NameKind)) (acc:List (Str × Addr)),(∀ x,(x,NameKind.free)∈names->∃ c,env.cells.lookup x=some c)->(∀ x c,acc.lookup x=some c->env.cells.lookup x=some c) ->
  ∃ cls,(forIn names acc fun (p:Str × NameKind) cs=>match p with | (name,kind)=>if (kind == NameKind.free)=true then do let c <- cellOf env name; pure (ForInStep.yield ((name,c) :: cs)) else pure (ForInStep.yield cs):Sem (List (Str × Addr)))=pure cls /\
   (∀ x c,cls.lookup x=some c->env.cells.lookup x=some c)/\(∀ x,(acc.lookup x).isSome=true\/(x,NameKind.free)∈names->∃ c,cls.lookup x=some c)
 | [],acc,_,ha=>⟨acc,rfl,ha,fun x hx=>by
   rcases hx with h | h
   ·exact Option.isSome_iff_exists.mp h
   ·simp at h⟩
 | (n,k) :: r,acc,hn,ha=>by
  by_cases hk:k=.free
  ·subst hk
   obtain ⟨c,hc⟩:=hn n List.mem_cons_self
   have ha':∀ x c',((n,c) :: acc).lookup x=some c'->env.cells.lookup x=some c':=fun x c' e=>by
    rw [List.lookup_cons] at e
    cases hx:x == n with
    | true =>
     rw [hx] at e
     cases e
     rw [show x=n by simpa using hx]
     exact hc
    | false =>
     rw [hx] at e
     exact ha x c' e
   obtain ⟨cls,h1,h2,h3⟩:=gO r ((n,c) :: acc) (fun x hx=>hn x (List.mem_cons_of_mem _ hx)) ha'
   refine ⟨cls,?_,h2,fun x hx=>h3 x ?_⟩
   ·rw [List.forIn_cons]
    have hcell:cellOf env n=pure c:=by unfold cellOf; rw [hc]
    simp only [beq_self_eq_true,if_true,hcell]
    exact h1
   ·rcases hx with h | h
    ·left
     rw [List.lookup_cons]
     split <;> simp_all
    ·rcases List.mem_cons.mp h with e | e
     ·cases e
      left
      simp [List.lookup_cons]
     ·exact .inr e
  ·obtain ⟨cls,h1,h2,h3⟩:=gO r acc (fun x hx=>hn x (List.mem_cons_of_mem _ hx)) ha
   refine ⟨cls,?_,h2,fun x hx=>h3 x ?_⟩
   ·rw [List.forIn_cons]
    have:(k == NameKind.free)=false:=by simpa using hk
    simp only [this,Bool.false_eq_true,if_false]
    exact h1
   ·rcases hx with h | h
    ·exact .inl h
    ·rcases List.mem_cons.mp h with e | e
     ·cases e
      exact absurd rfl hk
     ·exact .inr e
theorem pL {env:Env} {scope:Scope} (h:∀ x,(x,NameKind.free)∈scope.names->∃ c,env.cells.lookup x=some c) :
  ∃ cls,closureFor scope env=pure cls/\(∀ x c,cls.lookup x=some c->env.cells.lookup x=some c)/\(∀ x,scope.names.lookup x=some .free->∃ c,cls.lookup x=some c):=by
 obtain ⟨cls,h1,h2,h3⟩:=gO (env:=env) scope.names [] h (fun x c e=>by simp at e)
 refine ⟨cls,?_,h2,fun x hx=>h3 x (.inr (PySem.mem_of_lookup hx))⟩
 unfold closureFor
 simp only [bind_pure_comp] at h1 ⊢
 rw [h1]
 rfl
section
variable {X:Cx} {pos:Pos}
noncomputable def kL (K:PySem.W.Frag) (n:Nat) (t:TGs):TG:=fun v σ H Q=>∃ a xs,v=.ref a/\SqL K H a xs/\xs.length=n/\t xs σ H Q
theorem qO {es:List Expr} {k:Nat} {t:TGs} {n:Nat} (hc:X.calm=true) (h:PGs X es t) (hn:(assignEach es X.env).length=n) (hst:(assignEach es X.env).findIdx? (·.1)=none):PG X (.Tuple es k pos) (kL X.K n t):=by
 intro pins s σ H v u Q I r hw
 obtain ⟨a,xs,e1,hq,hl,hw⟩:=hw
 subst e1
 cases r
 obtain ⟨its,rv,ht,hz⟩:=I.list hq
 have hsz:(assignEach es X.env).length=its.toArray.size:=by rw [hn,<- hl,rv.length,List.size_toArray]
 rw [PyProof.Rows.assign_Tuple]
 refine wpAny_bind (wpAny_standAt ?_)
 unfold unpack
 rw [hsz,hst]
 refine wpAny_bind (wpAny_holding (PySem.W.kun_itemsOf (I.ok.hd hc) ht.isList fun h' hx=>?_))
 have I1:Inv X pins σ H { s with heap:=h' }:=I.kept (t':=s.toks) fun b o e=>hx b o (Nat.ne_of_lt (Heap.lt_size e)) e
 exact h pins _ σ H xs _ Q I1 (by simpa using rv) hw
end
section
variable {X:Cx}
theorem sj {tgE:Expr} {t t':TG} (h:PG X tgE t) (h':PG X tgE t'):PG X tgE (fun v σ H Q=>t v σ H Q\/t' v σ H Q):=by
 intro pins s σ H v u Q I r hw
 rcases hw with q | q
 ·exact h pins s σ H v u Q I r q
 ·exact h' pins s σ H v u Q I r q
end
noncomputable def gs:List Nat->TGs
 | []=>ye
 | i :: r=>vk (jR i) (gs r)
noncomputable def gT (K:PySem.W.Frag):List Nat->TG
 | [i]=>jR i
 | is=>fun v σ H Q=>kJ K is.length (gs is) v σ H Q\/kL K is.length (gs is) v σ H Q
noncomputable def bS:List Nat->List V->L2.St->L2.St
 | i :: is,v :: vs,σ=>bS is vs (σ.set i (some v))
 | _,_,σ=>σ
noncomputable def jA:List Nat->List RL.D->RL.St->RL.St
 | i :: is,d :: ds,σ=>jA is ds (σ.set i (some d))
 | _,_,σ=>σ
theorem f7:∀ {is:List Nat} {ds:List RL.D} {σ σ1:RL.St},RL.aS is ds σ=some σ1->is.length=ds.length/\σ1=jA is ds σ
 | [],[],σ,σ1,h=>by cases h; exact ⟨rfl,rfl⟩
 | [],d :: ds,σ,σ1,h=>by cases h
 | i :: is,[],σ,σ1,h=>by cases h
 | i :: is,d :: ds,σ,σ1,h=>by
  obtain ⟨h1,h2⟩:=f7 (is:=is) (ds:=ds) (σ:=σ.set i (some d)) h
  exact ⟨by simp [h1],h2⟩
theorem hG:∀ {is:List Nat} {vs:List V} {σ:L2.St} {H:Hp} {Q:L2.St->Hp->Prop},is.length=vs.length->Q (bS is vs σ) H->gs is vs σ H Q
 | [],[],σ,H,Q,_,q=>⟨rfl,q⟩
 | [],_ :: _,_,_,_,h,_=>by simp at h
 | _ :: _,[],_,_,_,h,_=>by simp at h
 | i :: is,v :: vs,σ,H,Q,h,q=>⟨v,vs,rfl,hG (is:=is) (by simpa using h) q⟩
theorem p6 {K:PySem.W.Frag} {tg:List Nat} {d:RL.D} {v:V} {σD σD1:RL.St} {H:Hp} (h:RL.az tg d σD=some σD1) (r:Rep nP K H d v) :
  ∃ ds vs,σD1=jA tg ds σD/\tg.length=ds.length/\aa nP K H ds vs/\(d.imm=true->RL.ai ds=true)/\∀ (σ:L2.St) (Q:L2.St->Hp->Prop),Q (bS tg vs σ) H->gT K tg v σ H Q:=by
 unfold RL.az at h
 split at h
 ·rename_i i
  cases h
  exact ⟨[d],[v],rfl,rfl,aa.cons r aa.nil,fun z=>by simp [RL.ai,z],fun σ Q q=>q⟩
 ·rename_i hne
  have key:gT K tg=fun v σ H Q=>kJ K tg.length (gs tg) v σ H Q\/kL K tg.length (gs tg) v σ H Q:=by
   unfold gT
   split
   ·rename_i i
    exact absurd rfl (hne i)
   ·rfl
  rw [key]
  split at h
  ·rename_i ds
   obtain ⟨h1,h2⟩:=f7 h
   obtain ⟨p,xs,rfl,e2,e3⟩:=aP r
   exact ⟨ds,xs,h2,h1,e3,fun z=>by rw [RL.D.imm] at z; exact z,fun σ Q q=>.inl ⟨p,xs,rfl,SqT.of e2,by rw [<- e3.length,h1],hG (h1.trans e3.length) q⟩⟩
  ·rename_i ds
   obtain ⟨h1,h2⟩:=f7 h
   obtain ⟨p,xs,rfl,_,e2,e3⟩:=a4 r
   exact ⟨ds,xs,h2,h1,e3,fun z=>(by cases z),fun σ Q q=>.inr ⟨p,xs,rfl,SqL.of e2,by rw [<- e3.length,h1],hG (h1.trans e3.length) q⟩⟩
  ·cases h
theorem nv:∀ (is:List Nat) (vs:List V) (σ:L2.St),(bS is vs σ).length=σ.length
 | [],_,_=>rfl
 | _ :: _,[],_=>rfl
 | i :: is,v :: vs,σ=>by rw [bS,nv is vs,List.length_set]
theorem kO:∀ (is:List Nat) (vs:List V) (σ:L2.St) (j:Nat),is.contains j=false->(bS is vs σ)[j]?=σ[j]?
 | [],_,_,_,_=>rfl
 | _ :: _,[],_,_,_=>rfl
 | i :: is,v :: vs,σ,j,h=>by
  rw [List.contains_cons,Bool.or_eq_false_iff] at h
  rw [bS,kO is vs _ j h.2,List.getElem?_set_ne (by intro e; subst e; simp at h)]
noncomputable def RVx (T:List Nat) (K:PySem.W.Frag) (σD:RL.St) (σ:L2.St) (H:Hp):Prop:=σD.length<=σ.length/\∀ (i:Nat) (d:RL.D),T.contains i=false->σD[i]?=some (some d)->∃ v,σ[i]?=some (some v)/\Rep nP K H d v
theorem RVx.set {K:PySem.W.Frag} {σD:RL.St} {σ:L2.St} {H:Hp} {i:Nat} {T:List Nat} {d:RL.D} {v:V} (h:RVx (i :: T) K σD σ H) (r:Rep nP K H d v):RVx T K (σD.set i (some d)) (σ.set i (some v)) H:=⟨by simpa using h.1,fun j dj hT e=>by
 by_cases hj:j=i
 ·subst hj
  have hlt:j<σD.length:=by
   have:=(List.getElem?_eq_some_iff.mp e).1
   simpa using this
  rw [List.getElem?_set_self hlt] at e
  cases e
  exact ⟨v,by rw [List.getElem?_set_self (Nat.lt_of_lt_of_le hlt h.1)],r⟩
 ·rw [List.getElem?_set_ne (Ne.symm hj)] at e ⊢
  exact h.2 j dj (by rw [List.contains_cons,hT,Bool.or_false]; simpa using hj) e⟩
theorem RVx.aS {K:PySem.W.Frag} {H:Hp}:∀ {is:List Nat} {ds:List RL.D} {vs:List V} {σD:RL.St} {σ:L2.St},RVx is K σD σ H->is.length=ds.length->aa nP K H ds vs->RV0 K (jA is ds σD) (bS is vs σ) H
 | [],_,_,_,_,h,_,_=>⟨h.1,fun i d e=>h.2 i d rfl e⟩
 | i :: is,[],_,_,_,_,hl,_=>by simp at hl
 | i :: is,d :: ds,vs,σD,σ,h,hl,r=>by
  rw [aa] at r
  obtain ⟨v,t,rfl,r1,r2⟩:=r
  rw [jA,bS]
  exact RVx.aS (h.set r1) (by simpa using hl) r2
theorem x4 {K:PySem.W.Frag} {tg:List Nat} {v:V} {σ:L2.St} {H:Hp} {Q:L2.St->Hp->Prop} (h:gT K tg v σ H Q):∃ vs,tg.length=vs.length/\Q (bS tg vs σ) H/\∀ Q':L2.St->Hp->Prop,Q' (bS tg vs σ) H->gT K tg v σ H Q':=by
 have inv:∀ (is:List Nat) (xs:List V) (σ:L2.St) (Q:L2.St->Hp->Prop),gs is xs σ H Q->is.length=xs.length/\Q (bS is xs σ) H:=by
  intro is
  induction is with
  | nil=>intro xs σ Q h; obtain ⟨rfl,q⟩:=h; exact ⟨rfl,q⟩
  | cons i r ih =>
   intro xs σ Q h
   obtain ⟨v,t,rfl,q⟩:=h
   obtain ⟨h1,h2⟩:=ih t _ Q q
   exact ⟨by simp [h1],h2⟩
 unfold gT at h
 split at h
 ·rename_i i
  exact ⟨[v],rfl,h,fun Q' q=>q⟩
 ·rename_i hne
  have key:gT K tg=fun v σ H Q=>kJ K tg.length (gs tg) v σ H Q\/kL K tg.length (gs tg) v σ H Q:=by
   unfold gT
   split
   ·rename_i i
    exact absurd rfl (hne i)
   ·rfl
  rw [key]
  rcases h with ⟨a,xs,rfl,hq,hl,hg⟩ | ⟨a,xs,rfl,hq,hl,hg⟩
  ·obtain ⟨h1,h2⟩:=inv _ _ _ _ hg
   exact ⟨xs,h1,h2,fun Q' q=>.inl ⟨a,xs,rfl,hq,hl,hG h1 q⟩⟩
  ·obtain ⟨h1,h2⟩:=inv _ _ _ _ hg
   exact ⟨xs,h1,h2,fun Q' q=>.inr ⟨a,xs,rfl,hq,hl,hG h1 q⟩⟩
noncomputable def cJ (tg:List Nat) (σ:L2.St):L2.St:=σ.mapIdx fun i o=>if tg.contains i then none else o
theorem js (tg:List Nat) (σ:L2.St):(cJ tg σ).length=σ.length:=by simp [cJ]
theorem kj {tg:List Nat} {σ:L2.St} {i:Nat} (h:tg.contains i=false):(cJ tg σ)[i]?=σ[i]?:=by
 unfold cJ
 rw [List.getElem?_mapIdx]
 cases σ[i]? with
 | none=>rfl
 | some o=>simp only [Option.map_some,h,Bool.false_eq_true,if_false]
theorem oy {tg:List Nat} {σ:L2.St} {i:Nat} {v:V} (h:tg.contains i=true):(cJ tg σ)[i]?≠some (some v):=by
 unfold cJ
 rw [List.getElem?_mapIdx]
 cases σ[i]? with
 | none=>simp
 | some o=>simp only [Option.map_some,h,if_true]; intro z; cases z
section comp
variable {X:Cx} {cl:RL.Cl} {tgE iter elt c:Expr} {e' c':RL.E} {it:RL.It} {tg:List Nat} {scope:Scope} {cls:List (Str × Addr)} {pos:Pos} {ifs:List Expr}
structure fw (X:Cx) (cl:RL.Cl) (scope:Scope) (tgE:Expr) (tg:List Nat) (elt:Expr) (e':RL.E) (tcs:TT) (ifs:List Expr):Prop where
 htg:∀ cls C fp s H,PG (blk X scope cls C fp s H) tgE (gT X.K tg)
 htc:∀ cls C fp s H pins s' σ H' Q,Inv (blk X scope cls C fp s H) pins σ H' s'->tcs σ H' Q->wpAny (model X.prog X.w) X.A (fg ifs (compEnvC scope cls C X.env)) (TP (blk X scope cls C fp s H) pins σ Q) (fun _ _=>False) s'
 hte:∀ cls C fp s H,SE (blk X scope cls C fp s H) cl elt e'
 cover:∀ (i:Nat) (x:Str),X.N[i]?=some x->scope.names.lookup x=some .local\/scope.names.lookup x=some .cell->tg.contains i=true
theorem fw.blk {tcs:TT} (B:fw X cl scope tgE tg elt e' tcs ifs):lN X scope tgE ifs elt (cJ tg) (gT X.K tg) tcs (tE X.K cl e') where
 htg:=B.htg
 htc:=B.htc
 hte:=B.hte
 xI:=fun σ hl=>⟨js tg σ,fun i x v h1 h2=>by
  by_cases hc:tg.contains i=true
  ·exact absurd h2 (oy hc)
  ·simp only [Bool.not_eq_true] at hc
   rw [kj hc] at h2
   refine ⟨h2,fun z=>?_,fun z=>?_⟩
   ·rw [B.cover i x h1 (.inl z)] at hc
    cases hc
   ·rw [B.cover i x h1 (.inr z)] at hc
    cases hc⟩
 vm:=fun x σ H Q h=>by
  obtain ⟨vs,h1,h2,h3⟩:=x4 h
  refine h3 _ ⟨h2,(nv _ _ _).symm,fun i v e=>?_⟩
  by_cases hc:tg.contains i=true
  ·exact absurd e (oy hc)
  ·simp only [Bool.not_eq_true] at hc
   rw [kO _ _ _ _ hc]
   exact e
theorem rh {f:RL.St->Option (Option RL.D)} {σ:RL.St} {d:RL.D} {r ys:List RL.D} (h:RL.bF f tg σ (d :: r)=some ys):∃ σ1 y ys',RL.az tg d σ=some σ1/\f σ1=some y/\RL.bF f tg σ r=some ys'/\RL.iu y ys'=some ys:=by
 rw [RL.bF] at h
 obtain ⟨σ1,h1,h⟩:=bind_some h
 obtain ⟨y,h2,h⟩:=bind_some h
 obtain ⟨ys',h3,h⟩:=bind_some h
 exact ⟨σ1,y,ys',h1,h2,h3,h⟩
theorem oW {tcs:TT} {f:RL.St->Option (Option RL.D)} {σ:L2.St} {H:Hp} {Q:VK} {σD:RL.St} {ds total:List RL.D} (rv:RV0 X.K σD σ H) (ei:RL.a8 cl σD it=some ds) (hz:ds.length<=RL.most) (hm:RL.bF f tg σD ds=some total)
  (ht:∀ σ1 σV H y (Q:Bool->Hp->Prop),RV0 X.K σ1 σV H->f σ1=some y->(∀ k H',ao H H'->(if k=true then ∃ d,y=some d/\RL.ev cl σ1 e'=some d else y=none)->Q k H')->tcs σV H Q)
  (k:∀ l H',ao H H'->H l=none->(∃ xs,H' l=some (.lst xs)/\aa nP X.K H' total xs)->Q (.ref l) H'):eo (tI X.K cl it) (cJ tg) (gT X.K tg) tcs (tE X.K cl e') σ H Q:=by
 refine ⟨σD,ds,rv,ei,fun J H1 s1 src l hl=>?_⟩
 obtain ⟨ok,_⟩:=src
 refine ⟨fun i m xs H2=>∃ don rest,m=ds.length-i/\i<=ds.length/\ao H1 H2/\H2 l=some (.lst xs)/\aa (fun p=>p=l) X.K H2 don xs/\RL.bF f tg σD (ds.drop i)=some rest/\don ++ rest=total/\don.length<=i,
  ⟨_,[],total,rfl,Nat.zero_le _,ao.bc hl,aN,aa.nil,hm,rfl,Nat.le_refl _⟩,?_⟩
 rintro i m xs H2 ⟨don,rest,rfl,hi,s2,hl2,rs,hr,htot,hdn⟩
 refine ⟨hl2,?_⟩
 have off:Off nP H1 H2:=Off.same s2
 by_cases hlt:i<ds.length
 ·refine .inr ⟨ok.go H2 i off hlt,fun x H3 y=>?_⟩
  have hd:ds[i]?=some ds[i]:=by simp [hlt]
  obtain ⟨s3,rp⟩:=ok.yld H2 i ds[i] x H3 off hd y
  have rp:=rp (.inr s2)
  rw [List.drop_eq_getElem_cons hlt] at hr
  obtain ⟨σ1,y1,ys',h1,h2,h3,h4⟩:=rh hr
  obtain ⟨dv,vs,e1,e2,e3,_,e5⟩:=p6 h1 rp
  refine e5 _ _ ?_
  have rv3:RV0 X.K σD σ H3:=rv.same ((s1.trans s2).trans s3)
  have rvx:RVx tg X.K σD (cJ tg σ) H3:=⟨by rw [js]; exact rv3.1,fun j d hT e=>by rw [kj hT]; exact rv3.2 j d e⟩
  have rv1:RV0 X.K σ1 (bS tg vs (cJ tg σ)) H3:=by rw [e1]; exact rvx.aS e2 e3
  refine ht σ1 _ H3 y1 _ rv1 h2 fun t H5 s5 hy=>?_
  have hl5:H5 l=some (.lst xs):=s5 _ _ (s3 _ _ hl2)
  have rs5:aa (fun p=>p=l) X.K H5 don xs:=(rs.same s3).same s5
  cases t with
  | true =>
   obtain ⟨d,rfl,hv⟩:=(show ∃ d,y1=some d/\RL.ev cl σ1 e'=some d from hy)
   have him:d.imm=true/\rest=d :: ys':=by
    unfold RL.iu at h4
    dsimp only at h4
    split at h4
    ·rename_i hh
     cases h4
     exact ⟨hh,rfl⟩
    ·cases h4
   refine cZ ⟨σ1,d,rv1.same s5,hv,fun v H6 r6=>⟨r6.same _ _ hl5,?_,ds.length-(i+1),by omega,don ++ [d],ys',rfl,hlt,?_,aN,?_,h3,?_,?_⟩⟩
   ·rw [<- rs.length]
    exact Nat.lt_of_lt_of_le (Nat.lt_of_le_of_lt hdn (Nat.lt_of_lt_of_le hlt hz)) (Nat.le_of_lt (by decide))
   ·intro b o e
    have hb:b≠l:=aC e hl
    rw [aD hb]
    exact r6.same _ _ (s5 _ _ (s3 _ _ (s2 _ _ e)))
   ·exact aa.upd (P:=fun p=>p=l) (r6.same _ _ hl5) (.inl ⟨_,rfl⟩) rfl (aa.append (rs5.same r6.same) (aa.cons (r6.rep.imm him.1) aa.nil))
   ·rw [<- htot,him.2,List.append_assoc]
    rfl
   ·rw [List.length_append,List.length_singleton]
    omega
  | false =>
   have hy:y1=none:=hy
   subst hy
   have hr2:rest=ys':=by
    unfold RL.iu at h4
    dsimp only at h4
    cases h4
    rfl
   refine eu ⟨ds.length-(i+1),by omega,don,ys',rfl,hlt,(s2.trans s3).trans s5,hl5,rs5,h3,by rw [<- htot,hr2],by omega⟩
 ·have e:i=ds.length:=by omega
  subst e
  refine .inl ⟨ok.stop H2 off,k l H2 (s1.trans s2) (s1.free hl) ⟨xs,hl2,?_⟩⟩
  rw [List.drop_length,RL.bF] at hr
  cases hr
  rw [List.append_nil] at htot
  rw [<- htot]
  exact aa.weak (fun _ z=>z.elim) rs
theorem rK {f:RL.St->Option RL.D} {fr:Bool} {σ:RL.St} {d:RL.D} {r ys:List RL.D} (h:RL.eV f fr tg σ (d :: r)=some ys):∃ σ1 y ys',RL.az tg d σ=some σ1/\f σ1=some y/\RL.a5 y=true/\fr=true/\RL.eV f fr tg σ r=some ys'/\ys=y :: ys':=by
 rw [RL.eV] at h
 obtain ⟨σ1,h1,h⟩:=bind_some h
 obtain ⟨y,h2,h⟩:=bind_some h
 by_cases c:(RL.a5 y && fr)=true
 ·rw [if_pos c] at h
  obtain ⟨ys',h3,h4⟩:=map_some h
  rw [Bool.and_eq_true] at c
  exact ⟨σ1,y,ys',h1,h2,c.1,c.2,h3,h4.symm⟩
 ·rw [if_neg c] at h
  cases h
theorem v9 {P:Addr->Prop} {K:PySem.W.Frag} {H:Hp} {d:RL.D} {v:V} (im:RL.a5 d=true) (r:Rep nP K H d v) (h:∀ a,v=.ref a->¬ P a):Rep P K H d v:=by
 cases d with
 | lst ds =>
  obtain ⟨a,xs,e1,_,e2,e3⟩:=a4 r
  rw [Rep]
  exact ⟨a,xs,e1,h a e1,e2,e3.imm im⟩
 | dK ks ds =>
  rw [Rep] at r ⊢
  obtain ⟨a,xs,e1,_,e2,e3,e4⟩:=r
  exact ⟨a,xs,e1,h a e1,e2,e3,e4.imm im⟩
 | dT ks ds =>
  rw [Rep] at r ⊢
  obtain ⟨a,xs,e1,_,e2,e3,e4⟩:=r
  exact ⟨a,xs,e1,h a e1,e2,e3,e4.imm im⟩
 | _=>cases im
theorem uV {tcs:TT} {σ:L2.St} {H:Hp} {Q:VK} {σD:RL.St} {ds total:List RL.D} (rv:RV0 X.K σD σ H) (ei:RL.a8 cl σD it=some ds) (hz:ds.length<=RL.most) (hm:RL.eV (fun σ1=>RL.ev cl σ1 e') (RL.au e') tg σD ds=some total)
  (ht:∀ σV H (Q:Bool->Hp->Prop),Q true H->tcs σV H Q)
  (k:∀ l H',ao H H'->H l=none->(∃ xs,H' l=some (.lst xs)/\aa (fun p=>p=l\/H p≠none) X.K H' total xs)->Q (.ref l) H'):eo (tI X.K cl it) (cJ tg) (gT X.K tg) tcs (tE X.K cl e') σ H Q:=by
 refine ⟨σD,ds,rv,ei,fun J H1 s1 src l hl=>?_⟩
 obtain ⟨ok,_⟩:=src
 refine ⟨fun i m xs H2=>∃ don rest,m=ds.length-i/\i<=ds.length/\ao H1 H2/\H2 l=some (.lst xs)/\aa (fun p=>p=l\/H p≠none) X.K H2 don xs/\RL.eV (fun σ1=>RL.ev cl σ1 e') (RL.au e') tg σD (ds.drop i)=some rest/\don ++ rest=total/\don.length<=i,
  ⟨_,[],total,rfl,Nat.zero_le _,ao.bc hl,aN,aa.nil,hm,rfl,Nat.le_refl _⟩,?_⟩
 rintro i m xs H2 ⟨don,rest,rfl,hi,s2,hl2,rs,hr,htot,hdn⟩
 refine ⟨hl2,?_⟩
 have off:Off nP H1 H2:=Off.same s2
 by_cases hlt:i<ds.length
 ·refine .inr ⟨ok.go H2 i off hlt,fun x H3 y=>?_⟩
  have hd:ds[i]?=some ds[i]:=by simp [hlt]
  obtain ⟨s3,rp⟩:=ok.yld H2 i ds[i] x H3 off hd y
  have rp:=rp (.inr s2)
  rw [List.drop_eq_getElem_cons hlt] at hr
  obtain ⟨σ1,d,ys',h1,hv,im,fr,h3,rfl⟩:=rK hr
  obtain ⟨dv,vs,e1,e2,e3,_,e5⟩:=p6 h1 rp
  refine e5 _ _ ?_
  have rv3:RV0 X.K σD σ H3:=rv.same ((s1.trans s2).trans s3)
  have rvx:RVx tg X.K σD (cJ tg σ) H3:=⟨by rw [js]; exact rv3.1,fun j d hT e=>by rw [kj hT]; exact rv3.2 j d e⟩
  have rv1:RV0 X.K σ1 (bS tg vs (cJ tg σ)) H3:=by rw [e1]; exact rvx.aS e2 e3
  refine ht _ H3 _ ?_
  have hl5:H3 l=some (.lst xs):=s3 _ _ hl2
  refine cZ ⟨σ1,d,rv1,hv,fun v H6 r6=>⟨r6.same _ _ hl5,?_,ds.length-(i+1),by omega,don ++ [d],ys',rfl,hlt,?_,aN,?_,h3,?_,?_⟩⟩
  ·rw [<- rs.length]
   exact Nat.lt_of_lt_of_le (Nat.lt_of_le_of_lt hdn (Nat.lt_of_lt_of_le hlt hz)) (Nat.le_of_lt (by decide))
  ·intro b o e
   have hb:b≠l:=aC e hl
   rw [aD hb]
   exact r6.same _ _ (s3 _ _ (s2 _ _ e))
  ·have md:jn d=true:=by
    cases d with
    | lst _=>rfl
    | dK _ _=>rfl
    | dT _ _=>rfl
    | _=>cases im
   have apart:∀ a,v=.ref a->¬ (a=l\/H a≠none):=fun a z q=>by
    have fa:=r6.fresh fr md a z
    rcases q with rfl | q
    ·rw [hl5] at fa
     cases fa
    ·obtain ⟨u,hu⟩:=Option.ne_none_iff_exists'.mp q
     rw [s3 _ _ (s2 _ _ (s1 _ _ hu))] at fa
     cases fa
   exact aa.upd (P:=fun p=>p=l\/H p≠none) (r6.same _ _ hl5) (.inl ⟨_,rfl⟩) (.inl rfl) (aa.append ((rs.same s3).same r6.same) (aa.cons (v9 im r6.rep apart) aa.nil))
  ·rw [<- htot,List.append_assoc]
   rfl
  ·rw [List.length_append,List.length_singleton]
   omega
 ·have e:i=ds.length:=by omega
  subst e
  refine .inl ⟨ok.stop H2 off,k l H2 (s1.trans s2) (s1.free hl) ⟨xs,hl2,?_⟩⟩
  rw [List.drop_length,RL.eV] at hr
  cases hr
  rw [List.append_nil] at htot
  rw [<- htot]
  exact rs
end comp
end RS
namespace RS
open PySem PySem.Spec PyProof.Rows L2
section comp
variable {X:Cx} {cl:RL.Cl} {tgE iter elt c:Expr} {e' c':RL.E} {it:RL.It} {tg:List Nat} {scope:Scope} {pos:Pos} {ifs:List Expr}
structure iB (scope sc:Scope):Prop where
 kind:scope.kind=.function
 own:∀ x∈scope.names,x.2=.cell->scope.names.lookup x.1=some .cell
 loc:∀ x∈scope.names,x.2=.local->scope.names.lookup x.1=some .local
 vis:∀ x∈scope.names,x.2=.free->sc.names.lookup x.1=some .cell\/sc.names.lookup x.1=some .free
theorem cD {pins:List (Addr × Obj)} {σ:L2.St} {H:Hp} {s:Shared} (S:iB scope X.env.scope) (I:Inv X pins σ H s):∃ cls,closureFor scope X.env=pure cls/\dX scope X.env.scope cls X.env.cells:=by
 obtain ⟨cls,h1,h2,h3⟩:=pL (env:=X.env) (scope:=scope) fun x hx=>I.ok.has x (S.vis _ hx rfl)
 exact ⟨cls,h1,S.kind,S.own,S.loc,h2,h3,fun x hx=>S.vis _ (PySem.mem_of_lookup hx) rfl⟩
theorem mO {σD:RL.St} {σ:L2.St} {H H':Hp} {e:RL.E} {l:Addr} {total:List RL.D} (sm:ao H H') (hl:H l=none) (h:∃ xs,H' l=some (.lst xs)/\aa nP X.K H' total xs) (hav:∀ M,RL.avE M e=false):Res X.K σD σ H e (.lst total) (.ref l) H' where
 same:=sm
 rep:=by
  obtain ⟨xs,h1,h2⟩:=h
  rw [Rep]
  exact ⟨l,xs,rfl,fun z=>z,h1,h2⟩
 fresh:=fun _ _ a z=>by cases z; exact hl
 av:=fun M z=>by rw [hav M] at z; cases z
noncomputable def eY:TT:=fun _ H Q=>Q true H
theorem mH {σ:L2.St} {H:Hp} {Q:VK} (h:tE X.K cl (.compA e' tg it) σ H Q):eo (tI X.K cl it) (cJ tg) (gT X.K tg) eY (tE X.K cl e') σ H Q:=by
 obtain ⟨σD,d,rv,e,k⟩:=h
 rw [RL.ev] at e
 obtain ⟨ds,e1,e⟩:=bind_some e
 obtain ⟨ds',e2,e⟩:=bind_some e
 obtain ⟨total,e3,e4⟩:=map_some e
 unfold RL.fits at e2
 split at e2
 ·rename_i hz
  cases e2
  subst e4
  refine oW (f:=fun σ1=>(RL.ev cl σ1 e').map some) rv e1 hz e3 (fun σ1 σV H y Q rv1 hy q=>?_) fun l H' sm hl hx=>k _ _ (mO sm hl hx fun _=>rfl)
  obtain ⟨d,h1,h2⟩:=map_some hy
  exact q true H (ao.refl H) (cZ ⟨d,h2.symm,h1⟩)
 ·cases e2
theorem mR {σ:L2.St} {H:Hp} {Q:VK} (h:tE X.K cl (.compL e' tg it) σ H Q):eo (tI X.K cl it) (cJ tg) (gT X.K tg) eY (tE X.K cl e') σ H Q:=by
 obtain ⟨σD,d,rv,e,k⟩:=h
 rw [RL.ev] at e
 obtain ⟨ds,e1,e⟩:=bind_some e
 obtain ⟨ds',e2,e⟩:=bind_some e
 obtain ⟨total,e3,e4⟩:=map_some e
 unfold RL.fits at e2
 split at e2
 ·rename_i hz
  cases e2
  subst e4
  refine uV rv e1 hz e3 (fun _ _ _ q=>q) fun l H' sm hl ⟨xs,h1,h2⟩=>k _ _ ⟨sm,?_,fun _ _ a z=>?_,fun M _ P hP _=>?_⟩
  ·rw [Rep]
   exact ⟨l,xs,rfl,fun z=>z,h1,h2.weak fun _ z=>z.elim⟩
  ·cases z
   exact hl
  ·rw [Rep]
   exact ⟨l,xs,rfl,fun z=>hP l z hl,h1,h2.weak fun p z=>.inr (hP p z)⟩
 ·cases e2
theorem mD {σ:L2.St} {H:Hp} {Q:VK} (h:tE X.K cl (.comp e' tg it c') σ H Q):eo (tI X.K cl it) (cJ tg) (gT X.K tg) (tT X.K cl c') (tE X.K cl e') σ H Q:=by
 obtain ⟨σD,d,rv,e,k⟩:=h
 rw [RL.ev] at e
 obtain ⟨ds,e1,e⟩:=bind_some e
 obtain ⟨ds',e2,e⟩:=bind_some e
 obtain ⟨total,e3,e4⟩:=map_some e
 unfold RL.fits at e2
 split at e2
 ·rename_i hz
  cases e2
  subst e4
  refine oW rv e1 hz e3 (fun σ1 σV H y Q rv1 hy q=>?_) fun l H' sm hl hx=>k _ _ (mO sm hl hx fun _=>rfl)
  obtain ⟨t,h1,h2⟩:=bind_some hy
  refine ⟨σ1,t,rv1,h1,fun H' sm=>q t H' sm ?_⟩
  cases t with
  | true =>
   obtain ⟨d,h3,h4⟩:=map_some (show (RL.ev cl σ1 e').map some=some y from h2)
   exact cZ ⟨d,h4.symm,h3⟩
  | false =>
   cases (show (some none:Option (Option RL.D))=some y from h2)
   exact eu rfl
 ·cases e2
theorem sJ (hc:X.calm=true) (S:iB scope X.env.scope) (hi:SI X cl tgE iter it) (B:fw X cl scope tgE tg elt e' eY []) (hs:∀ x,foldedSetIterable iter X.env x=pure x):SE X cl (.ListComp elt [⟨tgE,iter,[],0⟩] scope pos) (.compA e' tg it):=by
 intro pins s σ H Q I h
 obtain ⟨cls,h1,h2⟩:=cD S I
 exact kq hc h2 h1 hi B.blk hs pins s σ H Q I (mH h)
theorem uF (hc:X.calm=true) (S:iB scope X.env.scope) (hi:SI X cl tgE iter it) (B:fw X cl scope tgE tg elt e' eY []) (hs:∀ x,foldedSetIterable iter X.env x=pure x):SE X cl (.ListComp elt [⟨tgE,iter,[],0⟩] scope pos) (.compL e' tg it):=by
 intro pins s σ H Q I h
 obtain ⟨cls,h1,h2⟩:=cD S I
 exact kq hc h2 h1 hi B.blk hs pins s σ H Q I (mR h)
theorem sW (hc:X.calm=true) (S:iB scope X.env.scope) (hi:SI X cl tgE iter it) (B:fw X cl scope tgE tg elt e' (tT X.K cl c') [c]) (hs:∀ x,foldedSetIterable iter X.env x=pure x):SE X cl (.ListComp elt [⟨tgE,iter,[c],0⟩] scope pos) (.comp e' tg it c'):=by
 intro pins s σ H Q I h
 obtain ⟨cls,h1,h2⟩:=cD S I
 exact kq hc h2 h1 hi B.blk hs pins s σ H Q I (mD h)
noncomputable def SA (X:Cx) (cl:RL.Cl) (st:Stmt) (i:Nat) (e':RL.E):Prop:=PS X st (fun D σ H=>tE X.K cl e' σ H fun v H1=>D.nx (σ.set i (some v)) H1)
theorem PS.weak {st:Stmt} {t t':TS} (h:PS X st t) (w:∀ D σ H,t' D σ H->t D σ H):PS X st t':=fun pins s σ H D I q=>h pins s σ H D I (w D σ H q)
theorem PSs.weak {st:List Stmt} {t t':TS} (h:PSs X st t) (w:∀ D σ H,t' D σ H->t D σ H):PSs X st t':=fun pins s σ H D I q=>h pins s σ H D I (w D σ H q)
variable {y:Str} {i:Nat} {py spos:Pos}
theorem uy (hc:X.calm=true) (hN:X.N.Nodup) (hiy:X.N[i]?=some y) (hy:X.env.scope.names.lookup y=some .local) (S:iB scope X.env.scope) (hi:SI X cl tgE iter it) (B:fw X cl scope tgE tg elt e' eY []) (hs:∀ x,foldedSetIterable iter X.env x=pure x)
  (hsw:swapsWith (.ListComp elt [⟨tgE,iter,[],0⟩] scope pos) (some (.Name y py)) spos.line X.env=pure true):SA X cl (.Assign [.Name y py] (.ListComp elt [⟨tgE,iter,[],0⟩] scope pos) spos) i (.compA e' tg it):=by
 intro pins s σ H D I h
 obtain ⟨cls,h1,h2⟩:=cD S I
 exact kz hc hN hiy hy h2 h1 hi B.blk hs hsw pins s σ H D I (mH h)
theorem sV (hc:X.calm=true) (hN:X.N.Nodup) (hiy:X.N[i]?=some y) (hy:X.env.scope.names.lookup y=some .local) (S:iB scope X.env.scope) (hi:SI X cl tgE iter it) (B:fw X cl scope tgE tg elt e' eY []) (hs:∀ x,foldedSetIterable iter X.env x=pure x)
  (hsw:swapsWith (.ListComp elt [⟨tgE,iter,[],0⟩] scope pos) (some (.Name y py)) spos.line X.env=pure true):SA X cl (.Assign [.Name y py] (.ListComp elt [⟨tgE,iter,[],0⟩] scope pos) spos) i (.compL e' tg it):=by
 intro pins s σ H D I h
 obtain ⟨cls,h1,h2⟩:=cD S I
 exact kz hc hN hiy hy h2 h1 hi B.blk hs hsw pins s σ H D I (mR h)
theorem ub (hc:X.calm=true) (hN:X.N.Nodup) (hiy:X.N[i]?=some y) (hy:X.env.scope.names.lookup y=some .local) (S:iB scope X.env.scope) (hi:SI X cl tgE iter it) (B:fw X cl scope tgE tg elt e' (tT X.K cl c') [c]) (hs:∀ x,foldedSetIterable iter X.env x=pure x)
  (hsw:swapsWith (.ListComp elt [⟨tgE,iter,[c],0⟩] scope pos) (some (.Name y py)) spos.line X.env=pure true):SA X cl (.Assign [.Name y py] (.ListComp elt [⟨tgE,iter,[c],0⟩] scope pos) spos) i (.comp e' tg it c'):=by
 intro pins s σ H D I h
 obtain ⟨cls,h1,h2⟩:=cD S I
 exact kz hc hN hiy hy h2 h1 hi B.blk hs hsw pins s σ H D I (mD h)
theorem uU {e:Expr} (hN:X.N.Nodup) (hiy:X.N[i]?=some y) (hx:Loc X.env.scope y) (he:SE X cl e e') (hf:X.fn y=true\/X.env.scope.names.lookup y=some .local) (hs:swapsWith e (some (.Name y py)) spos.line X.env=pure false) (hf2:True):SA X cl (.Assign [.Name y py] e spos) i e':=by
 exact rJ hN hiy hx he hs hf
end comp
noncomputable def bp (M:List Nat) (σ:L2.St):Addr->Prop:=fun a=>∃ i,M.contains i=true/\σ[i]?=some (some (.ref a))
noncomputable def Own (K:PySem.W.Frag) (H:Hp) (d:RL.D) (v:V):Prop:=jn d=true/\RL.a5 d=true/\Rep nP K H d v
structure RVm (K:PySem.W.Frag) (M:List Nat) (σD:RL.St) (σ:L2.St) (H:Hp):Prop where
 len:σD.length=σ.length
 val:∀ (i:Nat) (d:RL.D),σD[i]?=some (some d)->∃ v,σ[i]?=some (some v)/\(if M.contains i=true then Own K H d v else Rep (bp M σ) K H d v)
 non:∀ (i:Nat) (v:V),σ[i]?=some (some v)->∃ d,σD[i]?=some (some d)
 sep:∀ (i j:Nat) (a:Addr),M.contains i=true->M.contains j=true->σ[i]?=some (some (.ref a))->σ[j]?=some (some (.ref a))->i=j
noncomputable def Fr' (M:List Nat) (σ:L2.St) (H:Hp) (σ':L2.St) (H':Hp):Prop:=(∀ b o,H b=some o->¬ bp M σ b->H' b=some o/\¬ bp M σ' b)/\∀ j,2<=M.count j->σ'[j]?=σ[j]?
theorem Fr'.trans {M:List Nat} {σ σ1 σ2:L2.St} {H H1 H2:Hp} (a:Fr' M σ H σ1 H1) (b:Fr' M σ1 H1 σ2 H2):Fr' M σ H σ2 H2:=⟨fun c o e n=>b.1 c o (a.1 c o e n).1 (a.1 c o e n).2,fun j hj=>(b.2 j hj).trans (a.2 j hj)⟩
theorem Fr'.same {M:List Nat} {σ:L2.St} {H H1:Hp} (s:ao H H1):Fr' M σ H σ H1:=⟨fun c o e n=>⟨s _ _ e,n⟩,fun _ _=>rfl⟩
theorem iR {M:List Nat} {j:Nat} (h:2<=M.count j):M.contains j=true:=by
 have:0<M.count j:=by omega
 simpa using List.count_pos_iff.mp this
section st
variable {K:PySem.W.Frag} {M:List Nat} {σD:RL.St} {σ:L2.St} {H H1:Hp}
theorem Own.ref {d:RL.D} {v:V} (h:Own K H d v):∃ a o,v=.ref a/\H a=some o/\cx o:=by
 obtain ⟨m,_,r⟩:=h
 cases d with
 | lst ds=>obtain ⟨a,xs,e1,_,e2,_⟩:=a4 r; exact ⟨a,_,e1,e2,.inl ⟨_,rfl⟩⟩
 | dK ks ds=>rw [Rep] at r; obtain ⟨a,xs,e1,_,e2,_⟩:=r; exact ⟨a,_,e1,e2,.inr (.inl ⟨_,rfl⟩)⟩
 | dT ks ds=>rw [Rep] at r; obtain ⟨a,xs,e1,_,e2,_⟩:=r; exact ⟨a,_,e1,e2,.inr (.inr ⟨_,rfl⟩)⟩
 | _=>cases m
theorem RVm.rv0 (h:RVm K M σD σ H):RV0 K σD σ H:=⟨Nat.le_of_eq h.len,fun i d e=>by
 obtain ⟨v,h1,h2⟩:=h.val i d e
 refine ⟨v,h1,?_⟩
 by_cases hm:M.contains i=true
 ·rw [if_pos hm] at h2
  exact h2.2.2
 ·rw [if_neg hm] at h2
  exact h2.none⟩
theorem RVm.xN (h:RVm K M σD σ H):∀ a,bp M σ a->∃ o,H a=some o/\cx o:=fun a ⟨i,hi,e⟩=>by
 obtain ⟨d,hd⟩:=h.non i _ e
 obtain ⟨v,h1,h2⟩:=h.val i d hd
 rw [if_pos hi] at h2
 obtain ⟨b,o,e1,e2,e3⟩:=h2.ref
 rw [e] at h1
 cases h1
 cases e1
 exact ⟨o,e2,e3⟩
theorem RVm.uR (h:RVm K M σD σ H):∀ a,bp M σ a->H a≠none:=fun a p=>by
 obtain ⟨o,e,_⟩:=h.xN a p
 rw [e]
 exact fun z=>nomatch z
theorem Own.same {d:RL.D} {v:V} (h:Own K H d v) (s:ao H H1):Own K H1 d v:=⟨h.1,h.2.1,h.2.2.same s⟩
theorem RVm.same (h:RVm K M σD σ H) (s:ao H H1):RVm K M σD σ H1:=⟨h.len,fun i d e=>by
 obtain ⟨v,h1,h2⟩:=h.val i d e
 refine ⟨v,h1,?_⟩
 by_cases hm:M.contains i=true
 ·rw [if_pos hm] at h2 ⊢
  exact h2.same s
 ·rw [if_neg hm] at h2 ⊢
  exact h2.same s,h.non,h.sep⟩
theorem bp.set {i:Nat} {v:V} (hi:M.contains i=false):bp M (σ.set i (some v))=bp M σ:=by
 funext a
 apply propext
 constructor
 ·rintro ⟨j,hj,e⟩
  have hne:i≠j:=fun z=>by subst z; rw [hi] at hj; cases hj
  rw [List.getElem?_set_ne hne] at e
  exact ⟨j,hj,e⟩
 ·rintro ⟨j,hj,e⟩
  have hne:i≠j:=fun z=>by subst z; rw [hi] at hj; cases hj
  exact ⟨j,hj,by rw [List.getElem?_set_ne hne]; exact e⟩
theorem RVm.bind {i:Nat} {d:RL.D} {v:V} (h:RVm K M σD σ H) (hi:M.contains i=false) (r:Rep (bp M σ) K H d v):RVm K M (σD.set i (some d)) (σ.set i (some v)) H where
 len:=by simpa using h.len
 val:=fun j dj e=>by
  rw [bp.set hi]
  by_cases hj:j=i
  ·subst hj
   have hlt:j<σD.length:=by
    have:=(List.getElem?_eq_some_iff.mp e).1
    simpa using this
   rw [List.getElem?_set_self hlt] at e
   cases e
   refine ⟨v,by rw [List.getElem?_set_self (by rw [<- h.len]; exact hlt)],?_⟩
   rw [if_neg (by rw [hi]; decide)]
   exact r
  ·rw [List.getElem?_set_ne (Ne.symm hj)] at e ⊢
   exact h.val j dj e
 non:=fun j w e=>by
  by_cases hj:j=i
  ·subst hj
   have hlt:j<σ.length:=by
    have:=(List.getElem?_eq_some_iff.mp e).1
    simpa using this
   exact ⟨d,by rw [List.getElem?_set_self (by rw [h.len]; exact hlt)]⟩
  ·rw [List.getElem?_set_ne (Ne.symm hj)] at e ⊢
   exact h.non j w e
 sep:=fun j k a hj hk e1 e2=>by
  have n1:i≠j:=fun z=>by subst z; rw [hi] at hj; cases hj
  have n2:i≠k:=fun z=>by subst z; rw [hi] at hk; cases hk
  rw [List.getElem?_set_ne n1] at e1
  rw [List.getElem?_set_ne n2] at e2
  exact h.sep j k a hj hk e1 e2
theorem Fr'.bind {i:Nat} {v:V} (hi:M.contains i=false) (s:ao H H1):Fr' M σ H (σ.set i (some v)) H1:=⟨fun b o e n=>⟨s _ _ e,by rw [bp.set hi]; exact n⟩,fun j hj=>List.getElem?_set_ne (fun z=>by subst z; rw [iR hj] at hi; cases hi)⟩
end st
end RS
namespace RS
open PySem PySem.Spec PyProof.Rows L2
mutual
theorem Rep.dC {P:Addr->Prop} {K:PySem.W.Frag} {H:Hp} {a:Addr} (ha:H a=none):∀ {d:RL.D} {v:V},Rep P K H d v->Rep (fun p=>P p\/p=a) K H d v
 | .non,v,h=>by simpa [Rep] using h
 | .bl _,v,h=>by simpa [Rep] using h
 | .int _,v,h=>by simpa [Rep] using h
 | .str _,v,h=>by simpa [Rep] using h
 | .tup ds,v,h=>by
  rw [Rep] at h ⊢
  obtain ⟨b,xs,e1,e2,e3⟩:=h
  exact ⟨b,xs,e1,e2,aa.dC ha e3⟩
 | .lst ds,v,h=>by
  rw [Rep] at h ⊢
  obtain ⟨b,xs,e1,e0,e2,e3⟩:=h
  exact ⟨b,xs,e1,fun z=>z.elim e0 (fun q=>aC e2 ha q),e2,aa.dC ha e3⟩
 | .dK ks ds,v,h=>by
  rw [Rep] at h ⊢
  obtain ⟨b,xs,e1,e0,e2,el,e3⟩:=h
  exact ⟨b,xs,e1,fun z=>z.elim e0 (fun q=>aC e2 ha q),e2,el,aa.dC ha e3⟩
 | .dT ks ds,v,h=>by
  rw [Rep] at h ⊢
  obtain ⟨b,xs,e1,e0,e2,el,e3⟩:=h
  exact ⟨b,xs,e1,fun z=>z.elim e0 (fun q=>aC e2 ha q),e2,el,aa.dC ha e3⟩
 | .scr ds,v,h=>by
  rw [Rep] at h ⊢
  obtain ⟨b,xs,e1,e2,e3⟩:=h
  exact ⟨b,xs,e1,e2,aa.dC ha e3⟩
theorem aa.dC {P:Addr->Prop} {K:PySem.W.Frag} {H:Hp} {a:Addr} (ha:H a=none):∀ {ds:List RL.D} {xs:List V},aa P K H ds xs->aa (fun p=>P p\/p=a) K H ds xs
 | [],xs,h=>by rw [aa] at h ⊢; exact h
 | d :: r,xs,h=>by
  rw [aa] at h ⊢
  obtain ⟨x,t,e1,e2,e3⟩:=h
  exact ⟨x,t,e1,Rep.dC ha e2,aa.dC ha e3⟩
end
section st
variable {K:PySem.W.Frag} {M:List Nat} {σD:RL.St} {σ:L2.St} {H H1:Hp}
theorem RVm.own {i:Nat} {d:RL.D} {a:Addr} (h:RVm K M σD σ H) (s:ao H H1) (hi:M.contains i=true) (hi2:M.count i<2) (ha:H a=none) (r:Own K H1 d (.ref a)):RVm K M (σD.set i (some d)) (σ.set i (some (.ref a))) H1/\Fr' M σ H (σ.set i (some (.ref a))) H1:=by
 have sub:∀ b,bp M (σ.set i (some (.ref a))) b->bp M σ b\/b=a:=fun b ⟨j,hj,e⟩=>by
  by_cases hji:j=i
  ·subst hji
   have hlt:j<σ.length:=by
    have:=(List.getElem?_eq_some_iff.mp e).1
    simpa using this
   rw [List.getElem?_set_self hlt] at e
   cases e
   exact .inr rfl
  ·rw [List.getElem?_set_ne (Ne.symm hji)] at e
   exact .inl ⟨j,hj,e⟩
 have old:∀ b,bp M σ b->b≠a:=fun b p z=>h.uR b p (z ▸ ha)
 refine ⟨⟨by simpa using h.len,fun j dj e=>?_,fun j w e=>?_,fun j k b hj hk e1 e2=>?_⟩,⟨fun b o e n=>⟨s _ _ e,fun z=>(sub b z).elim n fun q=>aC e ha q⟩,fun j hj=>List.getElem?_set_ne (fun z=>by subst z; omega)⟩⟩
 ·by_cases hj:j=i
  ·subst hj
   have hlt:j<σD.length:=by
    have:=(List.getElem?_eq_some_iff.mp e).1
    simpa using this
   rw [List.getElem?_set_self hlt] at e
   cases e
   refine ⟨.ref a,by rw [List.getElem?_set_self (by rw [<- h.len]; exact hlt)],?_⟩
   rw [if_pos hi]
   exact r
  ·rw [List.getElem?_set_ne (Ne.symm hj)] at e ⊢
   obtain ⟨v,h1,h2⟩:=h.val j dj e
   refine ⟨v,h1,?_⟩
   by_cases hm:M.contains j=true
   ·rw [if_pos hm] at h2 ⊢
    exact h2.same s
   ·rw [if_neg hm] at h2 ⊢
    exact ((h2.dC ha).weak sub).same s
 ·by_cases hj:j=i
  ·subst hj
   have hlt:j<σ.length:=by
    have:=(List.getElem?_eq_some_iff.mp e).1
    simpa using this
   exact ⟨d,by rw [List.getElem?_set_self (by rw [h.len]; exact hlt)]⟩
  ·rw [List.getElem?_set_ne (Ne.symm hj)] at e ⊢
   exact h.non j w e
 ·by_cases h1:j=i
  ·by_cases h2:k=i
   ·rw [h1,h2]
   ·subst h1
    have hlt:j<σ.length:=by
     have:=(List.getElem?_eq_some_iff.mp e1).1
     simpa using this
    rw [List.getElem?_set_self hlt] at e1
    rw [List.getElem?_set_ne (Ne.symm h2)] at e2
    cases e1
    exact absurd rfl (old _ ⟨k,hk,e2⟩)
  ·rw [List.getElem?_set_ne (Ne.symm h1)] at e1
   by_cases h2:k=i
   ·subst h2
    have hlt:k<σ.length:=by
     have:=(List.getElem?_eq_some_iff.mp e2).1
     simpa using this
    rw [List.getElem?_set_self hlt] at e2
    cases e2
    exact absurd rfl (old _ ⟨j,hj,e1⟩)
   ·rw [List.getElem?_set_ne (Ne.symm h2)] at e2
    exact h.sep j k b hj hk e1 e2
theorem RVm.gm {i:Nat} {d':RL.D} {a:Addr} {o o':HO} (h:RVm K M σD σ H) (hi:M.contains i=true) (e:σ[i]?=some (some (.ref a))) (ha:H a=some o) (m:cx o) (r:Own K (upd H a o') d' (.ref a)):RVm K M (σD.set i (some d')) σ (upd H a o')/\Fr' M σ H σ (upd H a o'):=by
 have pa:bp M σ a:=⟨i,hi,e⟩
 refine ⟨⟨by simpa using h.len,fun j dj e'=>?_,fun j w e'=>?_,h.sep⟩,⟨fun b u eb n=>⟨?_,n⟩,fun _ _=>rfl⟩⟩
 ·by_cases hj:j=i
  ·subst hj
   have hlt:j<σD.length:=by
    have:=(List.getElem?_eq_some_iff.mp e').1
    simpa using this
   rw [List.getElem?_set_self hlt] at e'
   cases e'
   refine ⟨.ref a,e,?_⟩
   rw [if_pos hi]
   exact r
  ·rw [List.getElem?_set_ne (Ne.symm hj)] at e'
   obtain ⟨v,h1,h2⟩:=h.val j dj e'
   refine ⟨v,h1,?_⟩
   by_cases hm:M.contains j=true
   ·rw [if_pos hm] at h2 ⊢
    obtain ⟨b,ob,rfl,hb,_⟩:=h2.ref
    have hne:b≠a:=fun z=>by subst z; exact hj (h.sep j i b hm hi h1 e)
    obtain ⟨q1,q2,q3⟩:=h2
    refine ⟨q1,q2,?_⟩
    have im:∀ {ds:List RL.D} {xs:List V},RL.ai ds=true->aa nP K H ds xs->aa nP K (L2.upd H a o') ds xs:=fun hi r=>(aa.upd (P:=fun p=>p=a) ha m rfl (r.imm hi)).imm hi
    cases dj with
    | lst ds=>obtain ⟨b',xs,e1,e0,e2,e3⟩:=a4 q3; cases e1; rw [Rep]; exact ⟨b,xs,rfl,fun z=>z,by rw [L2.aD hne]; exact e2,im q2 e3⟩
    | dK ks ds=>rw [Rep] at q3 ⊢; obtain ⟨b',xs,e1,e0,e2,el,e3⟩:=q3; cases e1; exact ⟨b,xs,rfl,fun z=>z,by rw [L2.aD hne]; exact e2,el,im q2 e3⟩
    | dT ks ds=>rw [Rep] at q3 ⊢; obtain ⟨b',xs,e1,e0,e2,el,e3⟩:=q3; cases e1; exact ⟨b,xs,rfl,fun z=>z,by rw [L2.aD hne]; exact e2,el,im q2 e3⟩
    | _=>cases q1
   ·rw [if_neg hm] at h2 ⊢
    exact Rep.upd ha m pa h2
 ·obtain ⟨dj,hd⟩:=h.non j w e'
  by_cases hj:j=i
  ·subst hj
   have hlt:=(List.getElem?_eq_some_iff.mp hd).1
   exact ⟨d',by rw [List.getElem?_set_self hlt]⟩
  ·exact ⟨dj,by rw [List.getElem?_set_ne (Ne.symm hj)]; exact hd⟩
 ·have hb:b≠a:=fun z=>n (z ▸ pa)
  rw [L2.aD hb]
  exact eb
end st
noncomputable def pP (K:PySem.W.Frag) (M:List Nat) (D:Ends) (σ:L2.St) (H:Hp):RL.Out->RL.St->Prop
 | .nx,σD'=>∀ σ' H',RVm K M σD' σ' H'->Fr' M σ H σ' H'->D.nx σ' H'
 | .rt d,σD'=>∀ σ1 H1 v H',RVm K M σD' σ1 H1->Fr' M σ H σ1 H1->ao H1 H'->(∀ P:Addr->Prop,(∀ p,P p->H1 p≠none/\¬ bp M σ1 p)->Rep P K H' d v)->D.rt v H'
theorem pP.from {K:PySem.W.Frag} {M:List Nat} {D:Ends} {σ σ1:L2.St} {H H1:Hp} {r:RL.Out} {σD':RL.St} (h:pP K M D σ H r σD') (f:Fr' M σ H σ1 H1):pP K M D σ1 H1 r σD':=by
 cases r with
 | nx=>exact fun σ2 H2 rv2 fr2=>h σ2 H2 rv2 (f.trans fr2)
 | rt d=>exact fun σ1 H1 v H2 rv2 fr2 sm rp=>h σ1 H1 v H2 rv2 (f.trans fr2) sm rp
noncomputable def tS (K:PySem.W.Frag) (M:List Nat) (f:RL.St->Option (RL.Out × RL.St)):TS:=fun D σ H=>∃ σD r σD',RVm K M σD σ H/\f σD=some (r,σD')/\pP K M D σ H r σD'
noncomputable def SS (X:Cx) (cl:RL.Cl) (M:List Nat) (st:Stmt) (s:RL.S):Prop:=PS X st (tS X.K M (RL.evS cl M s))
noncomputable def SSs (X:Cx) (cl:RL.Cl) (M:List Nat) (st:List Stmt) (s:RL.Ss):Prop:=PSs X st (tS X.K M (RL.ag cl M s))
section rules
variable {X:Cx} {cl:RL.Cl} {M:List Nat} {st:Stmt} {sts:List Stmt} {e' k' c':RL.E} {i j:Nat}
theorem wX:SSs X cl M [] .nil:=by
 refine PSs.weak vX fun D σ H h=>?_
 obtain ⟨σD,r,σD',rv,e,k⟩:=h
 rw [RL.ag] at e
 cases e
 exact k σ H rv (Fr'.same (ao.refl H))
theorem um {s:RL.S} {r:RL.Ss} (h1:SS X cl M st s) (h2:SSs X cl M sts r):SSs X cl M (st :: sts) (.cons s r):=by
 refine PSs.weak (uS h1 h2) fun D σ H h=>?_
 obtain ⟨σD,o,σD',rv,e,k⟩:=h
 rw [RL.ag] at e
 obtain ⟨p,e1,e2⟩:=bind_some e
 obtain ⟨o1,σ1⟩:=p
 refine ⟨σD,o1,σ1,rv,e1,?_⟩
 cases o1 with
 | rt d =>
  cases e2
  exact k
 | nx =>
  exact fun σ' H' rv' fr'=>⟨σ1,o,σD',rv',e2,k.from fr'⟩
theorem tL:SS X cl M st .never:=by
 refine PS.weak u7 fun D σ H h=>?_
 obtain ⟨σD,o,σD',rv,e,k⟩:=h
 rw [RL.evS] at e
 cases e
theorem xB (h:SA X cl st i e') (hi:M.contains i=false):SS X cl M st (.asg i e'):=by
 refine PS.weak h fun D σ H h=>?_
 obtain ⟨σD,o,σD',rv,e,k⟩:=h
 rw [RL.evS] at e
 obtain ⟨d,e1,e2⟩:=bind_some e
 split at e2
 ·rename_i ok
  cases e2
  refine ⟨σD,d,rv.rv0,e1,fun v H1 r1=>k _ _ ?_ (Fr'.bind hi r1.same)⟩
  refine (rv.same r1.same).bind hi ?_
  unfold RL.bj at ok
  rw [Bool.or_eq_true,Bool.or_eq_true,Bool.and_eq_true] at ok
  rcases ok with (q | ⟨q1,q2⟩) | q
  ·exact r1.rep.imm q
  ·have rp:=r1.rep
   have fr:jn d=true->∀ a,v=.ref a->¬ bp M σ a:=fun m a z p=>rv.uR a p (r1.fresh q2 m a z)
   cases d with
   | lst ds=>obtain ⟨a,xs,e1,e0,e2,e3⟩:=a4 rp; rw [Rep]; exact ⟨a,xs,e1,fr rfl a e1,e2,e3.imm q1⟩
   | dK ks ds=>rw [Rep] at rp ⊢; obtain ⟨a,xs,e1,e0,e2,el,e3⟩:=rp; exact ⟨a,xs,e1,fr rfl a e1,e2,el,e3.imm q1⟩
   | dT ks ds=>rw [Rep] at rp ⊢; obtain ⟨a,xs,e1,e0,e2,el,e3⟩:=rp; exact ⟨a,xs,e1,fr rfl a e1,e2,el,e3.imm q1⟩
   | _=>cases q1
  ·refine r1.av M q _ rv.uR fun j dj vj hj h1 h2=>?_
   obtain ⟨v',h3,h4⟩:=rv.val j dj h1
   rw [h2] at h3
   cases h3
   rw [if_neg (by rw [hj]; decide)] at h4
   exact h4
 ·cases e2
theorem yf (h:SA X cl st i e') (hi:M.contains i=true) (hi2:M.count i<2):SS X cl M st (.own i e'):=by
 refine PS.weak h fun D σ H h=>?_
 obtain ⟨σD,o,σD',rv,e,k⟩:=h
 rw [RL.evS] at e
 obtain ⟨d,e1,e2⟩:=bind_some e
 split at e2
 ·rename_i ok
  cases e2
  rw [Bool.and_eq_true] at ok
  refine ⟨σD,d,rv.rv0,e1,fun v H1 r1=>?_⟩
  have m:jn d=true:=by
   cases d with
   | lst _=>rfl
   | dK _ _=>rfl
   | dT _ _=>rfl
   | _=>cases ok.1
  have ow:Own X.K H1 d v:=⟨m,ok.1,r1.rep⟩
  obtain ⟨a,ob,rfl,_,_⟩:=ow.ref
  obtain ⟨h1,h2⟩:=rv.own r1.same hi hi2 (r1.fresh ok.2 m a rfl) ow
  exact k _ _ h1 h2
 ·cases e2
theorem Ar {c:Expr} {a b:List Stmt} {a' b':RL.Ss} {pos:Pos} (hc:ST X cl c c') (ha:SSs X cl M a a') (hb:SSs X cl M b b'):SS X cl M (.If c a b pos) (.ife c' a' b'):=by
 refine PS.weak (vi hc ha hb) fun D σ H h=>?_
 obtain ⟨σD,o,σD',rv,e,k⟩:=h
 rw [RL.evS] at e
 obtain ⟨t,e1,e2⟩:=bind_some e
 refine ⟨σD,t,rv.rv0,e1,fun H1 s1=>?_⟩
 have k1:=k.from (Fr'.same (σ:=σ) s1)
 cases t with
 | true=>exact cZ ⟨σD,o,σD',rv.same s1,e2,k1⟩
 | false=>exact eu ⟨σD,o,σD',rv.same s1,e2,k1⟩
theorem xU {e:Expr} {pos:Pos} (he:SE X cl e e') (hv:∀ i,e'=.var i->M.contains i=false):SS X cl M (.Return (some e) pos) (.ret e'):=by
 refine PS.weak (rF he) fun D σ H h=>?_
 obtain ⟨σD,o,σD',rv,ev,k⟩:=h
 rw [RL.evS] at ev
 obtain ⟨d,e1,e2⟩:=bind_some ev
 split at e2
 ·rename_i ok
  cases e2
  refine ⟨σD,d,rv.rv0,e1,fun v H1 r1=>k σ H v H1 rv (Fr'.same (ao.refl H)) r1.same fun P hP=>?_⟩
  unfold RL.aJ at ok
  rw [Bool.or_eq_true,Bool.and_eq_true,Bool.or_eq_true] at ok
  rcases ok with q | ⟨q1,q2⟩
  ·exact r1.rep.imm q
  ·have rp:=r1.rep
   have fr:jn d=true->∀ a,v=.ref a->¬ P a:=fun m a z p=>by
    rcases q2 with q | q
    ·exact (hP a p).1 (r1.fresh q m a z)
    ·cases e' with
     | var i =>
      have hi:M.contains i=true:=q
      rw [hv i rfl] at hi
      cases hi
     | _=>cases q
   cases d with
   | lst ds=>obtain ⟨a,xs,e1,e0,e2,e3⟩:=a4 rp; rw [Rep]; exact ⟨a,xs,e1,fr rfl a e1,e2,e3.imm q1⟩
   | dK ks ds=>rw [Rep] at rp ⊢; obtain ⟨a,xs,e1,e0,e2,el,e3⟩:=rp; exact ⟨a,xs,e1,fr rfl a e1,e2,el,e3.imm q1⟩
   | dT ks ds=>rw [Rep] at rp ⊢; obtain ⟨a,xs,e1,e0,e2,el,e3⟩:=rp; exact ⟨a,xs,e1,fr rfl a e1,e2,el,e3.imm q1⟩
   | _=>cases q1
 ·cases e2
theorem wR {x:Str} {p pos:Pos} (hN:X.N[i]?=some x) (hv:Vis X.env.scope x) (hd:(x == ("__debug__" : Str))=false) (hcd:(x == ("__classdict__" : Str))=false) (hi:M.contains i=true):SS X cl M (.Return (some (.Name x p)) pos) (.ret (.var i)):=by
 refine PS.weak (rF (fT hN hv hd hcd)) fun D σ H h=>?_
 obtain ⟨σD,o,σD',rv,e,k⟩:=h
 rw [RL.evS] at e
 obtain ⟨d,e1,e2⟩:=bind_some e
 split at e2
 ·cases e2
  have e3:σD[i]?=some (some d):=by
   rw [RL.ev] at e1
   obtain ⟨o,h1,h2⟩:=bind_some e1
   cases o with
   | none=>cases h2
   | some z=>cases h2; exact h1
  obtain ⟨v,h1,h2⟩:=rv.val i d e3
  rw [if_pos hi] at h2
  refine ⟨v,h1,k σ H v H rv (Fr'.same (ao.refl H)) (ao.refl H) fun P hP=>?_⟩
  obtain ⟨a,o,rfl,_,_⟩:=h2.ref
  have np:¬ P a:=fun p=>(hP a p).2 ⟨i,hi,h1⟩
  obtain ⟨q1,q2,q3⟩:=h2
  cases d with
  | lst ds=>obtain ⟨b,xs,e1,e0,e2,e3⟩:=a4 q3; cases e1; rw [Rep]; exact ⟨a,xs,rfl,np,e2,e3.imm q2⟩
  | dK ks ds=>rw [Rep] at q3 ⊢; obtain ⟨b,xs,e1,e0,e2,el,e3⟩:=q3; cases e1; exact ⟨a,xs,rfl,np,e2,el,e3.imm q2⟩
  | dT ks ds=>rw [Rep] at q3 ⊢; obtain ⟨b,xs,e1,e0,e2,el,e3⟩:=q3; cases e1; exact ⟨a,xs,rfl,np,e2,el,e3.imm q2⟩
  | _=>cases q1
 ·cases e2
theorem slot_get {σD:RL.St} {d:RL.D} (h:(σD[i]?).bind id=some d):σD[i]?=some (some d):=by
 obtain ⟨o,h1,h2⟩:=bind_some h
 cases o with
 | none=>cases h2
 | some z=>cases h2; exact h1
theorem zv (h:PS X st (pM (tBM X.K "list" oQ (hZ i) (tEs X.K cl (.cons e' .nil))))) (hi:M.contains i=true):SS X cl M st (.app i e'):=by
 refine PS.weak h fun D σ H h=>?_
 obtain ⟨σD,o,σD',rv,e,k⟩:=h
 rw [RL.evS] at e
 obtain ⟨d,e1,e2⟩:=bind_some e
 obtain ⟨l,e3,e4⟩:=bind_some e2
 cases l with
 | lst ds =>
  dsimp only at e4
  split at e4
  ·rename_i ok
   cases e4
   rw [Bool.and_eq_true,decide_eq_true_eq] at ok
   obtain ⟨v,h1,h2⟩:=rv.val i _ (slot_get e3)
   rw [if_pos hi] at h2
   obtain ⟨q1,q2,q3⟩:=h2
   obtain ⟨a,xs,rfl,_,f2,f3⟩:=a4 q3
   refine ⟨.ref a,h1,.inl ⟨rfl,xs,SqL.of f2⟩,σD,[d],rv.rv0,by rw [RL.evs,e1]; rfl,fun vs H1 s1 r1=>?_⟩
   rw [aa] at r1
   obtain ⟨y,t,rfl,r2,r3⟩:=r1
   rw [aa] at r3
   subst r3
   have hl:xs.length<sizeLine:=by rw [<- f3.length]; exact Nat.lt_of_lt_of_le ok.2 b9
   refine ⟨a,xs,y,rfl,rfl,s1 _ _ f2,hl,?_⟩
   have im:RL.ai (ds ++ [d])=true:=by
    have:∀ l:List RL.D,RL.ai l=true->RL.ai (l ++ [d])=true:=fun l=>by
     induction l with
     | nil=>intro _; simp [RL.ai,ok.1]
     | cons z r ih=>intro h; rw [RL.ai,Bool.and_eq_true] at h; rw [List.cons_append,RL.ai,h.1,ih h.2]; rfl
    exact this ds q2
   have rs:aa nP X.K (upd H1 a (.lst (xs ++ [y]))) (ds ++ [d]) (xs ++ [y]):=(aa.upd (P:=fun p=>p=a) (s1 _ _ f2) (.inl ⟨_,rfl⟩) rfl ((aa.append (f3.same s1) (aa.cons r2 aa.nil)).imm im)).imm im
   obtain ⟨g1,g2⟩:=(rv.same s1).gm (d':=.lst (ds ++ [d])) (o':=.lst (xs ++ [y])) hi h1 (s1 _ _ f2) (.inl ⟨_,rfl⟩) ⟨rfl,im,by rw [Rep]; exact ⟨a,_,rfl,fun z=>z,aN,rs⟩⟩
   exact k _ _ g1 ((Fr'.same s1).trans g2)
  ·cases e4
 | _=>cases e4
end rules
end RS
namespace RS
open PySem PySem.Spec PyProof.Rows L2
theorem RVm.aS {K:PySem.W.Frag} {M:List Nat} {H:Hp}:∀ {tg:List Nat} {ds:List RL.D} {vs:List V} {σD:RL.St} {σ:L2.St},RVm K M σD σ H->(∀ i∈tg,M.contains i=false)->tg.length=ds.length->RL.ai ds=true->aa nP K H ds vs ->
  RVm K M (jA tg ds σD) (bS tg vs σ) H/\bp M (bS tg vs σ)=bp M σ
 | [],_,_,_,_,h,_,_,_,_=>⟨h,rfl⟩
 | i :: is,[],_,_,_,_,_,hl,_,_=>by simp at hl
 | i :: is,d :: ds,vs,σD,σ,h,hM,hl,him,r=>by
  rw [aa] at r
  obtain ⟨v,t,rfl,r1,r2⟩:=r
  rw [RL.ai,Bool.and_eq_true] at him
  rw [jA,bS]
  have hi:=hM i List.mem_cons_self
  obtain ⟨g1,g2⟩:=RVm.aS (h.bind hi (r1.imm him.1)) (fun j hj=>hM j (List.mem_cons_of_mem _ hj)) (by simpa using hl) him.2 r2
  exact ⟨g1,g2.trans (bp.set hi)⟩
theorem nC {M tg:List Nat} {vs:List V} {σ:L2.St} {j:Nat} (hM:∀ i∈tg,M.contains i=false) (hj:2<=M.count j):(bS tg vs σ)[j]?=σ[j]?:=by
 refine kO tg vs σ j ?_
 cases hc:tg.contains j with
 | false=>rfl
 | true =>
  have:=hM j (by simpa using hc)
  rw [iR hj] at this
  cases this
section rules
variable {X:Cx} {cl:RL.Cl} {M:List Nat} {st:Stmt} {tgE iter:Expr} {body:List Stmt} {b:RL.Ss} {it:RL.It} {tg:List Nat} {e' k' a' b':RL.E} {i j:Nat} {pos:Pos}
theorem pU {f:RL.St->Option (RL.Out × RL.St)} {d:RL.D} {ds:List RL.D} {σ:RL.St} {p:RL.Out × RL.St} (h:RL.bb f tg (d :: ds) σ=some p):d.imm=true/\∃ σ1 o σ2,RL.az tg d σ=some σ1/\f σ1=some (o,σ2) /\
  (match o with | .nx=>RL.bb f tg ds σ2=some p | .rt d=>p=(.rt d,σ2)):=by
 rw [RL.bb] at h
 split at h
 ·rename_i him
  obtain ⟨σ1,h1,h⟩:=bind_some h
  obtain ⟨⟨o,σ2⟩,h2,h⟩:=bind_some h
  refine ⟨him,σ1,o,σ2,h1,h2,?_⟩
  cases o with
  | nx=>exact h
  | rt d=>exact (Option.some.inj h).symm
 ·cases h
theorem zj (hx:X.xe=fun _ _=>False) (hc:X.calm=true) (hi:SI X cl tgE iter it) (hg:PG X tgE (gT X.K tg)) (hb:SSs X cl M body b) (hs:∀ x,foldedSetIterable iter X.env x=pure x) (hav:RL.pB M it=true) (hM:∀ i∈tg,M.contains i=false) :
  SS X cl M (.For tgE iter body [] pos) (.forr tg it b):=by
 refine PS.weak (zA (by rw [hx]; exact PassesOwn.never) hc hi hg hb hs) fun D σ H h=>?_
 obtain ⟨σD,r,σD',rv,e,k⟩:=h
 rw [RL.evS] at e
 obtain ⟨ds,e1,e2⟩:=bind_some e
 refine ⟨σD,ds,rv.rv0,e1,fun J H1 s1 src=>?_⟩
 have ok:gH X.K J ds (bp M σ) H1:=src.2 M (bp M σ) hav rv.xN fun j dj vj hj h1 h2=>by
  obtain ⟨v',h3,h4⟩:=rv.val j dj h1
  rw [h2] at h3
  cases h3
  rw [if_neg (by rw [hj]; decide)] at h4
  exact h4
 have k1:=k.from (Fr'.same (σ:=σ) s1)
 refine ⟨fun i m σ2 H2=>∃ σD2,m=ds.length-i/\i<=ds.length/\RVm X.K M σD2 σ2 H2/\Fr' M σ H1 σ2 H2/\RL.bb (RL.ag cl M b) tg (ds.drop i) σD2=some (r,σD'),⟨_,σD,rfl,Nat.zero_le _,rv.same s1,Fr'.same (ao.refl _),e2⟩,?_⟩
 rintro i m σ2 H2 ⟨σD2,rfl,hi2,rv2,fr2,hl⟩
 have off:Off (bp M σ) H1 H2:=fun b o n e=>(fr2.1 b o e n).1
 by_cases hlt:i<ds.length
 ·refine .inr ⟨ok.go H2 i off hlt,fun σ' H'=>∃ m',m'<ds.length-i/\∃ σD2,m'=ds.length-(i+1)/\i+1<=ds.length/\RVm X.K M σD2 σ' H'/\Fr' M σ H1 σ' H'/\RL.bb (RL.ag cl M b) tg (ds.drop (i+1)) σD2=some (r,σD'),fun σ' H' z=>z,fun x H3 y=>?_⟩
  rw [List.drop_eq_getElem_cons hlt] at hl
  obtain ⟨him,σ3,o,σ4,h1,h2,h3⟩:=pU hl
  obtain ⟨s3,rp⟩:=ok.yld H2 i ds[i] x H3 off (by simp [hlt]) y
  obtain ⟨dv,vs,q1,q2,q3,q4,q5⟩:=p6 h1 (rp (.inl him))
  refine q5 _ _ ?_
  obtain ⟨rv3,as3⟩:=(rv2.same s3).aS hM q2 (q4 him) q3
  have fr3:Fr' M σ H1 (bS tg vs σ2) H3:=⟨fun b o e n=>⟨s3 _ _ (fr2.1 b o e n).1,by rw [as3]; exact (fr2.1 b o e n).2⟩,fun j hj=>(nC hM hj).trans (fr2.2 j hj)⟩
  refine ⟨σ3,o,σ4,by rw [q1]; exact rv3,h2,?_⟩
  cases o with
  | nx=>exact fun σ' H' rv' fr'=>⟨_,by omega,σ4,rfl,hlt,rv',fr3.trans fr',h3⟩
  | rt d =>
   cases h3
   exact fun σ' H' v H4 rv' fr' sm rp=>k1 σ' H' v H4 rv' (fr3.trans fr') sm rp
 ·have e:i=ds.length:=by omega
  subst e
  rw [List.drop_length,RL.bb] at hl
  cases hl
  exact .inl ⟨ok.stop H2 off,k1 σ2 H2 rv2 fr2⟩
theorem sI {n:Nat} {k:Int} {j:Nat} (h:RL.mn n k=some j):ixN n k=some j:=h
theorem r8:∀ {ds:List RL.D} {d:RL.D} (j:Nat),RL.ai ds=true->d.imm=true->RL.ai (ds.set j d)=true
 | [],d,j,_,_=>by simp [RL.ai]
 | x :: r,d,0,h,hd=>by rw [RL.ai,Bool.and_eq_true] at h; rw [List.set_cons_zero,RL.ai,hd,h.2]; rfl
 | x :: r,d,j+1,h,hd=>by rw [RL.ai,Bool.and_eq_true] at h; rw [List.set_cons_succ,RL.ai,h.1,r8 j h.2 hd]; rfl
theorem k6 {H:Hp} {a:Addr} {ds:List RL.D} {xs ys:List V} {ds':List RL.D} (f2:H a=some (.lst xs)) (im:RL.ai ds'=true) (rs:aa nP X.K H ds' ys):Own X.K (upd H a (.lst ys)) (.lst ds') (.ref a) :=
 ⟨rfl,im,by rw [Rep]; exact ⟨a,_,rfl,fun z=>z,aN,(aa.upd (P:=fun p=>p=a) f2 (.inl ⟨_,rfl⟩) rfl (rs.imm im)).imm im⟩⟩
theorem yj (h:PS X st (kR (tE X.K cl e') (uG (hZ i) (tE X.K cl k') pE))) (hi:M.contains i=true) (hl:True):PS X st (tS X.K M fun σD=>(RL.ev cl σD e').bind fun d=>(RL.ev cl σD k').bind fun kk=>((σD[i]?).bind id).bind fun l=>match l with
  | .lst _=>if d.imm then (RL.cw l kk d).map fun l'=>(.nx,σD.set i (some l')) else none
  | _=>none):=by
 refine PS.weak h fun D σ H h=>?_
 obtain ⟨σD,o,σD',rv,e,k⟩:=h
 obtain ⟨d,e1,e⟩:=bind_some e
 obtain ⟨kk,e2,e⟩:=bind_some e
 obtain ⟨l,e3,e⟩:=bind_some e
 cases l with
 | lst ds =>
  dsimp only at e
  split at e
  ·rename_i him
   obtain ⟨l',e4,e5⟩:=map_some e
   cases e5
   obtain ⟨v,h1,h2⟩:=rv.val i _ (slot_get e3)
   rw [if_pos hi] at h2
   obtain ⟨q1,q2,q3⟩:=h2
   obtain ⟨a,xs,rfl,_,f2,f3⟩:=a4 q3
   cases kk with
   | int kk =>
    obtain ⟨jx,e6,e7⟩:=map_some (show (RL.mn ds.length kk).map (fun j=>RL.D.lst (ds.set j d))=some l' from e4)
    subst e7
    refine ⟨σD,d,rv.rv0,e1,fun y H1 r1=>⟨.ref a,h1,σD,.int kk,rv.rv0.same r1.same,e2,fun z H2 r2=>?_⟩⟩
    have sm:=r1.same.trans r2.same
    refine ⟨a,xs,kk,jx,rfl,af r2.rep,sm _ _ f2,?_,?_⟩
    ·rw [<- f3.length]
     exact sI e6
    ·have im:=r8 jx q2 him
     obtain ⟨g1,g2⟩:=(rv.same sm).gm (d':=.lst (ds.set jx d)) (o':=.lst (xs.set jx y)) hi h1 (sm _ _ f2) (.inl ⟨_,rfl⟩) (k6 (ds:=ds) (sm _ _ f2) im (aa.set jx (f3.same sm) (r1.rep.same r2.same)))
     exact k _ _ g1 ((Fr'.same sm).trans g2)
   | _=>cases e4
  ·cases e
 | _=>cases e
theorem k0:∀ {ds:List RL.D},RL.ai ds=true->RL.ai ds.dropLast=true
 | [],_=>rfl
 | [x],_=>rfl
 | x :: y :: r,h=>by rw [RL.ai,Bool.and_eq_true] at h; rw [List.dropLast_cons_cons,RL.ai,h.1,k0 h.2]; rfl
theorem qK:∀ {ds:List RL.D} {i:Nat} {d:RL.D},RL.ai ds=true->ds[i]?=some d->d.imm=true
 | [],i,d,_,e=>by simp at e
 | x :: r,0,d,h,e=>by rw [RL.ai,Bool.and_eq_true] at h; simp at e; subst e; exact h.1
 | x :: r,i+1,d,h,e=>by rw [RL.ai,Bool.and_eq_true] at h; exact qK (i:=i) h.2 (by simpa using e)
theorem aa.dropLast {P:Addr->Prop} {K:PySem.W.Frag} {H:Hp} {ds:List RL.D} {xs:List V} (h:aa P K H ds xs):aa P K H ds.dropLast xs.dropLast:=by
 rw [List.dropLast_eq_take,List.dropLast_eq_take,<- h.length]
 exact h.take _
theorem xt (h:PS X st (kR (uI X.K "list" uk (hZ i)) (jR j))) (hi:M.contains i=true) (hj:M.contains j=false):SS X cl M st (.pop i j):=by
 refine PS.weak h fun D σ H h=>?_
 obtain ⟨σD,o,σD',rv,e,k⟩:=h
 rw [RL.evS] at e
 obtain ⟨l,e3,e⟩:=bind_some e
 cases l with
 | lst ds =>
  obtain ⟨d,e4,e5⟩:=map_some e
  cases e5
  obtain ⟨v,h1,h2⟩:=rv.val i _ (slot_get e3)
  rw [if_pos hi] at h2
  obtain ⟨q1,q2,q3⟩:=h2
  obtain ⟨a,xs,rfl,_,f2,f3⟩:=a4 q3
  obtain ⟨y,f4,f5⟩:=f3.get e4
  refine ⟨.ref a,h1,.inl ⟨rfl,xs,SqL.of f2⟩,a,xs,y,rfl,rfl,f2,by rw [<- f3.length]; exact f4,?_⟩
  have im:=k0 q2
  obtain ⟨g1,g2⟩:=rv.gm (d':=.lst ds.dropLast) (o':=.lst xs.dropLast) hi h1 f2 (.inl ⟨_,rfl⟩) (k6 (ds:=ds) f2 im f3.dropLast)
  have hdi:d.imm=true:=qK q2 e4
  have rd:Rep (bp M σ) X.K (upd H a (.lst xs.dropLast)) d y:=Rep.imm hdi (Rep.upd (P:=fun p=>p=a) f2 (.inl ⟨_,rfl⟩) rfl (f5.imm hdi))
  exact k _ _ (g1.bind hj rd) (g2.trans (Fr'.bind hj (ao.refl _)))
 | _=>cases e
theorem xO (h:PS X st (yb i j (tEs X.K cl (.cons a' (.cons b' .nil))))) (hi:M.contains i=false) (hj:M.contains j=false):SS X cl M st (.par i j a' b'):=by
 refine PS.weak h fun D σ H h=>?_
 obtain ⟨σD,o,σD',rv,e,k⟩:=h
 rw [RL.evS] at e
 obtain ⟨x,e1,e⟩:=bind_some e
 obtain ⟨y,e2,e⟩:=bind_some e
 split at e
 ·rename_i him
  cases e
  rw [Bool.and_eq_true] at him
  refine ⟨σD,[x,y],rv.rv0,by rw [RL.evs,e1,RL.evs,e2]; rfl,fun vs H1 s1 r1=>?_⟩
  rw [aa] at r1
  obtain ⟨v,t,rfl,r2,r3⟩:=r1
  rw [aa] at r3
  obtain ⟨u,t,rfl,r4,r5⟩:=r3
  rw [aa] at r5
  subst r5
  refine ⟨v,u,rfl,k _ _ ?_ ?_⟩
  ·refine ((rv.same s1).bind hi (r2.imm him.1)).bind hj (r4.imm him.2)
  ·exact (Fr'.bind hi s1).trans (Fr'.bind hj (ao.refl _))
 ·cases e
theorem zh (h:PS X st (pM (tE X.K cl e'))):SS X cl M st (.exc e'):=by
 refine PS.weak h fun D σ H h=>?_
 obtain ⟨σD,o,σD',rv,e,k⟩:=h
 rw [RL.evS] at e
 obtain ⟨d,e1,e2⟩:=map_some e
 cases e2
 exact ⟨σD,d,rv.rv0,e1,fun v H1 r1=>k _ _ (rv.same r1.same) (Fr'.same r1.same)⟩
end rules
end RS
namespace RS
open PySem PySem.Spec PyProof.Rows L2
section rules
variable {X:Cx} {cl:RL.Cl} {M:List Nat} {st:Stmt} {e':RL.E}
theorem wM {is:List Nat} (h:PS X st (kR (tE X.K cl e') (fun v σ H Q=>kJ X.K is.length (gs is) v σ H Q\/kL X.K is.length (gs is) v σ H Q))) (hM:∀ i∈is,M.contains i=false):SS X cl M st (.unp is e'):=by
 refine PS.weak h fun D σ H h=>?_
 obtain ⟨σD,o,σD',rv,e,k⟩:=h
 rw [RL.evS] at e
 obtain ⟨d,e1,e⟩:=bind_some e
 obtain ⟨ds,e2,e⟩:=bind_some e
 split at e
 ·rename_i him
  obtain ⟨σ1,e3,e4⟩:=map_some e
  cases e4
  obtain ⟨q1,q2⟩:=f7 e3
  refine ⟨σD,d,rv.rv0,e1,fun v H1 r1=>?_⟩
  obtain ⟨p,xs,rfl,hp,rs⟩:=fj e2 r1.rep
  obtain ⟨g1,g2⟩:=(rv.same r1.same).aS (vs:=xs) hM q1 him rs
  have fin:D.nx (bS is xs σ) H1:=k _ _ (by rw [q2]; exact g1) ⟨fun b o e n=>⟨r1.same _ _ e,by rw [g2]; exact n⟩,fun j hj=>nC hM hj⟩
  have hl:xs.length=is.length:=by rw [<- rs.length,q1]
  rcases hp with ⟨hp,_⟩ | ⟨hp,_⟩
  ·exact .inr ⟨p,xs,rfl,SqL.of hp,hl,hG hl.symm fin⟩
  ·exact .inl ⟨p,xs,rfl,SqT.of hp,hl,hG hl.symm fin⟩
 ·cases e
theorem j5 {α:Type} (xs:List α) (k:Int):(xs.drop (HT.sIx xs.length 0 none)).take (HT.sIx xs.length xs.length (some k)-HT.sIx xs.length 0 none)=xs.take (RL.cutAt xs.length k):=by
 rw [HT.sT,List.drop_zero,Nat.sub_zero]
 congr 1
 have h:=HT.iQ k xs.length xs.length
 unfold RL.cutAt
 split at h
 ·rename_i h0
  rw [if_neg (by omega)]
  omega
 ·rename_i h0
  rw [if_pos (by omega)]
  omega
end rules
end RS
namespace RS
open PySem PySem.Spec PyProof.Rows L2
section rules
variable {X:Cx} {cl:RL.Cl} {a b:Expr} {a' b':RL.E} {pos p p2:Pos} {x:Str}
theorem one {σ:L2.St} {H:Hp} {R:List V->Hp->Prop} {σD:RL.St} {d:RL.D} (rv:RV0 X.K σD σ H) (ea:RL.ev cl σD a'=some d) (k:∀ v H1,ao H H1->Rep nP X.K H1 d v->R [v] H1):tEs X.K cl (.cons a' .nil) σ H R :=
 ⟨σD,[d],rv,by rw [RL.evs,ea]; rfl,fun vs H1 s1 r1=>by
  rw [aa] at r1
  obtain ⟨v,t,rfl,r2,r3⟩:=r1
  rw [aa] at r3
  subst r3
  exact k v H1 s1 r2⟩
theorem pair {σ:L2.St} {H:Hp} {R:List V->Hp->Prop} {σD:RL.St} {d d':RL.D} (rv:RV0 X.K σD σ H) (ea:RL.ev cl σD a'=some d) (eb:RL.ev cl σD b'=some d') (k:∀ v u H1,ao H H1->Rep nP X.K H1 d v->Rep nP X.K H1 d' u->R [v,u] H1):tEs X.K cl (.cons a' (.cons b' .nil)) σ H R :=
 ⟨σD,[d,d'],rv,by rw [RL.evs,ea,RL.evs,eb]; rfl,fun vs H1 s1 r1=>by
  rw [aa] at r1
  obtain ⟨v,t,rfl,r2,r3⟩:=r1
  rw [aa] at r3
  obtain ⟨u,t,rfl,r4,r5⟩:=r3
  rw [aa] at r5
  subst r5
  exact k v u H1 s1 r2 r4⟩
theorem fq {id:String} {r:List V->Hp->VK->Prop} {b:RL.Bi} (hc:aZ X (.builtin id) r) (hg:Gl X x) (hm:X.mg x=none) (hv:bootBuiltins x=some (.builtin id)) (ha:SE X cl a a') (hn:noStar a=true) (h1:x ≠ "__name__") (h2:(x == ("__debug__" : Str))=false)
  (ok:∀ (σD:RL.St) (σ:L2.St) (H H1:Hp) (y d:RL.D) (v:V) (Q:VK),RL.biV b y=some d->ao H H1->Rep nP X.K H1 y v->(∀ w H',Res X.K σD σ H (.bi b a') d w H'->Q w H')->r [v] H1 Q):SE X cl (.Call (.Name x p) [a] [] pos) (.bi b a'):=by
 refine PE.weak (gR hc hg hm hv (aX (cl:=cl) ha bQ hn) h1 h2 (aw [] hn) rfl) fun σ H Q h=>?_
 obtain ⟨σD,d,rv,e,k⟩:=h
 rw [RL.ev] at e
 obtain ⟨y,ea,e⟩:=bind_some e
 exact one rv ea fun v H1 s1 r1=>ok σD σ H H1 y d v Q e s1 r1 k
theorem iy {T:String} {r:List V->Hp->VK->Prop} {b:RL.Bi} (hc:aZ X (.type T) r) (hg:Gl X x) (hm:X.mg x=none) (hv:bootBuiltins x=some (.type T)) (ha:SE X cl a a') (hn:noStar a=true) (h1:x ≠ "__name__") (h2:(x == ("__debug__" : Str))=false)
  (ok:∀ (σD:RL.St) (σ:L2.St) (H H1:Hp) (y d:RL.D) (v:V) (Q:VK),RL.biV b y=some d->ao H H1->Rep nP X.K H1 y v->(∀ w H',Res X.K σD σ H (.bi b a') d w H'->Q w H')->r [v] H1 Q):SE X cl (.Call (.Name x p) [a] [] pos) (.bi b a'):=by
 refine PE.weak (bH hc hg hm hv (aX (cl:=cl) ha bQ hn) h1 h2 (aw [] hn) rfl) fun σ H Q h=>?_
 obtain ⟨σD,d,rv,e,k⟩:=h
 rw [RL.ev] at e
 obtain ⟨y,ea,e⟩:=bind_some e
 exact one rv ea fun v H1 s1 r1=>ok σD σ H H1 y d v Q e s1 r1 k
theorem xl (hg:Gl X "list") (hm:X.mg "list" = none) (ha:SE X cl a a') (hn:noStar a=true):SE X cl (.Call (.Name "list" p) [a] [] pos) (.bi .list a'):=by
 refine iy nH hg hm (by decide +kernel) ha hn (by decide) (by decide) fun σD σ H H1 y d v Q e s1 r1 k=>?_
 obtain ⟨ds,e1,e2⟩:=map_some (show (RL.items y).map RL.D.lst=some d from e)
 subst e2
 obtain ⟨q,xs,rfl,hp,rs⟩:=fj e1 r1
 refine ⟨q,xs,rfl,?_,fun l hl=>k _ _ (cI s1 hl rs fun _=>rfl)⟩
 rcases hp with ⟨z,_⟩ | ⟨z,_⟩
 ·exact .inl (SqL.of z)
 ·exact .inr (SqT.of z)
theorem ux (hg:Gl X "tuple") (hm:X.mg "tuple" = none) (ha:SE X cl a a') (hn:noStar a=true):SE X cl (.Call (.Name "tuple" p) [a] [] pos) (.bi .tuple a'):=by
 refine iy lK hg hm (by decide +kernel) ha hn (by decide) (by decide) fun σD σ H H1 y d v Q e s1 r1 k=>?_
 obtain ⟨ds,e1,e2⟩:=map_some (show (RL.items y).map RL.D.tup=some d from e)
 subst e2
 obtain ⟨q,xs,rfl,hp,rs⟩:=fj e1 r1
 rcases hp with ⟨z,_⟩ | ⟨z,_⟩
 ·exact ⟨q,xs,rfl,.inl ⟨SqL.of z,fun l hl=>k _ _ (gL s1 hl rs fun _=>rfl)⟩⟩
 ·refine ⟨q,xs,rfl,.inr ⟨SqT.of z,k _ _ ⟨s1,?_,fun _ m=>(by cases m),fun M z=>nomatch (show false=true from z)⟩⟩⟩
  rw [Rep]
  exact ⟨q,xs,rfl,z,rs⟩
theorem zl (hg:Gl X "int") (hm:X.mg "int" = none) (ha:SE X cl a a') (hn:noStar a=true):SE X cl (.Call (.Name "int" p) [a] [] pos) (.bi .int a'):=by
 refine iy sf hg hm (by decide +kernel) ha hn (by decide) (by decide) fun σD σ H H1 y d v Q e s1 r1 k=>?_
 cases y <;> simp only [RL.biV] at e <;> first | (cases e; done) | skip
 case bl t=>cases e; exact .inr ⟨t,by rw [aH r1],k _ _ (bW s1 aI rfl)⟩
 case int t=>cases e; exact .inl ⟨t,by rw [af r1],k _ _ (bW s1 aI rfl)⟩
theorem rm:aZ X (.builtin "len") (fun xs H Q=>(∃ y n,xs=[y]/\zL X.K y H n/\Q (.int n) H)\/∃ q kvs,xs=[V.ref q]/\H q=some (.dK kvs)/\Q (.int kvs.length) H):=aZ.or t9 r9
theorem yE (hg:Gl X "len") (hm:X.mg "len" = none) (ha:SE X cl a a') (hn:noStar a=true):SE X cl (.Call (.Name "len" p) [a] [] pos) (.bi .len a'):=by
 refine fq rm hg hm PySem.boot_len ha hn (by decide) (by decide) fun σD σ H H1 y d v Q e s1 r1 k=>?_
 cases y <;> simp only [RL.biV,RL.items,Option.map_some,Option.map_none] at e <;> first | (cases e; done) | skip
 case str t =>
  split at e
  ·rename_i hz
   cases e
   rw [aB r1]
   exact .inl ⟨_,_,rfl,⟨Nat.le_trans hz b9,rfl⟩,k _ _ (bW s1 aI rfl)⟩
  ·cases e
 case tup t =>
  cases e
  obtain ⟨q,xs,rfl,f2,f3⟩:=aP r1
  rw [f3.length] at k
  exact .inl ⟨_,_,rfl,.inr ⟨xs,SqT.of f2,rfl⟩,k _ _ (bW s1 aI rfl)⟩
 case lst t =>
  cases e
  obtain ⟨q,xs,rfl,_,f2,f3⟩:=a4 r1
  rw [f3.length] at k
  exact .inl ⟨_,_,rfl,.inl ⟨xs,SqL.of f2,rfl⟩,k _ _ (bW s1 aI rfl)⟩
 case dK ks t =>
  cases e
  rw [Rep] at r1
  obtain ⟨q,xs,rfl,_,f2,fl,f3⟩:=r1
  refine .inr ⟨q,_,rfl,f2,?_⟩
  have:(ks.zip xs).length=ks.length:=by rw [List.length_zip,<- f3.length,fl,Nat.min_self]
  rw [this]
  exact k _ _ (bW s1 aI rfl)
theorem yZ (hc:X.calm=true) (hg:Gl X "max") (hm:X.mg "max" = none) (ha:SE X cl a a') (hb:SE X cl b b') (hn:noStar a=true) (hn2:noStar b=true):SE X cl (.Call (.Name "max" p) [a,b] [] pos) (.max a' b'):=by
 refine PE.weak (gR (su hc) hg hm (by decide +kernel) (aX (cl:=cl) ha (aX hb bQ hn2) hn) (by decide) (by decide) (aw _ hn) (dP (by simp [hn2]))) fun σ H Q h=>?_
 obtain ⟨σD,d,rv,e,k⟩:=h
 rw [RL.ev] at e
 obtain ⟨u,ea,e⟩:=bind_some e
 obtain ⟨v,eb,e⟩:=bind_some e
 cases u with
 | int i =>
  cases v with
  | int j =>
   cases e
   exact pair rv ea eb fun v u H1 s1 r1 r2=>⟨i,j,by rw [af r1,af r2],k _ _ (bW s1 aI rfl)⟩
  | _=>cases e
 | _=>cases e
noncomputable def tyN:RL.Ty->String
 | .int => "int"
 | .bool => "bool"
 | .list => "list"
 | .tuple => "tuple"
 | .str => "str"
theorem uj:aZ X (.builtin "isinstance") (fun xs H Q=>∃ y t T k,xs=[y,.ty T]/\cY X.K H y t/\PySem.W.kitOne X.K t (.type T)=some k/\Q (.bl k) H):=by
 intro pins s σ H xs us Q I r h
 obtain ⟨y,t,T,k,rfl,ty,e,q⟩:=h
 obtain ⟨u,w,rfl,r1,r2⟩:=vals2 r
 cases r2
 exact rG I r1 ty e fun tk=>⟨.bl k,H,I.tok tk,rfl,q⟩
theorem yG {t:RL.Ty} {d:RL.D} {k:Bool} {v:V} {H:Hp} (h:RL.bR t d=some k) (r:Rep nP X.K H d v):∃ ty,cY X.K H v ty/\PySem.W.kitOne X.K ty (.type (tyN t))=some k:=by
 cases d with
 | non=>rw [Rep] at r; subst r; refine ⟨_,.non,?_⟩; cases t <;> (simp only [RL.bR] at h; cases h; rfl)
 | bl i=>rw [aH r]; refine ⟨_,.bl i,?_⟩; cases t <;> (simp only [RL.bR] at h; cases h; rfl)
 | int i=>rw [af r]; refine ⟨_,.int i,?_⟩; cases t <;> (simp only [RL.bR] at h; cases h; rfl)
 | str i=>rw [aB r]; refine ⟨_,.str i,?_⟩; cases t <;> (simp only [RL.bR] at h; cases h; rfl)
 | tup i=>obtain ⟨q,xs,rfl,f2,f3⟩:=aP r; refine ⟨_,.tup f2,?_⟩; cases t <;> (simp only [RL.bR] at h; cases h; rfl)
 | lst i=>obtain ⟨q,xs,rfl,_,f2,f3⟩:=a4 r; refine ⟨_,.lst f2,?_⟩; cases t <;> (simp only [RL.bR] at h; cases h; rfl)
 | _=>cases t <;> (simp only [RL.bR] at h; cases h)
theorem xZ {t:RL.Ty} {y:Str} (hg:Gl X "isinstance") (hm:X.mg "isinstance" = none) (hgy:Gl X y) (hmy:X.mg y=none) (hy:bootBuiltins y=some (.type (tyN t))) (hy1:y ≠ "__name__") (hy2:(y == ("__debug__" : Str))=false) (ha:SE X cl a a') (hn:noStar a=true) :
  SE X cl (.Call (.Name "isinstance" p) [a,.Name y p2] [] pos) (.isi a' t):=by
 have hty:PE X (.Name y p2) (tC (.ty (tyN t))):=wC hgy hmy hy rfl hy1 hy2
 refine PE.weak (gR uj hg hm (by decide +kernel) (bA ha (bA hty d9) (aw _ hn)) (by decide) (by decide) (aw _ hn) rfl) fun σ H Q h=>?_
 obtain ⟨σD,d,rv,e,k⟩:=h
 rw [RL.ev] at e
 obtain ⟨u,ea,e⟩:=bind_some e
 obtain ⟨t',e1,e2⟩:=map_some e
 subst e2
 refine ⟨σD,u,rv,ea,fun v H1 r1=>?_⟩
 obtain ⟨ty,h1,h2⟩:=yG e1 r1.rep
 exact ⟨v,ty,_,t',rfl,h1,h2,k _ _ (cT r1.same)⟩
end rules
end RS
namespace L2
open PySem PySem.Spec PyProof.Rows
structure iS (prog:Program) (w:World):Prop where
 draws:∀ {A:Around},A.handled=none->∀ (ti tp:Addr),tp≠ti->∀ its:Array Value,Draws prog w A ti [ti,tp] its.size (fun i v=>its[i]?=some v) (fun i h=>h.IsTupleIter ti tp i/\h.IsTuple tp its)
 call:∀ {A:Around} {E:Value->Shared->Prop} {z:Shared} {tp:Addr} {its:Array Value} {Q:Value->Shared->Prop},z.heap.IsTuple tp its ->
  (∀ g,IsEnum g (z.heap.objs.size+1) z.heap.objs.size 0 .none->g.IsTupleIter z.heap.objs.size tp 0->(∀ b o,z.heap.get? b=some o->g.get? b=some o)->Q (.ref (z.heap.objs.size+1)) { z with heap:=g })->wpAny (model prog w) A (call (.type "enumerate") [.ref tp]) Q E z
section
variable {X:Cx} {pins:List (Addr × Obj)} {σ:St} {H:Hp} {s:Shared}
theorem Inv.kE {h':Heap} {t':Nat} {fp:List Addr} (I:Inv X pins σ H s) (k:∀ b o,b∉fp->s.heap.get? b=some o->h'.get? b=some o) (hf:∀ b∈fp,H b=none/\(b∈X.ex\/X.s₀.heap.objs.size<=b)/\b≠X.env.locals/\(∀ x c,X.env.cells.lookup x=some c->c≠b)/\∀ p∈X.pn ++ pins,p.1≠b) :
  Inv X pins σ H { s with heap:=h',toks:=t' }:=by
 have nf:∀ b u,H b=some u->b∉fp:=fun b u e z=>by rw [(hf b z).1] at e; cases e
 refine I.vv (s':={ s with heap:=h',toks:=t' }) (ch:=fp) rfl ⟨fun b o e _ _ hx=>k b o hx e,fun b o e _ _ hx=>⟨o.slots,k b o hx e⟩,fun _ _ _ n _=>n,fun b o e hx=>⟨o,k b o hx e⟩,fun _ _ e=>e,fun _ _ _ e=>e,fun b ps e=>⟨#[],by rw [e]; simp⟩⟩ (fun b u e=>?_) I.bare fun b hb=>(hf b hb).2
 refine (I.hok b u e).kI (fun c v hc q=>k c v ?_ q) (fun _ q=>q) fun _ _ q=>q
 rcases hc with z | z
 ·rw [z]; exact nf b u e
 ·exact nf c _ z
end
noncomputable def Ite (cont:Hp->List V->Prop):It :=
 ⟨fun i H=>∃ xs x,cont H xs/\xs[i]?=some x,fun i H v H'=>∃ p x,H p=none/\v=.ref p/\H'=upd H p (.tup [.int i,x])/\∀ xs,cont H xs->xs[i]?=some x,fun i H=>∃ xs,cont H xs/\xs.length=i⟩
structure Src (P:Program) (w:World) (K:PySem.W.Frag) (e it:Addr) (cont:Hp->List V->Prop) (ia:Nat->Heap->Prop):Prop where
 obj:∀ i h,ia i h->∃ o,h.get? it=some o/\∀ v,o.data≠.cell v
 keep:∀ i h h',ia i h->(∀ o,h.get? it=some o->h'.get? it=some o)->ia i h'
 inj:∀ (H:Hp) xs ys,cont H xs->cont H ys->xs=ys
 dr:∀ (X:Cx),X.prog=P->X.w=w->X.K=K->X.calm=true->∀ (pins:List (Addr × Obj)) (s:Shared) (σ:St) (H:Hp) (xs:List V),Inv X pins σ H s->H e=none->H it=none->cont H xs ->
  ∃ (fp:List Addr) (Pv:Nat->Value->Prop) (St:Nat->Heap->Prop),Draws P w X.A.in1 it fp xs.length Pv St/\e∉fp/\(∀ i,ia i s.heap->St i s.heap)/\(∀ i h,St i h->ia i h)/\∀ i v,Pv i v->∃ x,xs[i]?=some x/\RelV x v
theorem qd {P:Program} {w:World} {K:PySem.W.Frag} {elts:List Expr} {kx:Nat} {tp:Pos} {e it:Addr} {cont:Hp->List V->Prop} {ia:Nat->Heap->Prop} (hei:e≠it) (S:Src P w K e it cont ia) :
  Turn P w K (.Tuple elts kx tp) (Ite cont) [e,it] e (fun i h=>(∃ old,IsEnum h e it i old)/\ia i h) where
 mem:=by simp
 obj:=fun i h st b hb=>by
  rcases List.mem_cons.mp hb with rfl | hb
  ·obtain ⟨⟨old,he⟩,_⟩:=st
   exact ⟨_,he,fun v z=>by cases z⟩
  ·rw [List.mem_singleton.mp hb]
   exact S.obj i h st.2
 keep:=fun i h h' st k=>by
  obtain ⟨⟨old,he⟩,hi⟩:=st
  exact ⟨⟨old,k e (by simp) _ he⟩,S.keep i h h' hi fun o q=>k it (by simp) o q⟩
 item:=by
  intro X hP hw hK hc i pins s σ H E I hf st hg
  subst hP hw hK
  obtain ⟨⟨old,he⟩,hi⟩:=st
  obtain ⟨xs,x,hq,hx⟩:=hg
  have fe:=hf e (by simp)
  have fi:=hf it (by simp)
  obtain ⟨fp,Pv,St,D,hef,h1,h2,h3⟩:=S.dr X rfl rfl rfl hc pins s σ H xs I fe.1 fi.1 hq
  have hlt:i<xs.length:=(List.getElem?_eq_some_iff.mp hx).1
  refine wpAny_pyNext_enum_itemD D he (h1 i hi) hlt hei hef fun v h' tk hP ho hs' hT hsz hk=>?_
  obtain ⟨x',hx',rx⟩:=h3 i v hP
  rw [hx] at hx'
  cases hx'
  refine ⟨.ref s.heap.objs.size,rfl,wpAny_letOwnedTupleGo_enum ho fun h'' he' hs''=>?_⟩
  have hn:H s.heap.objs.size=none:=I.hok.fresh (Nat.le_refl _)
  have I1:Inv X pins σ (upd H s.heap.objs.size (.tup [.int i,x])) { s with heap:=s.heap.push { cls:=.type "tuple",data:=.seq #[.int i tk,v] },toks:=tk+1 } :=
   I.laid (t':=tk+1) (fun b u q=>Heap.get?_push_of_some _ q) (Nat.le_refl _) ⟨by show 2<=sizeLine; decide,[.int i tk,v],.cons ⟨tk,rfl⟩ (.cons rx .nil),⟨_,Heap.get?_push_size _ rfl,rfl,_,rfl⟩⟩
  have hes:e<s.heap.objs.size:=Heap.lt_size he
  have hit:it<s.heap.objs.size:=by obtain ⟨o,q,_⟩:=S.obj i _ hi; exact Heap.lt_size q
  have stat:∀ b∈[e,it],upd H s.heap.objs.size (.tup [.int i,x]) b=none/\(b∈X.ex\/X.s₀.heap.objs.size<=b)/\b≠X.env.locals/\(∀ x c,X.env.cells.lookup x=some c->c≠b)/\∀ p∈X.pn ++ pins,p.1≠b:=fun b hb=>by
   obtain ⟨f0,f1,f2,f3,f4,f5⟩:=hf b hb
   have hb':b≠s.heap.objs.size:=by
    rcases List.mem_cons.mp hb with rfl | hb
    ·exact Nat.ne_of_lt hes
    ·rw [List.mem_singleton.mp hb]; exact Nat.ne_of_lt hit
   exact ⟨by rw [aD hb']; exact f0,f3,f1,f4,f5⟩
  have I2:Inv X pins σ (upd H s.heap.objs.size (.tup [.int i,x])) { s with heap:=h'',toks:=tk+1 }:=by
   refine Inv.kE (s:={ s with heap:=s.heap.push { cls:=.type "tuple",data:=.seq #[.int i tk,v] },toks:=tk+1 }) (h':=h'') (t':=tk+1) (fp:=[e,it]) I1 (fun b o hb q=>?_) stat
   have b1:b≠e:=fun z=>hb (by simp [z])
   have b2:b≠it:=fun z=>hb (by simp [z])
   refine hs''.extBut b o b1 ?_
   by_cases hbT:b=s.heap.objs.size
   ·subst hbT
    have q':(s.heap.push { cls:=.type "tuple",data:=.seq #[.int i tk,v] }).get? s.heap.objs.size=some o:=q
    rw [Heap.get?_push_size _ rfl] at q'
    cases q'
    exact hT
   ·have q':s.heap.get? b=some o:=(Heap.get?_push_ne _ _ _ hbT).symm.trans q
    exact hk b o b1 b2 q'
  refine ⟨.ref s.heap.objs.size,_,I2,rfl,⟨s.heap.objs.size,x,hn,rfl,rfl,fun ys hy=>by rw [S.inj H ys xs hy hq]; exact hx⟩,⟨⟨v,by simpa using he'⟩,S.keep _ h' h'' (h2 _ _ hs') fun o q=>hs''.extBut _ _ (Ne.symm hei) q⟩,fun b hb=>(stat b hb).1⟩
 done:=by
  intro X hP hw hK hc i pins s σ H E I hf st hg
  subst hP hw hK
  obtain ⟨⟨old,he⟩,hi⟩:=st
  obtain ⟨xs,hq,hx⟩:=hg
  have fe:=hf e (by simp)
  have fi:=hf it (by simp)
  obtain ⟨fp,Pv,St,D,hef,h1,h2,h3⟩:=S.dr X rfl rfl rfl hc pins s σ H xs I fe.1 fi.1 hq
  subst hx
  refine wpAny_pyNext_enum_endD D he (h1 _ hi) fun h' eb=>⟨rfl,?_⟩
  obtain ⟨f0,f1,f2,f3,f4,f5⟩:=fi
  exact I.turned (it:=it) (h':=h') (t':=s.toks) (fun b o hb q=>eb b o hb q) f0 f1 f3 f4 f5
 self:=fun A i s Q E st h=>by
  obtain ⟨⟨old,he⟩,hi⟩:=st
  exact wpAny_pyIter_enum he h
end L2
namespace L2
open PySem PySem.Spec PyProof.Rows
theorem src_list {P:Program} {w:World} {K:PySem.W.Frag} {e it l:Addr} (hei:e≠it):Src P w K e it (fun H xs=>H l=some (.lst xs)) (fun i h=>h.IsListIter it l i) where
 obj:=fun i h st=>let ⟨o,ho,_,hd⟩:=st; ⟨o,ho,fun v q=>by rw [hd] at q; cases q⟩
 keep:=fun i h h' st k=>st.at fun o q=>k o q
 inj:=fun H xs ys h1 h2=>by rw [h1] at h2; cases h2; rfl
 dr:=by
  intro X hP hw hK hc pins s σ H xs I he hi hx
  subst hP hw hK
  obtain ⟨its,rv,p,hz⟩:=I.list (SqL.of hx)
  have hl:its.toArray.size=xs.length:=by rw [List.size_toArray,rv.length]
  have hh:X.A.in1.handled=none:=I.ok.hd hc
  have D:=Draws.list (prog:=X.prog) (w:=X.w) (A:=X.A.in1) hh it l (aC hx hi) its.toArray
  rw [hl] at D
  refine ⟨_,_,_,D,?_,fun i st=>⟨st,p.isList⟩,fun i h st=>st.1,fun i v hv=>?_⟩
  ·intro m
   rcases List.mem_cons.mp m with q | m
   ·exact hei q
   ·exact (aC hx he).symm (List.mem_singleton.mp m)
  ·have hv:its[i]?=some v:=by simpa using hv
   have hlt:i<xs.length:=by rw [rv.length]; exact (List.getElem?_eq_some_iff.mp hv).1
   obtain ⟨u,h1,h2⟩:=rv.get (i:=i) (x:=xs[i]) (by simp [hlt])
   rw [hv] at h1
   cases h1
   exact ⟨xs[i],by simp [hlt],h2⟩
theorem vQ {P:Program} {w:World} {K:PySem.W.Frag} {e it l:Addr} (TE:iS P w) (hei:e≠it):Src P w K e it (fun H xs=>H l=some (.tup xs)) (fun i h=>h.IsTupleIter it l i) where
 obj:=fun i h st=>let ⟨o,ho,_,hd⟩:=st; ⟨o,ho,fun v q=>by rw [hd] at q; cases q⟩
 keep:=fun i h h' st k=>let ⟨o,ho,r⟩:=st; ⟨o,k o ho,r⟩
 inj:=fun H xs ys h1 h2=>by rw [h1] at h2; cases h2; rfl
 dr:=by
  intro X hP hw hK hc pins s σ H xs I he hi hx
  subst hP hw hK
  obtain ⟨its,rv,p,hz⟩:=I.tuple (SqT.of hx)
  have hl:its.toArray.size=xs.length:=by rw [List.size_toArray,rv.length]
  have hh:X.A.in1.handled=none:=I.ok.hd hc
  have D:=TE.draws (A:=X.A.in1) hh it l (aC hx hi) its.toArray
  rw [hl] at D
  refine ⟨_,_,_,D,?_,fun i st=>⟨st,p⟩,fun i h st=>st.1,fun i v hv=>?_⟩
  ·intro m
   rcases List.mem_cons.mp m with q | m
   ·exact hei q
   ·exact (aC hx he).symm (List.mem_singleton.mp m)
  ·have hv:its[i]?=some v:=by simpa using hv
   have hlt:i<xs.length:=by rw [rv.length]; exact (List.getElem?_eq_some_iff.mp hv).1
   obtain ⟨u,h1,h2⟩:=rv.get (i:=i) (x:=xs[i]) (by simp [hlt])
   rw [hv] at h1
   cases h1
   exact ⟨xs[i],by simp [hlt],h2⟩
noncomputable def fJ (x:Str):List V:=x.cps.toList.map fun c=>.str ⟨#[c]⟩
theorem v5 {P:Program} {w:World} {K:PySem.W.Frag} {e it:Addr} {x:Str} {t:Tok} (hei:e≠it):Src P w K e it (fun _ xs=>xs=fJ x) (fun i h=>h.IsStrIter it (strIterType x) x t i) where
 obj:=fun i h st=>let ⟨o,ho,_,hd⟩:=st; ⟨o,ho,fun v q=>by rw [hd] at q; cases q⟩
 keep:=fun i h h' st k=>let ⟨o,ho,r⟩:=st; ⟨o,k o ho,r⟩
 inj:=fun H xs ys h1 h2=>by rw [h1,h2]
 dr:=by
  intro X hP hw hK hc pins s σ H xs I he hi hx
  subst hP hw hK hx
  have hh:X.A.in1.handled=none:=I.ok.hd hc
  have hl:x.cps.size=(fJ x).length:=by simp [fJ]
  have pv:∀ (i:Nat) (v:Value),(∃ c u,x.cps[i]?=some c/\v=Value.str ⟨#[c]⟩ u)->∃ y,(fJ x)[i]?=some y/\RelV y v:=fun i v hv=>by
   obtain ⟨c,u,h1,h2⟩:=hv
   exact ⟨.str ⟨#[c]⟩,by simp [fJ,h1],u,h2⟩
  have ni:e∉[it]:=fun m=>hei (List.mem_singleton.mp m)
  cases ha:x.cps.all (·<128) with
  | true =>
   have ht:strIterType x = "str_ascii_iterator" := by simp [strIterType,ha]
   have D:=Draws.strAscii (prog:=X.prog) (w:=X.w) (A:=X.A.in1) hh it x t
   rw [hl] at D
   exact ⟨_,_,_,D,ni,fun i st=>by rw [ht] at st; exact st,fun i h st=>by rw [ht]; exact st,pv⟩
  | false =>
   have ht:strIterType x = "str_iterator" := by simp [strIterType,ha]
   have D:=Draws.strWide (prog:=X.prog) (w:=X.w) (A:=X.A.in1) hh it x t
   rw [hl] at D
   exact ⟨_,_,_,D,ni,fun i st=>by rw [ht] at st; exact st,fun i h st=>by rw [ht]; exact st,pv⟩
section
variable {X:Cx} {elts:List Expr} {kx:Nat} {tp p pos:Pos} {a:Expr} {ta:TA}
noncomputable def A9 (ta:TA):TI:=fun σ H R=>ta σ H fun vs H1=>(∃ l xs,vs=[.ref l]/\H1 l=some (.lst xs)/\R (Ite fun H xs=>H l=some (.lst xs)) H1)\/(∃ l xs,vs=[.ref l]/\H1 l=some (.tup xs)/\R (Ite fun H xs=>H l=some (.tup xs)) H1) \/
 (∃ x,vs=[.str x]/\R (Ite fun _ xs=>xs=fJ x) H1)
theorem j6 {pins:List (Addr × Obj)} {σ:St} {H:Hp} {s:Shared} {g:Heap} {R:It->Hp->Prop} {E:Value->Shared->Prop} {cont:Hp->List V->Prop} {ia:Nat->Heap->Prop} (I:Inv X pins σ H s) (S:Src X.prog X.w X.K (s.heap.objs.size+1) s.heap.objs.size cont ia)
  (he:IsEnum g (s.heap.objs.size+1) s.heap.objs.size 0 .none) (hi:ia 0 g) (hk:∀ b o,s.heap.get? b=some o->g.get? b=some o) (q:R (Ite cont) H) :
  wpAny (model X.prog X.w) X.A (pyIter (.ref (s.heap.objs.size+1))) (PIE X pins σ (.Tuple elts kx tp) R) E { s with heap:=g }:=by
 refine wpAny_pyIter_enum he ⟨s.heap.objs.size+1,[s.heap.objs.size+1,s.heap.objs.size],_,_,H,rfl,I.kept (t':=s.toks) hk,qd (Nat.succ_ne_self _) S,⟨⟨.none,he⟩,hi⟩,fun b hb=>?_,q⟩
 have hb':s.heap.objs.size<=b:=by
  rcases List.mem_cons.mp hb with z | z
  ·rw [z]; exact Nat.le_succ _
  ·rw [List.mem_singleton.mp z]; exact Nat.le_refl _
 exact I.kr hb' (I.hok.fresh hb')
theorem xg (TE:iS X.prog X.w) (hg:Gl X "enumerate") (hm:X.mg "enumerate" = none) (ha:PA X [a] ta) (hs:starEach [a] X.env=[(false,eval a X.env)]):PI X (.Tuple elts kx tp) (.Call (.Name "enumerate" p) [a] [] pos) (A9 ta):=by
 intro pins s σ H R I h
 refine Call_ (eT I hg hm boot_enumerate (PyProof.Rows.callWith_type1 (thn (ha pos pins s σ H _ I h) fun us s1 ⟨vs,H1,I1,r1,q1⟩=>?_) hs rfl))
 rcases q1 with ⟨l,xs,rfl,hx,q⟩ | ⟨l,xs,rfl,hx,q⟩ | ⟨x,rfl,q⟩
 ·obtain ⟨u,rfl,ru⟩:=vals1 r1
  cases ru
  obtain ⟨its,rv,pl,hz⟩:=I1.list (SqL.of hx)
  exact call_enumerate_list pl.isList fun g he hi hsz hk=>j6 I1 (src_list (Nat.succ_ne_self _)) he hi hk q
 ·obtain ⟨u,rfl,ru⟩:=vals1 r1
  cases ru
  obtain ⟨its,rv,pl,hz⟩:=I1.tuple (SqT.of hx)
  exact TE.call pl fun g he hi hk=>j6 I1 (vQ TE (Nat.succ_ne_self _)) he hi hk q
 ·obtain ⟨u,rfl,ru⟩:=vals1 r1
  obtain ⟨t,rfl⟩:=ru
  exact call_enumerate_str fun g he hi hsz hk=>j6 I1 (v5 (Nat.succ_ne_self _)) he hi hk q
end
end L2
namespace RS
open PySem PySem.Spec PyProof.Rows L2
theorem i4:∀ (ds:List RL.D) (k:Int),(RL.bX k ds).length=ds.length
 | [],_=>rfl
 | d :: r,k=>by rw [RL.bX,List.length_cons,List.length_cons,i4 r]
theorem lh:∀ (ds:List RL.D) (k:Int) (i:Nat) (d:RL.D),(RL.bX k ds)[i]?=some d->∃ e,ds[i]?=some e/\d=.tup [.int (k+i),e]
 | [],k,i,d,h=>by simp [RL.bX] at h
 | e :: r,k,0,d,h=>by simp [RL.bX] at h; exact ⟨e,rfl,by simp [h]⟩
 | e :: r,k,i+1,d,h=>by
  rw [RL.bX,List.getElem?_cons_succ] at h
  obtain ⟨e',h1,h2⟩:=lh r (k+1) i d h
  refine ⟨e',by simpa using h1,?_⟩
  rw [h2]
  congr 3
  omega
theorem eO {K:PySem.W.Frag} {H:Hp} {ds:List RL.D} {xs:List V} {P:Addr->Prop} {cont:Hp->List V->Prop} (hc:∀ H',Off P H H'->cont H' xs) (hj:∀ H' ys,cont H' xs->cont H' ys->ys=xs) (r:aa nP K H ds xs) (hm:∀ b o,P b->H b=some o->cx o):gH K (Ite cont) (RL.bX 0 ds) P H where
 go:=fun H' i k hi=>by
  rw [i4] at hi
  obtain ⟨x,e,_⟩:=r.get (i:=i) (d:=ds[i]) (by simp [hi])
  exact ⟨xs,x,hc H' k,e⟩
 stop:=fun H' k=>⟨xs,hc H' k,by rw [i4,r.length]⟩
 yld:=fun H' i d v H2 k e y=>by
  obtain ⟨p,x,hp,rfl,rfl,hx⟩:=y
  obtain ⟨e',h1,rfl⟩:=lh ds 0 i d e
  obtain ⟨x',h2,h3⟩:=r.get h1
  rw [hx xs (hc H' k)] at h2
  cases h2
  refine ⟨ao.bc hp,fun q=>?_⟩
  have re:Rep nP K H' e' x:=by
   rcases q with q | q
   ·have q:(true && (e'.imm && true))=true:=q
    simp only [Bool.true_and,Bool.and_true] at q
    exact eQ hm k h3 q
   ·exact h3.same q
  rw [Rep]
  refine ⟨p,[.int i,x],rfl,aN,aa.cons ?_ (aa.cons (re.same (ao.bc hp)) aa.nil)⟩
  simpa using (aI (P:=nP) (K:=K) (H:=upd H' p (.tup [.int i,x])) (i:=(i:Int)))
theorem qQ {P:Addr->Prop} {K:PySem.W.Frag} {H:Hp} {d:RL.D} {ds:List RL.D} {v:V} (h:RL.cB d=some ds) (r:Rep P K H d v):(∃ p xs,v=.ref p/\H p=some (.lst xs)/\d=.lst ds/\aa P K H ds xs)\/(∃ p xs,v=.ref p/\H p=some (.tup xs)/\d=.tup ds/\aa P K H ds xs) \/
  (∃ x,v=.str x/\d=.str x/\ds=x.cps.toList.map fun c=>.str ⟨#[c]⟩):=by
 cases d <;> simp only [RL.cB] at h <;> first | (cases h; done) | skip
 case lst ys=>cases h; obtain ⟨p,xs,e1,_,e2,e3⟩:=a4 r; exact .inl ⟨p,xs,e1,e2,rfl,e3⟩
 case tup ys=>cases h; obtain ⟨p,xs,e1,e2,e3⟩:=aP r; exact .inr (.inl ⟨p,xs,e1,e2,rfl,e3⟩)
 case str x=>cases h; exact .inr (.inr ⟨x,aB r,rfl,rfl⟩)
theorem gw {P:Addr->Prop} {K:PySem.W.Frag} {H:Hp}:∀ (cs:List Nat),aa P K H (cs.map fun c=>RL.D.str ⟨#[c]⟩) (cs.map fun c=>V.str ⟨#[c]⟩)
 | []=>aa.nil
 | c :: r=>aa.cons fP (gw r)
section rules
variable {X:Cx} {cl:RL.Cl} {elts:List Expr} {kx:Nat} {tp p pos:Pos} {a:Expr} {a':RL.E}
theorem yV (TE:iS X.prog X.w) (hg:Gl X "enumerate") (hm:X.mg "enumerate" = none) (ha:SE X cl a a') (hn:noStar a=true):SI X cl (.Tuple elts kx tp) (.Call (.Name "enumerate" p) [a] [] pos) (.enm a'):=by
 intro pins s σ H R I h
 obtain ⟨σD,ds,rv,e,k⟩:=h
 rw [RL.a8] at e
 obtain ⟨d,e1,e2⟩:=bind_some e
 obtain ⟨es,e3,e4⟩:=map_some e2
 subst e4
 have hpa:PA X [a] (lM (tE X.K cl a') uC):=bA ha d9 (aw [] hn)
 refine xg TE hg hm hpa (aw [] hn) pins s σ H R I ⟨σD,d,rv,e1,fun v H1 r1=>?_⟩
 rcases qQ e3 r1.rep with ⟨l,xs,rfl,hx,rfl,rs⟩ | ⟨l,xs,rfl,hx,rfl,rs⟩ | ⟨x,rfl,rfl,rfl⟩
 ·refine .inl ⟨l,xs,rfl,hx,k _ _ r1.same ⟨eO (fun H' o=>o _ _ (fun z=>z) hx) (fun H' ys h1 h2=>by rw [h1] at h2; cases h2; rfl) rs fh,fun M P z hP av=>?_⟩⟩
  exact eO (fun H' o=>o _ _ (jL r1 z hP av _ _ rfl rfl) hx) (fun H' ys h1 h2=>by rw [h1] at h2; cases h2; rfl) rs (cQ r1.same hP)
 ·have np:∀ P:Addr->Prop,(∀ b o,P b->H1 b=some o->cx o)->¬ P l:=fun P hP q=>by rcases hP l _ q hx with ⟨z,q⟩ | ⟨z,q⟩ | ⟨z,q⟩ <;> cases q
  exact .inr (.inl ⟨l,xs,rfl,hx,k _ _ r1.same ⟨eO (fun H' o=>o _ _ (np _ fh) hx) (fun H' ys h1 h2=>by rw [h1] at h2; cases h2; rfl) rs fh,fun M P z hP av=>eO (fun H' o=>o _ _ (np P (cQ r1.same hP)) hx) (fun H' ys h1 h2=>by rw [h1] at h2; cases h2; rfl) rs (cQ r1.same hP)⟩⟩)
 ·exact .inr (.inr ⟨x,rfl,k _ _ r1.same ⟨eO (fun H' o=>rfl) (fun H' ys h1 h2=>h2) (gw _) fh,fun M P z hP av=>eO (fun H' o=>rfl) (fun H' ys h1 h2=>h2) (gw _) (cQ r1.same hP)⟩⟩)
end rules
end RS
namespace RS
open PySem PySem.Spec PyProof.Rows L2
section rules
variable {X:Cx} {cl:RL.Cl} {a b:Expr} {a' b':RL.E} {pos p p2:Pos} {M:List Nat} {st:Stmt} {i:Nat} {e' k':RL.E}
theorem wA {P:Addr->Prop} {K:PySem.W.Frag} {H:Hp} {ds:List RL.D} {v:V} (h:Rep P K H (.scr ds) v):∃ a xs,v=.ref a/\iE K H a xs/\aa P K H ds xs:=by rw [Rep] at h; exact h
theorem rX (n:Nat) (k:Int):HT.sIx n n (some k)=RL.cutAt n k:=by
 have h:=HT.iQ k n n
 unfold RL.cutAt
 split at h
 ·rw [if_neg (by omega)]; omega
 ·rw [if_pos (by omega)]; omega
theorem xK (ha:SE X cl a a') (hb:SE X cl b b'):SE X cl (.Subscript a (.Slice none (some b) none p2) pos) (.slT a' b'):=by
 refine PE.weak (tR (SlR.or wG yD) ha vV (wY hb)) fun σ H Q h=>?_
 obtain ⟨σD,d,rv,e,k⟩:=h
 rw [RL.ev] at e
 obtain ⟨x,ea,e⟩:=bind_some e
 obtain ⟨y,eb,e⟩:=bind_some e
 refine ⟨σD,x,rv,ea,fun v H1 r1=>⟨σD,y,rv.same r1.same,eb,fun u H2 r2=>?_⟩⟩
 have rx:=r1.rep.same r2.same
 have sm:=r1.same.trans r2.same
 cases y with
 | int n =>
  refine ⟨n,af r2.rep,?_⟩
  cases x with
  | lst xs =>
   cases e
   obtain ⟨q,ys,rfl,_,f2,f3⟩:=a4 rx
   refine .inl ⟨q,ys,rfl,SqL.of f2,fun l hl=>?_⟩
   unfold gr
   rw [j5,<- f3.length]
   exact k _ _ (cI sm hl (f3.take _) fun _=>rfl)
  | scr xs =>
   cases e
   obtain ⟨q,ys,rfl,f2,f3⟩:=wA rx
   refine .inl ⟨q,ys,rfl,f2.seq,fun l hl=>?_⟩
   unfold gr
   rw [j5,<- f3.length]
   exact k _ _ (cI sm hl (f3.take _) fun _=>rfl)
  | tup xs =>
   simp only [RL.pA] at e
   split at e
   ·rename_i hz
    cases e
    obtain ⟨q,ys,rfl,f2,f3⟩:=aP rx
    refine .inr ⟨q,ys,rfl,SqT.of f2,fun z=>?_,fun l hl=>?_⟩
    ·rw [rX,<- f3.length] at z
     omega
    ·unfold gr
     rw [j5,<- f3.length]
     exact k _ _ (gL sm hl (f3.take _) fun _=>rfl)
   ·cases e
  | _=>cases e
 | _=>cases x <;> cases e
noncomputable def tH:RL.D->RL.D->Option (Option RL.D)
 | .dK ks vs,k=>(RL.keyOf k).map (RL.a7 ks vs)
 | .dT ks vs,.tup k=>(RL.keysOf k).map (RL.a7 ks vs)
 | _,_=>none
noncomputable def Ans (P:Addr->Prop) (K:PySem.W.Frag) (H:Hp):Option RL.D->Option V->Prop
 | some d,r=>∃ w,r=some w/\Rep P K H d w
 | none,r=>r=none
theorem kU {κ:Type} [DecidableEq κ] {P:Addr->Prop} {K:PySem.W.Frag} {H:Hp} {x:κ}:∀ {ks:List κ} {ds:List RL.D} {xs:List V},ks.length=ds.length->aa P K H ds xs ->
  Ans P K H (RL.a7 ks ds x) (dz (ks.zip xs) x)
 | [],ds,xs,hl,r=>by simp [RL.a7,dz,Ans]
 | k :: ks,[],xs,hl,r=>by simp at hl
 | k :: ks,d :: ds,xs,hl,r=>by
  rw [aa] at r
  obtain ⟨v,t,rfl,r1,r2⟩:=r
  by_cases hk:k=x
  ·have h1:RL.a7 (k :: ks) (d :: ds) x=some d:=by rw [RL.a7,if_pos hk]
   rw [h1]
   exact ⟨v,by rw [List.zip_cons_cons]; exact gU hk,r1⟩
  ·have ih:=kU (x:=x) (ks:=ks) (ds:=ds) (xs:=t) (by simpa using hl) r2
   have h1:RL.a7 (k :: ks) (d :: ds) x=RL.a7 ks ds x:=by rw [RL.a7,if_neg hk]
   rw [h1,List.zip_cons_cons,gS hk]
   exact ih
theorem jj {P:Addr->Prop} {K:PySem.W.Frag} {H:Hp} {d:RL.D} {k:RL.Ky} {v:V} (h:RL.keyOf d=some k) (r:Rep P K H d v):v=kV k:=by
 cases d <;> simp only [RL.keyOf] at h <;> first | (cases h; done) | skip
 case int i=>cases h; exact af r
 case str i=>cases h; exact aB r
theorem iC {P:Addr->Prop} {K:PySem.W.Frag} {H:Hp}:∀ {ds:List RL.D} {k:List RL.Ky} {xs:List V},RL.keysOf ds=some k->aa P K H ds xs->xs=k.map kV
 | [],k,xs,h,r=>by cases h; rw [aa] at r; exact r
 | d :: ds,k,xs,h,r=>by
  rw [RL.keysOf] at h
  obtain ⟨k1,h1,h⟩:=bind_some h
  obtain ⟨k2,h2,h3⟩:=map_some h
  subst h3
  rw [aa] at r
  obtain ⟨v,t,rfl,r1,r2⟩:=r
  rw [jj h1 r1,iC h2 r2]
  rfl
theorem kH {H:Hp} {y kx:RL.D} {v u:V} {o:Option RL.D} (ry:Rep nP X.K H y v) (rk:Rep nP X.K H kx u) (h:tH y kx=some o) :
  ∃ q r,v=.ref q/\dh H q u r/\Ans nP X.K H o r:=by
 cases y with
 | dK ks vs =>
  obtain ⟨k,h1,h2⟩:=map_some h
  rw [Rep] at ry
  obtain ⟨q,xs,rfl,_,f2,fl,f3⟩:=ry
  have lk:=kU (x:=k) fl f3
  rw [h2] at lk
  refine ⟨q,_,rfl,by rw [jj h1 rk]; exact dh.k f2,lk⟩
 | dT ks vs =>
  cases kx with
  | tup kk =>
   obtain ⟨k,h1,h2⟩:=map_some h
   rw [Rep] at ry
   obtain ⟨q,xs,rfl,_,f2,fl,f3⟩:=ry
   obtain ⟨q',ys,rfl,g2,g3⟩:=aP rk
   rw [iC h1 g3] at g2
   have lk:=kU (x:=k) fl f3
   rw [h2] at lk
   exact ⟨q,_,rfl,dh.t f2 g2,lk⟩
  | _=>cases h
 | _=>cases kx <;> cases h
theorem yo {y kx d:RL.D} (h:RL.nN y kx=some d):tH y kx=some (some d):=by
 cases y with
 | dK ks vs=>obtain ⟨k,h1,h2⟩:=bind_some (show (RL.keyOf kx).bind (RL.a7 ks vs)=some d from h); show (RL.keyOf kx).map (RL.a7 ks vs)=_; rw [h1,Option.map_some,h2]
 | dT ks vs =>
  cases kx with
  | tup kk=>obtain ⟨k,h1,h2⟩:=bind_some (show (RL.keysOf kk).bind (RL.a7 ks vs)=some d from h); show (RL.keysOf kk).map (RL.a7 ks vs)=_; rw [h1,Option.map_some,h2]
  | _=>cases h
 | _=>cases kx <;> cases h
theorem xT (hu:X.A.units+100<cLine) (ha:SE X cl a a') (hb:SE X cl b b') (hs:pH b):SE X cl (.Subscript a b pos) (.ixD a' b'):=by
 refine PE.weak (vY (by omega) ha hb hs) fun σ H Q h=>?_
 obtain ⟨σD,d,rv,e,k⟩:=h
 rw [RL.ev] at e
 obtain ⟨x,ea,e⟩:=bind_some e
 obtain ⟨y,eb,e⟩:=bind_some e
 refine ⟨σD,x,rv,ea,fun v H1 r1=>⟨σD,y,rv.same r1.same,eb,fun u H2 r2=>?_⟩⟩
 obtain ⟨q,r,rfl,g,w,rfl,rw'⟩:=kH (r1.rep.same r2.same) r2.rep (yo e)
 exact ⟨q,w,rfl,g,k _ _ ⟨r1.same.trans r2.same,rw',fun z=>(by cases z),fun M z=>nomatch (show false=true from z)⟩⟩
theorem An:SE X cl (.Dict [] [] pos) .dk0:=by
 refine PE.weak sF fun σ H Q h=>?_
 obtain ⟨σD,d,rv,e,k⟩:=h
 rw [RL.ev] at e
 cases e
 intro q hq
 refine k _ _ ⟨ao.bc hq,?_,fun _ _ a z=>(by cases z; exact hq),fun M z=>nomatch (show false=true from z)⟩
 rw [Rep]
 exact ⟨q,[],rfl,fun z=>z,aN,rfl,aa.nil⟩
theorem yT:SE X cl (.Dict [] [] pos) .dt0:=by
 refine PE.weak ur fun σ H Q h=>?_
 obtain ⟨σD,d,rv,e,k⟩:=h
 rw [RL.ev] at e
 cases e
 intro q hq
 refine k _ _ ⟨ao.bc hq,?_,fun _ _ a z=>(by cases z; exact hq),fun M z=>nomatch (show false=true from z)⟩
 rw [Rep]
 exact ⟨q,[],rfl,fun z=>z,aN,rfl,aa.nil⟩
end rules
end RS
namespace RS
open PySem PySem.Spec PyProof.Rows L2
section rules
variable {X:Cx} {cl:RL.Cl} {a b:Expr} {a' b':RL.E} {pos p p2:Pos} {M:List Nat} {st:Stmt} {i:Nat} {e' k':RL.E}
theorem yt {y kx:RL.D} {k:Bool} (h:RL.tJ y kx=some k):∃ o,tH y kx=some o/\k=o.isSome:=by
 cases y with
 | dK ks vs=>obtain ⟨q,h1,h2⟩:=map_some (show (RL.keyOf kx).map _=some k from h); exact ⟨RL.a7 ks vs q,by show (RL.keyOf kx).map _=_; rw [h1]; rfl,h2.symm⟩
 | dT ks vs =>
  cases kx with
  | tup kk=>obtain ⟨q,h1,h2⟩:=map_some (show (RL.keysOf kk).map _=some k from h); exact ⟨RL.a7 ks vs q,by show (RL.keysOf kk).map _=_; rw [h1]; rfl,h2.symm⟩
  | _=>cases h
 | _=>cases kx <;> cases h
theorem Ans.isSome {P:Addr->Prop} {K:PySem.W.Frag} {H:Hp} {o:Option RL.D} {r:Option V} (h:Ans P K H o r):r.isSome=o.isSome:=by
 cases o with
 | none=>rw [show r=none from h]; rfl
 | some d=>obtain ⟨w,hw,_⟩:=h; rw [hw]; rfl
noncomputable def vo (neg:Bool) (ty td:TE):TE:=if neg then oS ty td else x9 ty td
theorem pd {neg:Bool} (hu:X.A.units+100<cLine) (ha:SE X cl a a') (hb:SE X cl b b'):PC X (if neg then .NotIn else .In) a b (vo neg (tE X.K cl a') (tE X.K cl b')):=by
 cases neg with
 | true=>exact q0 (by omega) ha hb
 | false=>exact yU (by omega) ha hb
theorem qU {neg:Bool} {σ:L2.St} {H:Hp} {Q:VK} {σD:RL.St} {d:RL.D} (rv:RV0 X.K σD σ H) (e:RL.ev cl σD (.inD neg a' b')=some d) (k:∀ t H',d=.bl t->ao H H'->Q (.bl t) H'):vo neg (tE X.K cl a') (tE X.K cl b') σ H Q:=by
 rw [RL.ev] at e
 obtain ⟨x,ea,e⟩:=bind_some e
 obtain ⟨y,eb,e⟩:=bind_some e
 obtain ⟨t,e1,e2⟩:=map_some e
 obtain ⟨o,h1,h2⟩:=yt e1
 cases neg with
 | true =>
  refine two rv ea eb fun v u H1 H2 s1 s2 rx ry _ _=>?_
  obtain ⟨q,r,rfl,g,an⟩:=kH ry rx h1
  refine ⟨q,r,rfl,g,k _ _ ?_ (s1.trans s2)⟩
  rw [an.isSome,<- e2,h2]
  rfl
 | false =>
  refine two rv ea eb fun v u H1 H2 s1 s2 rx ry _ _=>?_
  obtain ⟨q,r,rfl,g,an⟩:=kH ry rx h1
  refine ⟨q,r,rfl,g,k _ _ ?_ (s1.trans s2)⟩
  rw [an.isSome,<- e2,h2]
  rfl
theorem yH {neg:Bool} (hu:X.A.units+100<cLine) (ha:SE X cl a a') (hb:SE X cl b b') (hm:pT b=true):SE X cl (.Compare a [if neg then .NotIn else .In] [b] pos) (.inD neg a' b'):=by
 refine PE.weak (ze (pd hu ha hb) (lB hm)) fun σ H Q h=>?_
 obtain ⟨σD,d,rv,e,q⟩:=h
 exact qU rv e fun t H' hd sm=>by subst hd; exact q _ _ (cT sm)
theorem zg {neg:Bool} (hu:X.A.units+100<cLine) (ha:SE X cl a a') (hb:SE X cl b b') (hm:pT b=true):ST X cl (.Compare a [if neg then .NotIn else .In] [b] pos) (.inD neg a' b'):=by
 refine PT.weak (yJ (pd hu ha hb) (lB hm)) fun σ H Q h=>?_
 obtain ⟨σD,k,rv,e,q⟩:=h
 obtain ⟨d,e1,e2⟩:=bind_some e
 refine qU rv e1 fun t H' hd sm=>?_
 subst hd
 cases e2
 exact ⟨_,rfl,q _ sm⟩
theorem oE {κ:Type} [DecidableEq κ] {x:κ} {d:RL.D} {v:V} {P:Addr->Prop} {K:PySem.W.Frag} {H:Hp} {ks:List κ} {ds:List RL.D} {xs:List V} (hl:ks.length=ds.length) (r:aa P K H ds xs) (rv:Rep P K H d v) :
  ∃ ys,putK (ks.zip xs) x v=(RL.putD ks ds x d).1.zip ys/\(RL.putD ks ds x d).1.length=(RL.putD ks ds x d).2.length/\aa P K H (RL.putD ks ds x d).2 ys:=by
 have hx:ks.length=xs.length:=hl.trans r.length
 have any:∀ (ks:List κ) (xs:List V),ks.length=xs.length->((ks.zip xs).any fun kv=>decide (kv.1=x))=decide (x∈ks):=by
  intro ks
  induction ks with
  | nil=>intro xs _; simp
  | cons k r ih =>
   intro xs h
   cases xs with
   | nil=>simp at h
   | cons y t =>
    rw [List.zip_cons_cons,List.any_cons,ih t (by simpa using h)]
    by_cases hk:k=x
    ·simp [hk]
    ·simp [hk,Ne.symm hk]
 unfold putK RL.putD
 rw [any ks xs hx]
 by_cases hm:x∈ks
 ·rw [if_pos (by simpa using hm),if_pos hm]
  refine ⟨List.zipWith (fun k w=>if k=x then v else w) ks xs,?_,?_,?_⟩
  ·clear any hm hl r
   induction ks generalizing xs with
   | nil=>simp
   | cons k t ih =>
    cases xs with
    | nil=>simp at hx
    | cons y t' =>
     rw [List.zip_cons_cons,List.map_cons,List.zipWith_cons_cons,List.zip_cons_cons,ih (by simpa using hx)]
     by_cases hk:k=x <;> simp [hk]
  ·rw [List.length_zipWith,hl,Nat.min_self]
  ·clear any hm hx
   induction ks generalizing ds xs with
   | nil=>simpa using aa.nil
   | cons k t ih =>
    cases ds with
    | nil=>simp at hl
    | cons d0 ds =>
     rw [aa] at r
     obtain ⟨y,t',rfl,r1,r2⟩:=r
     rw [List.zipWith_cons_cons,List.zipWith_cons_cons]
     refine aa.cons ?_ (ih (by simpa using hl) r2)
     by_cases hk:k=x
     ·rw [if_pos hk,if_pos hk]; exact rv
     ·rw [if_neg hk,if_neg hk]; exact r1
 ·rw [if_neg (by simpa using hm),if_neg hm]
  refine ⟨xs ++ [v],?_,by simp [hl],aa.append r (aa.cons rv aa.nil)⟩
  rw [List.zip_append hx]
  rfl
theorem se {κ:Type} [DecidableEq κ] {x:κ} {d:RL.D} (hd:d.imm=true):∀ {ks:List κ} {ds:List RL.D},RL.ai ds=true->RL.ai (RL.putD ks ds x d).2=true:=by
 have app:∀ l:List RL.D,RL.ai l=true->RL.ai (l ++ [d])=true:=fun l=>by
  induction l with
  | nil=>intro _; simp [RL.ai,hd]
  | cons z r ih=>intro h; rw [RL.ai,Bool.and_eq_true] at h; rw [List.cons_append,RL.ai,h.1,ih h.2]; rfl
 have zw:∀ (ks:List κ) (ds:List RL.D),RL.ai ds=true->RL.ai (List.zipWith (fun k w=>if k=x then d else w) ks ds)=true:=fun ks=>by
  induction ks with
  | nil=>intro ds _; simp [RL.ai]
  | cons k r ih =>
   intro ds h
   cases ds with
   | nil=>simp [RL.ai]
   | cons y t =>
    rw [RL.ai,Bool.and_eq_true] at h
    rw [List.zipWith_cons_cons,RL.ai,ih t h.2,Bool.and_true]
    by_cases hk:k=x
    ·rw [if_pos hk]; exact hd
    ·rw [if_neg hk]; exact h.1
 intro ks ds h
 unfold RL.putD
 split
 ·exact zw ks ds h
 ·exact app ds h
theorem xh (h:PS X st (pJ (hZ i) (tE X.K cl k') (tE X.K cl e'))) (hi:M.contains i=true):PS X st (tS X.K M fun σD=>(RL.ev cl σD e').bind fun d=>(RL.ev cl σD k').bind fun kk=>((σD[i]?).bind id).bind fun l=>match l with
  | .lst _=>none
  | _=>if d.imm then (RL.cw l kk d).map fun l'=>(.nx,σD.set i (some l')) else none):=by
 refine PS.weak h fun D σ H h=>?_
 obtain ⟨σD,o,σD',rv,e,k⟩:=h
 obtain ⟨d,e1,e⟩:=bind_some e
 obtain ⟨kk,e2,e⟩:=bind_some e
 obtain ⟨l,e3,e⟩:=bind_some e
 obtain ⟨v,h1,h2⟩:=rv.val i _ (slot_get e3)
 rw [if_pos hi] at h2
 obtain ⟨q1,q2,q3⟩:=h2
 cases l with
 | dK ks ds =>
  dsimp only at e
  split at e
  ·rename_i him
   obtain ⟨l',e4,e5⟩:=map_some e
   cases e5
   obtain ⟨kx,e6,e7⟩:=bind_some (show (RL.keyOf kk).bind _=some l' from e4)
   split at e7
   ·rename_i hz
    cases e7
    rw [Rep] at q3
    obtain ⟨q,xs,rfl,_,f2,fl,f3⟩:=q3
    refine ⟨σD,d,rv.rv0,e1,fun y H1 r1=>⟨.ref q,h1,σD,kk,rv.rv0.same r1.same,e2,fun u H2 r2=>?_⟩⟩
    have sm:=r1.same.trans r2.same
    obtain ⟨ys,p1,p2,p3⟩:=oE (x:=kx) fl (f3.same sm) (r1.rep.same r2.same)
    have hlen:(ks.zip xs).length<sizeLine:=by
     rw [List.length_zip,<- f3.length,fl,Nat.min_self,<- fl]
     exact Nat.lt_of_lt_of_le hz b9
    refine ⟨q,_,rfl,by rw [jj e6 r2.rep]; exact iq.k (sm _ _ f2) hlen,?_⟩
    have im:=se (x:=kx) him (ks:=ks) q2
    obtain ⟨g1,g2⟩:=(rv.same sm).gm (d':=.dK (RL.putD ks ds kx d).1 (RL.putD ks ds kx d).2) (o':=.dK (putK (ks.zip xs) kx y)) hi h1 (sm _ _ f2) (.inr (.inl ⟨_,rfl⟩)) ⟨rfl,im,by
     rw [Rep]
     exact ⟨q,ys,rfl,fun z=>z,by rw [aN,p1],p2,(aa.upd (P:=fun p=>p=q) (sm _ _ f2) (.inr (.inl ⟨_,rfl⟩)) rfl (p3.imm im)).imm im⟩⟩
    exact k _ _ g1 ((Fr'.same sm).trans g2)
   ·cases e7
  ·cases e
 | dT ks ds =>
  dsimp only at e
  split at e
  ·rename_i him
   obtain ⟨l',e4,e5⟩:=map_some e
   cases e5
   cases kk with
   | tup kt =>
    obtain ⟨kx,e6,e7⟩:=bind_some (show (RL.keysOf kt).bind _=some l' from e4)
    split at e7
    ·rename_i hz
     cases e7
     rw [Rep] at q3
     obtain ⟨q,xs,rfl,_,f2,fl,f3⟩:=q3
     refine ⟨σD,d,rv.rv0,e1,fun y H1 r1=>⟨.ref q,h1,σD,.tup kt,rv.rv0.same r1.same,e2,fun u H2 r2=>?_⟩⟩
     have sm:=r1.same.trans r2.same
     obtain ⟨ys,p1,p2,p3⟩:=oE (x:=kx) fl (f3.same sm) (r1.rep.same r2.same)
     have hlen:(ks.zip xs).length<sizeLine:=by
      rw [List.length_zip,<- f3.length,fl,Nat.min_self,<- fl]
      exact Nat.lt_of_lt_of_le hz b9
     obtain ⟨b,ws,rfl,g2,g3⟩:=aP r2.rep
     rw [iC e6 g3] at g2
     refine ⟨q,_,rfl,iq.t (sm _ _ f2) g2 hlen,?_⟩
     have im:=se (x:=kx) him (ks:=ks) q2
     obtain ⟨g1,g2⟩:=(rv.same sm).gm (d':=.dT (RL.putD ks ds kx d).1 (RL.putD ks ds kx d).2) (o':=.dT (putK (ks.zip xs) kx y)) hi h1 (sm _ _ f2) (.inr (.inr ⟨_,rfl⟩)) ⟨rfl,im,by
      rw [Rep]
      exact ⟨q,ys,rfl,fun z=>z,by rw [aN,p1],p2,(aa.upd (P:=fun p=>p=q) (sm _ _ f2) (.inr (.inr ⟨_,rfl⟩)) rfl (p3.imm im)).imm im⟩⟩
     exact k _ _ g1 ((Fr'.same sm).trans g2)
    ·cases e7
   | _=>cases e4
  ·cases e
 | lst _=>cases e
 | _=>cases q1
end rules
end RS
namespace L2
open PySem PySem.Spec PyProof.Rows
noncomputable def Its (c lo:Int) (n:Nat):It:=⟨fun i _=>i<n,fun i H x H'=>H'=H/\x=.int (lo+i*c),fun i _=>n<=i⟩
theorem rV {P:Program} {w:World} {K:PySem.W.Frag} {tg:Expr} (it:Addr) (c lo:Int) (n:Nat):Turn P w K tg (Its c lo n) [it] it (fun i h=>IsRangeIter h it (lo+(i:Nat)*c) ((n:Int)-(i:Nat)) c) where
 mem:=by simp
 obj:=fun i h st b hb=>by
  rw [show b=it by simpa using hb]
  exact ⟨_,st,fun v z=>by cases (show Data.fields _=Data.cell v from z)⟩
 keep:=fun i h h' st k=>k it (by simp) _ st
 item:=by
  intro X hP hw hK hc i pins s σ H E I hf st hg
  subst hP hw hK
  obtain ⟨f0,f1,f2,f3,f4,f5⟩:=hf it (by simp)
  have W:=Walks.range (prog:=X.prog) (w:=X.w) (I.ok.hd hc) it lo c n
  refine W.item i s _ _ hg st fun v h' tk hv st' kk=>?_
  obtain ⟨t,rfl⟩:=hv
  have I1:Inv X pins σ H { s with heap:=h',toks:=tk }:=I.turned (fun b o hb e=>kk b o (by simpa using hb) e) f0 f1 f3 f4 f5
  exact ⟨_,rfl,lV (s:={ s with heap:=h',toks:=tk }) (n := "range_iterator") st' rfl rfl (by decide) ⟨.int (lo+i*c),H,I1,⟨t,rfl⟩,⟨rfl,rfl⟩,st',fun b hb=>(hf b hb).1⟩⟩
 done:=by
  intro X hP hw hK hc i pins s σ H E I hf st hg
  subst hP hw hK
  obtain ⟨f0,f1,f2,f3,f4,f5⟩:=hf it (by simp)
  exact wpAny_pyNext_range_end (I.ok.hd hc) st (by have:n<=i:=hg; omega) fun h' eb=>⟨rfl,I.turned (t':=s.toks) (fun b o hb e=>eb b o hb e) f0 f1 f3 f4 f5⟩
 self:=fun _ _ _ _ _ st h=>wpAny_pyIter_rangeiter st h
end L2
namespace RS
open PySem PySem.Spec PyProof.Rows L2
theorem jP (c:Int):∀ (n:Nat) (lo:Int) (i:Nat) (d:RL.D),(RL.bq c lo n)[i]?=some d->d=.int (lo+i*c)
 | 0,lo,i,d,h=>by simp [RL.bq] at h
 | n+1,lo,0,d,h=>by simp [RL.bq] at h; simp [h]
 | n+1,lo,i+1,d,h=>by
  rw [RL.bq,List.getElem?_cons_succ] at h
  rw [jP c n (lo+c) i d h]
  congr 1
  rw [show ((i+1:Nat):Int)=(i:Int)+1 by omega,Int.add_mul]
  omega
theorem gM (c:Int):∀ (n:Nat) (lo:Int),(RL.bq c lo n).length=n
 | 0,_=>rfl
 | n+1,lo=>by rw [RL.bq,List.length_cons,gM c n]
theorem oX {K:PySem.W.Frag} {H:Hp} {c lo:Int} {n:Nat} {P:Addr->Prop}:gH K (Its c lo n) (RL.bq c lo n) P H where
 go:=fun H' i k hi=>by rw [gM] at hi; exact hi
 stop:=fun H' k=>by rw [gM]; exact Nat.le_refl _
 yld:=fun H' i d x H2 k e y=>by
  obtain ⟨z,y⟩:=y
  subst z
  refine ⟨ao.refl _,fun _=>?_⟩
  rw [jP c n lo i d e,y]
  exact aI
section rules
variable {X:Cx} {cl:RL.Cl} {M:List Nat} {st:Stmt} {i:Nat} {e':RL.E}
end rules
end RS
namespace RS
open PySem PySem.Spec PyProof.Rows L2
noncomputable def kK (p:Addr) (a b c:Int):HO:=.ext fun h=>∃ t u v,IsRange h p a b c t u v
theorem mW (a b c:Int):0<=Builtin.Range.rangeSize a b c:=by
 unfold Builtin.Range.rangeSize
 split
 ·split
  ·have:=Int.ediv_nonneg (a:=b-a-1) (b:=c) (by omega) (by omega)
   omega
  ·omega
 ·split
  ·by_cases h0:c=0
   ·subst h0
    simp
   ·have:=Int.ediv_nonneg (a:=a-b-1) (b:=-c) (by omega) (by omega)
    omega
  ·omega
theorem tm (a b c:Int):Builtin.Range.rangeSize a b c<=(if a<b then b-a else a-b)+1:=by
 unfold Builtin.Range.rangeSize
 split
 ·split
  ·have:=Int.ediv_le_self (a:=b-a-1) c (by omega)
   omega
  ·omega
 ·split
  ·have:=Int.ediv_le_self (a:=a-b-1) (-c) (by omega)
   split <;> omega
  ·split <;> omega
theorem iw (a b c:Int):(RL.aT c a b:Int)=Builtin.Range.rangeSize a b c:=Int.toNat_of_nonneg (mW a b c)
theorem i7 {a b c:Int} (ha:-(2 ^ 60)<=a) (ha':a<2 ^ 60) (hb:-(2 ^ 60)<=b) (hb':b<2 ^ 60) (hc:-(2 ^ 60)<=c) (hc':c<2 ^ 60):Builtin.Range.small a b c=true:=by
 have h1:=mW a b c
 have h2:=tm a b c
 unfold Builtin.Range.small
 simp only [Builtin.Range.rangeFitsLong,Bool.and_eq_true,Bool.or_eq_true,decide_eq_true_eq,beq_iff_eq]
 refine ⟨⟨⟨⟨?_,?_⟩,?_⟩,?_⟩,.inr ?_⟩
 ·omega
 ·omega
 ·omega
 ·split at h2 <;> omega
 ·split <;> (rw [Bool.and_eq_true,decide_eq_true_eq,decide_eq_true_eq]; omega)
section
variable {X:Cx} {cl:RL.Cl} {tg a b l:Expr} {a' b' e':RL.E} {pos p q:Pos}
noncomputable def nJ (xs:List V) (a b c:Int):Prop:=(xs=[.int b]/\a=0/\c=1)\/(xs=[.int a,.int b]/\c=1)\/(xs=[.int a,.int b,.int c]/\c≠0/\c.natAbs<2 ^ 60)
theorem j1 {pins:List (Addr × Obj)} {σ:L2.St} {H:Hp} {s:Shared} {a b c:Int} {t u v:Tok} {tk:Nat} (I:Inv X pins σ H s):Inv X pins σ (upd H s.heap.objs.size (kK s.heap.objs.size a b c)) { s with heap:=s.heap.push { cls:=.type "range",data:=.fields #[.int a t,.int b u,.int c v] },toks:=tk } :=
 I.laid (fun b u e=>Heap.get?_push_of_some _ e) (Nat.le_refl _) ⟨⟨t,u,v,IsRange.new _ a b c t u v⟩,⟨_,Heap.get?_push_size _ rfl⟩,fun h1 h2 ⟨t,u,v,e⟩ k=>⟨t,u,v,k _ e⟩⟩
theorem gD:aZ X (.type "range") (fun xs H Q=>∃ a b c,nJ xs a b c/\∀ p,H p=none->Q (.ref p) (upd H p (kK p a b c))):=by
 intro pins s σ H xs us Q I r h
 obtain ⟨a,b,c,ha,q⟩:=h
 have hf:H s.heap.objs.size=none:=I.hok.fresh (Nat.le_refl _)
 rcases ha with ⟨rfl,rfl,rfl⟩ | ⟨rfl,rfl⟩ | ⟨rfl,hc,hc2⟩
 ·cases r with
  | cons r rr =>
   cases rr
   obtain ⟨t,rfl⟩:=r
   exact call_range_1 ⟨.ref _,_,j1 I,rfl,q _ hf⟩
 ·cases r with
  | cons r rr =>
   cases rr with
   | cons r2 rr =>
    cases rr
    obtain ⟨t,rfl⟩:=r
    obtain ⟨t2,rfl⟩:=r2
    exact call_range_2 ⟨.ref _,_,j1 I,rfl,q _ hf⟩
 ·cases r with
  | cons r rr =>
   cases rr with
   | cons r2 rr =>
    cases rr with
    | cons r3 rr =>
     cases rr
     obtain ⟨t,rfl⟩:=r
     obtain ⟨t2,rfl⟩:=r2
     obtain ⟨t3,rfl⟩:=r3
     refine call_range_3 hc ⟨.ref _,_,j1 I,rfl,q _ hf⟩ (.inl (PyProof.noPylong_of_log2 ?_))
     have:c.natAbs.log2<60:=(Nat.log2_lt (by omega)).mpr hc2
     omega
noncomputable def c8 (a c:Int) (n:Nat):List V:=(List.range n).map fun (i:Nat)=>V.int (a+(i:Int)*c)
theorem e8 (hc:X.calm=true):aZ X (.type "list") (fun xs H Q=>∃ p a b c,xs=[.ref p]/\H p=some (kK p a b c)/\Builtin.Range.small a b c=true/\RL.aT c a b<=RL.most /\
  ∀ l,H l=none->Q (.ref l) (upd H l (.lst (c8 a c (RL.aT c a b))))):=by
 intro pins s σ H xs us Q I r h
 obtain ⟨p,a,b,c,rfl,hp,hs,hn,q⟩:=h
 cases r with
 | cons r rr =>
  cases rr
  cases r
  obtain ⟨⟨t,u,v,hR⟩,_,_⟩:=I.hok p _ hp
  refine call_list_range (I.ok.hd hc) hR hs (iw a b c).symm (Nat.le_trans hn (by decide)) fun h' tk acc c' hk hS hI=>?_
  have hf:H s.heap.objs.size=none:=I.hok.fresh (Nat.le_refl _)
  refine ⟨.ref s.heap.objs.size,upd H s.heap.objs.size (.lst (c8 a c (RL.aT c a b))),I.laid hk (Nat.le_refl _) (show _/\_ from ⟨?_,acc.toList,c',?_,?_⟩),rfl,q _ hf⟩
  ·simp only [c8,List.length_map,List.length_range]
   exact Nat.le_trans hn b9
  ·have len:(c8 a c (RL.aT c a b)).length=acc.toList.length:=by
    simp only [c8,List.length_map,List.length_range,Array.length_toList,hI.1]
   have gen:∀ (xs:List V) (us:List Value),xs.length=us.length->(∀ (i:Nat) u,us[i]?=some u->∃ x,xs[i]?=some x/\RelV x u)->Vals xs us:=by
    intro xs
    induction xs with
    | nil=>intro us h _; cases us with
     | nil=>exact .nil
     | cons _ _=>cases h
    | cons x r ih=>intro us h g; cases us with
     | nil=>cases h
     | cons u us =>
      obtain ⟨x',e1,e2⟩:=g 0 u rfl
      cases e1
      exact .cons e2 (ih us (by simpa using h) fun i u hu=>by
       obtain ⟨y,e3,e4⟩:=g (i+1) u (by simpa using hu)
       exact ⟨y,by simpa using e3,e4⟩)
   refine gen _ _ len fun i u hu=>?_
   have hu':acc[i]?=some u:=by simpa using hu
   obtain ⟨tk,rfl⟩:=hI.2 i u hu'
   have hi:i<RL.aT c a b:=by
    have:=(Array.getElem?_eq_some_iff.mp hu').1
    rw [hI.1] at this
    exact this
   exact ⟨.int (a+(i:Int)*c),by simp [c8,hi],tk,rfl⟩
  ·rw [Array.toArray_toList]
   exact hS
theorem ly {P:Addr->Prop} {K:PySem.W.Frag} {H:Hp}:∀ (n:Nat) (a c:Int),aa P K H (RL.bq c a n) (c8 a c n)
 | 0,a,c=>aa.nil
 | n+1,a,c=>by
  have e:c8 a c (n+1)=V.int a :: c8 (a+c) c n:=by
   simp only [c8,List.range_succ_eq_map,List.map_cons,List.map_map]
   congr 1
   ·simp
   ·apply List.map_congr_left
    intro i _
    show V.int (a+((i+1:Nat):Int)*c)=V.int (a+c+(i:Int)*c)
    congr 1
    rw [show ((i+1:Nat):Int)=(i:Int)+1 by omega,Int.add_mul]
    omega
  rw [RL.bq,e]
  exact aa.cons aI (ly n (a+c) c)
theorem jB:∀ (n:Nat) (a:Int),RL.bJ a n=RL.bq 1 a n
 | 0,_=>rfl
 | n+1,a=>by rw [RL.bJ,RL.bq,jB n]
theorem eC (a b:Int):RL.aT 1 a b=(b-a).toNat:=by
 have h:=iw a b 1
 rw [rangeSize_one] at h
 split at h <;> omega
theorem my {σD:RL.St} {σ:L2.St} {H H1:Hp} {e:RL.E} {Q:VK} {vs:List V} {a b c:Int} {ds:List RL.D} (hv:nJ vs a b c) (hd:ds=RL.bq c a (RL.aT c a b)) (hn:RL.aT c a b<=RL.most) (hs:Builtin.Range.small a b c=true) (sm:ao H H1)
  (hav:∀ M,RL.avE M e=false) (k:∀ v H',Res X.K σD σ H e (.lst ds) v H'->Q v H') :
  ∃ a b c,nJ vs a b c/\∀ p,H1 p=none->(fun xs H Q=>∃ p a b c,xs=[V.ref p]/\H p=some (kK p a b c)/\Builtin.Range.small a b c=true/\RL.aT c a b<=RL.most/\∀ l,H l=none->Q (.ref l) (upd H l (.lst (c8 a c (RL.aT c a b))))) [.ref p] (upd H1 p (kK p a b c)) Q:=by
 refine ⟨a,b,c,hv,fun p hp=>⟨p,a,b,c,rfl,aN,hs,hn,fun l hl=>k _ _ ?_⟩⟩
 subst hd
 exact cI (sm.trans (ao.bc hp)) hl (ly _ _ _) hav
theorem wI (hc:X.calm=true) (hgl:Gl X "list") (hml:X.mg "list" = none) (hg:Gl X "range") (hm:X.mg "range" = none) (ha:SE X cl a a') (hn:noStar a=true) {p2 pos2:Pos}:SE X cl (.Call (.Name "list" p2) [.Call (.Name "range" p) [a] [] pos] [] pos2) (.rng1 a'):=by
 refine PE.weak (bH (e8 hc) hgl hml (by decide +kernel) (bA (bH gD hg hm boot_range (aX (cl:=cl) ha bQ hn) (by decide) (by decide) (aw [] hn) rfl) d9) (by decide) (by decide) rfl rfl) fun σ H Q h=>?_
 obtain ⟨σD,d,rv,e,k⟩:=h
 rw [RL.ev] at e
 obtain ⟨x,ea,e⟩:=bind_some e
 obtain ⟨ds,e1,e2⟩:=map_some e
 subst e2
 obtain ⟨i,j,e3,rfl,hb,hm2,rfl⟩:=kd e1
 cases e3
 have hb2:-(2 ^ 60)<=j/\j<2 ^ 60:=by
  simp only [RL.cF] at e1
  split at e1
  ·omega
  ·cases e1
 refine one rv ea fun v H1 s1 r1=>?_
 exact my (a:=0) (b:=j) (c:=1) (.inl ⟨by rw [af r1],rfl,rfl⟩) (by rw [jB,eC]) (by rw [eC]; exact hm2) (i7 (by decide) (by decide) hb2.1 hb2.2 (by decide) (by decide)) s1 (fun _=>rfl) k
theorem wb (hc:X.calm=true) (hgl:Gl X "list") (hml:X.mg "list" = none) (hg:Gl X "range") (hm:X.mg "range" = none) (ha:SE X cl a a') (hb:SE X cl b b') (hn:noStar a=true) (hn2:noStar b=true) {p2 pos2:Pos}:SE X cl (.Call (.Name "list" p2) [.Call (.Name "range" p) [a,b] [] pos] [] pos2) (.rng2 a' b'):=by
 refine PE.weak (bH (e8 hc) hgl hml (by decide +kernel) (bA (bH gD hg hm boot_range (aX (cl:=cl) ha (aX hb bQ hn2) hn) (by decide) (by decide) (aw _ hn) (dP (by simp [hn2]))) d9) (by decide) (by decide) rfl rfl) fun σ H Q h=>?_
 obtain ⟨σD,d,rv,e,k⟩:=h
 rw [RL.ev] at e
 obtain ⟨x,ea,e⟩:=bind_some e
 obtain ⟨y,eb,e⟩:=bind_some e
 obtain ⟨ds,e1,e2⟩:=map_some e
 subst e2
 obtain ⟨i,j,rfl,rfl,hb,hm2,rfl⟩:=kd e1
 have hb2:(-(2 ^ 60)<=i/\i<2 ^ 60)/\-(2 ^ 60)<=j/\j<2 ^ 60:=by
  simp only [RL.cF] at e1
  split at e1
  ·omega
  ·cases e1
 refine pair rv ea eb fun v u H1 s1 r1 r2=>?_
 exact my (a:=i) (b:=j) (c:=1) (.inr (.inl ⟨by rw [af r1,af r2],rfl⟩)) (by rw [jB,eC]) (by rw [eC]; exact hm2) (i7 hb2.1.1 hb2.1.2 hb2.2.1 hb2.2.2 (by decide) (by decide)) s1 (fun _=>rfl) k
noncomputable def eB (c:Int):Expr->Bool
 | .Constant (.int i) _ _=>i == c
 | .UnaryOp .USub (.Constant (.int i) _ _) _=>-i == c
 | _=>false
theorem fQ {c:Int} {e:Expr} (h:eB c e=true):PE X e (tC (.int c))/\noStar e=true:=by
 unfold eB at h
 split at h
 ·rw [beq_iff_eq] at h
  subst h
  exact ⟨mI,rfl⟩
 ·rw [beq_iff_eq] at h
  subst h
  exact ⟨PE.weak (vz qN mI) fun σ H Q q=>⟨_,rfl,q⟩,rfl⟩
 ·cases h
theorem oM {c:Int} {x y:RL.D} {ds:List RL.D} (h:RL.eG c x y=some ds):∃ i j:Int,x=.int i/\y=.int j/\c≠0/\c.natAbs<2 ^ 60/\Builtin.Range.small i j c=true/\RL.aT c i j<=RL.most/\ds=RL.bq c i (RL.aT c i j):=by
 cases x <;> cases y <;> simp only [RL.eG] at h <;> first
  | (cases h; done)
  | (split at h
     ·rename_i i j hc
      cases h
      exact ⟨i,j,rfl,rfl,hc.1,by omega,i7 hc.2.2.2.2.1 hc.2.2.2.2.2.1 hc.2.2.2.2.2.2.1 hc.2.2.2.2.2.2.2 (by omega) hc.2.2.1,hc.2.2.2.1,rfl⟩
     ·cases h)
theorem oJ {c:Int} {e3:Expr} (ha:SE X cl a a') (hb:SE X cl b b') (hn:noStar a=true) (hn2:noStar b=true) (h3:eB c e3=true):PA X [a,b,e3] (fun σ H R=>tE X.K cl a' σ H fun v H1=>tE X.K cl b' σ H1 fun u H2=>R [v,u,.int c] H2) :=
 bA ha (bA hb (bA (fQ h3).1 d9 (aw [] (fQ (X:=X) h3).2)) (aw _ hn2)) (aw _ hn)
theorem wm {c:Int} {e3:Expr} (hc:X.calm=true) (hgl:Gl X "list") (hml:X.mg "list" = none) (hg:Gl X "range") (hm:X.mg "range" = none) (ha:SE X cl a a') (hb:SE X cl b b') (hn:noStar a=true) (hn2:noStar b=true) (h3:eB c e3=true) {p2 pos2:Pos} :
  SE X cl (.Call (.Name "list" p2) [.Call (.Name "range" p) [a,b,e3] [] pos] [] pos2) (.rng3 c a' b'):=by
 refine PE.weak (bH (e8 hc) hgl hml (by decide +kernel) (bA (bH gD hg hm boot_range (oJ (cl:=cl) ha hb hn hn2 h3) (by decide) (by decide) (aw _ hn) (dP (by simp [hn2,(fQ (X:=X) h3).2]))) d9) (by decide) (by decide) rfl rfl) fun σ H Q h=>?_
 obtain ⟨σD,d,rv,e,k⟩:=h
 rw [RL.ev] at e
 obtain ⟨x,ea,e⟩:=bind_some e
 obtain ⟨y,eb,e⟩:=bind_some e
 obtain ⟨ds,e1,e2⟩:=map_some e
 subst e2
 obtain ⟨i,j,rfl,rfl,h0,h1,h2,h3,rfl⟩:=oM e1
 refine two rv ea eb fun v u H1 H2 s1 s2 rx ry _ _=>?_
 exact my (a:=i) (b:=j) (c:=c) (.inr (.inr ⟨by rw [af rx,af ry],h0,h1⟩)) rfl h3 h2 (s1.trans s2) (fun _=>rfl) k
theorem vU {c:Int} {e3:Expr} (hg:Gl X "range") (hm:X.mg "range" = none) (ha:SE X cl a a') (hb:SE X cl b b') (hn:noStar a=true) (hn2:noStar b=true) (h3:eB c e3=true) :
  SI X cl tg (.Call (.Name "range" p) [a,b,e3] [] pos) (.rng3 c a' b'):=by
 intro pins s σ H R I h
 obtain ⟨σD,ds,rv,e,k⟩:=h
 rw [RL.a8] at e
 obtain ⟨x,ea,e⟩:=bind_some e
 obtain ⟨y,eb,e⟩:=bind_some e
 obtain ⟨i,j,rfl,rfl,h0,h1,hs,hl,rfl⟩:=oM e
 refine thn (bH gD hg hm boot_range (oJ (cl:=cl) ha hb hn hn2 h3) (by decide) (by decide) (aw _ hn) (dP (by simp [hn2,(fQ (X:=X) h3).2])) pins s σ H (fun x H2=>∃ p,x=.ref p/\H2 p=some (kK p i j c)/\ao H H2) I ?_) ?_
 ·exact two rv ea eb fun v u H1 H2 s1 s2 rx ry _ _=>⟨i,j,c,.inr (.inr ⟨by rw [af rx,af ry],h0,h1⟩),fun p hp=>⟨p,rfl,aN,(s1.trans s2).trans (ao.bc hp)⟩⟩
 ·rintro v s1 ⟨x,H1,I1,r1,q,rfl,hq,sm⟩
  cases r1
  obtain ⟨⟨t,u,v,hR⟩,_,_⟩:=I1.hok q _ hq
  refine wpAny_pyIter_range hR hs ⟨s1.heap.objs.size,[s1.heap.objs.size],_,Its c i (RL.aT c i j),H1,rfl,I1.kept (t':=s1.toks) fun b o e=>Heap.get?_push_of_some _ e,rV _ c i _,?_,fun b hb=>?_,k _ _ sm ⟨oX,fun _ _ _ _ _=>oX⟩⟩
  ·have e1:i+((0:Nat):Int)*c=i:=by simp
   have e2:((RL.aT c i j:Nat):Int)-((0:Nat):Int)=Builtin.Range.rangeSize i j c:=by rw [iw]; simp
   show IsRangeIter _ _ (i+((0:Nat):Int)*c) (((RL.aT c i j:Nat):Int)-((0:Nat):Int)) c
   rw [e1,e2]
   exact Heap.get?_push_size _ rfl
  ·rw [show b=s1.heap.objs.size by simpa using hb]
   exact I1.kr (Nat.le_refl _) (I1.hok.fresh (Nat.le_refl _))
theorem vJ (hl:SE X cl l e'):SI X cl tg l (.seq e'):=by
 refine PI.weak (zX (cl:=cl) hl trivial) fun σ H R h=>?_
 obtain ⟨σD,ds,rv,e,k⟩:=h
 rw [RL.a8] at e
 obtain ⟨d,e1,e2⟩:=bind_some e
 exact ⟨σD,d,ds,rv,e1,e2,k⟩
theorem zZ (ha:SE X cl a a'):SE X cl (.UnaryOp .USub a pos) (.neg a'):=by
 refine PE.weak (vz qN ha) fun σ H Q h=>?_
 obtain ⟨σD,d,rv,e,k⟩:=h
 rw [RL.ev] at e
 obtain ⟨x,ea,e⟩:=bind_some e
 cases x with
 | int i=>cases e; exact ⟨σD,_,rv,ea,fun v H1 r1=>⟨i,af r1.rep,k _ _ (bW r1.same aI rfl)⟩⟩
 | _=>cases e
end
end RS
namespace RS
open PySem PySem.Spec PyProof.Rows L2
noncomputable def mAt (mp:List Nat) (vs:List V):Addr->Prop:=fun a=>∃ p,p∈mp/\vs[p]?=some (.ref a)
structure yi (K:PySem.W.Frag) (mp:List Nat) (ds:List RL.D) (vs:List V) (H:Hp):Prop where
 u5:aa nP K H ds vs
 own:∀ p∈mp,∃ d a,ds[p]?=some d/\vs[p]?=some (.ref a)/\Own K H d (.ref a)
 sep:∀ p∈mp,∀ q∈mp,∀ a,vs[p]?=some (.ref a)->vs[q]?=some (.ref a)->p=q
 oth:∀ (q:Nat) d v,q∉mp->ds[q]?=some d->vs[q]?=some v->Rep (mAt mp vs) K H d v
structure BM (K:PySem.W.Frag) (mp:List Nat) (outs:List RL.D) (vs:List V) (H:Hp):Prop where
 len:outs.length=mp.length
 own:∀ (k p:Nat) o,mp[k]?=some p->outs[k]?=some o->∃ a,vs[p]?=some (.ref a)/\Own K H o (.ref a)
noncomputable def spM (K:PySem.W.Frag) (cl:RL.Cl) (mp:List Nat) (f:Nat):Sp:=fun vs H Q _=>∃ ds d outs,cl f ds=some (.tup (d :: outs))/\yi K mp ds vs H/\∀ v H',Off (mAt mp vs) H H'->Rep nP K H' d v->d.imm=true->BM K mp outs vs H'->Q v H'
section
variable {K:PySem.W.Frag} {M:List Nat} {cl:RL.Cl} {σD:RL.St} {σ:L2.St} {H H1:Hp}
end
section rules
variable {X:Cx} {cl:RL.Cl} {M:List Nat} {st:Stmt} {i f:Nat} {es:RL.Es} {ps ms:List Nat}
end rules
end RS
namespace L2
open PySem PySem.Spec PyProof.Rows
section
variable {prog:Program} {w:World} {A:Around} {E:Value->Shared->Prop}
theorem oh {α:Type} {Q:α->Shared->Prop} {z:Shared} (hh:A.handled=none) (k:∀ g e,(∀ b o,z.heap.get? b=some o->g.get? b=some o)->(∃ o,g.get? e=some o/\o.cls=.type "StopIteration")->E (.ref e) { z with heap:=g }) :
  wpAny (model prog w) A (Builtin.SmallTypes.stopIteration:Sem α) Q E z:=by
 obtain ⟨hp,g,d,tk,os⟩:=z
 unfold Builtin.SmallTypes.stopIteration
 simp only [newExc,newTuple,raiseNew]
 wp_walk
 exact k _ _ (fun b o e=>Heap.get?_push_of_some _ (Heap.get?_push_of_some _ e)) ⟨_,Heap.get?_push_size _ rfl,rfl⟩
theorem tf {z:Shared} {ti tp:Addr} {i:Nat} {its:Array Value} {x:Value} {Q:Value->Shared->Prop} (hi:z.heap.IsTupleIter ti tp i) (ht:z.heap.IsTuple tp its) (hx:its[i]?=some x)
  (k:∀ g,g.IsTupleIter ti tp (i+1)->Heap.SameBut ti z.heap g->Q x { z with heap:=g }):wpAny (model prog w) A (Builtin.SmallTypes.nextOf (.ref ti)) Q E z:=by
 have hty:=hi.typeIs
 obtain ⟨⟨c1,d1,f1,s1⟩,g1,c1',f1'⟩:=hi
 obtain ⟨⟨c2,d2,f2,s2⟩,g2,c2',n2,f2'⟩:=ht
 dsimp only at c1' f1' c2' f2'
 subst c1' f1' c2' f2'
 obtain ⟨hp,g,d,tk,os⟩:=z
 unfold Builtin.SmallTypes.nextOf
 refine wpAny_bind (wpAny_callSpecial?_slot (name:=Str.ofString "__next__") hty F.slot_tuple_iterator_next (wpAny_call_entry F.slot_tuple_iterator_next hty F.entry_tuple_iterator_next ?_ (F.args_tuple_iterator_next_1 _)))
 unfold Builtin.«tuple_iterator.__next__»
 wp_walk using AutoSeq1.wpAny_loadPart' g1,AutoSeq1.wpAny_loadPart' g2
 have e:its[((i:Nat):Int).toNat]?=some x:=hx
 rw [e]
 dsimp only
 apply wpAny_bind
 apply wpAny_setField g1 rfl (by simp)
 apply wpAny_pure
 refine ⟨x,rfl,?_⟩
 apply wpAny_pure
 apply k
 ·exact ⟨_,Heap.get?_update_self _ g1 rfl,rfl,by simp [Obj.mapFields,rawInt]⟩
 ·exact Heap.SameBut.update ..
theorem vC {z:Shared} {ti tp:Addr} {i:Nat} {its:Array Value} {Q:Value->Shared->Prop} (hh:A.handled=none) (hi:z.heap.IsTupleIter ti tp i) (ht:z.heap.IsTuple tp its) (hx:its[i]?=none)
  (k:∀ g e,Heap.ExtBut ti z.heap g->(∃ o,g.get? e=some o/\o.cls=.type "StopIteration")->E (.ref e) { z with heap:=g }):wpAny (model prog w) A (Builtin.SmallTypes.nextOf (.ref ti)) Q E z:=by
 have hty:=hi.typeIs
 obtain ⟨⟨c1,d1,f1,s1⟩,g1,c1',f1'⟩:=hi
 obtain ⟨⟨c2,d2,f2,s2⟩,g2,c2',n2,f2'⟩:=ht
 dsimp only at c1' f1' c2' f2'
 subst c1' f1' c2' f2'
 obtain ⟨hp,g,d,tk,os⟩:=z
 unfold Builtin.SmallTypes.nextOf
 refine wpAny_bind (wpAny_callSpecial?_slot (name:=Str.ofString "__next__") hty F.slot_tuple_iterator_next (wpAny_call_entry F.slot_tuple_iterator_next hty F.entry_tuple_iterator_next ?_ (F.args_tuple_iterator_next_1 _)))
 unfold Builtin.«tuple_iterator.__next__»
 wp_walk using AutoSeq1.wpAny_loadPart' g1,AutoSeq1.wpAny_loadPart' g2
 have e:its[((i:Nat):Int).toNat]?=none:=hx
 rw [e]
 dsimp only
 apply wpAny_bind
 apply wpAny_rule
 apply wpAny_bind
 apply wpAny_setField g1 rfl (by simp)
 refine oh hh fun g e kp hc=>k g e (fun b o hb q=>kp b o ?_) hc
 exact (Heap.SameBut.update ..).extBut b o hb q
theorem lZ {α:Type} {m:Sem α} {S Q:α->Shared->Prop} {E:Value->Shared->Prop} {z:Shared} (h:wpAny (model prog w) A m S (fun _ _=>False) z) (k:∀ a z1,S a z1->Q a z1):wpAny (model prog w) A m Q E z:=wpAny_mono h k fun _ _ f=>f.elim
theorem rA {b:Bool} {Q:Bool->Shared->Prop} {E:Value->Shared->Prop} {z:Shared} (h:∀ b,Q b z):wpAny (model prog w) A (pure b) Q E z:=wpAny_pure (h b)
theorem tM {x:Value} {S:Addr->Shared->Prop} {z:Shared} {Q:Value->Shared->Prop} (hx:∀ A:Around,wpAny (model prog w) A (pyIter x) (fun v z1=>∃ it,v=.ref it/\S it z1) (fun _ _=>False) z)
  (k:∀ it z1,S it z1->Q (.ref z1.heap.objs.size) { z1 with heap:=z1.heap.push { cls:=.type "enumerate",data:=.fields #[.none,.bool false,.ref it,rawInt 0,.none,.none] } }):wpAny (model prog w) A (call (.type "enumerate") [x]) Q E z:=by
 have body:MeetsIn prog w (Builtin.«enumerate.__new__» ⟨[.type "enumerate",x],[]⟩) (fun A R s=>s=z/\∀ it z1,S it z1->R (.ok (.ret (.ref z1.heap.objs.size))) { z1 with heap:=z1.heap.push { cls:=.type "enumerate",data:=.fields #[.none,.bool false,.ref it,rawInt 0,.none,.none] } }):=by
  rintro A R s ⟨rfl,hR⟩
  have hsub:=sub_enumerate
  have iter:=hx A.in1
  obtain ⟨hp,g,d,tk,os⟩:=s
  wp_walk
  refine wpAny_stack_any fun st=>rA fun b=>?_
  have done:∀ it z1,S it z1->wpAny (model prog w) A.in1 (do let r <- Builtin.SmallTypes.newRecord (.type "enumerate") (Builtin.SmallTypes.ownedTupleFields ++ [.ref it,rawInt 0,.none,.none]); ret r)
    (fun fin s'=>match fin with | .done f=>R (.ok f) s' | .again c'=>c'.quiet=true/\codeAny (model prog w) A c' R s') (fun e s'=>R (.error e) s') z1:=by
   intro it z1 h1
   have:=hR it z1 h1
   obtain ⟨hp1,gg1,dd1,tk1,os1⟩:=z1
   wp_walk
   exact this
  cases b
  ·wp_walk using lZ iter
   rintro _ z1 ⟨it,rfl,h1⟩
   exact done it z1 h1
  ·wp_walk using lZ iter
   rintro _ z1 ⟨it,rfl,h1⟩
   exact done it z1 h1
 refine callType_newIn F.called_enumerate (by decide) (F.typeCall_enumerate_1 _) (F.newCall_enumerate_1 _) (fun obj=>F.args_object_init_2 obj _) F.entry_enumerate_new body ⟨rfl,fun it z1 h=>?_⟩
 exact ⟨⟨_,Heap.get?_push_size _ rfl,rfl⟩,k it z1 h⟩
theorem mZ:iS prog w where
 draws:=fun hh ti tp hne its=>{
  live:=fun i h st=>let ⟨o,e,_⟩:=st.1; ⟨o,e⟩
  frame:=fun i h h' st kp=>by
   obtain ⟨⟨o1,e1,r1⟩,⟨o2,e2,r2⟩⟩:=st
   exact ⟨⟨o1,kp ti (by simp) _ e1,r1⟩,⟨o2,kp tp (by simp) _ e2,r2⟩⟩
  item:=fun i s Q E hi st k=>by
   refine tf st.1 st.2 (x:=its[i]) (by simp [hi]) fun g h1 h2=>k its[i] g s.toks (by simp [hi]) ⟨h1,st.2.extBut h2.extBut hne⟩ h2
  done:=fun s Q E st k=>vC hh st.1 st.2 (by simp) fun g e h1 h2=>k g e h1 h2 }
 call:=fun {A E z tp its Q} ht k=>by
  refine tM (S:=fun it z1=>it=z.heap.objs.size/\z1={ z with heap:=z.heap.push { cls:=.type "tuple_iterator",data:=.fields #[.ref tp,rawInt 0] } }) (fun A=>wpAny_pyIter_tuple ht ⟨_,rfl,rfl,rfl⟩) ?_
  rintro it z1 ⟨rfl,rfl⟩
  have hz:(z.heap.push { cls:=.type "tuple_iterator",data:=.fields #[.ref tp,rawInt 0] }).objs.size=z.heap.objs.size+1:=Heap.size_push ..
  dsimp only
  rw [hz]
  refine k _ ?_ ⟨_,Heap.get?_push_of_some _ (Heap.get?_push_size _ rfl),rfl,rfl⟩ fun b o e=>Heap.get?_push_of_some _ (Heap.get?_push_of_some _ e)
  have:=Heap.get?_push_size (z.heap.push { cls:=.type "tuple_iterator",data:=.fields #[.ref tp,rawInt 0] }) (o:={ cls:=.type "enumerate",data:=.fields #[.none,.bool false,.ref z.heap.objs.size,rawInt 0,.none,.none] }) rfl
  rw [hz] at this
  exact this
end
end L2
namespace RS
open PySem PySem.Spec PyProof.Rows L2
section
variable {X:Cx} {cl:RL.Cl} {a b:Expr} {a' b':RL.E} {pos p p2 pos2:Pos} {M:List Nat}
theorem oC:∀ {bs:List Bool} {us:List Value},Vals (bs.map V.bl) us->us=bs.map Value.bool
 | [],_,h=>by cases h; rfl
 | b :: bs,_,h=>by
  cases h with
  | cons r t =>
   cases r
   rw [oC t]
   rfl
theorem tZ {A:Around} {bs:List Bool}:TruthOf X.prog X.w A (fun i v=>(bs.map Value.bool).toArray[i]?=some v) (fun i=>bs.getD i false):=by
 intro i v s Q E hP q
 have hP':(bs.map Value.bool)[i]?=some v:=by simpa using hP
 rw [List.getElem?_map] at hP'
 obtain ⟨b,h1,h2⟩:=map_some hP'
 subst h2
 have:bs.getD i false=b:=by rw [List.getD_eq_getElem?_getD,h1]; rfl
 have q':Q b s:=this ▸ q
 exact wpAny_truthy_bool q'
theorem range_all (bs:List Bool):(List.range bs.length).all (fun i=>bs.getD i false)=bs.all id:=by
 have:bs=(List.range bs.length).map fun i=>bs.getD i false:=by
  apply List.ext_getElem
  ·simp
  ·intro i h1 h2
   simp [List.getD_eq_getElem?_getD,h1]
 conv=>rhs; rw [this]
 rw [List.all_map]
 rfl
noncomputable def xu (f:List Bool->Bool):List V->Hp->VK->Prop:=fun xs H Q=>∃ p bs,xs=[.ref p]/\H p=some (.lst (bs.map V.bl))/\Q (.bl (f bs)) H
theorem uJ (hc:X.calm=true):aZ X (.builtin "all") (xu fun bs=>bs.all id):=by
 intro pins s σ H xs us Q I r h
 obtain ⟨p,bs,rfl,hp,q⟩:=h
 cases r with
 | cons r rr =>
  cases rr
  cases r
  obtain ⟨its,rv,hl,hz⟩:=I.list (SqL.of hp)
  have hits:=oC rv
  subst hits
  have hlt:p<s.heap.objs.size:=by obtain ⟨o,ho,_⟩:=hl.isList; exact Heap.lt_size ho
  refine call_all_walk (wpAny_pyIter_list hl.isList ?_)
  refine ⟨s.heap.objs.size,_,[s.heap.objs.size],_,_,_,_,rfl,Walks.list (A:=X.A.in1) (I.ok.hd hc) s.heap.objs.size p (Nat.ne_of_lt hlt) (bs.map Value.bool).toArray,⟨⟨_,Heap.get?_push_size _ rfl,rfl,rfl⟩,hl.isList.push _⟩,tZ,fun h' tk hk=>?_⟩
  refine ⟨.bl (bs.all id),H,I.kept (t':=tk) (fun b o e=>hk b o (fun z=>?_) (Heap.get?_push_of_some _ e)),?_,q⟩
  ·rw [List.mem_singleton.mp z] at e
   exact absurd (Heap.lt_size e) (Nat.lt_irrefl _)
  ·have:=range_all bs
   show Value.bool _=Value.bool _
   rw [<- this]
   simp
theorem nO {P:Addr->Prop} {K:PySem.W.Frag} {H:Hp}:∀ {ds:List RL.D} {bs:List Bool} {xs:List V},RL.cA ds=some bs->aa P K H ds xs->xs=bs.map V.bl
 | [],bs,xs,h,r=>by rw [RL.cA] at h; cases h; rw [aa] at r; exact r
 | d :: ds,bs,xs,h,r=>by
  cases d <;> simp only [RL.cA] at h <;> first | (cases h; done) | skip
  rename_i b
  obtain ⟨bs',h1,h2⟩:=map_some h
  subst h2
  rw [aa] at r
  obtain ⟨x,t,rfl,r1,r2⟩:=r
  rw [aH r1,nO h1 r2]
  rfl
theorem yk (hc:X.calm=true) (hg:Gl X "all") (hm:X.mg "all" = none) (ha:SE X cl a a') (hn:noStar a=true):SE X cl (.Call (.Name "all" p) [a] [] pos) (.bi .all a'):=by
 refine fq (uJ hc) hg hm (by decide +kernel) ha hn (by decide) (by decide) fun σD σ H H1 y d v Q e s1 r1 k=>?_
 cases y <;> simp only [RL.biV] at e <;> first | (cases e; done) | skip
 case lst ds =>
  obtain ⟨bs,e1,e2⟩:=map_some e
  subst e2
  obtain ⟨q,xs,rfl,_,f2,f3⟩:=a4 r1
  rw [nO e1 f3] at f2
  exact ⟨q,bs,rfl,f2,k _ _ (bW s1 mP rfl)⟩
theorem xp {elts:List Expr} {kx:Nat} {tp:Pos} (hg:Gl X "enumerate") (hm:X.mg "enumerate" = none) (ha:SE X cl a a') (hn:noStar a=true):SI X cl (.Tuple elts kx tp) (.Call (.Name "enumerate" p) [a] [] pos) (.enm a'):=yV mZ hg hm ha hn
theorem iZ {P:Addr->Prop} {K:PySem.W.Frag} {H:Hp}:∀ {ds:List RL.D} {is:List Int} {xs:List V},RL.bM ds=some is->aa P K H ds xs->xs=is.map V.int
 | [],is,xs,h,r=>by rw [RL.bM] at h; cases h; rw [aa] at r; exact r
 | d :: ds,is,xs,h,r=>by
  cases d <;> simp only [RL.bM] at h <;> first | (cases h; done) | skip
  rename_i b
  obtain ⟨bs',h1,h2⟩:=map_some h
  subst h2
  rw [aa] at r
  obtain ⟨x,t,rfl,r1,r2⟩:=r
  rw [af r1,iZ h1 r2]
  rfl
noncomputable def k7 (ns:List Int):List Int:=firstMet (fun i=>ns.getD i 0) ns.length
theorem wH (ns:List Int):k7 ns=RL.gj ns:=by
 unfold k7 firstMet RL.gj
 have:(List.range ns.length).map (fun i=>ns.getD i 0)=ns:=by
  apply List.ext_getElem
  ·simp
  ·intro i h1 h2
   simp [List.getD_eq_getElem?_getD,h2]
 rw [this]
 rfl
theorem rM (hc:X.calm=true):aZ X (.type "set") (fun xs H Q=>∃ p ns,xs=[.ref p]/\H p=some (.lst (ns.map V.int))/\ns.length<=1000/\∀ l,H l=none->Q (.ref l) (upd H l (.set (fun k=>(k7 ns).any (· == k)) (k7 ns).length))):=by
 intro pins s σ H xs us Q I r h
 obtain ⟨p,ns,rfl,hp,hn,q⟩:=h
 cases r with
 | cons r rr =>
  cases rr
  cases r
  obtain ⟨its,rv,hl,hz⟩:=I.list (SqL.of hp)
  have hlen:its.length=ns.length:=by
   have:=rv.length
   simp at this
   exact this.symm
  have hf:H s.heap.objs.size=none:=I.hok.fresh (Nat.le_refl _)
  refine call_set_list (I.ok.hd hc) hl.isList (ns:=ns) (by simpa using intsAre_of rv) (by rw [List.size_toArray,hlen]; show ns.length+1<4096; omega) fun h' tk hS hk=>?_
  have hsz:its.toArray.size=ns.length:=by rw [List.size_toArray]; exact hlen
  rw [hsz] at hS
  exact ⟨.ref s.heap.objs.size,_,I.laid (o:=.set (fun k=>(k7 ns).any (· == k)) (k7 ns).length) (t':=tk) (fun b u e=>hk b u (Heap.lt_size e) e) (Nat.le_refl _) hS,rfl,q _ hf⟩
theorem qr:aZ X (.builtin "len") (fun xs H Q=>∃ p S n,xs=[.ref p]/\H p=some (.set S n)/\Q (.int (n:Nat)) H):=by
 intro pins s σ H xs us Q I r h
 obtain ⟨p,S,n,rfl,hp,q⟩:=h
 cases r with
 | cons r rr =>
  cases rr
  cases r
  obtain ⟨o,es,ep,t,h1,h2,h3,h4,h5,h6,h7,h8⟩:=I.hok p _ hp
  refine call_len_set h1 h2 h3 h7 (by have:scanBound=4096:=rfl; omega) ?_
  rw [h8]
  exact ⟨.int n,H,I.tok _,⟨_,rfl⟩,q⟩
theorem si (hc:X.calm=true) (hgl:Gl X "len") (hml:X.mg "len" = none) (hg:Gl X "set") (hm:X.mg "set" = none) (ha:SE X cl a a') (hn:noStar a=true):SE X cl (.Call (.Name "len" p2) [.Call (.Name "set" p) [a] [] pos] [] pos2) (.bi .lenSet a'):=by
 refine PE.weak (gR qr hgl hml PySem.boot_len (bA (bH (rM hc) hg hm (by decide +kernel) (aX (cl:=cl) ha bQ hn) (by decide) (by decide) (aw [] hn) rfl) d9) (by decide) (by decide) rfl rfl) fun σ H Q h=>?_
 obtain ⟨σD,d,rv,e,k⟩:=h
 rw [RL.ev] at e
 obtain ⟨y,ea,e⟩:=bind_some e
 refine one rv ea fun v H1 s1 r1=>?_
 cases y <;> simp only [RL.biV] at e <;> first | (cases e; done) | skip
 case lst ds =>
  split at e
  ·rename_i hl
   obtain ⟨is,e1,e2⟩:=map_some e
   subst e2
   obtain ⟨q,xs,rfl,_,f2,f3⟩:=a4 r1
   have hx:=iZ e1 f3
   rw [hx] at f2
   have hil:is.length<=1000:=by
    have:=f3.length
    rw [hx] at this
    simp at this
    omega
   refine ⟨q,is,rfl,f2,hil,fun l hl2=>⟨l,_,_,rfl,aN,?_⟩⟩
   rw [wH]
   exact k _ _ (bW (s1.trans (ao.bc hl2)) aI rfl)
  ·cases e
theorem xS {l e:Expr} {e':RL.E} {i:Nat} {A B:List Stmt} {A' B':RL.Ss} (hl:PE X l (uI X.K "list" uk (hZ i))) (he:SE X cl e e') (ha:SSs X cl M A A') (hb:SSs X cl M B B') (hi:M.contains i=true):SS X cl M (.If (.Compare l [.NotEq] [e] pos) A B pos2) (.ifp i e' A' B'):=by
 refine PS.weak (vi (ko Bd hl he (nY _)) ha hb) fun D σ H h=>?_
 obtain ⟨σD,o,σD',rv,ev,k⟩:=h
 rw [RL.evS] at ev
 obtain ⟨l,e3,ev⟩:=bind_some ev
 cases l with
 | lst ds =>
  obtain ⟨d,e4,ev⟩:=bind_some ev
  obtain ⟨y,e5,ev⟩:=bind_some ev
  obtain ⟨v,h1,h2⟩:=rv.val i _ (slot_get e3)
  rw [if_pos hi] at h2
  obtain ⟨q1,q2,q3⟩:=h2
  obtain ⟨a,xs,rfl,_,f2,f3⟩:=a4 q3
  obtain ⟨u,f4,f5⟩:=f3.get e4
  have im:=k0 q2
  obtain ⟨g1,g2⟩:=rv.gm (d':=.lst ds.dropLast) (o':=.lst xs.dropLast) hi h1 f2 (.inl ⟨_,rfl⟩) (k6 (ds:=ds) f2 im f3.dropLast)
  cases d with
  | int m =>
   cases y with
   | int n =>
    refine ⟨.ref a,h1,.inl ⟨rfl,xs,SqL.of f2⟩,a,xs,u,rfl,rfl,f2,by rw [<- f3.length]; exact f4,?_⟩
    refine ⟨_,_,g1.rv0,e5,fun w H1 r1=>?_⟩
    rw [af f5,af r1.rep]
    have k1:=k.from (g2.trans (Fr'.same (σ:=σ) r1.same))
    refine ⟨rfl,_,rfl,?_⟩
    dsimp only at ev
    by_cases hmn:m=n
    ·rw [if_pos (by simpa using hmn)] at ev
     have hd:(!decide (V.int m=V.int n))=false:=by rw [hmn]; simp
     rw [hd]
     exact eu ⟨_,o,σD',g1.same r1.same,ev,k1⟩
    ·rw [if_neg (by simpa using hmn)] at ev
     have hd:(!decide (V.int m=V.int n))=true:=by
      have:V.int m≠V.int n:=fun z=>hmn (by injection z)
      simp [this]
     rw [hd]
     exact cZ ⟨_,o,σD',g1.same r1.same,ev,k1⟩
   | _=>cases ev
  | _=>cases ev
 | _=>cases ev
end
end RS
namespace L2
open PySem PySem.Spec PyProof.Rows
section
variable {prog:Program} {w:World} {A:Around} {E:Value->Shared->Prop}
theorem vZ {x y:Value} {S1:Addr->Shared->Prop} {S2:Addr->Addr->Shared->Prop} {z:Shared} {Q:Value->Shared->Prop} (hx:∀ A:Around,wpAny (model prog w) A (pyIter x) (fun v z1=>∃ it,v=.ref it/\S1 it z1) (fun _ _=>False) z)
  (hy:∀ it z1,S1 it z1->∀ A:Around,wpAny (model prog w) A (pyIter y) (fun v z2=>∃ jt,v=.ref jt/\S2 it jt z2) (fun _ _=>False) z1)
  (k:∀ it jt z2,S2 it jt z2->Q (.ref (((z2.heap.push { cls:=.type "tuple",data:=.seq #[.ref it,.ref jt] }).push { cls:=.type "tuple",data:=.seq #[.none,.none] })).objs.size)
   { z2 with heap:=((z2.heap.push { cls:=.type "tuple",data:=.seq #[.ref it,.ref jt] }).push { cls:=.type "tuple",data:=.seq #[.none,.none] }).push { cls:=.type "zip",data:=.fields #[.none,.bool false,.bool false,.ref z2.heap.objs.size,.ref (z2.heap.push { cls:=.type "tuple",data:=.seq #[.ref it,.ref jt] }).objs.size] } }) :
  wpAny (model prog w) A (call (.type "zip") [x,y]) Q E z:=by
 have body:MeetsIn prog w (Builtin.«zip.__new__» ⟨[.type "zip",x,y],[]⟩) (fun A R s=>s=z/\∀ it jt z2,S2 it jt z2->R (.ok (.ret (.ref (((z2.heap.push { cls:=.type "tuple",data:=.seq #[.ref it,.ref jt] }).push { cls:=.type "tuple",data:=.seq #[.none,.none] })).objs.size)))
   { z2 with heap:=((z2.heap.push { cls:=.type "tuple",data:=.seq #[.ref it,.ref jt] }).push { cls:=.type "tuple",data:=.seq #[.none,.none] }).push { cls:=.type "zip",data:=.fields #[.none,.bool false,.bool false,.ref z2.heap.objs.size,.ref (z2.heap.push { cls:=.type "tuple",data:=.seq #[.ref it,.ref jt] }).objs.size] } }):=by
  rintro A R s ⟨rfl,hR⟩
  have hsub:=sub_zip
  have iter:=hx A.in1
  obtain ⟨hp,g,d,tk,os⟩:=s
  wp_walk using lZ iter
  rintro _ z1 ⟨it,rfl,h1⟩
  have iter2:=hy it z1 h1 A.in1
  obtain ⟨hp1,gg1,dd1,tk1,os1⟩:=z1
  wp_walk using lZ iter2
  rintro _ z2 ⟨jt,rfl,h2⟩
  have fin:=hR it jt z2 h2
  obtain ⟨hp2,gg2,dd2,tk2,os2⟩:=z2
  wp_walk
  exact fin
 refine callType_newIn F.called_zip (by decide) (F.typeCall_zip_2 _ _) (F.newCall_zip_2 _ _) (fun obj=>F.args_object_init_3 obj _ _) F.entry_zip_new body ⟨rfl,fun it jt z2 h=>?_⟩
 exact ⟨⟨_,Heap.get?_push_size _ rfl,rfl⟩,k it jt z2 h⟩
structure fK (z TI TO i1 i2:Addr) (fp1 fp2:List Addr):Prop where
 zTI:TI≠z
 zTO:TO≠z
 TT:TI≠TO
 i1z:i1≠z
 i2z:i2≠z
 BD:i1≠TO
 Bs:i2≠TO
 i12:i1≠i2
 z1:z∉fp1
 z2:z∉fp2
 TO1:TO∉fp1
 TO2:TO∉fp2
 i1f:i1∉fp2
 i2f:i2∉fp1
theorem tW {z TI TO i1 i2:Addr} {fp1 fp2:List Addr} {n1 n2 k:Nat} {P1 P2:Nat->Value->Prop} {S1 S2:Nat->Heap->Prop} {a b:Value} {s:Shared} {Q:Value->Shared->Prop} (Z:fK z TI TO i1 i2 fp1 fp2)
  (D1:Draws prog w A i1 fp1 n1 P1 S1) (D2:Draws prog w A i2 fp2 n2 P2 S2) (hz:IsZip s.heap z TI TO .none) (hTI:IsPair s.heap TI (.ref i1) (.ref i2)) (hTO:IsPair s.heap TO a b) (s1:S1 k s.heap) (s2:S2 k s.heap) (k1:k<n1) (k2:k<n2)
  (hQ:∀ x y g tk,P1 k x->P2 k y->IsZip g z TI TO (rawInt s.heap.objs.size)->IsPair g TO x y->S1 (k+1) g->S2 (k+1) g->IsPair g s.heap.objs.size x y->g.objs.size=s.heap.objs.size+1->(∀ c o,c≠z->c≠TO->c≠i1->c≠i2->s.heap.get? c=some o->g.get? c=some o)->Q (.ref s.heap.objs.size) { s with heap:=g,toks:=tk }) :
  wpAny (model prog w) A (Builtin.«zip.__next__» ⟨[.ref z],[]⟩) (fun fin s'=>∃ v,fin=.done (.ret v)/\Q v s') E s:=by
 obtain ⟨hp,g,d,tk,os⟩:=s
 have off:∀ (f:Obj->Obj) b o,b≠z->hp.get? b=some o->(hp.update z f).get? b=some o:=fun f b o hb e=>(Heap.SameBut.update ..).extBut b o hb e
 have st1:∀ f:Obj->Obj,S1 k (hp.update z f):=fun f=>D1.frame k _ _ s1 fun b hb o e=>off f b o (fun q=>Z.z1 (q ▸ hb)) e
 have st2:∀ f:Obj->Obj,S2 k (hp.update z f):=fun f=>D2.frame k _ _ s2 fun b hb o e=>off f b o (fun q=>Z.z2 (q ▸ hb)) e
 unfold Builtin.«zip.__next__»
 wp_walk using AutoSeq1.wpAny_loadPart' hz,AutoSeq1.wpAny_loadPart' hTI,wpAny_onRaise,(D1.item k _ _ _ k1 (st1 _))
 intro x h1 t1 px st1' sb1
 have q1:IsPair h1 TO a b:=sb1.extBut _ _ (Ne.symm Z.BD) (off _ TO _ Z.zTO hTO)
 have z1:IsZip h1 z TI TO .ellipsis:=sb1.extBut _ _ (Ne.symm Z.i1z) (Heap.get?_update_self _ hz rfl)
 have u1:=sb1.1
 have c1:∀ c o,c≠z->c≠i1->hp.get? c=some o->h1.get? c=some o:=fun c o n1 n2 e=>sb1.extBut _ _ n2 (off _ c o n1 e)
 clear sb1 st1 st2
 wp_walk using AutoSeq1.wpAny_loadPart' q1,(wpAny_updateSeq_pair q1)
 intro h2 q2 sb2
 replace q2:IsPair h2 TO x b:=q2
 have z2:IsZip h2 z TI TO .ellipsis:=sb2.extBut _ _ (Ne.symm Z.zTO) z1
 have c2:∀ c o,c≠z->c≠TO->c≠i1->hp.get? c=some o->h2.get? c=some o:=fun c o n1 n2 n3 e=>sb2.extBut _ _ n2 (c1 c o n1 n3 e)
 have e1:S1 (k+1) h2:=D1.frame _ _ _ st1' fun b hb o e=>sb2.extBut _ _ (fun q=>Z.TO1 (q ▸ hb)) e
 have e2:S2 k h2:=D2.frame _ _ _ s2 fun b hb o e=>c2 b o (fun q=>Z.z2 (q ▸ hb)) (fun q=>Z.TO2 (q ▸ hb)) (fun q=>Z.i1f (q ▸ hb)) e
 have u2:=sb2.1.trans u1
 clear sb2 u1 c1 z1 q1
 wp_walk using wpAny_onRaise,(D2.item k _ _ _ k2 e2)
 intro y h3 t3 py f2 sb3
 have q3:IsPair h3 TO x b:=sb3.extBut _ _ (Ne.symm Z.Bs) q2
 have z3:IsZip h3 z TI TO .ellipsis:=sb3.extBut _ _ (Ne.symm Z.i2z) z2
 have f1:S1 (k+1) h3:=D1.frame _ _ _ e1 fun b hb o e=>sb3.extBut _ _ (fun q=>Z.i2f (q ▸ hb)) e
 have c3:∀ c o,c≠z->c≠TO->c≠i1->c≠i2->hp.get? c=some o->h3.get? c=some o:=fun c o n1 n2 n3 n4 e=>sb3.extBut _ _ n4 (c2 c o n1 n2 n3 e)
 have u3:=sb3.1.trans u2
 clear sb3 u2 c2 z2 q2 e1 e2
 wp_walk using AutoSeq1.wpAny_loadPart' q3,(wpAny_updateSeq_pair q3)
 intro h4 q4 sb4
 replace q4:IsPair h4 TO x y:=q4
 have z4:IsZip h4 z TI TO .ellipsis:=sb4.extBut _ _ (Ne.symm Z.zTO) z3
 have g1:S1 (k+1) h4:=D1.frame _ _ _ f1 fun b hb o e=>sb4.extBut _ _ (fun q=>Z.TO1 (q ▸ hb)) e
 have g2:S2 (k+1) h4:=D2.frame _ _ _ f2 fun b hb o e=>sb4.extBut _ _ (fun q=>Z.TO2 (q ▸ hb)) e
 have c4:∀ c o,c≠z->c≠TO->c≠i1->c≠i2->hp.get? c=some o->h4.get? c=some o:=fun c o n1 n2 n3 n4 e=>sb4.extBut _ _ n2 (c3 c o n1 n2 n3 n4 e)
 have u4:=sb4.1.trans u3
 clear sb4 u3 c3 z3 q3 f1 f2
 wp_walk using AutoSeq1.wpAny_loadPart' q4
 have u0:h4.objs.size=hp.objs.size:=u4.trans (Heap.SameBut.update ..).1
 refine ⟨_,rfl,?_⟩
 show Q (.ref h4.objs.size) _
 have zp:IsZip (h4.push { cls:=.type "tuple",data:=.seq #[x,y].toList.toArray }) z TI TO .ellipsis:=Heap.get?_push_of_some _ z4
 have zlt:z<h4.objs.size:=Heap.lt_size z4
 have up:∀ (f f':Obj->Obj) c o,c≠z->(h4.push { cls:=.type "tuple",data:=.seq #[x,y].toList.toArray }).get? c=some o->(((h4.push { cls:=.type "tuple",data:=.seq #[x,y].toList.toArray }).update z f).update z f').get? c=some o:=fun f f' c o hc e =>
  (Heap.SameBut.update ..).extBut c o hc ((Heap.SameBut.update ..).extBut c o hc e)
 have goal:=hQ x y (((h4.push { cls:=.type "tuple",data:=.seq #[x,y].toList.toArray }).update z (Obj.mapFields (·.setIfInBounds 0 (rawInt h4.objs.size)))).update z (Obj.mapFields (·.setIfInBounds 1 (.bool false)))) t3 px py ?_ ?_ ?_ ?_ ?_ ?_ ?_
 ·rw [u0] at goal ⊢
  exact goal
 ·rw [<- u0]
  exact Heap.get?_update_self _ (Heap.get?_update_self _ zp rfl) rfl
 ·exact up _ _ _ _ Z.zTO (Heap.get?_push_of_some _ q4)
 ·exact D1.frame _ _ _ g1 fun b hb o e=>up _ _ _ _ (fun q=>Z.z1 (q ▸ hb)) (Heap.get?_push_of_some _ e)
 ·exact D2.frame _ _ _ g2 fun b hb o e=>up _ _ _ _ (fun q=>Z.z2 (q ▸ hb)) (Heap.get?_push_of_some _ e)
 ·show IsPair _ hp.objs.size x y
  rw [<- u0]
  exact up _ _ _ _ (Nat.ne_of_gt zlt) (Heap.get?_push_size _ rfl)
 ·refine ((Heap.SameBut.update ..).1.trans ((Heap.SameBut.update ..).1.trans ((Heap.size_push ..).trans ?_)))
  show h4.objs.size+1=hp.objs.size+1
  rw [u0]
 ·exact fun c o n1 n2 n3 n4 e=>up _ _ _ _ n1 (Heap.get?_push_of_some _ (c4 c o n1 n2 n3 n4 e))
theorem wq {z TI TO i1 i2:Addr} {fp1 fp2:List Addr} {n1:Nat} {P1:Nat->Value->Prop} {S1:Nat->Heap->Prop} {a b:Value} {s:Shared} {Q:Fin->Shared->Prop} (Z:fK z TI TO i1 i2 fp1 fp2)
  (D1:Draws prog w A i1 fp1 n1 P1 S1) (hz:IsZip s.heap z TI TO .none) (hTI:IsPair s.heap TI (.ref i1) (.ref i2)) (hTO:IsPair s.heap TO a b) (s1:S1 n1 s.heap)
  (hE:∀ g e,(∀ c o,c≠z->c≠i1->s.heap.get? c=some o->g.get? c=some o)->(∃ o,g.get? e=some o/\o.cls=.type "StopIteration")->E (.ref e) { s with heap:=g }) :
  wpAny (model prog w) A (Builtin.«zip.__next__» ⟨[.ref z],[]⟩) Q E s:=by
 obtain ⟨hp,g,d,tk,os⟩:=s
 have off:∀ (f:Obj->Obj) b o,b≠z->hp.get? b=some o->(hp.update z f).get? b=some o:=fun f b o hb e=>(Heap.SameBut.update ..).extBut b o hb e
 have st1:∀ f:Obj->Obj,S1 n1 (hp.update z f):=fun f=>D1.frame n1 _ _ s1 fun b hb o e=>off f b o (fun q=>Z.z1 (q ▸ hb)) e
 unfold Builtin.«zip.__next__»
 wp_walk using AutoSeq1.wpAny_loadPart' hz,AutoSeq1.wpAny_loadPart' hTI,wpAny_onRaise,(D1.done _ _ _ (st1 _))
 rintro h1 e eb ⟨oe,he,hce⟩
 have z1:IsZip h1 z TI TO .ellipsis:=eb _ _ (Ne.symm Z.i1z) (Heap.get?_update_self _ hz rfl)
 have ez:e≠z:=fun q=>by
  rw [q,z1] at he
  have:=Option.some.inj he
  rw [<- this] at hce
  simp at hce
 refine wpAny_setField_rec z1 (by simp) fun h2 _ sb2=>?_
 exact hE h2 e (fun c o n1 n2 q=>sb2.extBut _ _ n1 (eb _ _ n2 (off _ _ _ n1 q))) ⟨oe,sb2.extBut _ _ ez he,hce⟩
end
section
variable {prog:Program} {w:World} {A:Around} {E:Value->Shared->Prop} {z TI TO i1 i2:Addr} {fp1 fp2:List Addr} {n1 n2 k:Nat} {P1 P2:Nat->Value->Prop} {S1 S2:Nat->Heap->Prop} {a b:Value} {s:Shared}
theorem sD {Q:Option Value->Shared->Prop} (Z:fK z TI TO i1 i2 fp1 fp2) (D1:Draws prog w A.in1 i1 fp1 n1 P1 S1) (D2:Draws prog w A.in1 i2 fp2 n2 P2 S2) (hz:IsZip s.heap z TI TO .none) (hTI:IsPair s.heap TI (.ref i1) (.ref i2)) (hTO:IsPair s.heap TO a b) (s1:S1 k s.heap) (s2:S2 k s.heap) (k1:k<n1) (k2:k<n2)
  (hQ:∀ x y g tk,P1 k x->P2 k y->IsZip g z TI TO (rawInt s.heap.objs.size)->IsPair g TO x y->S1 (k+1) g->S2 (k+1) g->IsPair g s.heap.objs.size x y->g.objs.size=s.heap.objs.size+1->(∀ c o,c≠z->c≠TO->c≠i1->c≠i2->s.heap.get? c=some o->g.get? c=some o)->Q (some (.ref s.heap.objs.size)) { s with heap:=g,toks:=tk }) :
  wpAny (model prog w) A (pyNext (.ref z)) Q E s:=by
 have hT:s.TypeIs (.ref z) "zip" := ⟨_,hz,rfl⟩
 unfold pyNext
 apply wpAny_bind
 apply wpAny_attempt
 apply wpAny_callSpecial?_slot (name:=Str.ofString "__next__") hT F.slot_zip_next
 refine wpAny_call_entry F.slot_zip_next hT F.entry_zip_next ?_ (F.args_zip_next_1 _)
 refine tW Z D1 D2 hz hTI hTO s1 s2 k1 k2 fun x y g tk px py q1 q2 q3 q4 q5 q6 q7=>?_
 apply wpAny_pure
 exact hQ x y g tk px py q1 q2 q3 q4 q5 q6 q7
theorem sv {Q:Option Value->Shared->Prop} (Z:fK z TI TO i1 i2 fp1 fp2) (D1:Draws prog w A.in1 i1 fp1 n1 P1 S1) (hz:IsZip s.heap z TI TO .none) (hTI:IsPair s.heap TI (.ref i1) (.ref i2)) (hTO:IsPair s.heap TO a b) (s1:S1 n1 s.heap)
  (hQ:∀ g,(∀ c o,c≠z->c≠i1->s.heap.get? c=some o->g.get? c=some o)->Q none { s with heap:=g }):wpAny (model prog w) A (pyNext (.ref z)) Q E s:=by
 have hT:s.TypeIs (.ref z) "zip" := ⟨_,hz,rfl⟩
 unfold pyNext
 apply wpAny_bind
 apply wpAny_attempt
 apply wpAny_callSpecial?_slot (name:=Str.ofString "__next__") hT F.slot_zip_next
 refine wpAny_call_entry F.slot_zip_next hT F.entry_zip_next ?_ (F.args_zip_next_1 _)
 refine wq Z D1 hz hTI hTO s1 fun g e hk ⟨o,he,hc⟩=>?_
 apply wpAny_bind
 refine wpAny_isInstance (T := "StopIteration") (b:=true) ⟨_,he,hc⟩ isSubtype_stop ?_
 apply wpAny_pure
 exact hQ g hk
end
end L2
namespace L2
open PySem PySem.Spec PyProof.Rows
noncomputable def cK (t:Bool) (xs:List V):HO:=if t then .tup xs else .lst xs
noncomputable def fE (t:Bool) (it l:Addr) (i:Nat) (h:Heap):Prop:=if t then h.IsTupleIter it l i else h.IsListIter it l i
theorem fE.obj {t:Bool} {it l:Addr} {i:Nat} {h:Heap} (st:fE t it l i h):∃ o,h.get? it=some o/\∀ v,o.data≠.cell v:=by
 cases t with
 | true=>exact let ⟨o,ho,_,hd⟩:=(show h.IsTupleIter it l i from st); ⟨o,ho,fun v q=>by rw [hd] at q; cases q⟩
 | false=>exact let ⟨o,ho,_,hd⟩:=(show h.IsListIter it l i from st); ⟨o,ho,fun v q=>by rw [hd] at q; cases q⟩
theorem fE.keep {t:Bool} {it l:Addr} {i:Nat} {h h':Heap} (st:fE t it l i h) (k:∀ o,h.get? it=some o->h'.get? it=some o):fE t it l i h':=by
 cases t with
 | true=>exact let ⟨o,ho,r⟩:=(show h.IsTupleIter it l i from st); ⟨o,k o ho,r⟩
 | false=>exact (show h.IsListIter it l i from st).at fun o q=>k o q
theorem hU {X:Cx} {t:Bool} {it l:Addr} (hc:X.calm=true) {pins:List (Addr × Obj)} {s:Shared} {σ:St} {H:Hp} {xs:List V} (I:Inv X pins σ H s) (hi:H it=none) (hx:H l=some (cK t xs)) :
  ∃ (Pv:Nat->Value->Prop) (St:Nat->Heap->Prop),Draws X.prog X.w X.A.in1 it [it,l] xs.length Pv St/\(∀ i,fE t it l i s.heap->St i s.heap)/\(∀ i h,St i h->fE t it l i h)/\∀ i v,Pv i v->∃ x,xs[i]?=some x/\RelV x v:=by
 have hh:X.A.in1.handled=none:=I.ok.hd hc
 have back:∀ {its:List Value},Vals xs its->∀ (i:Nat) (v:Value),its.toArray[i]?=some v->∃ x,xs[i]?=some x/\RelV x v:=fun {its} rv i v hv=>by
  have hv:its[i]?=some v:=by simpa using hv
  have hlt:i<xs.length:=by rw [rv.length]; exact (List.getElem?_eq_some_iff.mp hv).1
  obtain ⟨u,h1,h2⟩:=rv.get (i:=i) (x:=xs[i]) (by simp [hlt])
  rw [hv] at h1
  cases h1
  exact ⟨xs[i],by simp [hlt],h2⟩
 cases t with
 | true =>
  have hx:H l=some (.tup xs):=hx
  obtain ⟨its,rv,p,hz⟩:=I.tuple (SqT.of hx)
  have D:=mZ.draws (prog:=X.prog) (w:=X.w) (A:=X.A.in1) hh it l (aC hx hi) its.toArray
  rw [show its.toArray.size=xs.length by rw [List.size_toArray,rv.length]] at D
  exact ⟨_,_,D,fun i st=>⟨st,p⟩,fun i h st=>st.1,back rv⟩
 | false =>
  have hx:H l=some (.lst xs):=hx
  obtain ⟨its,rv,p,hz⟩:=I.list (SqL.of hx)
  have D:=Draws.list (prog:=X.prog) (w:=X.w) (A:=X.A.in1) hh it l (aC hx hi) its.toArray
  rw [show its.toArray.size=xs.length by rw [List.size_toArray,rv.length]] at D
  exact ⟨_,_,D,fun i st=>⟨st,p.isList⟩,fun i h st=>st.1,back rv⟩
noncomputable def Itz (t1 t2:Bool) (l1 l2:Addr):It :=
 ⟨fun i H=>∃ xs ys x y,H l1=some (cK t1 xs)/\H l2=some (cK t2 ys)/\xs[i]?=some x/\ys[i]?=some y,
   fun i H v H'=>∃ p x y,H p=none/\v=.ref p/\H'=upd H p (.tup [x,y])/\(∀ xs,H l1=some (cK t1 xs)->xs[i]?=some x)/\∀ ys,H l2=some (cK t2 ys)->ys[i]?=some y,
   fun i H=>∃ xs ys,H l1=some (cK t1 xs)/\H l2=some (cK t2 ys)/\xs.length=i/\ys.length=i⟩
theorem nV {t:Bool} {xs ys:List V} (h:cK t xs=cK t ys):xs=ys:=by
 cases t <;> (injection h)
theorem uD {P:Program} {w:World} {K:PySem.W.Frag} {elts:List Expr} {kx:Nat} {tp:Pos} {t1 t2:Bool} {z TI TO i1 i2 l1 l2:Addr} (n1:TI≠z) (n2:TO≠z) (n3:TI≠TO) (n4:i1≠z) (n5:i2≠z) (n6:i1≠TO) (n7:i2≠TO) (n8:i1≠i2) (n9:i1≠TI) (n10:i2≠TI) :
  Turn P w K (.Tuple elts kx tp) (Itz t1 t2 l1 l2) [z,TI,TO,i1,i2] z (fun i h=>IsZip h z TI TO .none/\IsPair h TI (.ref i1) (.ref i2)/\(∃ a b,IsPair h TO a b)/\fE t1 i1 l1 i h/\fE t2 i2 l2 i h) where
 mem:=by simp
 obj:=fun i h st b hb=>by
  obtain ⟨h1,h2,⟨a,c,h3⟩,h4,h5⟩:=st
  simp only [List.mem_cons,List.mem_nil_iff,or_false] at hb
  rcases hb with rfl | rfl | rfl | rfl | rfl
  ·exact ⟨_,h1,fun v q=>by cases q⟩
  ·exact ⟨_,h2,fun v q=>by cases q⟩
  ·exact ⟨_,h3,fun v q=>by cases q⟩
  ·exact h4.obj
  ·exact h5.obj
 keep:=fun i h h' st k=>by
  obtain ⟨h1,h2,⟨a,c,h3⟩,h4,h5⟩:=st
  exact ⟨k z (by simp) _ h1,k TI (by simp) _ h2,⟨a,c,k TO (by simp) _ h3⟩,h4.keep fun o q=>k i1 (by simp) o q,h5.keep fun o q=>k i2 (by simp) o q⟩
 item:=by
  intro X hP hw hK hc i pins s σ H E I hf st hg
  subst hP hw hK
  obtain ⟨h1,h2,⟨a,c,h3⟩,h4,h5⟩:=st
  obtain ⟨xs,ys,x,y,hx,hy,ex,ey⟩:=hg
  have f:∀ b∈[z,TI,TO,i1,i2],H b=none:=fun b hb=>(hf b hb).1
  obtain ⟨Pv1,St1,D1,a1,a2,a3⟩:=hU hc I (f i1 (by simp)) hx
  obtain ⟨Pv2,St2,D2,b1,b2,b3⟩:=hU hc I (f i2 (by simp)) hy
  have no1:∀ b∈[z,TI,TO,i1,i2],b≠l1:=fun b hb q=>by have:=f b hb; rw [q,hx] at this; cases this
  have no2:∀ b∈[z,TI,TO,i1,i2],b≠l2:=fun b hb q=>by have:=f b hb; rw [q,hy] at this; cases this
  have Z:fK z TI TO i1 i2 [i1,l1] [i2,l2]:=by
   refine ⟨n1,n2,n3,n4,n5,n6,n7,n8,?_,?_,?_,?_,?_,?_⟩ <;> (simp only [List.mem_cons,List.mem_nil_iff,or_false,not_or])
   ·exact ⟨Ne.symm n4,no1 z (by simp)⟩
   ·exact ⟨Ne.symm n5,no2 z (by simp)⟩
   ·exact ⟨Ne.symm n6,no1 TO (by simp)⟩
   ·exact ⟨Ne.symm n7,no2 TO (by simp)⟩
   ·exact ⟨n8,no2 i1 (by simp)⟩
   ·exact ⟨Ne.symm n8,no1 i2 (by simp)⟩
  refine sD Z D1 D2 h1 h2 h3 (a1 i h4) (b1 i h5) (List.getElem?_eq_some_iff.mp ex).1 (List.getElem?_eq_some_iff.mp ey).1 fun u v g tk pu pv g1 g2 g3 g4 g5 g6 g7=>?_
  obtain ⟨x',ex',rx⟩:=a3 i u pu
  obtain ⟨y',ey',ry⟩:=b3 i v pv
  rw [ex] at ex'
  rw [ey] at ey'
  cases ex'
  cases ey'
  refine ⟨.ref s.heap.objs.size,rfl,wpAny_letOwnedTupleGo_zip g1 fun g' gz' sb=>?_⟩
  have hn:H s.heap.objs.size=none:=I.hok.fresh (Nat.le_refl _)
  have I1:Inv X pins σ (upd H s.heap.objs.size (.tup [x,y])) { s with heap:=s.heap.push { cls:=.type "tuple",data:=.seq #[u,v] },toks:=tk } :=
   I.laid (t':=tk) (fun b o q=>Heap.get?_push_of_some _ q) (Nat.le_refl _) ⟨by show 2<=sizeLine; decide,[u,v],.cons rx (.cons ry .nil),⟨_,Heap.get?_push_size _ rfl,rfl,_,rfl⟩⟩
  have lt:∀ b∈[z,TI,TO,i1,i2],b≠s.heap.objs.size:=fun b hb=>by
   have:∃ o,s.heap.get? b=some o:=by
    simp only [List.mem_cons,List.mem_nil_iff,or_false] at hb
    rcases hb with rfl | rfl | rfl | rfl | rfl
    ·exact ⟨_,h1⟩
    ·exact ⟨_,h2⟩
    ·exact ⟨_,h3⟩
    ·exact let ⟨o,q,_⟩:=h4.obj; ⟨o,q⟩
    ·exact let ⟨o,q,_⟩:=h5.obj; ⟨o,q⟩
   obtain ⟨o,q⟩:=this
   exact Nat.ne_of_lt (Heap.lt_size q)
  have stat:∀ b∈[z,TI,TO,i1,i2],upd H s.heap.objs.size (.tup [x,y]) b=none/\(b∈X.ex\/X.s₀.heap.objs.size<=b)/\b≠X.env.locals/\(∀ x c,X.env.cells.lookup x=some c->c≠b)/\∀ p∈X.pn ++ pins,p.1≠b:=fun b hb=>by
   obtain ⟨f0,f1,f2,f3,f4,f5⟩:=hf b hb
   exact ⟨by rw [aD (lt b hb)]; exact f0,f3,f1,f4,f5⟩
  have I2:Inv X pins σ (upd H s.heap.objs.size (.tup [x,y])) { s with heap:=g',toks:=tk }:=by
   refine Inv.kE (s:={ s with heap:=s.heap.push { cls:=.type "tuple",data:=.seq #[u,v] },toks:=tk }) (h':=g') (t':=tk) (fp:=[z,TI,TO,i1,i2]) I1 (fun b o hb q=>?_) stat
   simp only [List.mem_cons,List.mem_nil_iff,or_false,not_or] at hb
   refine sb.extBut b o hb.1 ?_
   by_cases hbT:b=s.heap.objs.size
   ·subst hbT
    have q':(s.heap.push { cls:=.type "tuple",data:=.seq #[u,v] }).get? s.heap.objs.size=some o:=q
    rw [Heap.get?_push_size _ rfl] at q'
    cases q'
    exact g5
   ·exact g7 b o hb.1 hb.2.2.1 hb.2.2.2.1 hb.2.2.2.2 ((Heap.get?_push_ne _ _ _ hbT).symm.trans q)
  have kp:∀ b∈[TI,TO,i1,i2],∀ o,g.get? b=some o->g'.get? b=some o:=fun b hb o q=>sb.extBut b o (fun e=>by
   subst e
   simp only [List.mem_cons,List.mem_nil_iff,or_false] at hb
   rcases hb with e | e | e | e
   ·exact n1 e.symm
   ·exact n2 e.symm
   ·exact n4 e.symm
   ·exact n5 e.symm) q
  refine ⟨.ref s.heap.objs.size,_,I2,rfl,⟨s.heap.objs.size,x,y,hn,rfl,rfl,fun xs' hx'=>?_,fun ys' hy'=>?_⟩,⟨gz',kp TI (by simp) _ (g7 TI _ n1 n3 (Ne.symm n9) (Ne.symm n10) h2),⟨u,v,kp TO (by simp) _ g2⟩,(a2 _ _ g3).keep fun o q=>kp i1 (by simp) o q,(b2 _ _ g4).keep fun o q=>kp i2 (by simp) o q⟩,fun b hb=>(stat b hb).1⟩
  ·rw [hx] at hx'
   rw [<- nV (Option.some.inj hx')]
   exact ex
  ·rw [hy] at hy'
   rw [<- nV (Option.some.inj hy')]
   exact ey
 done:=by
  intro X hP hw hK hc i pins s σ H E I hf st hg
  subst hP hw hK
  obtain ⟨h1,h2,⟨a,c,h3⟩,h4,h5⟩:=st
  obtain ⟨xs,ys,hx,hy,ex,ey⟩:=hg
  have f:∀ b∈[z,TI,TO,i1,i2],H b=none:=fun b hb=>(hf b hb).1
  obtain ⟨Pv1,St1,D1,a1,a2,a3⟩:=hU hc I (f i1 (by simp)) hx
  have no1:∀ b∈[z,TI,TO,i1,i2],b≠l1:=fun b hb q=>by have:=f b hb; rw [q,hx] at this; cases this
  have no2:∀ b∈[z,TI,TO,i1,i2],b≠l2:=fun b hb q=>by have:=f b hb; rw [q,hy] at this; cases this
  have Z:fK z TI TO i1 i2 [i1,l1] [i2,l2]:=by
   refine ⟨n1,n2,n3,n4,n5,n6,n7,n8,?_,?_,?_,?_,?_,?_⟩ <;> (simp only [List.mem_cons,List.mem_nil_iff,or_false,not_or])
   ·exact ⟨Ne.symm n4,no1 z (by simp)⟩
   ·exact ⟨Ne.symm n5,no2 z (by simp)⟩
   ·exact ⟨Ne.symm n6,no1 TO (by simp)⟩
   ·exact ⟨Ne.symm n7,no2 TO (by simp)⟩
   ·exact ⟨n8,no2 i1 (by simp)⟩
   ·exact ⟨Ne.symm n8,no1 i2 (by simp)⟩
  subst ex
  refine sv Z D1 h1 h2 h3 (a1 _ h4) fun g hk=>⟨rfl,?_⟩
  refine Inv.kE (h':=g) (t':=s.toks) (fp:=[z,i1]) I (fun b o hb q=>?_) fun b hb=>?_
  ·simp only [List.mem_cons,List.mem_nil_iff,or_false,not_or] at hb
   exact hk b o hb.1 hb.2 q
  ·have hb':b∈[z,TI,TO,i1,i2]:=by
    simp only [List.mem_cons,List.mem_nil_iff,or_false] at hb ⊢
    rcases hb with q | q
    ·exact .inl q
    ·exact .inr (.inr (.inr (.inl q)))
   obtain ⟨f0,f1,f2,f3,f4,f5⟩:=hf b hb'
   exact ⟨f0,f3,f1,f4,f5⟩
 self:=fun A i s Q E st h=>wpAny_pyIter_zip st.1 h
noncomputable def bY (t:Bool) (l:Addr):Obj:=if t then { cls:=.type "tuple_iterator",data:=.fields #[.ref l,rawInt 0] } else { cls:=.type "list_iterator",data:=.fields #[.ref l,.int 0 0] }
theorem nK {t:Bool} {l it:Addr} {h:Heap} (e:h.get? it=some (bY t l)):fE t it l 0 h:=by
 cases t with
 | true=>exact ⟨_,e,rfl,rfl⟩
 | false=>exact ⟨_,e,rfl,rfl⟩
theorem nM {X:Cx} {pins:List (Addr × Obj)} {s:Shared} {σ:St} {H:Hp} {t:Bool} {l:Addr} {xs:List V} {A:Around} {Q:Value->Shared->Prop} {E:Value->Shared->Prop} (I:Inv X pins σ H s) (hx:H l=some (cK t xs)) (q:Q (.ref s.heap.objs.size) { s with heap:=s.heap.push (bY t l) }):wpAny (model X.prog X.w) A (pyIter (.ref l)) Q E s:=by
 cases t with
 | true =>
  obtain ⟨its,rv,p,hz⟩:=I.tuple (SqT.of (show H l=some (.tup xs) from hx))
  exact wpAny_pyIter_tuple p q
 | false =>
  obtain ⟨its,rv,p,hz⟩:=I.list (SqL.of (show H l=some (.lst xs) from hx))
  exact wpAny_pyIter_list p.isList q
section
variable {X:Cx} {elts:List Expr} {kx:Nat} {tp p pos:Pos} {a b:Expr} {ta:TA}
noncomputable def BL (ta:TA):TI:=fun σ H R=>ta σ H fun vs H1=>∃ t1 t2 l1 l2 xs ys,vs=[.ref l1,.ref l2]/\H1 l1=some (cK t1 xs)/\H1 l2=some (cK t2 ys)/\R (Itz t1 t2 l1 l2) H1
theorem far (n a b:Nat) (h:a≠b):n+a≠n+b:=fun q=>h (Nat.add_left_cancel q)
theorem rZ:bootBuiltins "zip" = some (.type "zip"):=by decide +kernel
theorem Ac (hg:Gl X "zip") (hm:X.mg "zip" = none) (ha:PA X [a,b] ta) (hs:starEach [a,b] X.env=[(false,eval a X.env),(false,eval b X.env)]) (hs2:starEach [b] X.env=[(false,eval b X.env)]):PI X (.Tuple elts kx tp) (.Call (.Name "zip" p) [a,b] [] pos) (BL ta):=by
 intro pins s0 σ H0 R I0 h
 refine Call_ (eT I0 hg hm rZ (PyProof.Rows.callWith_type1 (thn (ha pos pins s0 σ H0 _ I0 h) fun us s ⟨vs,H,I,r1,q1⟩=>?_) (by rw [hs,hs2]) (by rw [hs2]; rfl)))
 obtain ⟨t1,t2,l1,l2,xs,ys,rfl,hx,hy,q⟩:=q1
 cases r1 with
 | cons r rr =>
  cases rr with
  | cons r2 rr =>
   cases rr
   cases r
   cases r2
   have I1:Inv X pins σ H { s with heap:=s.heap.push (bY t1 l1) }:=I.kept (t':=s.toks) fun b o e=>Heap.get?_push_of_some _ e
   refine vZ (S1:=fun it z1=>it=s.heap.objs.size/\z1={ s with heap:=s.heap.push (bY t1 l1) }) (S2:=fun it jt z2=>it=s.heap.objs.size/\jt=(s.heap.push (bY t1 l1)).objs.size/\z2={ s with heap:=(s.heap.push (bY t1 l1)).push (bY t2 l2) })
    (fun A=>nM I hx ⟨_,rfl,rfl,rfl⟩) (fun it z1 h1 A=>?_) fun it jt z2 h2=>?_
   ·obtain ⟨rfl,rfl⟩:=h1
    exact nM I1 hy ⟨_,rfl,rfl,rfl,rfl⟩
   ·obtain ⟨rfl,rfl,rfl⟩:=h2
    have z1:(s.heap.push (bY t1 l1)).objs.size=s.heap.objs.size+1:=Heap.size_push ..
    generalize e1:s.heap.push (bY t1 l1)=g1 at *
    have p1:g1.get? s.heap.objs.size=some (bY t1 l1):=by
     rw [<- e1]
     exact Heap.get?_push_size _ (by cases t1 <;> rfl)
    have k1:∀ b o,s.heap.get? b=some o->g1.get? b=some o:=fun b o e=>by rw [<- e1]; exact Heap.get?_push_of_some _ e
    have z2:(g1.push (bY t2 l2)).objs.size=s.heap.objs.size+2:=by rw [Heap.size_push,z1]
    have p2:(g1.push (bY t2 l2)).get? (s.heap.objs.size+1)=some (bY t2 l2):=by
     rw [<- z1]
     exact Heap.get?_push_size _ (by cases t2 <;> rfl)
    have k2:∀ b o,g1.get? b=some o->(g1.push (bY t2 l2)).get? b=some o:=fun b o e=>Heap.get?_push_of_some _ e
    generalize e2:g1.push (bY t2 l2)=g2 at *
    dsimp only
    rw [z1]
    have z3:(g2.push { cls:=.type "tuple",data:=.seq #[.ref s.heap.objs.size,.ref (s.heap.objs.size+1)] }).objs.size=s.heap.objs.size+3:=by rw [Heap.size_push,z2]
    have p3:(g2.push { cls:=.type "tuple",data:=.seq #[.ref s.heap.objs.size,.ref (s.heap.objs.size+1)] }).get? (s.heap.objs.size+2)=some { cls:=.type "tuple",data:=.seq #[.ref s.heap.objs.size,.ref (s.heap.objs.size+1)] }:=by
     rw [<- z2]
     exact Heap.get?_push_size _ rfl
    have k3:∀ b o,g2.get? b=some o->(g2.push { cls:=.type "tuple",data:=.seq #[.ref s.heap.objs.size,.ref (s.heap.objs.size+1)] }).get? b=some o:=fun b o e=>Heap.get?_push_of_some _ e
    rw [z2]
    generalize e3:g2.push { cls:=.type "tuple",data:=.seq #[.ref s.heap.objs.size,.ref (s.heap.objs.size+1)] }=g3 at *
    rw [z3]
    have z4:(g3.push { cls:=.type "tuple",data:=.seq #[.none,.none] }).objs.size=s.heap.objs.size+4:=by rw [Heap.size_push,z3]
    have p4:(g3.push { cls:=.type "tuple",data:=.seq #[.none,.none] }).get? (s.heap.objs.size+3)=some { cls:=.type "tuple",data:=.seq #[.none,.none] }:=by
     rw [<- z3]
     exact Heap.get?_push_size _ rfl
    have k4:∀ b o,g3.get? b=some o->(g3.push { cls:=.type "tuple",data:=.seq #[.none,.none] }).get? b=some o:=fun b o e=>Heap.get?_push_of_some _ e
    generalize e4:g3.push { cls:=.type "tuple",data:=.seq #[.none,.none] }=g4 at *
    rw [z4]
    have p5:(g4.push { cls:=.type "zip",data:=.fields #[.none,.bool false,.bool false,.ref (s.heap.objs.size+2),.ref (s.heap.objs.size+3)] }).get? (s.heap.objs.size+4)=some { cls:=.type "zip",data:=.fields #[.none,.bool false,.bool false,.ref (s.heap.objs.size+2),.ref (s.heap.objs.size+3)] }:=by
     rw [<- z4]
     exact Heap.get?_push_size _ rfl
    have k5:∀ b o,g4.get? b=some o->(g4.push { cls:=.type "zip",data:=.fields #[.none,.bool false,.bool false,.ref (s.heap.objs.size+2),.ref (s.heap.objs.size+3)] }).get? b=some o:=fun b o e=>Heap.get?_push_of_some _ e
    generalize e5:g4.push { cls:=.type "zip",data:=.fields #[.none,.bool false,.bool false,.ref (s.heap.objs.size+2),.ref (s.heap.objs.size+3)] }=g5 at *
    refine wpAny_pyIter_zip (TI:=s.heap.objs.size+2) (TO:=s.heap.objs.size+3) (f0:=.none) p5 ⟨s.heap.objs.size+4,[s.heap.objs.size+4,s.heap.objs.size+2,s.heap.objs.size+3,s.heap.objs.size,s.heap.objs.size+1],_,Itz t1 t2 l1 l2,H,rfl,I.kept (t':=s.toks) fun b o e=>k5 _ _ (k4 _ _ (k3 _ _ (k2 _ _ (k1 _ _ e)))),uD (far _ 2 4 (by decide)) (far _ 3 4 (by decide)) (far _ 2 3 (by decide)) (far _ 0 4 (by decide)) (far _ 1 4 (by decide)) (far _ 0 3 (by decide)) (far _ 1 3 (by decide)) (far _ 0 1 (by decide)) (far _ 0 2 (by decide)) (far _ 1 2 (by decide)),
     ⟨p5,k5 _ _ (k4 _ _ p3),⟨_,_,k5 _ _ p4⟩,nK (k5 _ _ (k4 _ _ (k3 _ _ (k2 _ _ p1)))),nK (k5 _ _ (k4 _ _ (k3 _ _ p2)))⟩,fun b hb=>?_,q⟩
    have hb':s.heap.objs.size<=b:=by
     simp only [List.mem_cons,List.mem_nil_iff,or_false] at hb
     rcases hb with rfl | rfl | rfl | rfl | rfl <;> first | exact Nat.le_refl _ | exact Nat.le_add_right _ _
    exact I.kr hb' (I.hok.fresh hb')
end
end L2
namespace RS
open PySem PySem.Spec PyProof.Rows L2
theorem gp:∀ (ds es:List RL.D),ds.length=es.length->(RL.cV ds es).length=ds.length
 | [],[],_=>rfl
 | [],_ :: _,h=>by cases h
 | _ :: _,[],h=>by cases h
 | d :: ds,e :: es,h=>by rw [RL.cV,List.length_cons,List.length_cons,gp ds es (by simpa using h)]
theorem m6:∀ (ds es:List RL.D) (i:Nat) (d:RL.D),(RL.cV ds es)[i]?=some d->∃ x y,ds[i]?=some x/\es[i]?=some y/\d=.tup [x,y]
 | [],es,i,d,h=>by cases es <;> simp [RL.cV] at h
 | _ :: _,[],i,d,h=>by simp [RL.cV] at h
 | x :: ds,y :: es,0,d,h=>by simp [RL.cV] at h; exact ⟨x,y,rfl,rfl,h.symm⟩
 | x :: ds,y :: es,i+1,d,h=>by
  rw [RL.cV,List.getElem?_cons_succ] at h
  obtain ⟨x',y',h1,h2,h3⟩:=m6 ds es i d h
  exact ⟨x',y',by simpa using h1,by simpa using h2,h3⟩
theorem qB {K:PySem.W.Frag} {H:Hp} {ds es:List RL.D} {xs ys:List V} {P:Addr->Prop} {t1 t2:Bool} {l1 l2:Addr} (hl:ds.length=es.length) (h1:H l1=some (cK t1 xs)) (h2:H l2=some (cK t2 ys)) (n1:¬ P l1) (n2:¬ P l2) (r1:aa nP K H ds xs) (r2:aa nP K H es ys) (hm:∀ b o,P b->H b=some o->cx o) :
  gH K (Itz t1 t2 l1 l2) (RL.cV ds es) P H where
 go:=fun H' i k hi=>by
  rw [gp ds es hl] at hi
  obtain ⟨x,e,_⟩:=r1.get (i:=i) (d:=ds[i]) (by simp [hi])
  obtain ⟨y,e',_⟩:=r2.get (i:=i) (d:=es[i]'(by omega)) (by simp)
  exact ⟨xs,ys,x,y,k _ _ n1 h1,k _ _ n2 h2,e,e'⟩
 stop:=fun H' k=>⟨xs,ys,k _ _ n1 h1,k _ _ n2 h2,by rw [gp ds es hl,r1.length],by rw [gp ds es hl,hl,r2.length]⟩
 yld:=fun H' i d v H2 k e y=>by
  obtain ⟨p,x,w,hp,rfl,rfl,hx,hw⟩:=y
  obtain ⟨dx,dw,g1,g2,rfl⟩:=m6 ds es i d e
  obtain ⟨x',g3,g4⟩:=r1.get g1
  obtain ⟨w',g5,g6⟩:=r2.get g2
  rw [hx xs (k _ _ n1 h1)] at g3
  rw [hw ys (k _ _ n2 h2)] at g5
  cases g3
  cases g5
  refine ⟨ao.bc hp,fun q=>?_⟩
  have re:Rep nP K H' dx x/\Rep nP K H' dw w:=by
   rcases q with q | q
   ·have q:(dx.imm && (dw.imm && true))=true:=q
    rw [Bool.and_true,Bool.and_eq_true] at q
    exact ⟨eQ hm k g4 q.1,eQ hm k g6 q.2⟩
   ·exact ⟨g4.same q,g6.same q⟩
  rw [Rep]
  exact ⟨p,[x,w],rfl,aN,aa.cons (re.1.same (ao.bc hp)) (aa.cons (re.2.same (ao.bc hp)) aa.nil)⟩
theorem lA {P:Addr->Prop} {K:PySem.W.Frag} {H:Hp} {d:RL.D} {ds:List RL.D} {v:V} (h:RL.items d=some ds) (r:Rep P K H d v):∃ t l xs,v=.ref l/\H l=some (cK t xs)/\aa P K H ds xs/\(t=false->d=.lst ds):=by
 obtain ⟨p,xs,rfl,hp,rs⟩:=fj h r
 rcases hp with ⟨q,rfl⟩ | ⟨q,rfl⟩
 ·exact ⟨false,p,xs,rfl,q,rs,fun _=>rfl⟩
 ·exact ⟨true,p,xs,rfl,q,rs,fun z=>by cases z⟩
section rules
variable {X:Cx} {cl:RL.Cl} {elts:List Expr} {kx:Nat} {tp p pos:Pos} {a b:Expr} {a' b':RL.E}
theorem zE (hg:Gl X "zip") (hm:X.mg "zip" = none) (ha:SE X cl a a') (hb:SE X cl b b') (hn:noStar a=true) (hn2:noStar b=true):SI X cl (.Tuple elts kx tp) (.Call (.Name "zip" p) [a,b] [] pos) (.zip a' b'):=by
 intro pins s σ H R I h
 obtain ⟨σD,ds,rv,e,k⟩:=h
 rw [RL.a8] at e
 obtain ⟨x,ea,e⟩:=bind_some e
 obtain ⟨y,eb,e⟩:=bind_some e
 obtain ⟨xs,e1,e⟩:=bind_some e
 obtain ⟨ys,e2,e⟩:=bind_some e
 split at e
 ·rename_i hl
  cases e
  have hpa:PA X [a,b] (lM (tE X.K cl a') (lM (tE X.K cl b') uC)):=bA ha (bA hb d9 (aw [] hn2)) (aw _ hn)
  refine Ac hg hm hpa (by rw [aw _ hn,aw _ hn2]; rfl) (aw [] hn2) pins s σ H R I ?_
  refine ⟨σD,x,rv,ea,fun v H1 r1=>⟨σD,y,rv.same r1.same,eb,fun u H2 r2=>?_⟩⟩
  obtain ⟨t1,l1,vs,rfl,h1,p1,c1⟩:=lA e1 (r1.rep.same r2.same)
  obtain ⟨t2,l2,us,rfl,h2,p2,c2⟩:=lA e2 r2.rep
  refine ⟨t1,t2,l1,l2,vs,us,rfl,h1,h2,k _ _ (r1.same.trans r2.same) ⟨qB hl h1 h2 (fun z=>z) (fun z=>z) p1 p2 fh,fun M P z hP av=>?_⟩⟩
  have hP2:=cQ (r1.same.trans r2.same) hP
  unfold RL.pB at z
  rw [Bool.and_eq_true] at z
  have notT:∀ (t:Bool) l zs,H2 l=some (cK t zs)->t=true->¬ P l:=fun t l zs hl ht q=>by
   subst ht
   rcases hP2 l _ q hl with ⟨_,q⟩ | ⟨_,q⟩ | ⟨_,q⟩ <;> cases q
  refine qB hl h1 h2 ?_ ?_ p1 p2 hP2
  ·cases ht:t1 with
   | true=>exact notT t1 l1 vs h1 ht
   | false=>exact jL r1 z.1 hP av _ _ (c1 ht) rfl
  ·cases ht:t2 with
   | true=>exact notT t2 l2 us h2 ht
   | false =>
    refine jL r2 z.2 (fun b q=>?_) (fun j dj vj hj h3 h4=>(av j dj vj hj h3 h4).same r1.same) _ _ (c2 ht) rfl
    obtain ⟨o,ho,hmu⟩:=hP b q
    exact ⟨o,r1.same _ _ ho,hmu⟩
 ·cases e
end rules
end RS
namespace L2
open PySem PySem.Spec PyProof.Rows
theorem qD {α:Type} (xs:List α):∀ k:Nat,k<=xs.length->((List.range k).map fun (j:Nat)=>(((xs.length:Int)-1)+(-1)*(j:Int)).toNat).filterMap (xs.toArray[·]?)=xs.reverse.take k:=by
 intro k
 induction k with
 | zero=>intro _; simp
 | succ k ih =>
  intro hk
  rw [List.range_succ,List.map_append,List.filterMap_append,ih (by omega),List.take_succ]
  congr 1
  have e1:(((xs.length:Int)-1)+(-1)*(k:Int)).toNat=xs.length-1-k:=by omega
  simp only [List.map_cons,List.map_nil,List.filterMap_cons,List.filterMap_nil,e1]
  rw [List.getElem?_reverse (by omega)]
  simp only [List.getElem?_toArray]
  rw [List.getElem?_eq_getElem (by omega)]
  rfl
theorem tK (its:List Value):slicePick its.toArray none none (some (-1))=its.reverse.toArray:=by
 have h:=qD its its.length (Nat.le_refl _)
 rw [List.take_of_length_le (by simp)] at h
 unfold slicePick
 have hb:sliceBounds none none (some (-1)) its.toArray.size=((its.length:Int)-1,-1,-1):=by
  simp [sliceBounds]
 rw [hb]
 dsimp only
 unfold sliceRange
 have hc:(if (-1:Int) > 0 then (if (its.length:Int)-1 < -1 then (-1-((its.length:Int)-1)+-1-1) / -1 else 0) else (if (its.length:Int)-1 > -1 then ((its.length:Int)-1 - -1 - -1-1) / (- -1) else 0)).toNat=its.length:=by
  rw [if_neg (by decide)]
  rw [show (- -1:Int)=1 from rfl]
  split
  ·rw [Int.ediv_one]; omega
  ·omega
 dsimp only
 rw [hc,h]
section
variable {X:Cx} {e:Expr} {te:TE} {pos p2 p3 p4:Pos} {j:Nat}
noncomputable def B6 (K:PySem.W.Frag) (te:TE):TE:=fun σ H Q=>te σ H fun x H1=>∃ a xs,x=.ref a/\SqL K H1 a xs/\∀ p,H1 p=none->Q (.ref p) (upd H1 p (.lst xs.reverse))
theorem zO {e3:Expr} (h3:PE X e3 (tC (.int (-1)))) (he:PE X e te):PE X (.Subscript e (.Slice none none (some e3) p2) pos) (B6 X.K te):=by
 intro pins s σ H Q I h
 refine Subscript_ (thn (he pins s σ H _ I h) fun v s1 ⟨x,H1,I1,r1,q1⟩=>?_)
 refine wpAny_Slice ?_
 rw [evalPart_none]
 refine wpAny_pure (wpAny_pure ?_)
 rw [evalPart_some]
 refine thn (h3 pins s1 σ H1 (fun y H2=>y=.int (-1)/\H2=H1) I1 ⟨rfl,rfl⟩) fun vs s3 ⟨y,H3,I3,r3,q3⟩=>?_
 obtain ⟨rfl,rfl⟩:=q3
 obtain ⟨t,rfl⟩:=r3
 obtain ⟨a,xs,rfl,hx,q⟩:=q1
 cases r1
 have I4:Inv X pins σ H3 { s3 with heap:=s3.heap.push { cls:=.type "slice",data:=.fields #[.none,.none,.int (-1) t] } }:=I3.kept (t':=s3.toks) fun b ob q=>Heap.get?_push_of_some _ q
 obtain ⟨its,r,ht,hz⟩:=I4.list hx
 have hlen:=r.length
 have hg:wpAny (model X.prog X.w) X.A (getItem (.ref a) (.ref s3.heap.objs.size)) (EP X pins σ Q) X.xe { s3 with heap:=s3.heap.push { cls:=.type "slice",data:=.fields #[.none,.none,.int (-1) t] } }:=by
  refine wpAny_getItem_list_slice ht.isList (Heap.IsSliceOf.new ..) .none .none (.int (-1) t) (by simp) ?_ (by rw [List.size_toArray] <;> omega)
  rw [tK]
  refine ⟨.ref _,_,I4.laid (t':=s3.toks) (o:=.lst xs.reverse) (fun b ob q=>Heap.get?_push_of_some _ q) (Nat.le_refl _) ?_,rfl,q _ (I4.hok.fresh (Nat.le_refl _))⟩
  exact ⟨by rw [List.length_reverse]; exact hz,_,0,r.reverse,Heap.get?_push_size _ rfl⟩
 show wpAny (model X.prog X.w) X.A (subscriptTail e (.Slice none none (some e3) p2) (.ref a) (.ref s3.heap.objs.size)) (EP X pins σ Q) X.xe { s3 with heap:=s3.heap.push { cls:=.type "slice",data:=.fields #[.none,.none,.int (-1) t] } }
 exact tail_any (ops:=[.ref a,.ref s3.heap.objs.size]) ht.isList.typeIs slot_list_getitem.lookup hg (by with_unfolding_all rfl)
end
end L2
namespace RS
open PySem PySem.Spec PyProof.Rows L2
section
variable {X:Cx} {cl:RL.Cl} {a b:Expr} {a' b' c':RL.E} {pos p p2:Pos} {M:List Nat}
theorem yX {e3:Expr} (ha:SE X cl a a') (h3:eB (-1) e3=true):SE X cl (.Subscript a (.Slice none none (some e3) p2) pos) (.rev a'):=by
 refine PE.weak (zO (fQ h3).1 ha) fun σ H Q h=>?_
 obtain ⟨σD,d,rv,e,k⟩:=h
 rw [RL.ev] at e
 obtain ⟨x,ea,e⟩:=bind_some e
 refine ⟨σD,x,rv,ea,fun v H1 r1=>?_⟩
 cases x with
 | lst xs =>
  cases e
  obtain ⟨q,ys,rfl,_,f2,f3⟩:=a4 r1.rep
  exact ⟨q,ys,rfl,SqL.of f2,fun l hl=>k _ _ (cI r1.same hl f3.rev fun _=>rfl)⟩
 | _=>cases e
end
end RS
namespace L2
open PySem PySem.Spec PyProof.Rows
section
variable {X:Cx}
theorem ig:∀ {ns:List Int} {us:List Value},Vals (ns.map V.int) us->IntsAre us ns
 | [],_,.nil=>.nil
 | n :: r,_,.cons ⟨t,e⟩ h=>by
  subst e
  exact .cons _ _ (ig h)
theorem uW (hc:X.calm=true):aZ X (.builtin "sum") (fun xs H Q=>∃ (p:Addr) (ns:List Int),xs=[.ref p]/\H p=some (.lst (ns.map V.int))/\Q (.int ns.sum) H):=by
 intro pins s σ H xs us Q I r h
 obtain ⟨p,ns,rfl,hp,q⟩:=h
 cases r with
 | cons r rr =>
  cases rr
  cases r
  obtain ⟨its,rv,hl,hz⟩:=I.list (SqL.of hp)
  have hi:=ig rv
  obtain ⟨xs,hx⟩:=hi.allInts.items
  have hn:=hi.numsOf
  have hx':its=(intItems xs).toList:=by rw [<- hx]
  have hl':s.heap.IsList p (intItems xs):=hx ▸ hl.isList
  refine sum_intListG (I.ok.hd hc) hl' fun h' tk t' hk=>?_
  refine ⟨.int ns.sum,H,I.kept (t':=tk) (fun b o e=>hk b o e),⟨t',?_⟩,q⟩
  rw [<- hn,hx',nums_intItems,preSum_eq,List.take_of_length_le (by simp)]
theorem eZ (a:Int):∀ l:List Int,(RL.dN a l).Perm (a :: l)
 | []=>.refl _
 | b :: r=>by
  unfold RL.dN
  split
  ·exact .refl _
  ·exact ((eZ a r).cons b).trans (.swap ..)
theorem gd (a:Int):∀ l:List Int,l.Pairwise (·<=·)->(RL.dN a l).Pairwise (·<=·)
 | [],_=>by simp [RL.dN]
 | b :: r,h=>by
  unfold RL.dN
  rw [List.pairwise_cons] at h
  split
  ·rename_i c
   rw [List.pairwise_cons,List.pairwise_cons]
   exact ⟨fun x hx=>by
    rcases List.mem_cons.mp hx with rfl | hx
    ·exact c
    ·exact Int.le_trans c (h.1 x hx),h⟩
  ·rename_i c
   rw [List.pairwise_cons]
   refine ⟨fun x hx=>?_,gd a r h.2⟩
   rcases List.mem_cons.mp ((eZ a r).mem_iff.mp hx) with rfl | hx
   ·omega
   ·exact h.1 x hx
theorem sortI_perm:∀ l:List Int,(RL.sortI l).Perm l
 | []=>.refl _
 | a :: r=>(eZ a _).trans ((sortI_perm r).cons a)
theorem hW:∀ l:List Int,(RL.sortI l).Pairwise (·<=·)
 | []=>.nil
 | a :: r=>gd a _ (hW r)
theorem jQ:∀ {a b:List Int},a.Perm b->a.Pairwise (·<=·)->b.Pairwise (·<=·)->a=b
 | [],b,h,_,_=>by simpa using h.symm.eq_nil
 | x :: r,[],h,_,_=>by simpa using h.eq_nil
 | x :: r,y :: t,h,ha,hb=>by
  rw [List.pairwise_cons] at ha hb
  have e:x=y:=by
   have h1:=h.mem_iff.mp (List.mem_cons_self (a:=x) (l:=r))
   have h2:=h.mem_iff.mpr (List.mem_cons_self (a:=y) (l:=t))
   rcases List.mem_cons.mp h1 with h1 | h1
   ·exact h1
   ·rcases List.mem_cons.mp h2 with h2 | h2
    ·exact h2.symm
    ·exact Int.le_antisymm (ha.1 y h2) (hb.1 x h1)
  subst e
  rw [jQ (List.perm_cons x |>.mp h) ha.2 hb.2]
theorem og:aZ X (.builtin "sorted") (fun xs H Q=>∃ (p:Addr) (ns:List Int),xs=[.ref p]/\H p=some (.lst (ns.map V.int))/\ns.length<64/\∀ l,H l=none->Q (.ref l) (upd H l (.lst ((RL.sortI ns).map V.int)))):=by
 intro pins s σ H xs us Q I r h
 obtain ⟨p,ns,rfl,hp,hlen,q⟩:=h
 cases r with
 | cons r rr =>
  cases rr
  cases r
  obtain ⟨its,rv,hl,hz⟩:=I.list (SqL.of hp)
  have hi:=ig rv
  refine sorted_ints hl.isList hi (by rw [hi.length]; exact hlen) fun out ns' h1 h2 h3=>?_
  have e:=jQ (h2.trans (sortI_perm ns).symm) h3 (hW ns)
  subst e
  obtain ⟨en,he⟩:=sortedAll_at s.heap its out
  refine ⟨.ref (s.heap.objs.size+1),_,I.laid (t':=s.toks) (o:=.lst ((RL.sortI ns).map V.int)) (fun b ob q=>sortedAll_old q) (by omega) ?_,rfl,q _ (I.hok.fresh (by omega))⟩
  exact ⟨by simp only [List.length_map]; rw [(sortI_perm ns).length_eq]; simpa using hz,out.toList,en,iI h1,by rw [he]⟩
end
section
variable {X:Cx} {pos:Pos} {a b c g:Expr} {ta tb tc tg:TE}
end
end L2
namespace RS
open PySem PySem.Spec PyProof.Rows L2
section
variable {X:Cx} {cl:RL.Cl} {a b c g:Expr} {a' b' c' g':RL.E} {pos p p2:Pos} {M:List Nat}
theorem mK {P:Addr->Prop} {K:PySem.W.Frag} {H:Hp}:∀ is:List Int,aa P K H (is.map RL.D.int) (is.map V.int)
 | []=>aa.nil
 | i :: r=>aa.cons aI (mK r)
theorem nX:∀ {ds:List RL.D} {is:List Int},RL.bM ds=some is->is.length=ds.length
 | [],is,h=>by cases h; rfl
 | d :: ds,is,h=>by
  cases d <;> simp only [RL.bM] at h <;> first | (cases h; done) | skip
  obtain ⟨is',h1,h2⟩:=map_some h
  subst h2
  simp [nX h1]
theorem xE (hc:X.calm=true) (hg:Gl X "sum") (hm:X.mg "sum" = none) (ha:SE X cl a a') (hn:noStar a=true):SE X cl (.Call (.Name "sum" p) [a] [] pos) (.bi .sum a'):=by
 refine fq (uW hc) hg hm (by decide +kernel) ha hn (by decide) (by decide) fun σD σ H H1 y d v Q e s1 r1 k=>?_
 cases y <;> simp only [RL.biV] at e <;> first | (cases e; done) | skip
 case lst ds =>
  obtain ⟨is,e1,e2⟩:=map_some e
  subst e2
  obtain ⟨q,xs,rfl,_,f2,f3⟩:=a4 r1
  rw [iZ e1 f3] at f2
  exact ⟨q,is,rfl,f2,k _ _ (bW s1 aI rfl)⟩
theorem rC (hg:Gl X "sorted") (hm:X.mg "sorted" = none) (ha:SE X cl a a') (hn:noStar a=true):SE X cl (.Call (.Name "sorted" p) [a] [] pos) (.bi .sorted a'):=by
 refine fq og hg hm (by decide +kernel) ha hn (by decide) (by decide) fun σD σ H H1 y d v Q e s1 r1 k=>?_
 cases y <;> simp only [RL.biV] at e <;> first | (cases e; done) | skip
 case lst ds =>
  split at e
  ·rename_i h64
   obtain ⟨is,e1,e2⟩:=map_some e
   subst e2
   obtain ⟨q,xs,rfl,_,f2,f3⟩:=a4 r1
   rw [iZ e1 f3] at f2
   exact ⟨q,is,rfl,f2,by rw [nX e1]; exact h64,fun l hl=>k _ _ (cI s1 hl (mK _) fun _=>rfl)⟩
  ·cases e
end
end RS
namespace RS
open PySem PySem.Spec PyProof.Rows L2
section
variable {X:Cx} {cl:RL.Cl} {M:List Nat} {st:Stmt} {i:Nat} {k' l' a' b':RL.E}
end
end RS
namespace RS
open PySem PySem.Spec PyProof.Rows L2
theorem nos {α:Type} {P:Prop} {x:α} (h:(none:Option α)=some x):P:=by cases h
theorem aj {α:Type} {o:Option α} {f:α->Bool} (h:o.any f=true):∃ x,o=some x/\f x=true:=by
 cases o with
 | none=>cases h
 | some x=>exact ⟨x,rfl,h⟩
theorem ae {a b:Bool} (h:(a && b)=true):a=true/\b=true:=by rw [Bool.and_eq_true] at h; exact h
noncomputable def gx:Expr->Option Str
 | .Name x _=>some x
 | _=>none
theorem dG {e:Expr} {x:Str} (h:gx e=some x):∃ p,e=.Name x p:=by
 cases e
 case Name=>cases h; exact ⟨_,rfl⟩
 all_goals exact nos h
noncomputable def uL:Expr->Option Const
 | .Constant k _ _=>some k
 | _=>none
theorem oG {e:Expr} {k:Const} (h:uL e=some k):∃ j p,e=.Constant k j p:=by
 cases e
 case Constant=>cases h; exact ⟨_,_,rfl⟩
 all_goals exact nos h
noncomputable def yR:Expr->Option (Expr × Operator × Expr)
 | .BinOp l o r _=>some (l,o,r)
 | _=>none
theorem xm {e:Expr} {l r:Expr} {o:Operator} (h:yR e=some (l,o,r)):∃ p,e=.BinOp l o r p:=by
 cases e
 case BinOp=>cases h; exact ⟨_,rfl⟩
 all_goals exact nos h
noncomputable def vUn:Expr->Option (UnaryOp × Expr)
 | .UnaryOp o x _=>some (o,x)
 | _=>none
theorem nB {e x:Expr} {o:UnaryOp} (h:vUn e=some (o,x)):∃ p,e=.UnaryOp o x p:=by
 cases e
 case UnaryOp=>cases h; exact ⟨_,rfl⟩
 all_goals exact nos h
noncomputable def kX:Expr->Option (Expr × List CmpOp × List Expr)
 | .Compare l o r _=>some (l,o,r)
 | _=>none
theorem fW {e l:Expr} {r:List Expr} {o:List CmpOp} (h:kX e=some (l,o,r)):∃ p,e=.Compare l o r p:=by
 cases e
 case Compare=>cases h; exact ⟨_,rfl⟩
 all_goals exact nos h
noncomputable def vBool:Expr->Option (BoolOp × List Expr × Pos)
 | .BoolOp o es p=>some (o,es,p)
 | _=>none
theorem gF {e:Expr} {es:List Expr} {o:BoolOp} {p:Pos} (h:vBool e=some (o,es,p)):e=.BoolOp o es p:=by
 cases e
 case BoolOp=>cases h; exact rfl
 all_goals exact nos h
noncomputable def yn:Expr->Option (Expr × Expr × Expr)
 | .IfExp c a b _=>some (c,a,b)
 | _=>none
theorem wZ {e a b c:Expr} (h:yn e=some (c,a,b)):∃ p,e=.IfExp c a b p:=by
 cases e
 case IfExp=>cases h; exact ⟨_,rfl⟩
 all_goals exact nos h
noncomputable def iG:Expr->Option (List Expr)
 | .Tuple es _ _=>some es
 | _=>none
theorem dO {e:Expr} {es:List Expr} (h:iG e=some es):∃ k p,e=.Tuple es k p:=by
 cases e
 case Tuple=>cases h; exact ⟨_,_,rfl⟩
 all_goals exact nos h
noncomputable def zb:Expr->Option (List Expr)
 | .List es _=>some es
 | _=>none
theorem xb {e:Expr} {es:List Expr} (h:zb e=some es):∃ p,e=.List es p:=by
 cases e
 case List=>cases h; exact ⟨_,rfl⟩
 all_goals exact nos h
noncomputable def kT:Expr->Option (Expr × Expr)
 | .Subscript a b _=>some (a,b)
 | _=>none
theorem fY {e a b:Expr} (h:kT e=some (a,b)):∃ p,e=.Subscript a b p:=by
 cases e
 case Subscript=>cases h; exact ⟨_,rfl⟩
 all_goals exact nos h
noncomputable def vSl:Expr->Option (Option Expr × Option Expr × Option Expr)
 | .Slice a b c _=>some (a,b,c)
 | _=>none
theorem rW {e:Expr} {a b c:Option Expr} (h:vSl e=some (a,b,c)):∃ p,e=.Slice a b c p:=by
 cases e
 case Slice=>cases h; exact ⟨_,rfl⟩
 all_goals exact nos h
noncomputable def lT:Expr->Option (Expr × List Expr × List Keyword × Pos)
 | .Call f as ks p=>some (f,as,ks,p)
 | _=>none
theorem jw {e f:Expr} {as:List Expr} {ks:List Keyword} {p:Pos} (h:lT e=some (f,as,ks,p)):e=.Call f as ks p:=by
 cases e
 case Call=>cases h; exact rfl
 all_goals exact nos h
noncomputable def vb:Expr->Option (Expr × Str × Pos)
 | .Attribute o x p=>some (o,x,p)
 | _=>none
theorem tQ {e o:Expr} {x:Str} {p:Pos} (h:vb e=some (o,x,p)):e=.Attribute o x p:=by
 cases e
 case Attribute=>cases h; exact rfl
 all_goals exact nos h
noncomputable def me:Expr->Option (Expr × List Comprehension × Scope × Pos)
 | .ListComp e gs sc p=>some (e,gs,sc,p)
 | _=>none
theorem jr {e x:Expr} {gs:List Comprehension} {sc:Scope} {p:Pos} (h:me e=some (x,gs,sc,p)):e=.ListComp x gs sc p:=by
 cases e
 case ListComp=>cases h; exact rfl
 all_goals exact nos h
noncomputable def pZ:Expr->Option (List (Option Expr) × List Expr)
 | .Dict ks vs _=>some (ks,vs)
 | _=>none
theorem mh {e:Expr} {ks:List (Option Expr)} {vs:List Expr} (h:pZ e=some (ks,vs)):∃ p,e=.Dict ks vs p:=by
 cases e
 case Dict=>cases h; exact ⟨_,rfl⟩
 all_goals exact nos h
noncomputable def of1 {α:Type} (xs:List α) (f:α->Bool):Bool:=match xs with
 | [a]=>f a
 | _=>false
noncomputable def of2 {α:Type} (xs:List α) (f:α->α->Bool):Bool:=match xs with
 | [a,b]=>f a b
 | _=>false
noncomputable def of3 {α:Type} (xs:List α) (f:α->α->α->Bool):Bool:=match xs with
 | [a,b,c]=>f a b c
 | _=>false
theorem a9 {α:Type}:∀ {xs:List α} {f:α->Bool},of1 xs f=true->∃ a,xs=[a]/\f a=true
 | [a],_,h=>⟨a,rfl,h⟩
theorem dE {α:Type}:∀ {xs:List α} {f:α->α->Bool},of2 xs f=true->∃ a b,xs=[a,b]/\f a b=true
 | [a,b],_,h=>⟨a,b,rfl,h⟩
theorem qW {α:Type}:∀ {xs:List α} {f:α->α->α->Bool},of3 xs f=true->∃ a b c,xs=[a,b,c]/\f a b c=true
 | [a,b,c],_,h=>⟨a,b,c,rfl,h⟩
noncomputable def ofM {α:Type} (xs:List α) (f:α->α->List α->Bool):Bool:=match xs with
 | a :: b :: r=>f a b r
 | _=>false
theorem kf {α:Type}:∀ {xs:List α} {f:α->α->List α->Bool},ofM xs f=true->∃ a b r,xs=a :: b :: r/\f a b r=true
 | a :: b :: r,_,h=>⟨a,b,r,rfl,h⟩
noncomputable def jk:Stmt->Option (List Expr × Expr)
 | .Assign ts e _=>some (ts,e)
 | _=>none
theorem eM {st:Stmt} {ts:List Expr} {e:Expr} (h:jk st=some (ts,e)):∃ p,st=.Assign ts e p:=by
 cases st
 case Assign=>cases h; exact ⟨_,rfl⟩
 all_goals exact nos h
noncomputable def uw:Stmt->Option Expr
 | .Expr e _=>some e
 | _=>none
theorem oH {st:Stmt} {e:Expr} (h:uw st=some e):∃ p,st=.Expr e p:=by
 cases st
 case Expr=>cases h; exact ⟨_,rfl⟩
 all_goals exact nos h
noncomputable def wIf:Stmt->Option (Expr × List Stmt × List Stmt)
 | .If c a b _=>some (c,a,b)
 | _=>none
theorem qL {st:Stmt} {c:Expr} {a b:List Stmt} (h:wIf st=some (c,a,b)):∃ p,st=.If c a b p:=by
 cases st
 case If=>cases h; exact ⟨_,rfl⟩
 all_goals exact nos h
noncomputable def Ah:Stmt->Option (Expr × Expr × List Stmt × List Stmt)
 | .For t i b o _=>some (t,i,b,o)
 | _=>none
theorem wy {st:Stmt} {t i:Expr} {b o:List Stmt} (h:Ah st=some (t,i,b,o)):∃ p,st=.For t i b o p:=by
 cases st
 case For=>cases h; exact ⟨_,rfl⟩
 all_goals exact nos h
noncomputable def Ae:Stmt->Option (Option Expr)
 | .Return e _=>some e
 | _=>none
theorem vA {st:Stmt} {e:Option Expr} (h:Ae st=some e):∃ p,st=.Return e p:=by
 cases st
 case Return=>cases h; exact ⟨_,rfl⟩
 all_goals exact nos h
end RS
namespace RS
open PySem PySem.Spec PyProof.Rows L2
structure CC where
 N:List Str
 sc:Scope
 B:List Str
 G:List (Str × Int)
 F:List (Str × List Nat)
noncomputable def xQ (scope sc:Scope):Scope:={ scope with names:=scope.names.map fun (n,k)=>if (k == NameKind.free && sc.kind == .function && sc.names.lookup n == some .cell) then (n,NameKind.cell) else (n,k) }
noncomputable def CC.inner (C:CC) (scope:Scope):CC:={ C with sc:=xQ scope C.sc }
noncomputable def fV (x:Str):Bool:=!(x == ("__debug__" : Str)) && !(x == ("__classdict__" : Str))
noncomputable def ud (C:CC) (x:Str):Bool:=C.sc.names.lookup x == some .local || C.sc.names.lookup x == some .cell
noncomputable def tF (C:CC) (x:Str):Bool:=C.sc.names.lookup x == some .local || C.sc.names.lookup x == some .cell || C.sc.names.lookup x == some .free
noncomputable def glB (C:CC) (x:Str):Bool:=C.sc.names.lookup x == some .globalImplicit && fV x
noncomputable def p7 (C:CC) (x:Str):Bool:=glB C x && C.B.contains x
noncomputable def nmB (C:CC) (i:Nat) (x:Str):Bool:=C.N[i]? == some x && fV x
structure XOk (C:CC) (X:Cx) (cl:RL.Cl):Prop where
 scope:X.env.scope=C.sc
 names:X.N=C.N
 nd:C.N.Nodup
 calm:X.calm=true
 xe:X.xe=fun _ _=>False
 hu:X.A.units+100<cLine
 blt:∀ x∈C.B,X.mg x=none
 glb:∀ x i,C.G.lookup x=some i->∃ u,X.mg x=some u/\RelV (.int i) u
 fns:∀ (f:Nat) (x:Str) (mp:List Nat),C.F[f]?=some (x,mp)->∃ k fa fd ps,fC X.prog X.w X.K X.mg X.base CX0 k fa fd ps (if mp=[] then spF X.K cl f else spM X.K cl mp f)/\cP k X.A/\X.mg x=some (.ref fa)/\PySem.W.keepIn X.K (.ref fa)=true/\Binds X.K fd ps []
section
variable {C:CC} {X:Cx} {cl:RL.Cl} {e:Expr}
theorem XOk.vis (h:XOk C X cl) {x:Str} (v:tF C x=true):Vis X.env.scope x:=by
 unfold tF at v
 rw [<- h.scope,Bool.or_eq_true,Bool.or_eq_true,beq_iff_eq,beq_iff_eq,beq_iff_eq] at v
 rcases v with (v | v) | v
 ·exact .inl v
 ·exact .inr (.inl v)
 ·exact .inr (.inr v)
theorem XOk.loc (h:XOk C X cl) {x:Str} (v:ud C x=true):Loc X.env.scope x:=by
 unfold ud at v
 rw [<- h.scope,Bool.or_eq_true,beq_iff_eq,beq_iff_eq] at v
 exact v
theorem eF {x:Str} (h:fV x=true):(x == ("__debug__" : Str))=false/\(x == ("__classdict__" : Str))=false:=by
 unfold fV at h
 rw [Bool.and_eq_true,Bool.not_eq_true',Bool.not_eq_true'] at h
 exact h
theorem XOk.gl (h:XOk C X cl) {x:Str} (v:glB C x=true):Gl X x/\fV x=true:=by
 unfold glB at v
 rw [<- h.scope,Bool.and_eq_true,beq_iff_eq] at v
 exact v
theorem XOk.bl (h:XOk C X cl) {x:Str} (v:p7 C x=true):Gl X x/\X.mg x=none:=by
 unfold p7 at v
 rw [Bool.and_eq_true] at v
 exact ⟨(h.gl v.1).1,h.blt x (by simpa using v.2)⟩
theorem XOk.nm (h:XOk C X cl) {i:Nat} {x:Str} (v:nmB C i x=true):X.N[i]?=some x/\fV x=true:=by
 unfold nmB at v
 rw [<- h.names,Bool.and_eq_true,beq_iff_eq] at v
 exact v
theorem XOk.ndX (h:XOk C X cl):X.N.Nodup:=by rw [h.names]; exact h.nd
theorem XOk.blk (h:XOk C X cl) {scope:Scope} (cls:List (Str × Addr)) (Ca:Addr) (fp:List Addr) (s:Shared) (H:Hp):XOk (C.inner scope) (L2.blk X scope cls Ca fp s H) cl where
 scope:=by
  show relabel scope X.env=xQ scope C.sc
  rw [<- h.scope]
  rfl
 names:=h.names
 nd:=h.nd
 calm:=h.calm
 xe:=rfl
 hu:=h.hu
 blt:=h.blt
 glb:=h.glb
 fns:=h.fns
noncomputable def jd:RL.D->Const->Bool
 | .int i,.int j=>i == j
 | .bl i,.bool j=>i == j
 | .non,.none=>true
 | .str x,.str y=>x == y
 | _,_=>false
noncomputable def plainT:Expr->Bool
 | .UnaryOp .Not _ _=>false
 | .BoolOp _ _ _=>false
 | .IfExp _ _ _ _=>false
 | .Compare _ _ _ _=>false
 | _=>true
noncomputable def nc:Expr->Bool
 | .BoolOp _ _ _=>true
 | _=>false
noncomputable def hX:Expr->Bool
 | .Set _ _ _=>false
 | _=>true
noncomputable def pC:RL.Bi->Option Str
 | .len=>some "len"
 | .list=>some "list"
 | .tuple=>some "tuple"
 | .int=>some "int"
 | .all=>some "all"
 | .sum=>some "sum"
 | .sorted=>some "sorted"
 | _=>none
noncomputable def pj:RL.Ty->Str
 | .int => "int"
 | .bool => "bool"
 | .list => "list"
 | .tuple => "tuple"
 | .str => "str"
noncomputable def Bp (neg:Bool):CmpOp:=if neg then .IsNot else .Is
noncomputable def Bt (neg:Bool):CmpOp:=if neg then .NotIn else .In
noncomputable def lO (C:CC) (i:Nat) (e:Expr):Bool:=(gx e).any fun x=>nmB C i x && tF C x
noncomputable def gJ (C:CC) (i:Nat) (e:Expr):Bool:=(gx e).any fun x=>nmB C i x && ud C x
noncomputable def ja (C:CC):List Nat->List Expr->Bool
 | [],es=>es.isEmpty
 | i :: is,es=>match es with
  | e :: es=>gJ C i e && ja C is es
  | []=>false
noncomputable def j0 (C:CC) (tg:List Nat) (e:Expr):Bool :=
 match tg with
 | [i]=>gJ C i e
 | tg=>(iG e).any fun es=>ja C tg es
noncomputable def i8 (C:CC) (scope:Scope) (tg:List Nat):Bool:=tg.all fun i=>match C.N[i]? with
 | some x=>scope.names.lookup x == some .local || scope.names.lookup x == some .cell
 | none=>false
noncomputable def ik (C:CC) (scope:Scope) (tg:List Nat):Bool:=(List.range C.N.length).all fun i=>match C.N[i]? with
 | some x=>!(scope.names.lookup x == some .local || scope.names.lookup x == some .cell) || tg.contains i
 | none=>true
noncomputable def scB (scope sc:Scope):Bool:=scope.kind == .function && scope.names.all (fun x=>(!(x.2 == .cell) || scope.names.lookup x.1 == some .cell) && (!(x.2 == .local) || scope.names.lookup x.1 == some .local) && (!(x.2 == .free) || sc.names.lookup x.1 == some .cell || sc.names.lookup x.1 == some .free))
noncomputable def b8 (C:CC) (e:Expr) (nm:Str) (f:List Expr->Bool):Bool:=(lT e).any fun q=>(gx q.1).any (fun x=>x == nm && p7 C x) && q.2.2.1.isEmpty && q.2.1.all noStar && f q.2.1
theorem aU {nm:Str} {f:List Expr->Bool} (h:XOk C X cl) (z:b8 C e nm f=true):∃ p as pos,e=.Call (.Name nm p) as [] pos/\Gl X nm/\X.mg nm=none/\as.all noStar=true/\f as=true:=by
 unfold b8 at z
 obtain ⟨⟨g,as,ks,pos⟩,z0,z⟩:=aj z
 have e0:=jw z0
 subst e0
 obtain ⟨z,z4⟩:=ae z
 obtain ⟨z,z3⟩:=ae z
 obtain ⟨z1,z2⟩:=ae z
 obtain ⟨x,y0,z1⟩:=aj z1
 obtain ⟨p,rfl⟩:=dG y0
 obtain ⟨y1,y2⟩:=ae z1
 rw [beq_iff_eq] at y1
 subst y1
 obtain ⟨b1,b2⟩:=h.bl y2
 rw [List.isEmpty_iff] at z2
 subst z2
 exact ⟨p,as,pos,rfl,b1,b2,z3,z4⟩
theorem all1 {a:Expr} (h:[a].all noStar=true):noStar a=true:=by simpa using h
theorem all2 {a b:Expr} (h:[a,b].all noStar=true):noStar a=true/\noStar b=true:=by simpa using h
theorem i9 {a b c:Expr} (h:[a,b,c].all noStar=true):noStar a=true/\noStar b=true/\noStar c=true:=by simpa using h
end
mutual
noncomputable def chk (C:CC) (t:Bool):RL.E->Expr->Bool
 | .var i=>fun e=>lO C i e
 | .cst d=>fun e=>(uL e).any fun k=>jd d k
 | .glb y i=>fun e=>(gx e).any fun x=>x == y && glB C x && C.G.lookup x == some i
 | .bin o a b=>fun e=>(yR e).any fun q=>q.2.1 == mQ o && chk C false a q.1 && chk C false b q.2.2
 | .neg a=>fun e=>(vUn e).any fun q=>q.1 == .USub && chk C false a q.2
 | .cmp c a b=>fun e=>(kX e).any fun q=>of1 q.2.1 fun op=>of1 q.2.2 fun r=>op == cz c && chk C false a q.1 && chk C false b r
 | .chain c c' a b d=>fun e=>(kX e).any fun q=>of2 q.2.1 fun op op'=>of2 q.2.2 fun r s=>op == cz c && op' == cz c' && chk C false a q.1 && chk C false b r && chk C false d s
 | .isB _ _ _=>fun _=>false
 | .isN neg a=>fun e=>(kX e).any fun q=>of1 q.2.1 fun op=>of1 q.2.2 fun r=>op == Bp neg && (uL r).any (fun k=>jd .non k) && chk C false a q.1
 | .inn _ _ _=>fun _=>false
 | .inD neg a b=>fun e=>(kX e).any fun q=>of1 q.2.1 fun op=>of1 q.2.2 fun r=>op == Bt neg && pT r && chk C false a q.1 && chk C false b r
 | .and a b=>fun e=>(vBool e).any fun q=>ofM q.2.1 fun l r rest=>q.1 == .And && chk C t a l && (if rest.isEmpty then chk C t b r else chk C t b (.BoolOp .And (r :: rest) q.2.2))
 | .or a b=>fun e=>(vBool e).any fun q=>ofM q.2.1 fun l r rest=>q.1 == .Or && chk C t a l && (if rest.isEmpty then chk C t b r else chk C t b (.BoolOp .Or (r :: rest) q.2.2))
 | .not a=>fun e=>(vUn e).any fun q=>q.1 == .Not && chk C t a q.2
 | .ifx c a b=>fun e=>(yn e).any fun q=>!t && chk C true c q.1 && chk C false a q.2.1 && chk C false b q.2.2
 | .tup es=>fun e=>(iG e).any fun xs=>ka C es xs && decide (de es<=1000)
 | .lst es=>fun e=>(zb e).any fun xs=>ka C es xs && decide (de es<=1000)
 | .ix a b=>fun e=>(kT e).any fun q=>j4 q.2 && chk C false a q.1 && chk C false b q.2
 | .ixD a b=>fun e=>(kT e).any fun q=>j4 q.2 && chk C false a q.1 && chk C false b q.2
 | .slT a b=>fun e=>(kT e).any fun q=>chk C false a q.1 && (vSl q.2).any fun s=>s.1.isNone && s.2.2.isNone && s.2.1.any fun r=>chk C false b r
 | .slF _ _=>fun _=>false
 | .rev a=>fun e=>(kT e).any fun q=>chk C false a q.1 && (vSl q.2).any fun s=>s.1.isNone && s.2.1.isNone && s.2.2.any fun r=>eB (-1) r
 | .call f es=>fun e=>(lT e).any fun q=>(gx q.1).any (fun x=>glB C x && C.F[f]? == some (x,[])) && q.2.2.1.isEmpty && !q.2.1.isEmpty && ka C es q.2.1
 | .bi b a=>fun e=>match b with
  | .lenSet=>b8 C e "len" fun ys=>of1 ys fun y=>b8 C y "set" fun zs=>of1 zs fun z=>chk C false a z
  | b=>(pC b).any fun x=>b8 C e x fun ys=>of1 ys fun y=>chk C false a y
 | .max a b=>fun e=>b8 C e "max" fun ys=>of2 ys fun y z=>chk C false a y && chk C false b z
 | .min _ _=>fun _=>false
 | .isi a ty=>fun e=>b8 C e "isinstance" fun ys=>of2 ys fun y z=>(gx z).any (fun x=>x == pj ty && p7 C x) && chk C false a y
 | .rng1 a=>fun e=>b8 C e "list" fun ys=>of1 ys fun y=>b8 C y "range" fun zs=>of1 zs fun z=>chk C false a z
 | .rng2 a b=>fun e=>b8 C e "list" fun ys=>of1 ys fun y=>b8 C y "range" fun zs=>of2 zs fun z u=>chk C false a z && chk C false b u
 | .rng3 c a b=>fun e=>b8 C e "list" fun ys=>of1 ys fun y=>b8 C y "range" fun zs=>of3 zs fun z u q=>eB c q && chk C false a z && chk C false b u
 | .comp d tg it c=>fun e=>(me e).any fun q=>of1 q.2.1 fun g=>of1 g.ifs fun w=>g.is_async == 0 && scB q.2.2.1 C.sc && ik C q.2.2.1 tg && hX g.iter && j0 (C.inner q.2.2.1) tg g.target && i8 C q.2.2.1 tg && fG C it g.target g.iter && chk (C.inner q.2.2.1) false d q.1 && chk (C.inner q.2.2.1) true c w
 | .compA d tg it=>fun e=>(me e).any fun q=>of1 q.2.1 fun g=>g.ifs.isEmpty && g.is_async == 0 && scB q.2.2.1 C.sc && ik C q.2.2.1 tg && hX g.iter && j0 (C.inner q.2.2.1) tg g.target && i8 C q.2.2.1 tg && fG C it g.target g.iter && chk (C.inner q.2.2.1) false d q.1
 | .compL d tg it=>fun e=>(me e).any fun q=>of1 q.2.1 fun g=>g.ifs.isEmpty && g.is_async == 0 && scB q.2.2.1 C.sc && ik C q.2.2.1 tg && hX g.iter && j0 (C.inner q.2.2.1) tg g.target && i8 C q.2.2.1 tg && fG C it g.target g.iter && chk (C.inner q.2.2.1) false d q.1
 | .dk0=>fun e=>(pZ e).any fun q=>q.1.isEmpty && q.2.isEmpty
 | .dt0=>fun e=>(pZ e).any fun q=>q.1.isEmpty && q.2.isEmpty
 | .chain3 _ _ _ _ _ _ _=>fun _=>false
 | .slB _ _ _=>fun _=>false
 | .index _ _=>fun _=>false
 | .join _=>fun _=>false
noncomputable def ka (C:CC):RL.Es->List Expr->Bool
 | .nil=>fun xs=>xs.isEmpty
 | .cons e es=>fun xs=>match xs with
  | x :: xs=>noStar x && chk C false e x && ka C es xs
  | []=>false
noncomputable def fG (C:CC):RL.It->Expr->Expr->Bool
 | .seq a=>fun _ e=>chk C false a e
 | .rng1 a=>fun _ e=>b8 C e "range" fun ys=>of1 ys fun y=>chk C false a y
 | .rng2 a b=>fun _ e=>b8 C e "range" fun ys=>of2 ys fun y z=>chk C false a y && chk C false b z
 | .rng3 c a b=>fun _ e=>b8 C e "range" fun ys=>of3 ys fun y z q=>eB c q && chk C false a y && chk C false b z
 | .chr _=>fun _ _=>false
 | .enm a=>fun tg e=>(iG tg).isSome && b8 C e "enumerate" fun ys=>of1 ys fun y=>chk C false a y
 | .zip a b=>fun tg e=>(iG tg).isSome && b8 C e "zip" fun ys=>of2 ys fun y z=>chk C false a y && chk C false b z
 | .nope=>fun _ _=>false
end
end RS
namespace RS
open PySem PySem.Spec PyProof.Rows L2
noncomputable def nQ (X:Cx) (cl:RL.Cl) (e:Expr) (e':RL.E) (b b':Bool):Prop:=(b=true->SE X cl e e')/\(b'=true->ST X cl e e'/\(nc e=true->SW X cl e e'))
section
variable {C:CC} {X:Cx} {cl:RL.Cl} {e:Expr} {e':RL.E} {b:Bool}
theorem pq {env:Env} (h:plainT e=true) (whole:Sem Value):isTrue e env whole=(do let v <- whole; standAt e.pos; holding [v] (truthy v)):=by
 cases e <;> first
  | rfl
  | (cases h; done)
  | (rename_i op _ _; cases op <;> first | rfl | (cases h; done))
theorem a6 (h:b=true->SE X cl e e'/\plainT e=true):nQ X cl e e' b b :=
 ⟨fun z=>(h z).1,fun z=>⟨sR (h z).1 (pq (h z).2),fun q=>by
  have:=(h z).2
  cases e <;> first | (cases q; done) | (cases this; done)⟩⟩
theorem gZ (h:b=true->SE X cl e e'/\ST X cl e e'/\nc e=false):nQ X cl e e' b b :=
 ⟨fun z=>(h z).1,fun z=>⟨(h z).2.1,fun q=>by rw [(h z).2.2] at q; cases q⟩⟩
theorem fz (h:b=false) {b':Bool} (h':b'=false):nQ X cl e e' b b':=⟨fun z=>(by rw [h] at z; cases z),fun z=>(by rw [h'] at z; cases z)⟩
theorem xF {d:RL.D} {k:Const} {j:Nat} {pos:Pos} (h:jd d k=true):SE X cl (.Constant k j pos) (.cst d):=by
 cases d <;> cases k <;> simp only [jd] at h <;> first | (cases h; done) | skip
 case non.none=>exact kh m9 (fun P H=>by rw [Rep]) rfl
 case bl.bool i j=>rw [beq_iff_eq] at h; subst h; exact kh AS (fun P H=>mP) rfl
 case int.int i j=>rw [beq_iff_eq] at h; subst h; exact kh mI (fun P H=>aI) rfl
 case str.str i j=>rw [beq_iff_eq] at h; subst h; exact kh Ao (fun P H=>fP) rfl
theorem wu {k:Const} (h:jd .non k=true):k=.none:=by
 cases k <;> simp only [jd] at h <;> first | (cases h; done) | rfl
theorem qv (t:RL.Ty):bootBuiltins (pj t)=some (.type (tyN t))/\pj t ≠ "__name__" /\ (pj t == ("__debug__" : Str))=false:=by
 cases t <;> exact ⟨by decide +kernel,by decide +kernel,by decide +kernel⟩
theorem c9 (h:hX e=true) (env:Env) (x:Value):foldedSetIterable e env x=pure x:=by
 cases e <;> first | rfl | (cases h; done)
theorem A3 (hcalm:X.calm=true) {o:RL.Bi} {x:Str} {p pos:Pos} {y:Expr} {a':RL.E} (hx:pC o=some x) (hb:Gl X x) (hb2:X.mg x=none) (ha:SE X cl y a') (hn:noStar y=true):SE X cl (.Call (.Name x p) [y] [] pos) (.bi o a'):=by
 cases o <;> simp only [pC] at hx <;> first | (cases hx; done) | skip
 case len=>cases hx; exact yE hb hb2 ha hn
 case list=>cases hx; exact xl hb hb2 ha hn
 case tuple=>cases hx; exact ux hb hb2 ha hn
 case int=>cases hx; exact zl hb hb2 ha hn
 case all=>cases hx; exact yk hcalm hb hb2 ha hn
 case sum=>cases hx; exact xE hcalm hb hb2 ha hn
 case sorted=>cases hx; exact rC hb hb2 ha hn
theorem qM {r:Expr} (h:j4 r=true):pH r:=by
 cases r <;> first | (cases h; done) | (intro a b; rfl) | skip
theorem iU {i:Nat} (h:XOk C X cl) (z:lO C i e=true):∃ x p,e=.Name x p/\X.N[i]?=some x/\Vis X.env.scope x/\(x == ("__debug__" : Str))=false/\(x == ("__classdict__" : Str))=false:=by
 obtain ⟨x,z0,z⟩:=aj z
 obtain ⟨p,rfl⟩:=dG z0
 obtain ⟨z1,z2⟩:=ae z
 obtain ⟨g1,g2⟩:=h.nm z1
 exact ⟨x,p,rfl,g1,h.vis z2,(eF g2).1,(eF g2).2⟩
theorem gA {i:Nat} (h:XOk C X cl) (z:gJ C i e=true):∃ x p,e=.Name x p/\X.N[i]?=some x/\Loc X.env.scope x:=by
 obtain ⟨x,z0,z⟩:=aj z
 obtain ⟨p,rfl⟩:=dG z0
 obtain ⟨z1,z2⟩:=ae z
 exact ⟨x,p,rfl,(h.nm z1).1,h.loc z2⟩
theorem kD (h:XOk C X cl) {T:List Nat} (hf:∀ i x,i∈T->X.N[i]?=some x->X.fn x=true\/X.env.scope.names.lookup x=some .local):∀ {is:List Nat} {es:List Expr},(∀ i∈is,i∈T)->ja C is es=true->PGs X es (gs is)/\(assignEach es X.env).length=is.length/\(assignEach es X.env).findIdx? (·.1)=none
 | [],es,_,z=>by
  rw [ja,List.isEmpty_iff] at z
  subst z
  exact ⟨vF,rfl,rfl⟩
 | i :: is,[],_,z=>by cases z
 | i :: is,e :: es,hs,z=>by
  rw [ja] at z
  obtain ⟨z1,z2⟩:=ae z
  obtain ⟨x,p,rfl,g1,g2⟩:=gA h z1
  obtain ⟨h1,h2,h3⟩:=kD h hf (fun j hj=>hs j (List.mem_cons_of_mem _ hj)) z2
  refine ⟨uP (oD h.ndX g1 g2 (hf i x (hs i List.mem_cons_self) g1)) h1,?_,?_⟩
  ·show (assignEach es X.env).length+1=is.length+1
   rw [h2]
  ·show List.findIdx? (·.1) ((false,assign (.Name x p) X.env) :: assignEach es X.env)=none
   rw [List.findIdx?_cons]
   simp only [Bool.false_eq_true,if_false,h3,Option.map_none]
theorem qz {tg:List Nat} {tgE:Expr} (h:XOk C X cl) (hf:∀ i x,i∈tg->X.N[i]?=some x->X.fn x=true\/X.env.scope.names.lookup x=some .local) (hc:j0 C tg tgE=true):PG X tgE (gT X.K tg):=by
 unfold j0 at hc
 split at hc
 ·obtain ⟨x,p,rfl,g1,g2⟩:=gA h hc
  exact oD h.ndX g1 g2 (hf _ x (by simp) g1)
 ·rename_i hne
  obtain ⟨es,z0,z⟩:=aj hc
  obtain ⟨k,p,rfl⟩:=dO z0
  obtain ⟨h1,h2,h3⟩:=kD h hf (fun i hi=>hi) z
  have e:gT X.K tg=fun v σ H Q=>kJ X.K tg.length (gs tg) v σ H Q\/kL X.K tg.length (gs tg) v σ H Q:=by
   unfold gT
   split
   ·rename_i i
    exact absurd rfl (hne i)
   ·rfl
  rw [e]
  exact sj (qG h.calm h1 h2 h3) (qO h.calm h1 h2 h3)
theorem yz {x:Str} {i:Int} {pos:Pos} (h:XOk C X cl) (hg:glB C x=true) (hl:C.G.lookup x=some i):SE X cl (.Name x pos) (.glb x i):=by
 obtain ⟨u,h1,h2⟩:=h.glb x i hl
 obtain ⟨g1,g2⟩:=h.gl hg
 exact xy (u:=u) (v8 g1 h1 h2 (eF g2).1)
theorem wL {x:Str} {f:Nat} {p pos:Pos} {y:Expr} {ys:List Expr} {es:RL.Es} (h:XOk C X cl) (hg:glB C x=true) (hf:C.F[f]?=some (x,[])) (he:SEs X cl (y :: ys) es) (hl:de es=ys.length+1) (hn:noStar y=true) (hns:ys.all noStar=true) :
  SE X cl (.Call (.Name x p) (y :: ys) [] pos) (.call f es):=by
 obtain ⟨k,fa,fd,ps,F,hr,hm,hk,hb⟩:=h.fns f x [] hf
 obtain ⟨g1,g2⟩:=h.gl hg
 rw [if_pos rfl] at F
 cases es with
 | nil=>simp [de] at hl
 | cons e' es'=>exact wz F hr g1 hm hk hb he (eF g2).1 hn hns
theorem iX {scope sc:Scope} (h:scB scope sc=true):iB scope sc:=by
 unfold scB at h
 obtain ⟨h1,h2⟩:=ae h
 rw [List.all_eq_true] at h2
 refine ⟨by simpa using h1,fun x hx z=>?_,fun x hx z=>?_,fun x hx z=>?_⟩
 ·have:=h2 x hx
  rw [z] at this
  simpa using this
 ·have:=h2 x hx
  rw [z] at this
  simpa using this
 ·have:=h2 x hx
  rw [z] at this
  simpa using this
theorem dI {scope:Scope} {tg:List Nat} (h:ik C scope tg=true) (i:Nat) (x:Str) (hx:C.N[i]?=some x) (hl:scope.names.lookup x=some .local\/scope.names.lookup x=some .cell):tg.contains i=true:=by
 unfold ik at h
 rw [List.all_eq_true] at h
 have:=h i (List.mem_range.mpr (List.getElem?_eq_some_iff.mp hx).1)
 rw [hx] at this
 rcases hl with hl | hl
 ·simp only [hl,beq_self_eq_true,Bool.true_or,Bool.not_true,Bool.false_or] at this
  exact this
 ·simp only [hl,beq_self_eq_true,Bool.or_true,Bool.not_true,Bool.false_or] at this
  exact this
theorem fv {X:Cx} {cls:List (Str × Addr)} {scope:Scope} {Ca:Addr} {fp:List Addr} {s:Shared} {H:Hp} {pins:List (Addr × Obj)} {s':Shared} {σ:L2.St} {H':Hp} {Q:Bool->Hp->Prop} (I:Inv (L2.blk X scope cls Ca fp s H) pins σ H' s') (q:eY σ H' Q) :
  wpAny (model X.prog X.w) X.A (fg [] (compEnvC scope cls Ca X.env)) (TP (L2.blk X scope cls Ca fp s H) pins σ Q) (fun _ _=>False) s':=by
 unfold fg
 exact wpAny_pure ⟨H',I,q⟩
theorem lr {X:Cx} {cls:List (Str × Addr)} {scope:Scope} {Ca:Addr} {fp:List Addr} {s:Shared} {H:Hp} {pins:List (Addr × Obj)} {s':Shared} {σ:L2.St} {H':Hp} {Q:Bool->Hp->Prop} {c:Expr} {t:TT} (hc:PT (L2.blk X scope cls Ca fp s H) c t) (I:Inv (L2.blk X scope cls Ca fp s H) pins σ H' s') (q:t σ H' Q) :
  wpAny (model X.prog X.w) X.A (fg [c] (compEnvC scope cls Ca X.env)) (TP (L2.blk X scope cls Ca fp s H) pins σ Q) (fun _ _=>False) s':=by
 have h:=hc pins s' σ H' Q I q
 unfold fg
 simp only [List.forIn_cons,List.forIn_nil,if_true]
 refine wpAny_bind (wpAny_bind (thn h fun b s1 hb=>wpAny_pure ?_))
 exact wpAny_pure hb
theorem gb (h:XOk C X cl) {scope:Scope} {cls:List (Str × Addr)} {Ca:Addr} {fp:List Addr} {s:Shared} {H:Hp} {tg:List Nat} (ha:i8 C scope tg=true) {tgE:Expr} (hc:j0 (C.inner scope) tg tgE=true):PG (L2.blk X scope cls Ca fp s H) tgE (gT X.K tg):=by
 have hb:=h.blk (scope:=scope) cls Ca fp s H
 unfold i8 at ha
 rw [List.all_eq_true] at ha
 refine qz hb (fun i x hi hx=>?_) hc
 have:=ha i hi
 have hx:X.N[i]?=some x:=hx
 rw [h.names] at hx
 rw [hx] at this
 simp only [Bool.or_eq_true,beq_iff_eq] at this
 rcases this with z | z
 ·exact .inr (lookup_relabel_local z)
 ·exact .inl (by show (scope.names.lookup x == some .cell)=true; rw [z]; rfl)
theorem iP {α:Type} {o:Option α} (h:o.isNone=true):o=none:=by
 cases o with
 | none=>rfl
 | some _=>cases h
end
mutual
theorem ah {cl:RL.Cl}:∀ (e':RL.E) {C:CC} {X:Cx} (h:XOk C X cl) (e:Expr),nQ X cl e e' (chk C false e' e) (chk C true e' e)
 | .var i,C,X,h,e=>a6 (b:=chk C false (.var i) e) fun z=>by
  obtain ⟨x,p,rfl,g1,g2,g3,g4⟩:=iU h z
  exact ⟨zf g1 g2 g3 g4,rfl⟩
 | .cst d,C,X,h,e=>a6 (b:=chk C false (.cst d) e) fun z=>by
  obtain ⟨k,z0,z⟩:=aj z
  obtain ⟨j,p,rfl⟩:=oG z0
  exact ⟨xF z,rfl⟩
 | .glb y i,C,X,h,e=>a6 (b:=chk C false (.glb y i) e) fun z=>by
  obtain ⟨x,z0,z⟩:=aj z
  obtain ⟨p,rfl⟩:=dG z0
  obtain ⟨z,z3⟩:=ae z
  obtain ⟨z1,z2⟩:=ae z
  rw [beq_iff_eq] at z1 z3
  subst z1
  exact ⟨yz h z2 z3,rfl⟩
 | .bin o a b,C,X,h,e=>a6 (b:=chk C false (.bin o a b) e) fun z=>by
  obtain ⟨⟨l,op,r⟩,z0,z⟩:=aj z
  obtain ⟨p,rfl⟩:=xm z0
  obtain ⟨z,z3⟩:=ae z
  obtain ⟨z1,z2⟩:=ae z
  rw [beq_iff_eq] at z1
  have z1:op=mQ o:=z1
  subst z1
  exact ⟨xv ((ah a h l).1 z2) ((ah b h r).1 z3),rfl⟩
 | .neg a,C,X,h,e=>a6 (b:=chk C false (.neg a) e) fun z=>by
  obtain ⟨⟨op,x⟩,z0,z⟩:=aj z
  obtain ⟨p,rfl⟩:=nB z0
  obtain ⟨z1,z2⟩:=ae z
  rw [beq_iff_eq] at z1
  have z1:op=.USub:=z1
  subst z1
  exact ⟨zZ ((ah a h x).1 z2),rfl⟩
 | .cmp c a b,C,X,h,e=>gZ (b:=chk C false (.cmp c a b) e) fun z=>by
  obtain ⟨⟨l,os,rs⟩,z0,z⟩:=aj z
  obtain ⟨p,rfl⟩:=fW z0
  obtain ⟨op,y1,z⟩:=a9 z
  obtain ⟨r,y2,z⟩:=a9 z
  have y1:os=[op]:=y1
  have y2:rs=[r]:=y2
  subst y1 y2
  obtain ⟨z,z3⟩:=ae z
  obtain ⟨z1,z2⟩:=ae z
  rw [beq_iff_eq] at z1
  subst z1
  exact ⟨Am h.hu ((ah a h l).1 z2) ((ah b h r).1 z3),yB h.hu ((ah a h l).1 z2) ((ah b h r).1 z3),rfl⟩
 | .chain c c' a b d,C,X,h,e=>gZ (b:=chk C false (.chain c c' a b d) e) fun z=>by
  obtain ⟨⟨l,os,rs⟩,z0,z⟩:=aj z
  obtain ⟨p,rfl⟩:=fW z0
  obtain ⟨op,op',y1,z⟩:=dE z
  obtain ⟨r,s,y2,z⟩:=dE z
  have y1:os=[op,op']:=y1
  have y2:rs=[r,s]:=y2
  subst y1 y2
  obtain ⟨z,z5⟩:=ae z
  obtain ⟨z,z4⟩:=ae z
  obtain ⟨z,z3⟩:=ae z
  obtain ⟨z1,z2⟩:=ae z
  rw [beq_iff_eq] at z1 z2
  subst z1 z2
  exact ⟨uM h.hu ((ah a h l).1 z3) ((ah b h r).1 z4) ((ah d h s).1 z5),uc h.hu ((ah a h l).1 z3) ((ah b h r).1 z4) ((ah d h s).1 z5),rfl⟩
 | .isB _ _ _,C,X,h,e=>fz rfl rfl
 | .isN neg a,C,X,h,e=>gZ (b:=chk C false (.isN neg a) e) fun z=>by
  obtain ⟨⟨l,os,rs⟩,z0,z⟩:=aj z
  obtain ⟨p,rfl⟩:=fW z0
  obtain ⟨op,y1,z⟩:=a9 z
  obtain ⟨r,y2,z⟩:=a9 z
  have y1:os=[op]:=y1
  have y2:rs=[r]:=y2
  subst y1 y2
  obtain ⟨z,z3⟩:=ae z
  obtain ⟨z1,z2⟩:=ae z
  rw [beq_iff_eq] at z1
  subst z1
  obtain ⟨k,w0,w⟩:=aj z2
  obtain ⟨j,q,rfl⟩:=oG w0
  have w:=wu w
  subst w
  exact ⟨yh ((ah a h l).1 z3),zV ((ah a h l).1 z3),rfl⟩
 | .inn _ _ _,C,X,h,e=>fz rfl rfl
 | .inD neg a b,C,X,h,e=>gZ (b:=chk C false (.inD neg a b) e) fun z=>by
  obtain ⟨⟨l,os,rs⟩,z0,z⟩:=aj z
  obtain ⟨p,rfl⟩:=fW z0
  obtain ⟨op,y1,z⟩:=a9 z
  obtain ⟨r,y2,z⟩:=a9 z
  have y1:os=[op]:=y1
  have y2:rs=[r]:=y2
  subst y1 y2
  obtain ⟨z,z4⟩:=ae z
  obtain ⟨z,z3⟩:=ae z
  obtain ⟨z1,z2⟩:=ae z
  rw [beq_iff_eq] at z1
  subst z1
  exact ⟨yH h.hu ((ah a h l).1 z3) ((ah b h r).1 z4) z2,zg h.hu ((ah a h l).1 z3) ((ah b h r).1 z4) z2,rfl⟩
 | .and a b,C,X,h,e=>⟨(fun z=>by
   obtain ⟨⟨op,es,p⟩,z0,z⟩:=aj z
   obtain ⟨l,r,rest,y1,z⟩:=kf z
   have e0:=gF z0
   have y1:es=l :: r :: rest:=y1
   obtain ⟨z,z3⟩:=ae z
   obtain ⟨z1,z2⟩:=ae z
   rw [beq_iff_eq] at z1
   have z1:op=.And:=z1
   subst y1 z1 e0
   refine yx ((ah a h l).1 z2) ?_
   split at z3
   ·rename_i hr
    rw [List.isEmpty_iff] at hr
    subst hr
    exact qI ((ah b h r).1 z3)
   ·exact (ah b h _).1 z3),(fun z=>by
   obtain ⟨⟨op,es,p⟩,z0,z⟩:=aj z
   obtain ⟨l,r,rest,y1,z⟩:=kf z
   have e0:=gF z0
   have y1:es=l :: r :: rest:=y1
   obtain ⟨z,z3⟩:=ae z
   obtain ⟨z1,z2⟩:=ae z
   rw [beq_iff_eq] at z1
   have z1:op=.And:=z1
   subst y1 z1 e0
   have w:SW X cl (.BoolOp .And (l :: r :: rest) p) (.and a b):=by
    refine yA ((ah a h l).2 z2).1 ?_
    split at z3
    ·rename_i hr
     rw [List.isEmpty_iff] at hr
     subst hr
     exact qJ ((ah b h r).2 z3).1
    ·exact ((ah b h _).2 z3).2 rfl
   exact ⟨w.pt,fun _=>w⟩)⟩
 | .or a b,C,X,h,e=>⟨(fun z=>by
   obtain ⟨⟨op,es,p⟩,z0,z⟩:=aj z
   obtain ⟨l,r,rest,y1,z⟩:=kf z
   have e0:=gF z0
   have y1:es=l :: r :: rest:=y1
   obtain ⟨z,z3⟩:=ae z
   obtain ⟨z1,z2⟩:=ae z
   rw [beq_iff_eq] at z1
   have z1:op=.Or:=z1
   subst y1 z1 e0
   refine Bg ((ah a h l).1 z2) ?_
   split at z3
   ·rename_i hr
    rw [List.isEmpty_iff] at hr
    subst hr
    exact qI ((ah b h r).1 z3)
   ·exact (ah b h _).1 z3),(fun z=>by
   obtain ⟨⟨op,es,p⟩,z0,z⟩:=aj z
   obtain ⟨l,r,rest,y1,z⟩:=kf z
   have e0:=gF z0
   have y1:es=l :: r :: rest:=y1
   obtain ⟨z,z3⟩:=ae z
   obtain ⟨z1,z2⟩:=ae z
   rw [beq_iff_eq] at z1
   have z1:op=.Or:=z1
   subst y1 z1 e0
   have w:SW X cl (.BoolOp .Or (l :: r :: rest) p) (.or a b):=by
    refine AM ((ah a h l).2 z2).1 ?_
    split at z3
    ·rename_i hr
     rw [List.isEmpty_iff] at hr
     subst hr
     exact qJ ((ah b h r).2 z3).1
    ·exact ((ah b h _).2 z3).2 rfl
   exact ⟨w.pt,fun _=>w⟩)⟩
 | .not a,C,X,h,e=>⟨(fun z=>by
   obtain ⟨⟨op,x⟩,z0,z⟩:=aj z
   obtain ⟨p,rfl⟩:=nB z0
   obtain ⟨z1,z2⟩:=ae z
   rw [beq_iff_eq] at z1
   have z1:op=.Not:=z1
   subst z1
   exact Af ((ah a h x).1 z2)),(fun z=>by
   obtain ⟨⟨op,x⟩,z0,z⟩:=aj z
   obtain ⟨p,rfl⟩:=nB z0
   obtain ⟨z1,z2⟩:=ae z
   rw [beq_iff_eq] at z1
   have z1:op=.Not:=z1
   subst z1
   exact ⟨yg ((ah a h x).2 z2).1,fun q=>by cases q⟩)⟩
 | .ifx c a b,C,X,h,e=>⟨(fun z=>by
   obtain ⟨⟨q,l,r⟩,z0,z⟩:=aj z
   obtain ⟨p,rfl⟩:=wZ z0
   obtain ⟨z,z4⟩:=ae z
   obtain ⟨z,z3⟩:=ae z
   obtain ⟨z1,z2⟩:=ae z
   exact yS ((ah c h q).2 z2).1 ((ah a h l).1 z3) ((ah b h r).1 z4)),(fun z=>by
   obtain ⟨⟨q,l,r⟩,z0,z⟩:=aj z
   obtain ⟨z,z4⟩:=ae z
   obtain ⟨z,z3⟩:=ae z
   obtain ⟨z1,z2⟩:=ae z
   cases z1)⟩
 | .tup es,C,X,h,e=>a6 (b:=chk C false (.tup es) e) fun z=>by
  obtain ⟨xs,z0,z⟩:=aj z
  obtain ⟨k,p,rfl⟩:=dO z0
  obtain ⟨z1,z2⟩:=ae z
  exact ⟨xr (gn es h _ z1).1 (by simpa using z2),rfl⟩
 | .lst es,C,X,h,e=>a6 (b:=chk C false (.lst es) e) fun z=>by
  obtain ⟨xs,z0,z⟩:=aj z
  obtain ⟨p,rfl⟩:=xb z0
  obtain ⟨z1,z2⟩:=ae z
  exact ⟨yM (gn es h _ z1).1 (by simpa using z2),rfl⟩
 | .ix a b,C,X,h,e=>a6 (b:=chk C false (.ix a b) e) fun z=>by
  obtain ⟨⟨l,r⟩,z0,z⟩:=aj z
  obtain ⟨p,rfl⟩:=fY z0
  obtain ⟨z,z3⟩:=ae z
  obtain ⟨z1,z2⟩:=ae z
  exact ⟨Bf ((ah a h l).1 z2) ((ah b h r).1 z3) z1,rfl⟩
 | .ixD a b,C,X,h,e=>a6 (b:=chk C false (.ixD a b) e) fun z=>by
  obtain ⟨⟨l,r⟩,z0,z⟩:=aj z
  obtain ⟨p,rfl⟩:=fY z0
  obtain ⟨z,z3⟩:=ae z
  obtain ⟨z1,z2⟩:=ae z
  exact ⟨xT h.hu ((ah a h l).1 z2) ((ah b h r).1 z3) (qM z1),rfl⟩
 | .slT a b,C,X,h,e=>a6 (b:=chk C false (.slT a b) e) fun z=>by
  obtain ⟨⟨l,s⟩,z0,z⟩:=aj z
  obtain ⟨p,rfl⟩:=fY z0
  obtain ⟨z1,z⟩:=ae z
  obtain ⟨⟨s1,s2,s3⟩,z0,z⟩:=aj z
  obtain ⟨q,e0⟩:=rW z0
  have e0:s=.Slice s1 s2 s3 q:=e0
  obtain ⟨z,z4⟩:=ae z
  obtain ⟨z2,z3⟩:=ae z
  have w2:s1=none:=iP z2
  have w3:s3=none:=iP z3
  obtain ⟨r,y0,z4⟩:=aj z4
  have y1:s2=some r:=y0
  rw [w2,w3,y1] at e0
  subst e0
  exact ⟨xK ((ah a h l).1 z1) ((ah b h r).1 z4),rfl⟩
 | .slF _ _,C,X,h,e=>fz rfl rfl
 | .rev a,C,X,h,e=>a6 (b:=chk C false (.rev a) e) fun z=>by
  obtain ⟨⟨l,s⟩,z0,z⟩:=aj z
  obtain ⟨p,rfl⟩:=fY z0
  obtain ⟨z1,z⟩:=ae z
  obtain ⟨⟨s1,s2,s3⟩,z0,z⟩:=aj z
  obtain ⟨q,e0⟩:=rW z0
  have e0:s=.Slice s1 s2 s3 q:=e0
  obtain ⟨z,z4⟩:=ae z
  obtain ⟨z2,z3⟩:=ae z
  have w2:s1=none:=iP z2
  have w3:s2=none:=iP z3
  obtain ⟨r,y0,z4⟩:=aj z4
  have y1:s3=some r:=y0
  rw [w2,w3,y1] at e0
  subst e0
  exact ⟨yX ((ah a h l).1 z1) z4,rfl⟩
 | .call f es,C,X,h,e=>a6 (b:=chk C false (.call f es) e) fun z=>by
  obtain ⟨⟨g,as,ks,p⟩,z0,z⟩:=aj z
  have z0:=jw z0
  subst z0
  obtain ⟨z,z4⟩:=ae z
  obtain ⟨z,z3⟩:=ae z
  obtain ⟨z1,z2⟩:=ae z
  obtain ⟨x,y0,z1⟩:=aj z1
  obtain ⟨q,e0⟩:=dG y0
  have e0:g=.Name x q:=e0
  obtain ⟨y1,y2⟩:=ae z1
  rw [beq_iff_eq] at y2
  have w2:ks=[]:=by rw [List.isEmpty_iff] at z2; exact z2
  subst e0 w2
  obtain ⟨q1,q2,q3⟩:=gn es h _ z4
  dsimp only at z3 q1 q2 q3
  cases as with
  | nil=>cases z3
  | cons y ys =>
   rw [List.all_cons] at q3
   exact ⟨wL h y1 y2 q1 q2 (ae q3).1 (ae q3).2,rfl⟩
 | .bi o a,C,X,h,e=>by
  have gen:(∀ t,chk C t (.bi o a) e=((pC o).any fun x=>b8 C e x fun ys=>of1 ys fun y=>chk C false a y))->nQ X cl e (.bi o a) (chk C false (.bi o a) e) (chk C true (.bi o a) e):=fun heq=>by
   rw [heq,heq]
   refine a6 fun z=>?_
   obtain ⟨x,y0,z⟩:=aj z
   obtain ⟨p,as,pos,rfl,b1,b2,z3,z4⟩:=aU h z
   obtain ⟨y,rfl,z4⟩:=a9 z4
   exact ⟨A3 h.calm y0 b1 b2 ((ah a h y).1 z4) (all1 z3),rfl⟩
  cases o
  case lenSet =>
   refine a6 (b:=chk C false (.bi .lenSet a) e) fun z=>?_
   rw [chk] at z
   obtain ⟨p,as,pos,rfl,b1,b2,z3,z4⟩:=aU h z
   obtain ⟨y,rfl,z5⟩:=a9 z4
   obtain ⟨p',as',pos',rfl,b1',b2',z3',z6⟩:=aU h z5
   obtain ⟨y,rfl,z7⟩:=a9 z6
   exact ⟨si h.calm b1 b2 b1' b2' ((ah a h y).1 z7) (all1 z3'),rfl⟩
  all_goals exact gen fun t=>rfl
 | .max a b,C,X,h,e=>a6 (b:=chk C false (.max a b) e) fun z=>by
  rw [chk] at z
  obtain ⟨p,as,pos,rfl,b1,b2,z3,z4⟩:=aU h z
  obtain ⟨y,u,rfl,z4⟩:=dE z4
  exact ⟨yZ h.calm b1 b2 ((ah a h y).1 (ae z4).1) ((ah b h u).1 (ae z4).2) (all2 z3).1 (all2 z3).2,rfl⟩
 | .min _ _,C,X,h,e=>fz rfl rfl
 | .isi a ty,C,X,h,e=>a6 (b:=chk C false (.isi a ty) e) fun z=>by
  rw [chk] at z
  obtain ⟨p,as,pos,rfl,b1,b2,z3,z4⟩:=aU h z
  obtain ⟨y,u,rfl,z4⟩:=dE z4
  obtain ⟨z5,z6⟩:=ae z4
  obtain ⟨x,w0,w⟩:=aj z5
  obtain ⟨q,rfl⟩:=dG w0
  obtain ⟨w1,w2⟩:=ae w
  rw [beq_iff_eq] at w1
  subst w1
  obtain ⟨t1,t2,t3⟩:=qv ty
  exact ⟨xZ b1 b2 (h.bl w2).1 (h.bl w2).2 t1 t2 t3 ((ah a h y).1 z6) (all2 z3).1,rfl⟩
 | .rng1 a,C,X,h,e=>a6 (b:=chk C false (.rng1 a) e) fun z=>by
  rw [chk] at z
  obtain ⟨p,as,pos,rfl,b1,b2,z3,z4⟩:=aU h z
  obtain ⟨y,rfl,z5⟩:=a9 z4
  obtain ⟨p',as',pos',rfl,b1',b2',z3',z6⟩:=aU h z5
  obtain ⟨y,rfl,z7⟩:=a9 z6
  exact ⟨wI h.calm b1 b2 b1' b2' ((ah a h y).1 z7) (all1 z3'),rfl⟩
 | .rng2 a b,C,X,h,e=>a6 (b:=chk C false (.rng2 a b) e) fun z=>by
  rw [chk] at z
  obtain ⟨p,as,pos,rfl,b1,b2,z3,z4⟩:=aU h z
  obtain ⟨y,rfl,z5⟩:=a9 z4
  obtain ⟨p',as',pos',rfl,b1',b2',z3',z6⟩:=aU h z5
  obtain ⟨y,u,rfl,z7⟩:=dE z6
  exact ⟨wb h.calm b1 b2 b1' b2' ((ah a h y).1 (ae z7).1) ((ah b h u).1 (ae z7).2) (all2 z3').1 (all2 z3').2,rfl⟩
 | .rng3 c a b,C,X,h,e=>a6 (b:=chk C false (.rng3 c a b) e) fun z=>by
  rw [chk] at z
  obtain ⟨p,as,pos,rfl,b1,b2,z3,z4⟩:=aU h z
  obtain ⟨y,rfl,z5⟩:=a9 z4
  obtain ⟨p',as',pos',rfl,b1',b2',z3',z6⟩:=aU h z5
  obtain ⟨y,u,q,rfl,z7⟩:=qW z6
  obtain ⟨z7,z9⟩:=ae z7
  obtain ⟨z7,z8⟩:=ae z7
  exact ⟨wm h.calm b1 b2 b1' b2' ((ah a h y).1 z8) ((ah b h u).1 z9) (i9 z3').1 (i9 z3').2.1 z7,rfl⟩
 | .comp d tg it c,C,X,h,e=>a6 (b:=chk C false (.comp d tg it c) e) fun z=>by
  obtain ⟨⟨elt,gens,scope,p⟩,z0,z⟩:=aj z
  have z0:=jr z0
  subst z0
  obtain ⟨⟨tgE,iter,ifs,asy⟩,y1,z⟩:=a9 z
  have y1:gens=[⟨tgE,iter,ifs,asy⟩]:=y1
  obtain ⟨w,y2,z⟩:=a9 z
  have y2:ifs=[w]:=y2
  obtain ⟨z,z8⟩:=ae z
  obtain ⟨z,z7⟩:=ae z
  obtain ⟨z,z6⟩:=ae z
  obtain ⟨z,z5⟩:=ae z
  obtain ⟨z,z4⟩:=ae z
  obtain ⟨z,z3⟩:=ae z
  obtain ⟨z,z2⟩:=ae z
  obtain ⟨z0,z1⟩:=ae z
  rw [beq_iff_eq] at z0
  have w0:asy=0:=z0
  subst y1 w0
  subst y2
  refine ⟨sW h.calm (by rw [h.scope]; exact iX z1) (dF it h _ _ z6) ?_ (c9 z3 _),rfl⟩
  exact ⟨fun cls Ca fp s H=>gb h z5 z4,fun cls Ca fp s H pins s' σ H' Q I q=>lr ((ah c (h.blk cls Ca fp s H) _).2 z8).1 I q,fun cls Ca fp s H=>(ah d (h.blk cls Ca fp s H) _).1 z7,fun i x hx hl=>dI z2 i x (by rw [<- h.names]; exact hx) hl⟩
 | .compA d tg it,C,X,h,e=>a6 (b:=chk C false (.compA d tg it) e) fun z=>by
  obtain ⟨⟨elt,gens,scope,p⟩,z0,z⟩:=aj z
  have z0:=jr z0
  subst z0
  obtain ⟨⟨tgE,iter,ifs,asy⟩,y1,z⟩:=a9 z
  have y1:gens=[⟨tgE,iter,ifs,asy⟩]:=y1
  obtain ⟨z,z7⟩:=ae z
  obtain ⟨z,z6⟩:=ae z
  obtain ⟨z,z5⟩:=ae z
  obtain ⟨z,z4⟩:=ae z
  obtain ⟨z,z3⟩:=ae z
  obtain ⟨z,z2⟩:=ae z
  obtain ⟨z,z1⟩:=ae z
  obtain ⟨y2,z0⟩:=ae z
  rw [beq_iff_eq] at z0
  have w0:asy=0:=z0
  have w2:ifs=[]:=by rw [List.isEmpty_iff] at y2; exact y2
  subst y1 w0
  subst w2
  refine ⟨sJ h.calm (by rw [h.scope]; exact iX z1) (dF it h _ _ z6) ?_ (c9 z3 _),rfl⟩
  exact ⟨fun cls Ca fp s H=>gb h z5 z4,fun cls Ca fp s H pins s' σ H' Q I q=>fv I q,fun cls Ca fp s H=>(ah d (h.blk cls Ca fp s H) _).1 z7,fun i x hx hl=>dI z2 i x (by rw [<- h.names]; exact hx) hl⟩
 | .compL d tg it,C,X,h,e=>a6 (b:=chk C false (.compL d tg it) e) fun z=>by
  obtain ⟨⟨elt,gens,scope,p⟩,z0,z⟩:=aj z
  have z0:=jr z0
  subst z0
  obtain ⟨⟨tgE,iter,ifs,asy⟩,y1,z⟩:=a9 z
  have y1:gens=[⟨tgE,iter,ifs,asy⟩]:=y1
  obtain ⟨z,z7⟩:=ae z
  obtain ⟨z,z6⟩:=ae z
  obtain ⟨z,z5⟩:=ae z
  obtain ⟨z,z4⟩:=ae z
  obtain ⟨z,z3⟩:=ae z
  obtain ⟨z,z2⟩:=ae z
  obtain ⟨z,z1⟩:=ae z
  obtain ⟨y2,z0⟩:=ae z
  rw [beq_iff_eq] at z0
  have w0:asy=0:=z0
  have w2:ifs=[]:=by rw [List.isEmpty_iff] at y2; exact y2
  subst y1 w0
  subst w2
  refine ⟨uF h.calm (by rw [h.scope]; exact iX z1) (dF it h _ _ z6) ?_ (c9 z3 _),rfl⟩
  exact ⟨fun cls Ca fp s H=>gb h z5 z4,fun cls Ca fp s H pins s' σ H' Q I q=>fv I q,fun cls Ca fp s H=>(ah d (h.blk cls Ca fp s H) _).1 z7,fun i x hx hl=>dI z2 i x (by rw [<- h.names]; exact hx) hl⟩
 | .dk0,C,X,h,e=>a6 (b:=chk C false .dk0 e) fun z=>by
  obtain ⟨⟨ks,vs⟩,z0,z⟩:=aj z
  obtain ⟨p,rfl⟩:=mh z0
  obtain ⟨z1,z2⟩:=ae z
  rw [List.isEmpty_iff] at z1 z2
  have z1:ks=[]:=z1
  have z2:vs=[]:=z2
  subst z1 z2
  exact ⟨An,rfl⟩
 | .dt0,C,X,h,e=>a6 (b:=chk C false .dt0 e) fun z=>by
  obtain ⟨⟨ks,vs⟩,z0,z⟩:=aj z
  obtain ⟨p,rfl⟩:=mh z0
  obtain ⟨z1,z2⟩:=ae z
  rw [List.isEmpty_iff] at z1 z2
  have z1:ks=[]:=z1
  have z2:vs=[]:=z2
  subst z1 z2
  exact ⟨yT,rfl⟩
 | .chain3 _ _ _ _ _ _ _,C,X,h,e=>fz rfl rfl
 | .slB _ _ _,C,X,h,e=>fz rfl rfl
 | .index _ _,C,X,h,e=>fz rfl rfl
 | .join _,C,X,h,e=>fz rfl rfl
theorem gn {cl:RL.Cl}:∀ (es':RL.Es) {C:CC} {X:Cx} (h:XOk C X cl) (es:List Expr),ka C es' es=true->SEs X cl es es'/\de es'=es.length/\es.all noStar=true
 | .nil,C,X,h,es,z=>by
  have z:es=[]:=List.isEmpty_iff.mp z
  subst z
  exact ⟨bQ,rfl,rfl⟩
 | .cons e' es',C,X,h,es,z=>by
  cases es with
  | nil=>cases z
  | cons e es =>
   obtain ⟨z,z3⟩:=ae z
   obtain ⟨z1,z2⟩:=ae z
   obtain ⟨q1,q2,q3⟩:=gn es' h es z3
   exact ⟨aX ((ah e' h e).1 z2) q1 z1,by rw [de,q2,List.length_cons],by rw [List.all_cons,z1,q3]; rfl⟩
theorem dF {cl:RL.Cl}:∀ (it:RL.It) {C:CC} {X:Cx} (h:XOk C X cl) (tg e:Expr),fG C it tg e=true->SI X cl tg e it
 | .seq a,C,X,h,tg,e,z=>vJ ((ah a h e).1 z)
 | .rng1 a,C,X,h,tg,e,z=>by
  rw [fG] at z
  obtain ⟨p,as,pos,rfl,b1,b2,z3,z4⟩:=aU h z
  obtain ⟨y,rfl,z4⟩:=a9 z4
  exact wc b1 b2 ((ah a h y).1 z4) (all1 z3)
 | .rng2 a b,C,X,h,tg,e,z=>by
  rw [fG] at z
  obtain ⟨p,as,pos,rfl,b1,b2,z3,z4⟩:=aU h z
  obtain ⟨y,u,rfl,z4⟩:=dE z4
  exact vS b1 b2 ((ah a h y).1 (ae z4).1) ((ah b h u).1 (ae z4).2) (all2 z3).1 (all2 z3).2
 | .rng3 c a b,C,X,h,tg,e,z=>by
  rw [fG] at z
  obtain ⟨p,as,pos,rfl,b1,b2,z3,z4⟩:=aU h z
  obtain ⟨y,u,q,rfl,z4⟩:=qW z4
  obtain ⟨z4,z6⟩:=ae z4
  obtain ⟨z4,z5⟩:=ae z4
  exact vU b1 b2 ((ah a h y).1 z5) ((ah b h u).1 z6) (i9 z3).1 (i9 z3).2.1 z4
 | .chr _,C,X,h,tg,e,z=>by cases z
 | .enm a,C,X,h,tg,e,z=>by
  rw [fG] at z
  obtain ⟨z0,zz⟩:=ae z
  obtain ⟨ts,z0⟩:=Option.isSome_iff_exists.mp z0
  obtain ⟨k,tp,rfl⟩:=dO z0
  obtain ⟨p,as,pos,rfl,b1,b2,z3,z4⟩:=aU h zz
  obtain ⟨y,rfl,z4⟩:=a9 z4
  exact xp b1 b2 ((ah a h y).1 z4) (all1 z3)
 | .zip a b,C,X,h,tg,e,z=>by
  rw [fG] at z
  obtain ⟨z0,zz⟩:=ae z
  obtain ⟨ts,z0⟩:=Option.isSome_iff_exists.mp z0
  obtain ⟨k,tp,rfl⟩:=dO z0
  obtain ⟨p,as,pos,rfl,b1,b2,z3,z4⟩:=aU h zz
  obtain ⟨y,u,rfl,z4⟩:=dE z4
  exact zE b1 b2 ((ah a h y).1 (ae z4).1) ((ah b h u).1 (ae z4).2) (all2 z3).1 (all2 z3).2
 | .nope,C,X,h,tg,e,z=>by cases z
end
end RS
namespace RS
open PySem PySem.Spec PyProof.Rows L2
noncomputable def iL:Expr->Bool
 | .ListComp _ _ _ _=>false
 | .SetComp _ _ _ _=>false
 | .DictComp _ _ _ _ _=>false
 | _=>true
noncomputable def qb:Expr->Bool
 | .Tuple _ _ _=>false
 | _=>true
noncomputable def uz (e:Expr):Bool:=match e with
 | .SetComp _ _ _ _=>false
 | .DictComp _ _ _ _ _=>false
 | _=>true
noncomputable def sN (C:CC) (x y:Str) (px py:Pos) (a b:Expr):Bool :=
 C.sc.kind == .function && C.sc.names.lookup x == some .local && C.sc.names.lookup y == some .local && px.line == py.line && !(x == y) && noStar a && noStar b && !(foldedForSure 8 a && foldedForSure 8 b) && !(constantsAlone 8 a && constantsAlone 8 b)
noncomputable def oP (M:List Nat):RL.E->Bool
 | .var i=>M.contains i
 | _=>false
noncomputable def mX:Expr->Option (Str × Pos)
 | .Name x p=>some (x,p)
 | _=>none
theorem lF {e:Expr} {x:Str} {p:Pos} (h:mX e=some (x,p)):e=.Name x p:=by
 cases e
 case Name=>cases h; rfl
 all_goals exact nos h
noncomputable def jN (C:CC) (i:Nat) (nm:Str) (e:Expr) (f:List Expr->Bool):Bool:=(lT e).any fun q=>(vb q.1).any (fun a=>lO C i a.1 && a.2.1 == nm && a.2.2.endLine == q.2.2.2.line) && q.2.2.1.isEmpty && f q.2.1
mutual
noncomputable def yW (C:CC) (M:List Nat):RL.S->Stmt->Bool
 | .asg i e'=>fun st=>(jk st).any fun q=>of1 q.1 fun t=>gJ C i t && !M.contains i && uz q.2 && chk C false e' q.2
 | .own i e'=>fun st=>(jk st).any fun q=>of1 q.1 fun t=>gJ C i t && M.contains i && decide (M.count i<2) && uz q.2 && chk C false e' q.2
 | .unp is e'=>fun st=>(jk st).any fun q=>of1 q.1 fun t=>(iG t).any fun ts=>ja C is ts && is.all (fun i=>!M.contains i) && qb q.2 && chk C false e' q.2
 | .par i j a' b'=>fun st=>(jk st).any fun q=>of1 q.1 fun t=>(iG t).any fun ts=>of2 ts fun s u=>(mX s).any fun x=>(mX u).any fun y=>(iG q.2).any fun vs=>of2 vs fun a b=>nmB C i x.1 && nmB C j y.1 && !(i == j) && !M.contains i && !M.contains j && sN C x.1 y.1 x.2 y.2 a b && chk C false a' a && chk C false b' b
 | .parO _ _ _ _=>fun _=>false
 | .app i e'=>fun st=>(uw st).any fun e=>jN C i "append" e fun as=>of1 as fun y=>M.contains i && noStar y && chk C false e' y
 | .put i k' e'=>fun st=>(jk st).any fun q=>of1 q.1 fun t=>(kT t).any fun u=>lO C i u.1 && M.contains i && j4 u.2 && iL q.2 && chk C false k' u.2 && chk C false e' q.2
 | .pop i j=>fun st=>(jk st).any fun q=>of1 q.1 fun t=>gJ C j t && M.contains i && !M.contains j && jN C i "pop" q.2 fun as=>as.isEmpty
 | .clr _=>fun _=>false
 | .aug _ _ _=>fun _=>false
 | .ife c' a' b'=>fun st=>(wIf st).any fun q=>chk C true c' q.1 && fy C M a' q.2.1 && fy C M b' q.2.2
 | .forr tg it b'=>fun st=>(Ah st).any fun q=>q.2.2.2.isEmpty && fG C it q.1 q.2.1 && j0 C tg q.1 && hX q.2.1 && RL.pB M it && tg.all (fun i=>!M.contains i) && fy C M b' q.2.2.1
 | .mexc _ _ _ _=>fun _=>false
 | .maug _ _ _ _ _=>fun _=>false
 | .ret e'=>fun st=>(Ae st).any fun o=>o.any fun e=>chk C false e' e
 | .exc e'=>fun st=>(uw st).any fun e=>iL e && chk C false e' e
 | .never=>fun _=>true
 | .put2 _ _ _ _ _=>fun _=>false
 | .ifp i e' a' b'=>fun st=>(wIf st).any fun q=>(kX q.1).any fun u=>of1 u.2.1 fun op=>of1 u.2.2 fun e=>op == .NotEq && M.contains i && chk C false e' e && fy C M a' q.2.1 && fy C M b' q.2.2 && jN C i "pop" u.1 fun as=>as.isEmpty
 | .whil _ _=>fun _=>false
noncomputable def fy (C:CC) (M:List Nat):RL.Ss->List Stmt->Bool
 | .nil=>fun xs=>xs.isEmpty
 | .cons s r=>fun xs=>match xs with
  | x :: xs=>yW C M s x && fy C M r xs
  | []=>false
end
structure YOk (C:CC) (X:Cx) (cl:RL.Cl):Prop extends XOk C X cl where
 fn:∀ x,X.fn x=true
section
variable {C:CC} {X:Cx} {cl:RL.Cl} {M:List Nat} {st:Stmt} {e:Expr} {e' k':RL.E} {i:Nat}
theorem gB {t:Option Expr} {l:Nat} {env:Env} (h:iL e=true):swapsWith e t l env=pure false:=by
 cases e <;> first | rfl | (cases h; done)
theorem vp {t:Expr} {spos:Pos} (h:YOk C X cl) (hn:gJ C i t=true) (ha:uz e=true) (hc:chk C false e' e=true):SA X cl (.Assign [t] e spos) i e':=by
 obtain ⟨y,py,rfl,hN,hl⟩:=gA h.toXOk hn
 have plain:swapsWith e (some (.Name y py)) spos.line X.env=pure false->SA X cl (.Assign [.Name y py] e spos) i e':=fun z =>
  uU h.ndX hN hl ((ah e' h.toXOk e).1 hc) (.inl (h.fn y)) z trivial
 by_cases hcomp:iL e=true
 ·exact plain (gB hcomp)
 ·have:∃ elt gens scope p,e=.ListComp elt gens scope p:=by
   cases e <;> first | exact absurd rfl hcomp | exact Bool.noConfusion ha | exact ⟨_,_,_,_,rfl⟩
  obtain ⟨elt,gens,scope,p,rfl⟩:=this
  have hsw:swapsWith (.ListComp elt gens scope p) (some (.Name y py)) spos.line X.env=pure (X.env.blockKind == .function && X.env.kindOf y == some .local && py.line == p.line && !(scope.names.any fun (n,k)=>n == y && (k == .local || k == .cell))):=rfl
  by_cases hb:(X.env.blockKind == .function && X.env.kindOf y == some .local && py.line == p.line && !(scope.names.any fun (n,k)=>n == y && (k == .local || k == .cell)))=true
  ·have hy:X.env.scope.names.lookup y=some .local:=by
    obtain ⟨q,_⟩:=ae (ae hb).1
    have q2:=(ae q).2
    rw [beq_iff_eq] at q2
    exact q2
   rw [hb] at hsw
   by_cases hk:∃ d tg it c,e'=.comp d tg it c
   ·obtain ⟨d,tg,it,c,rfl⟩:=hk
    obtain ⟨⟨tgE,iter,ifs,asy⟩,y1,z⟩:=a9 hc
    have y1:gens=[⟨tgE,iter,ifs,asy⟩]:=y1
    obtain ⟨w,y2,z⟩:=a9 z
    have y2:ifs=[w]:=y2
    obtain ⟨z,z8⟩:=ae z
    obtain ⟨z,z7⟩:=ae z
    obtain ⟨z,z6⟩:=ae z
    obtain ⟨z,z5⟩:=ae z
    obtain ⟨z,z4⟩:=ae z
    obtain ⟨z,z3⟩:=ae z
    obtain ⟨z,z2⟩:=ae z
    obtain ⟨z0,z1⟩:=ae z
    rw [beq_iff_eq] at z0
    have w0:asy=0:=z0
    subst y1 w0
    subst y2
    refine ub h.calm h.ndX hN hy (by rw [h.scope]; exact iX z1) (dF it h.toXOk _ _ z6) ?_ (c9 z3 _) hsw
    exact ⟨fun cls Ca fp s H=>gb h.toXOk z5 z4,fun cls Ca fp s H pins s' σ H' Q I q=>lr ((ah c (h.toXOk.blk cls Ca fp s H) _).2 z8).1 I q,fun cls Ca fp s H=>(ah d (h.toXOk.blk cls Ca fp s H) _).1 z7,fun i x hx hl=>dI z2 i x (by rw [<- h.names]; exact hx) hl⟩
   ·by_cases hk2:∃ d tg it,e'=.compA d tg it
    ·obtain ⟨d,tg,it,rfl⟩:=hk2
     obtain ⟨⟨tgE,iter,ifs,asy⟩,y1,z⟩:=a9 hc
     have y1:gens=[⟨tgE,iter,ifs,asy⟩]:=y1
     obtain ⟨z,z7⟩:=ae z
     obtain ⟨z,z6⟩:=ae z
     obtain ⟨z,z5⟩:=ae z
     obtain ⟨z,z4⟩:=ae z
     obtain ⟨z,z3⟩:=ae z
     obtain ⟨z,z2⟩:=ae z
     obtain ⟨z,z1⟩:=ae z
     obtain ⟨y2,z0⟩:=ae z
     rw [beq_iff_eq] at z0
     have w0:asy=0:=z0
     have w2:ifs=[]:=by rw [List.isEmpty_iff] at y2; exact y2
     subst y1 w0
     subst w2
     refine uy h.calm h.ndX hN hy (by rw [h.scope]; exact iX z1) (dF it h.toXOk _ _ z6) ?_ (c9 z3 _) hsw
     exact ⟨fun cls Ca fp s H=>gb h.toXOk z5 z4,fun cls Ca fp s H pins s' σ H' Q I q=>fv I q,fun cls Ca fp s H=>(ah d (h.toXOk.blk cls Ca fp s H) _).1 z7,fun i x hx hl=>dI z2 i x (by rw [<- h.names]; exact hx) hl⟩
    ·by_cases hk3:∃ d tg it,e'=.compL d tg it
     ·obtain ⟨d,tg,it,rfl⟩:=hk3
      obtain ⟨⟨tgE,iter,ifs,asy⟩,y1,z⟩:=a9 hc
      have y1:gens=[⟨tgE,iter,ifs,asy⟩]:=y1
      obtain ⟨z,z7⟩:=ae z
      obtain ⟨z,z6⟩:=ae z
      obtain ⟨z,z5⟩:=ae z
      obtain ⟨z,z4⟩:=ae z
      obtain ⟨z,z3⟩:=ae z
      obtain ⟨z,z2⟩:=ae z
      obtain ⟨z,z1⟩:=ae z
      obtain ⟨y2,z0⟩:=ae z
      rw [beq_iff_eq] at z0
      have w0:asy=0:=z0
      have w2:ifs=[]:=by rw [List.isEmpty_iff] at y2; exact y2
      subst y1 w0
      subst w2
      refine sV h.calm h.ndX hN hy (by rw [h.scope]; exact iX z1) (dF it h.toXOk _ _ z6) ?_ (c9 z3 _) hsw
      exact ⟨fun cls Ca fp s H=>gb h.toXOk z5 z4,fun cls Ca fp s H pins s' σ H' Q I q=>fv I q,fun cls Ca fp s H=>(ah d (h.toXOk.blk cls Ca fp s H) _).1 z7,fun i x hx hl=>dI z2 i x (by rw [<- h.names]; exact hx) hl⟩
     ·cases e' <;> first | exact Bool.noConfusion hc | exact absurd ⟨_,_,_,_,rfl⟩ hk | exact absurd ⟨_,_,_,rfl⟩ hk2 | exact absurd ⟨_,_,_,rfl⟩ hk3 | (rename_i b a; cases b <;> exact Bool.noConfusion hc)
  ·have hb':=Bool.not_eq_true _ ▸ hb
   rw [hb'] at hsw
   exact plain hsw
theorem oT {is:List Nat} (h:is.all (fun i=>!M.contains i)=true):∀ i∈is,M.contains i=false:=fun i hi=>by
 rw [List.all_eq_true] at h
 simpa using h i hi
theorem jX {b:Bool} (h:(!b)=true):b=false:=by simpa using h
theorem km {nm:Str} {f:List Expr->Bool} (h:XOk C X cl) (z:jN C i nm e f=true):∃ x p apos as pos,e=.Call (.Attribute (.Name x p) nm apos) as [] pos/\X.N[i]?=some x/\Vis X.env.scope x/\(x == ("__debug__" : Str))=false/\(x == ("__classdict__" : Str))=false/\(apos.endLine == pos.line)=true/\f as=true:=by
 unfold jN at z
 obtain ⟨⟨g,as,ks,pos⟩,z0,z⟩:=aj z
 have e0:=jw z0
 obtain ⟨z,z3⟩:=ae z
 obtain ⟨z1,z2⟩:=ae z
 obtain ⟨⟨o,a,apos⟩,y0,z1⟩:=aj z1
 have e1:=tQ y0
 have e1:g=.Attribute o a apos:=e1
 obtain ⟨z1,y3⟩:=ae z1
 obtain ⟨y1,y2⟩:=ae z1
 rw [beq_iff_eq] at y2
 have y2:a=nm:=y2
 have w2:ks=[]:=by rw [List.isEmpty_iff] at z2; exact z2
 obtain ⟨x,p,e2,g1,g2,g3,g4⟩:=iU h y1
 have e2:o=.Name x p:=e2
 rw [e1,w2,y2,e2] at e0
 exact ⟨x,p,apos,as,pos,e0,g1,g2,g3,g4,y3,z3⟩
theorem wN (h1:PS X st (kR (tE X.K cl e') (uG (hZ i) (tE X.K cl k') pE))) (h2:PS X st (pJ (hZ i) (tE X.K cl k') (tE X.K cl e'))) (hi:M.contains i=true):SS X cl M st (.put i k' e'):=by
 have a1:=yj h1 hi trivial
 have a2:=xh h2 hi
 intro pins s σ H D I h
 obtain ⟨σD,o,σD',rv,e,k⟩:=h
 rw [RL.evS] at e
 obtain ⟨d,e1,e⟩:=bind_some e
 obtain ⟨kk,e2,e⟩:=bind_some e
 obtain ⟨l,e3,e⟩:=bind_some e
 cases l with
 | lst ds=>exact a1 pins s σ H D I ⟨σD,o,σD',rv,by dsimp only; rw [e1]; dsimp only [Option.bind_some]; rw [e2]; dsimp only [Option.bind_some]; rw [e3]; exact e,k⟩
 | _=>exact a2 pins s σ H D I ⟨σD,o,σD',rv,by dsimp only; rw [e1]; dsimp only [Option.bind_some]; rw [e2]; dsimp only [Option.bind_some]; rw [e3]; exact e,k⟩
theorem pQ {o k:Expr} {pos:Pos} {env:Env} (h:j4 k=true) (v:Value):assign (.Subscript o k pos) env v=(do
   let ov <- holding [v] (eval o env)
   let iv <- holding [v,ov] (eval k env)
   standAt pos
   holding [v,ov,iv] (setItem ov iv v)
   release [v,ov,iv] []):=by
 cases k <;> first | rfl | (cases h; done)
theorem qP {us:List Expr} {kk:Nat} {tp:Pos} {env:Env} (h:qb e=true):swappedStores [.Tuple us kk tp] e env=pure none:=by
 cases e <;> first | rfl | (cases h; done)
theorem zU {x y:Str} {px py pt pt2:Pos} {kt k2:Nat} {a b:Expr} (h:XOk C X cl) (hp:sN C x y px py a b=true):swappedStores [.Tuple [.Name x px,.Name y py] kt pt] (.Tuple [a,b] k2 pt2) X.env=pure (some [x,y]) /\
  X.env.scope.names.lookup x=some .local/\X.env.scope.names.lookup y=some .local/\noStar a=true/\noStar b=true:=by
 unfold sN at hp
 obtain ⟨hp,h9⟩:=ae hp
 obtain ⟨hp,h8⟩:=ae hp
 obtain ⟨hp,h7⟩:=ae hp
 obtain ⟨hp,h6⟩:=ae hp
 obtain ⟨hp,h5⟩:=ae hp
 obtain ⟨hp,h4⟩:=ae hp
 obtain ⟨hp,h3⟩:=ae hp
 obtain ⟨h1,h2⟩:=ae hp
 rw [beq_iff_eq] at h1 h2 h3 h4
 rw [<- h.scope] at h1 h2 h3
 refine ⟨?_,h2,h3,h6,h7⟩
 have bk:X.env.blockKind=.function:=by
  unfold Env.blockKind
  rw [h1]
  rfl
 have k1:X.env.kindOf x=some .local:=h2
 have k2:X.env.kindOf y=some .local:=h3
 have hxy:x≠y:=by simpa using h5
 have fs':foldedForSure 8 a=true->foldedForSure 8 b=false:=fun z=>by simpa [z] using h8
 have ca':constantsAlone 8 a=true->constantsAlone 8 b=false:=fun z=>by simpa [z] using h9
 have ed:[x,y].eraseDups=[x,y]:=by
  rw [List.eraseDups_cons]
  simp [Ne.symm hxy]
  rfl
 unfold swappedStores
 simp only [bk]
 simp [show ∀ (x:Str) (p:Pos),(Expr.Name x p).pos=p from fun _ _=>rfl,k1,k2,h4,ed]
 refine (if_neg ?_).trans ((if_neg ?_).trans (if_neg ?_))
 ·intro hh
  rcases hh with hh | hh
  ·cases a <;> first | exact Bool.noConfusion (show false=true from hh) | exact Bool.noConfusion (show false=true from h6)
  ·cases b <;> first | exact Bool.noConfusion (show false=true from hh) | exact Bool.noConfusion (show false=true from h7)
 ·intro hh
  have:=fs' hh.1
  rw [hh.2] at this
  cases this
 ·intro hh
  have:=ca' hh.1
  rw [hh.2] at this
  cases this
end
section
variable {X:Cx} {cl:RL.Cl}
mutual
theorem vN:∀ (s:RL.S) {C:CC} {M:List Nat} (h:YOk C X cl) (st:Stmt),yW C M s st=true->SS X cl M st s
 | .asg i e',C,M,h,st,z=>by
  obtain ⟨⟨ts,e⟩,z0,z⟩:=aj z
  obtain ⟨p,rfl⟩:=eM z0
  obtain ⟨t,y1,z⟩:=a9 z
  have y1:ts=[t]:=y1
  obtain ⟨z,z4⟩:=ae z
  obtain ⟨z,z3⟩:=ae z
  obtain ⟨z1,z2⟩:=ae z
  subst y1
  exact xB (vp h z1 z3 z4) (jX z2)
 | .own i e',C,M,h,st,z=>by
  obtain ⟨⟨ts,e⟩,z0,z⟩:=aj z
  obtain ⟨p,rfl⟩:=eM z0
  obtain ⟨t,y1,z⟩:=a9 z
  have y1:ts=[t]:=y1
  obtain ⟨z,z5⟩:=ae z
  obtain ⟨z,z4⟩:=ae z
  obtain ⟨z,z3⟩:=ae z
  obtain ⟨z1,z2⟩:=ae z
  subst y1
  exact yf (vp h z1 z4 z5) z2 (by simpa using z3)
 | .unp is e',C,M,h,st,z=>by
  obtain ⟨⟨ts,e⟩,z0,z⟩:=aj z
  obtain ⟨p,rfl⟩:=eM z0
  obtain ⟨t,y1,z⟩:=a9 z
  have y1:ts=[t]:=y1
  obtain ⟨us,y2,z⟩:=aj z
  obtain ⟨k,tp,rfl⟩:=dO y2
  obtain ⟨z,z4⟩:=ae z
  obtain ⟨z,z3⟩:=ae z
  obtain ⟨z1,z2⟩:=ae z
  subst y1
  obtain ⟨g1,g2,g3⟩:=kD h.toXOk (T:=is) (fun i x _ _=>.inl (h.fn x)) (fun _ h=>h) z1
  refine wM (qi ((ah e' h.toXOk e).1 z4) (sj (qG h.calm g1 g2 g3) (qO h.calm g1 g2 g3)) ?_ (qP z3)) (oT z2)
  cases e <;> rfl
 | .par i j a' b',C,M,h,st,z=>by
  obtain ⟨⟨ts,e⟩,z0,z⟩:=aj z
  obtain ⟨p,rfl⟩:=eM z0
  obtain ⟨t,y1,z⟩:=a9 z
  have y1:ts=[t]:=y1
  obtain ⟨us,y2,z⟩:=aj z
  obtain ⟨k,tp,e2⟩:=dO y2
  obtain ⟨s1,s2,y3,z⟩:=dE z
  obtain ⟨⟨x,px⟩,y4,z⟩:=aj z
  obtain ⟨⟨y,py⟩,y5,z⟩:=aj z
  obtain ⟨vs,y6,z⟩:=aj z
  obtain ⟨k',tp',e6⟩:=dO y6
  have e6:e=.Tuple vs k' tp':=e6
  obtain ⟨a,b,y7,w⟩:=dE z
  rw [lF y4,lF y5] at y3
  rw [y3] at e2
  have e7:e=.Tuple [a,b] k' tp':=by rw [<- y7]; exact e6
  rw [e2] at y1
  subst y1 e7
  obtain ⟨w,z8⟩:=ae w
  obtain ⟨w,z7⟩:=ae w
  obtain ⟨w,z6⟩:=ae w
  obtain ⟨w,z5⟩:=ae w
  obtain ⟨w,z4⟩:=ae w
  obtain ⟨w,z3⟩:=ae w
  obtain ⟨z1,z2⟩:=ae w
  obtain ⟨g1,g2,g3,g4,g5⟩:=zU h.toXOk z6
  exact xO (zc h.calm h.ndX (h.nm z1).1 (h.nm z2).1 (by simpa using z3) g2 g3 (aX (cl:=cl) ((ah a' h.toXOk a).1 z7) (aX ((ah b' h.toXOk b).1 z8) bQ g5) g4) g1) (jX z4) (jX z5)
 | .parO _ _ _ _,C,M,h,st,z=>by cases z
 | .app i e',C,M,h,st,z=>by
  obtain ⟨e,z0,z8⟩:=aj z
  obtain ⟨p0,rfl⟩:=oH z0
  obtain ⟨x,p,apos,as,pos,rfl,g1,g2,g3,g4,z6,z7⟩:=km h.toXOk z8
  obtain ⟨y,rfl,z9⟩:=a9 z7
  obtain ⟨z9,z7⟩:=ae z9
  obtain ⟨z4,z5⟩:=ae z9
  refine zv (oK (A6 PySem.F.plainAttrs_list PySem.F.slot_list_append PySem.F.type_list_append l6 (fT g1 g2 g3 g4) (aX (cl:=cl) ((ah e' h.toXOk y).1 z7) bQ z5) rfl ?_ z6 (aw [] z5) rfl)) z4
  rw [aw [] z5]
  rfl
 | .put i k' e',C,M,h,st,z=>by
  obtain ⟨⟨ts,e⟩,z0,z⟩:=aj z
  obtain ⟨p,rfl⟩:=eM z0
  obtain ⟨t,y1,z⟩:=a9 z
  have y1:ts=[t]:=y1
  obtain ⟨⟨o,k⟩,y2,z⟩:=aj z
  obtain ⟨sp,e2⟩:=fY y2
  obtain ⟨z,z7⟩:=ae z
  obtain ⟨z,z6⟩:=ae z
  obtain ⟨z,z5⟩:=ae z
  obtain ⟨z,z4⟩:=ae z
  obtain ⟨z1,z3⟩:=ae z
  obtain ⟨x,px,e3,g1,g2,g3,g4⟩:=iU h.toXOk z1
  have e3:o=.Name x px:=e3
  rw [e3] at e2
  rw [e2] at y1
  subst y1
  have pv:=fun pos=>fT (X:=X) (pos:=pos) g1 g2 g3 g4
  refine wN (qi ((ah e' h.toXOk e).1 z7) (yy (pv _) ((ah k' h.toXOk k).1 z6) set_list (pQ z4)) ?_ ?_) (xc (Nat.lt_of_le_of_lt (by omega) h.hu) (pv _) ((ah k' h.toXOk k).1 z6) ((ah e' h.toXOk e).1 z7) (gB z5)) z3
  ·unfold swapsWithSole
   exact gB z5
  ·rfl
 | .pop i j,C,M,h,st,z=>by
  obtain ⟨⟨ts,e⟩,z0,z⟩:=aj z
  obtain ⟨p,rfl⟩:=eM z0
  obtain ⟨t,y1,z⟩:=a9 z
  have y1:ts=[t]:=y1
  obtain ⟨z,z4⟩:=ae z
  obtain ⟨z,z3⟩:=ae z
  obtain ⟨z1,z2⟩:=ae z
  obtain ⟨y,py,rfl,l1,l2⟩:=gA h.toXOk z1
  obtain ⟨x,px,apos,as,pos,e2,g1,g2,g3,g4,z6,z5⟩:=km h.toXOk z4
  have e2:e=.Call (.Attribute (.Name x px) "pop" apos) as [] pos:=e2
  have z5:as=[]:=List.isEmpty_iff.mp z5
  subst y1 z5 e2
  exact xt (rJ h.ndX l1 l2 (qH PySem.F.plainAttrs_list PySem.F.slot_list_pop PySem.F.type_list_pop r0 (fT g1 g2 g3 g4) rfl z6) rfl (.inl (h.fn _))) z2 (jX z3)
 | .clr _,C,M,h,st,z=>by cases z
 | .aug _ _ _,C,M,h,st,z=>by cases z
 | .ife c' a' b',C,M,h,st,z=>by
  obtain ⟨⟨c,a,b⟩,z0,z⟩:=aj z
  obtain ⟨p,rfl⟩:=qL z0
  obtain ⟨z,z3⟩:=ae z
  obtain ⟨z1,z2⟩:=ae z
  exact Ar ((ah c' h.toXOk c).2 z1).1 (cR a' h a z2) (cR b' h b z3)
 | .forr tg it b',C,M,h,st,z=>by
  obtain ⟨⟨t,it',b,o⟩,z0,z⟩:=aj z
  obtain ⟨p,rfl⟩:=wy z0
  obtain ⟨z,z7⟩:=ae z
  obtain ⟨z,z6⟩:=ae z
  obtain ⟨z,z5⟩:=ae z
  obtain ⟨z,z4⟩:=ae z
  obtain ⟨z,z3⟩:=ae z
  obtain ⟨z1,z2⟩:=ae z
  have z1:o=[]:=List.isEmpty_iff.mp z1
  subst z1
  exact zj h.xe h.calm (dF it h.toXOk t it' z2) (qz h.toXOk (fun i x _ _=>.inl (h.fn x)) z3) (cR b' h b z7) (c9 z4 _) z5 (oT z6)
 | .mexc _ _ _ _,C,M,h,st,z=>by cases z
 | .maug _ _ _ _ _,C,M,h,st,z=>by cases z
 | .ret e',C,M,h,st,z=>by
  obtain ⟨o,z0,z⟩:=aj z
  obtain ⟨p,rfl⟩:=vA z0
  obtain ⟨e,rfl,zz⟩:=aj z
  by_cases hv:oP M e'=true
  ·have:∃ i,e'=.var i:=by
    cases e' <;> first | exact ⟨_,rfl⟩ | exact Bool.noConfusion hv
   obtain ⟨i,rfl⟩:=this
   obtain ⟨x,q,rfl,g1,g2,g3,g4⟩:=iU h.toXOk zz
   exact wR g1 g2 g3 g4 hv
  ·exact xU ((ah e' h.toXOk e).1 zz) fun i hi=>by
    subst hi
    simpa [oP] using hv
 | .exc e',C,M,h,st,z=>by
  obtain ⟨e,z0,z⟩:=aj z
  obtain ⟨p0,rfl⟩:=oH z0
  obtain ⟨z1,z2⟩:=ae z
  exact zh (oK ((ah e' h.toXOk e).1 z2) (gB z1))
 | .never,C,M,h,st,z=>tL
 | .put2 _ _ _ _ _,C,M,h,st,z=>by cases z
 | .ifp i e' a' b',C,M,h,st,z=>by
  obtain ⟨⟨c,a,b⟩,z0,z⟩:=aj z
  obtain ⟨p,rfl⟩:=qL z0
  obtain ⟨⟨l,os,rs⟩,z0,z⟩:=aj z
  obtain ⟨cp,ec⟩:=fW z0
  have ec:c=.Compare l os rs cp:=ec
  obtain ⟨op,y1,z⟩:=a9 z
  obtain ⟨e,y2,z⟩:=a9 z
  have y1:os=[op]:=y1
  have y2:rs=[e]:=y2
  obtain ⟨z,z6⟩:=ae z
  obtain ⟨z,z5⟩:=ae z
  obtain ⟨z,z4⟩:=ae z
  obtain ⟨z,z3⟩:=ae z
  obtain ⟨z1,z2⟩:=ae z
  rw [beq_iff_eq] at z1
  obtain ⟨x,px,apos,as,pos,e2,g1,g2,g3,g4,z7,z8⟩:=km h.toXOk z6
  have e2:l=.Call (.Attribute (.Name x px) "pop" apos) as [] pos:=e2
  have z8:as=[]:=List.isEmpty_iff.mp z8
  rw [z8] at e2
  rw [y1,y2,z1,e2] at ec
  subst ec
  exact xS (qH PySem.F.plainAttrs_list PySem.F.slot_list_pop PySem.F.type_list_pop r0 (fT g1 g2 g3 g4) rfl z7) ((ah e' h.toXOk e).1 z3) (cR a' h a z4) (cR b' h b z5) z2
 | .whil _ _,C,M,h,st,z=>by cases z
theorem cR:∀ (s:RL.Ss) {C:CC} {M:List Nat} (h:YOk C X cl) (st:List Stmt),fy C M s st=true->SSs X cl M st s
 | .nil,C,M,h,st,z=>by
  have z:st=[]:=List.isEmpty_iff.mp z
  subst z
  exact wX
 | .cons s r,C,M,h,st,z=>by
  cases st with
  | nil=>cases z
  | cons x xs =>
   obtain ⟨z1,z2⟩:=ae z
   exact um (vN s h x z1) (cR r h xs z2)
end
end
end RS
namespace RS
open PySem PySem.Spec PyProof.Rows L2
structure kZ where
 name:Str
 st:Stmt
 ps:List Str
 N:List Str
structure PT' where
 B:List Str
 G:List (Str × Int)
 Ds:List kZ
 T:List RL.Fn
noncomputable def PT'.F (p:PT'):List (Str × List Nat):=(p.Ds.zip p.T).map fun q=>(q.1.name,q.2.mp)
noncomputable def PT'.cc (p:PT') (d:kZ):CC:=⟨d.N,bD d.st,p.B,p.G,p.F⟩
noncomputable def mE (N ps:List Str) (sc:Scope):Bool :=
 sc.kind == .function && !sc.isCoroutine && !sc.isGenerator && decide N.Nodup && N.take ps.length == ps && ps.all (fun x=>sc.names.lookup x == some .local || sc.names.lookup x == some .cell) && sc.names.all (fun y=>!(y.2 == .free))
noncomputable def fnB (p:PT') (d:kZ) (fn:RL.Fn):Bool :=
 mE d.N d.ps (bD d.st) && fn.ps == d.ps.length && fn.nn == d.N.length && decide (d.ps.length<=d.N.length) && (List.range fn.ps).all (fun i=>!fn.M.contains i || fn.mp.contains i) && fn.mp.all (fun i=>decide (i<fn.ps) && decide (2<=fn.M.count i)) && fy (p.cc d) fn.M fn.body (dH d.st)
noncomputable def PT'.ok (p:PT'):Bool:=p.Ds.length == p.T.length && (p.Ds.zip p.T).all fun q=>fnB p q.1 q.2
theorem sU {N ps:List Str} {sc:Scope} (h:mE N ps sc=true):iN N ps sc:=by
 unfold mE at h
 obtain ⟨h,h7⟩:=ae h
 obtain ⟨h,h6⟩:=ae h
 obtain ⟨h,h5⟩:=ae h
 obtain ⟨h,h4⟩:=ae h
 obtain ⟨h,h3⟩:=ae h
 obtain ⟨h1,h2⟩:=ae h
 refine ⟨by simpa using h1,by simpa using h2,by simpa using h3,by simpa using h4,by simpa using h5,fun x hx=>?_,fun y hy=>?_⟩
 ·rw [List.all_eq_true] at h6
  have:=h6 x hx
  rw [Bool.or_eq_true,beq_iff_eq,beq_iff_eq] at this
  exact this
 ·rw [List.all_eq_true] at h7
  have:=h7 y hy
  intro z
  rw [z] at this
  simp at this
structure vh (p:PT') (K:PySem.W.Frag) (mg:Str->Option Value):Prop where
 defs:∀ (f:Nat) (d:kZ),p.Ds[f]?=some d->∃ fa fd,mg d.name=some (.ref fa)/\Fun K d.name d.name d.st fa fd/\PySem.W.keepIn K (.ref fa)=true/\Binds K fd d.ps []
 blt:∀ x∈p.B,mg x=none
 glb:∀ x i,p.G.lookup x=some i->∃ u,mg x=some u/\RelV (.int i) u
section
variable {p:PT'} {K:PySem.W.Frag} {mg:Str->Option Value} {base:Heap} {P:Program} {w:World}
noncomputable def ng (K:PySem.W.Frag) (cl:RL.Cl) (mp:List Nat) (f:Nat):Sp:=if mp=[] then spF K cl f else spM K cl mp f
theorem aO {α:Type} (vs:List α) (k:Nat) (i:Nat) (v:α):(vs.map some ++ List.replicate k none)[i]?=some (some v)↔vs[i]?=some v:=by
 by_cases h:i<vs.length
 ·rw [List.getElem?_append_left (by simpa using h)]
  simp [h]
 ·rw [List.getElem?_append_right (by simpa using h)]
  constructor
  ·intro e
   rw [List.getElem?_replicate] at e
   split at e <;> cases e
  ·intro e
   have:=(List.getElem?_eq_some_iff.mp e).1
   omega
theorem xa {ds:List RL.D} {vs:List V} {H:Hp} {M:List Nat} {k n:Nat} (r:aa nP K H ds vs) (hM:∀ i,i<n->M.contains i=false) (hn:ds.length=n):RVm K M (ds.map some ++ List.replicate k none) (vs.map some ++ List.replicate k none) H:=by
 have nA:∀ a,¬ bp M (vs.map some ++ List.replicate k none) a:=fun a ⟨i,hi,e⟩=>by
  rw [aO] at e
  have:=(List.getElem?_eq_some_iff.mp e).1
  rw [hM i (by rw [<- hn,r.length]; exact this)] at hi
  cases hi
 refine ⟨by simp [r.length],fun i d e=>?_,fun i v e=>?_,fun i j a hi hj e1 e2=>(nA a ⟨i,hi,e1⟩).elim⟩
 ·rw [aO] at e
  obtain ⟨v,h1,h2⟩:=r.get e
  have hl:=(List.getElem?_eq_some_iff.mp e).1
  refine ⟨v,(aO _ _ _ _).mpr h1,?_⟩
  rw [if_neg (by rw [hM i (by omega)]; decide)]
  exact h2.weak fun a ha=>nA a ha
 ·rw [aO] at e
  have hl:=(List.getElem?_eq_some_iff.mp e).1
  exact ⟨ds[i]'(by rw [r.length]; exact hl),(aO _ _ _ _).mpr (by simp)⟩
theorem vO {ds:List RL.D} {vs:List V} {H:Hp} {M mp:List Nat} {k n:Nat} (a:yi K mp ds vs H) (hM:∀ i,i<n->M.contains i=true->i∈mp) (hp:∀ i∈mp,M.contains i=true) (hn:ds.length=n):RVm K M (ds.map some ++ List.replicate k none) (vs.map some ++ List.replicate k none) H:=by
 have r:=a.u5
 have inM:∀ i v,(vs.map some ++ List.replicate k none)[i]?=some (some v)->M.contains i=true->i∈mp/\vs[i]?=some v:=fun i v e hi=>by
  rw [aO] at e
  have:=(List.getElem?_eq_some_iff.mp e).1
  exact ⟨hM i (by rw [<- hn,r.length]; exact this) hi,e⟩
 refine ⟨by simp [r.length],fun i d e=>?_,fun i v e=>?_,fun i j b hi hj e1 e2=>?_⟩
 ·rw [aO] at e
  obtain ⟨v,h1,h2⟩:=r.get e
  have hl:=(List.getElem?_eq_some_iff.mp e).1
  refine ⟨v,(aO _ _ _ _).mpr h1,?_⟩
  by_cases hm:M.contains i=true
  ·rw [if_pos hm]
   obtain ⟨d',b,g1,g2,g3⟩:=a.own i (hM i (by omega) hm)
   rw [e] at g1
   cases g1
   rw [h1] at g2
   cases g2
   exact g3
  ·rw [if_neg hm]
   refine (a.oth i d v (fun z=>hm (hp i z)) e h1).weak fun b ⟨j,hj,ej⟩=>?_
   obtain ⟨q1,q2⟩:=inM j _ ej hj
   exact ⟨j,q1,q2⟩
 ·rw [aO] at e
  have hl:=(List.getElem?_eq_some_iff.mp e).1
  exact ⟨ds[i]'(by rw [r.length]; exact hl),(aO _ _ _ _).mpr (by simp)⟩
 ·obtain ⟨q1,q2⟩:=inM i _ e1 hi
  obtain ⟨q3,q4⟩:=inM j _ e2 hj
  exact a.sep i q1 j q3 b q2 q4
theorem nI {σ:RL.St}:∀ {mp:List Nat} {outs:List RL.D},RL.gc σ mp=some outs->outs.length=mp.length/\∀ (k i:Nat) o,mp[k]?=some i->outs[k]?=some o->σ[i]?=some (some o)
 | [],outs,h=>by
  rw [RL.gc] at h
  cases h
  exact ⟨rfl,fun k i o e=>by simp at e⟩
 | m :: mp,outs,h=>by
  rw [RL.gc] at h
  obtain ⟨d,h1,h⟩:=bind_some h
  obtain ⟨os,h2,h3⟩:=map_some h
  subst h3
  obtain ⟨g1,g2⟩:=nI h2
  refine ⟨by simp [g1],fun k i o e1 e2=>?_⟩
  cases k with
  | zero =>
   simp at e1 e2
   subst e1 e2
   exact slot_get h1
  | succ k=>exact g2 k i o (by simpa using e1) (by simpa using e2)
theorem qf {fn:RL.Fn} {d r:RL.D} {σ:RL.St} (h:RL.aE fn d σ=some r) (hm:fn.mp=[]):r=d:=by
 unfold RL.aE at h
 rw [hm] at h
 simpa using h.symm
theorem yl {fn:RL.Fn} {d r:RL.D} {σ:RL.St} (h:RL.aE fn d σ=some r) (hm:fn.mp≠[]):d.imm=true/\∃ outs,RL.gc σ fn.mp=some outs/\r=.tup (d :: outs):=by
 unfold RL.aE at h
 rw [if_neg (by simpa using hm)] at h
 split at h
 ·rename_i im
  obtain ⟨os,h1,h2⟩:=map_some h
  exact ⟨im,os,h1,h2.symm⟩
 ·cases h
theorem qA (hok:p.ok=true) (tp:vh p K mg):∀ (n f:Nat) (d:kZ) (fn:RL.Fn),p.Ds[f]?=some d->p.T[f]?=some fn->∀ fa fd,Fun K d.name d.name d.st fa fd->fC P w K mg base CX0 n fa fd d.ps (ng K (RL.ax p.T n) fn.mp f)
 | 0,f,d,fn,hd,hf,fa,fd,F=>by
  have no:∀ vs H Q E,¬ ng K (RL.ax p.T 0) fn.mp f vs H Q E:=fun vs H Q E h=>by
   unfold ng at h
   split at h
   ·obtain ⟨ds,r,_,e,_⟩:=h
    cases e
   ·obtain ⟨ds,r,o,e,_⟩:=h
    cases e
  exact ⟨fun vs H Q E h=>(no vs H Q E h).elim,fun A outer s H args us vs Q E _ _ _ _ h=>(no vs H Q E h).elim⟩
 | n+1,f,d,fn,hd,hf,fa,fd,F=>by
  have hok':=hok
  unfold PT'.ok at hok'
  obtain ⟨hl,hall⟩:=ae hok'
  rw [beq_iff_eq] at hl
  rw [List.all_eq_true] at hall
  have hz:(p.Ds.zip p.T)[f]?=some (d,fn):=by
   rw [List.getElem?_zip_eq_some]
   exact ⟨hd,hf⟩
  have hB:=hall (d,fn) (List.mem_of_getElem? hz)
  unfold fnB at hB
  dsimp only at hB
  obtain ⟨hB,b7⟩:=ae hB
  obtain ⟨hB,b6⟩:=ae hB
  obtain ⟨hB,b5⟩:=ae hB
  obtain ⟨hB,b4⟩:=ae hB
  obtain ⟨hB,b3⟩:=ae hB
  obtain ⟨b1,b2⟩:=ae hB
  rw [beq_iff_eq] at b2 b3
  rw [decide_eq_true_eq] at b4
  rw [List.all_eq_true] at b5 b6
  have S:=sU b1
  have hM:∀ i,i<fn.ps->fn.M.contains i=true->i∈fn.mp:=fun i hi hm=>by
   have:=b5 i (List.mem_range.mpr hi)
   rw [hm] at this
   simpa using this
  have hp2:∀ i∈fn.mp,i<fn.ps/\2<=fn.M.count i:=fun i hi=>by simpa using b6 i hi
  have unf:∀ ds r,RL.ax p.T (n+1) f ds=some r->ds.length=fn.ps/\∃ o σ',RL.ag (RL.ax p.T n) fn.M fn.body (ds.map some ++ List.replicate (fn.nn-fn.ps) none)=some (o,σ')/\(match o with | .nx=>RL.aE fn .non σ' | .rt d=>RL.aE fn d σ')=some r:=by
   intro ds r h
   rw [RL.ax,hf] at h
   dsimp only [Option.bind_some] at h
   split at h
   ·rename_i hlen
    obtain ⟨⟨o,σ'⟩,h1,h2⟩:=bind_some h
    exact ⟨hlen,o,σ',h1,h2⟩
   ·cases h
  refine Fun.ok F S (fun vs H Q E h=>?_) fun cdv A outer s H vs Q E hr h=>?_
  ·unfold ng at h
   split at h
   ·obtain ⟨ds,r,r1,e,_⟩:=h
    rw [<- r1.length,(unf ds r e).1,b2]
   ·obtain ⟨ds,r,o,e,a,_⟩:=h
    rw [<- a.u5.length,(unf ds _ e).1,b2]
  ·-- the body's context
   have Y:YOk (p.cc d) (j8 CX0 P w K mg base d.N d.name (bD d.st) fa cdv A outer s H E).nox (RL.ax p.T n):={
    scope:=rfl
    names:=rfl
    nd:=S.nd
    calm:=rfl
    xe:=rfl
    hu:=by
     have:=hr.un
     show (A.deeper _).units+100<cLine
     omega
    blt:=tp.blt
    glb:=tp.glb
    fns:=fun g x mp hg=>by
     have hg':p.F[g]?=some (x,mp):=hg
     unfold PT'.F at hg'
     rw [List.getElem?_map] at hg'
     obtain ⟨⟨d',fn'⟩,q1,q2⟩:=map_some hg'
     cases q2
     rw [List.getElem?_zip_eq_some] at q1
     obtain ⟨fa',fd',t1,t2,t3,t4⟩:=tp.defs g d' q1.1
     exact ⟨n,fa',fd',d'.ps,qA hok tp n g d' fn' q1.1 q1.2 fa' fd' t2,hr,t1,t3,t4⟩
    fn:=fun _=>rfl }
   have body:=cR fn.body Y (M:=fn.M) _ b7
   refine ⟨_,body,?_⟩
   have hst:start d.N vs=vs.map some ++ List.replicate (d.N.length-vs.length) none:=rfl
   unfold ng at h
   split at h
   ·rename_i hmp
    obtain ⟨ds,r,r1,e,k⟩:=h
    obtain ⟨hlen,o,σ',e1,e2⟩:=unf ds r e
    have hvl:vs.length=fn.ps:=by rw [<- r1.length]; exact hlen
    refine ⟨_,o,σ',?_,e1,?_⟩
    ·rw [hst,hvl,<- b3]
     exact xa r1 (fun i hi=>by
      cases hc:fn.M.contains i with
      | false=>rfl
      | true =>
       have:=hM i hi hc
       rw [hmp] at this
       cases this) hlen
    ·have noA:∀ a,¬ bp fn.M (start d.N vs) a:=fun a ⟨i,hi,ei⟩=>by
      rw [hst,aO] at ei
      have h3:=(List.getElem?_eq_some_iff.mp ei).1
      have:=hM i (by omega) hi
      rw [hmp] at this
      cases this
     cases o with
     | nx =>
      have hr':=qf (d:=.non) e2 hmp
      subst hr'
      intro σ1 H1 rv1 fr1
      refine k .non H1 (fun b u eb=>(fr1.1 b u eb (noA b)).1) (by rw [Rep])
     | rt d0 =>
      have hr':=qf (d:=d0) e2 hmp
      subst hr'
      intro σ1 H1 v H' rv1 fr1 sm rp
      refine k v H' (fun b u eb=>sm _ _ (fr1.1 b u eb (noA b)).1) (rp _ fun q hq=>?_)
      obtain ⟨u,hu⟩:=Option.ne_none_iff_exists'.mp hq
      have:=fr1.1 q u hu (noA q)
      exact ⟨(by rw [this.1]; exact fun z=>nomatch z),this.2⟩
   ·rename_i hmp
    obtain ⟨ds,r,outs,e,a,k⟩:=h
    obtain ⟨hlen,o,σ',e1,e2⟩:=unf ds _ e
    have hvl:vs.length=fn.ps:=by rw [<- a.u5.length]; exact hlen
    refine ⟨_,o,σ',?_,e1,?_⟩
    ·rw [hst,hvl,<- b3]
     exact vO a hM (fun i hi=>iR (hp2 i hi).2) hlen
    ·-- the lists behind it
     have fin:∀ (d0:RL.D) (σ1:L2.St) (H1 H':Hp) (v:V),RL.aE fn d0 σ'=some (.tup (r :: outs))->RVm K fn.M σ' σ1 H1->Fr' fn.M (start d.N vs) H σ1 H1->ao H1 H'->(d0.imm=true->Rep nP K H' d0 v)->Q v H':=by
      intro d0 σ1 H1 H' v ht rv1 fr1 sm rp
      obtain ⟨im,os,g1,g2⟩:=yl ht hmp
      cases g2
      obtain ⟨l1,l2⟩:=nI g1
      refine k v H' (fun b u nb eb=>sm _ _ (fr1.1 b u eb fun ⟨i,hi,ei⟩=>?_).1) (rp im) im ⟨l1,fun kk pp oo hk ho=>?_⟩
      ·rw [hst,aO] at ei
       have h3:=(List.getElem?_eq_some_iff.mp ei).1
       exact nb ⟨i,hM i (by omega) hi,ei⟩
      ·have hpm:=List.mem_of_getElem? hk
       obtain ⟨dp,ap,g3,g4,g5⟩:=a.own pp hpm
       have g6:=fr1.2 pp (hp2 pp hpm).2
       have g7:(start d.N vs)[pp]?=some (some (.ref ap)):=by rw [hst,aO]; exact g4
       rw [g7] at g6
       obtain ⟨v',g8,g9⟩:=rv1.val pp oo (l2 kk pp oo hk ho)
       rw [g6] at g8
       cases g8
       rw [if_pos (iR (hp2 pp hpm).2)] at g9
       exact ⟨ap,g4,g9.same sm⟩
     cases o with
     | nx =>
      intro σ1 H1 rv1 fr1
      exact fin .non σ1 H1 H1 .non e2 rv1 fr1 (ao.refl _) fun _=>by rw [Rep]
     | rt d0 =>
      intro σ1 H1 v H' rv1 fr1 sm rp
      exact fin d0 σ1 H1 H' v e2 rv1 fr1 sm fun im=>rp nP fun _ z=>z.elim
end
noncomputable def spL (n:Nat) (p:PT') (f:Nat) (K:PySem.W.Frag):Sp:=spF K (RL.ax p.T n) f
theorem xq {n:Nat} {p:PT'} {f:Nat} {K:PySem.W.Frag} {H:Hp} {a:Addr} {ns:List Int} (hO:nq H) (hS:SqL K H a (ns.map V.int)) (h:RL.ax p.T n f [.scr (ns.map RL.D.int)]=some (.bl true)):spL n p f K [.ref a] H (fun v _=>v=.bl true) fun _ _ _=>False:=by
 refine ⟨_,_,?_,h,fun v H' _ r=>aH r⟩
 refine aa.cons ?_ aa.nil
 rw [Rep]
 refine ⟨a,ns.map V.int,rfl,?_,?_⟩
 ·rcases hS with (z | ⟨o,z⟩) | z
  ·rcases hO a with q | ⟨o,xs,q⟩
   ·rw [q] at z
    cases z
   ·rw [q] at z
    cases z
  ·exact .inl ⟨o,z⟩
  ·exact .inr (.inr z)
 ·clear hS h
  induction ns with
  | nil=>exact aa.nil
  | cons i r ih=>exact aa.cons aI ih
end RS
namespace K24
open PySem PySem.Spec PyProof.Rows L2
noncomputable def top (i:Nat):Stmt:=PySem.Challenge.pw_ribbonloft_k24_seams_and_lengths.main.body.getD i (.Pass ⟨0,0,0,0⟩)
noncomputable def Ds:List RS.kZ:=[
 ⟨"is_number",top 6,["value"],["value"]⟩,
 ⟨"is_peg_count",top 7,["value"],["value"]⟩,
 ⟨"check_pegs",top 8,["pegs"],["pegs"]⟩,
 ⟨"is_pairing",top 10,["row"],["row", "place"]⟩,
 ⟨"names_back",top 11,["row", "place"],["row", "place", "other"]⟩,
 ⟨"is_uncrossed",top 12,["row"],["row", "waiting", "place", "other"]⟩,
 ⟨"is_frame",top 14,["frame"],["frame", "pegs", "alone", "peg", "other"]⟩,
 ⟨"check_frame",top 15,["frame"],["frame"]⟩,
 ⟨"pegs_of",top 16,["frame"],["frame"]⟩,
 ⟨"plain",top 17,["pegs"],["pegs"]⟩,
 ⟨"over",top 18,["frame"],["frame"]⟩,
 ⟨"mirrored",top 19,["frame"],["frame", "pegs"]⟩,
 ⟨"ties",top 20,["frame"],["frame", "peg", "other"]⟩,
 ⟨"round_place",top 21,["pegs", "peg"],["pegs", "peg"]⟩,
 ⟨"in_round",top 22,["frame"],["frame", "pegs", "peg"]⟩,
 ⟨"moved",top 23,["frame", "to"],["frame", "to", "ends", "peg", "other"]⟩,
 ⟨"seams",top 25,["frame"],["frame", "pegs", "spans", "seam", "peg", "other", "left", "right"]⟩,
 ⟨"length",top 26,["frame"],["frame"]⟩,
 ⟨"_law_mix",top 28,["_law_seed"],["_law_seed", "_law_one", "_law_two"]⟩,
 ⟨"_law_raw",top 29,["_law_script", "_law_k"],["_law_script", "_law_k", "_law_cell", "_law_found", "_law_turn"]⟩,
 ⟨"_law_digits",top 30,["_law_script", "_law_k", "_law_sizes"],["_law_script", "_law_k", "_law_sizes", "_law_rest", "_law_found", "_law_size"]⟩,
 ⟨"_law_plain",top 31,["_law_pegs"],["_law_pegs", "_law_peg"]⟩,
 ⟨"_law_hook",top 32,["_law_pegs", "_law_number"],["_law_pegs", "_law_number", "_law_found", "_law_start"]⟩,
 ⟨"_law_circle",top 33,["_law_pegs"],["_law_pegs"]⟩,
 ⟨"_law_from_text",top 34,["_law_text_here"],["_law_text_here", "_law_pegs", "_law_circle_here", "_law_found", "_law_line", "_law_place", "_law_sign", "_law_peg", "_law_other"]⟩,
 ⟨"_law_text",top 35,["_law_raw_here", "_law_pegs"],["_law_raw_here", "_law_pegs", "_law_text_here", "_law_deep", "_law_left", "_law_up", "_law_step"]⟩,
 ⟨"_law_rings_by",top 36,["_law_high", "_law_low", "_law_inner"],["_law_high", "_law_low", "_law_inner", "_law_pegs", "_law_head", "_law_peg", "_law_other", "_law_one", "_law_keep", "_law_go"]⟩,
 ⟨"_law_hung",top 37,["_law_high", "_law_low"],["_law_high", "_law_low", "_law_pegs", "_law_near", "_law_peg", "_law_found", "_law_gone", "_law_here", "_law_turn"]⟩,
 ⟨"_law_over",top 38,["_law_frame_here"],["_law_frame_here", "_law_pegs", "_law_peg"]⟩,
 ⟨"_law_frame",top 39,["_law_script", "_law_k", "_law_pegs"],["_law_script", "_law_k", "_law_pegs", "_law_found", "_law_way", "_law_raw_here", "_law_number"]⟩,
 ⟨"_law_seams",top 40,["_law_frame_here"],["_law_frame_here", "_law_pegs", "_law_found", "_law_peg", "_law_other", "_law_seam"]⟩,
 ⟨"_law_same",top 41,["_law_told", "_law_due"],["_law_told", "_law_due", "_law_one", "_law_other"]⟩,
 ⟨"law",top 42,["_law_script"],["_law_script", "_law_k", "_law_pegs", "_law_frame_here", "_law_due", "_law_told", "_law_number"]⟩]
noncomputable def p:RS.PT':=⟨["all", "bool", "enumerate", "int", "isinstance", "len", "list", "max", "range", "set", "sorted", "str", "sum", "tuple", "zip"],[("MOST_PEGS",10)],Ds,T⟩
end K24
namespace K24
open PySem PySem.Spec PyProof.Rows L2
theorem BV:p.ok=true:=by decide +kernel
theorem all1 {P:List Value->Prop} (h:∀ a0,P [a0]):∀ us:List Value,us.length=1->P us
 | [a0],_=>h a0
theorem all2 {P:List Value->Prop} (h:∀ a0 a1,P [a0,a1]):∀ us:List Value,us.length=2->P us
 | [a0,a1],_=>h a0 a1
theorem i9 {P:List Value->Prop} (h:∀ a0 a1 a2,P [a0,a1,a2]):∀ us:List Value,us.length=3->P us
 | [a0,a1,a2],_=>h a0 a1 a2
structure aF (K:PySem.W.Frag) (mg:Str->Option Value) (x:Str) (st:Stmt):Prop where
 ex:∃ f fd,mg x=some (.ref f)/\Fun K x x st f fd/\PySem.W.keepIn K (.ref f)=true
theorem xX {K:PySem.W.Frag} {h:Heap} {mg:Str->Option Value} {x:Str} {st:Stmt} {f:Addr} {oc kV dc pm cd ct:Value} {od an:Option Addr} {sl:Array (Option Value)} (X:K.In h) (G:h.Ns mainGlobals mg) (a:PySem.W.nsIn K mainGlobals x=some (some (.ref f)))
  (l:K.lookup f=some ⟨oc,od,.func (PySem.W.fnOf x x (gg st) (dH st) (bD st) .none kV dc pm an cd ct),sl⟩) (c:PySem.W.codeIn K cd x=true) (k:PySem.W.keepIn K (.ref f)=true):aF K mg x st :=
 ⟨f,_,PySem.W.mg_of X G a,zm (st:=st) l c k,k⟩
structure oI (K:PySem.W.Frag) (mg:Str->Option Value):Prop where
 d6:aF K mg "is_number" (top 6)
 d7:aF K mg "is_peg_count" (top 7)
 d8:aF K mg "check_pegs" (top 8)
 d10:aF K mg "is_pairing" (top 10)
 d11:aF K mg "names_back" (top 11)
 d12:aF K mg "is_uncrossed" (top 12)
 d14:aF K mg "is_frame" (top 14)
 d15:aF K mg "check_frame" (top 15)
 d16:aF K mg "pegs_of" (top 16)
 d17:aF K mg "plain" (top 17)
 d18:aF K mg "over" (top 18)
 d19:aF K mg "mirrored" (top 19)
 d20:aF K mg "ties" (top 20)
 d21:aF K mg "round_place" (top 21)
 d22:aF K mg "in_round" (top 22)
 d23:aF K mg "moved" (top 23)
 d25:aF K mg "seams" (top 25)
 d26:aF K mg "length" (top 26)
 d28:aF K mg "_law_mix" (top 28)
 d29:aF K mg "_law_raw" (top 29)
 d30:aF K mg "_law_digits" (top 30)
 d31:aF K mg "_law_plain" (top 31)
 d32:aF K mg "_law_hook" (top 32)
 d33:aF K mg "_law_circle" (top 33)
 d34:aF K mg "_law_from_text" (top 34)
 d35:aF K mg "_law_text" (top 35)
 d36:aF K mg "_law_rings_by" (top 36)
 d37:aF K mg "_law_hung" (top 37)
 d38:aF K mg "_law_over" (top 38)
 d39:aF K mg "_law_frame" (top 39)
 d40:aF K mg "_law_seams" (top 40)
 d41:aF K mg "_law_same" (top 41)
 d42:aF K mg "law" (top 42)
 Au:PySem.W.nsIn K mainGlobals "all" = some none
 zJ:PySem.W.nsIn K mainGlobals "bool" = some none
 oi:PySem.W.nsIn K mainGlobals "enumerate" = some none
 AU:PySem.W.nsIn K mainGlobals "int" = some none
 mJ:PySem.W.nsIn K mainGlobals "isinstance" = some none
 AB:PySem.W.nsIn K mainGlobals "len" = some none
 za:PySem.W.nsIn K mainGlobals "list" = some none
 AY:PySem.W.nsIn K mainGlobals "max" = some none
 vK:PySem.W.nsIn K mainGlobals "range" = some none
 AZ:PySem.W.nsIn K mainGlobals "set" = some none
 tX:PySem.W.nsIn K mainGlobals "sorted" = some none
 Ap:PySem.W.nsIn K mainGlobals "str" = some none
 Aw:PySem.W.nsIn K mainGlobals "sum" = some none
 w6:PySem.W.nsIn K mainGlobals "tuple" = some none
 AF:PySem.W.nsIn K mainGlobals "zip" = some none
 om:∃ t,PySem.W.nsIn K mainGlobals "MOST_PEGS" = some (some (.int 10 t))
theorem xH {K:PySem.W.Frag} {h:Heap} {mg:Str->Option Value} (X:K.In h) (G:h.Ns mainGlobals mg) (A:oI K mg):RS.vh p K mg where
 defs:=by
  intro f d hf
  match f,hf with
  | 0,hf=>cases hf; obtain ⟨fa,fd,h1,h2,h3⟩:=A.d6.ex; exact ⟨fa,fd,h1,h2,h3,h2.binds (ps:=["value"]) (fun _ _ _ _ _ _=>all1 (fun _=>rfl))⟩
  | 1,hf=>cases hf; obtain ⟨fa,fd,h1,h2,h3⟩:=A.d7.ex; exact ⟨fa,fd,h1,h2,h3,h2.binds (ps:=["value"]) (fun _ _ _ _ _ _=>all1 (fun _=>rfl))⟩
  | 2,hf=>cases hf; obtain ⟨fa,fd,h1,h2,h3⟩:=A.d8.ex; exact ⟨fa,fd,h1,h2,h3,h2.binds (ps:=["pegs"]) (fun _ _ _ _ _ _=>all1 (fun _=>rfl))⟩
  | 3,hf=>cases hf; obtain ⟨fa,fd,h1,h2,h3⟩:=A.d10.ex; exact ⟨fa,fd,h1,h2,h3,h2.binds (ps:=["row"]) (fun _ _ _ _ _ _=>all1 (fun _=>rfl))⟩
  | 4,hf=>cases hf; obtain ⟨fa,fd,h1,h2,h3⟩:=A.d11.ex; exact ⟨fa,fd,h1,h2,h3,h2.binds (ps:=["row", "place"]) (fun _ _ _ _ _ _=>all2 (fun _ _=>rfl))⟩
  | 5,hf=>cases hf; obtain ⟨fa,fd,h1,h2,h3⟩:=A.d12.ex; exact ⟨fa,fd,h1,h2,h3,h2.binds (ps:=["row"]) (fun _ _ _ _ _ _=>all1 (fun _=>rfl))⟩
  | 6,hf=>cases hf; obtain ⟨fa,fd,h1,h2,h3⟩:=A.d14.ex; exact ⟨fa,fd,h1,h2,h3,h2.binds (ps:=["frame"]) (fun _ _ _ _ _ _=>all1 (fun _=>rfl))⟩
  | 7,hf=>cases hf; obtain ⟨fa,fd,h1,h2,h3⟩:=A.d15.ex; exact ⟨fa,fd,h1,h2,h3,h2.binds (ps:=["frame"]) (fun _ _ _ _ _ _=>all1 (fun _=>rfl))⟩
  | 8,hf=>cases hf; obtain ⟨fa,fd,h1,h2,h3⟩:=A.d16.ex; exact ⟨fa,fd,h1,h2,h3,h2.binds (ps:=["frame"]) (fun _ _ _ _ _ _=>all1 (fun _=>rfl))⟩
  | 9,hf=>cases hf; obtain ⟨fa,fd,h1,h2,h3⟩:=A.d17.ex; exact ⟨fa,fd,h1,h2,h3,h2.binds (ps:=["pegs"]) (fun _ _ _ _ _ _=>all1 (fun _=>rfl))⟩
  | 10,hf=>cases hf; obtain ⟨fa,fd,h1,h2,h3⟩:=A.d18.ex; exact ⟨fa,fd,h1,h2,h3,h2.binds (ps:=["frame"]) (fun _ _ _ _ _ _=>all1 (fun _=>rfl))⟩
  | 11,hf=>cases hf; obtain ⟨fa,fd,h1,h2,h3⟩:=A.d19.ex; exact ⟨fa,fd,h1,h2,h3,h2.binds (ps:=["frame"]) (fun _ _ _ _ _ _=>all1 (fun _=>rfl))⟩
  | 12,hf=>cases hf; obtain ⟨fa,fd,h1,h2,h3⟩:=A.d20.ex; exact ⟨fa,fd,h1,h2,h3,h2.binds (ps:=["frame"]) (fun _ _ _ _ _ _=>all1 (fun _=>rfl))⟩
  | 13,hf=>cases hf; obtain ⟨fa,fd,h1,h2,h3⟩:=A.d21.ex; exact ⟨fa,fd,h1,h2,h3,h2.binds (ps:=["pegs", "peg"]) (fun _ _ _ _ _ _=>all2 (fun _ _=>rfl))⟩
  | 14,hf=>cases hf; obtain ⟨fa,fd,h1,h2,h3⟩:=A.d22.ex; exact ⟨fa,fd,h1,h2,h3,h2.binds (ps:=["frame"]) (fun _ _ _ _ _ _=>all1 (fun _=>rfl))⟩
  | 15,hf=>cases hf; obtain ⟨fa,fd,h1,h2,h3⟩:=A.d23.ex; exact ⟨fa,fd,h1,h2,h3,h2.binds (ps:=["frame", "to"]) (fun _ _ _ _ _ _=>all2 (fun _ _=>rfl))⟩
  | 16,hf=>cases hf; obtain ⟨fa,fd,h1,h2,h3⟩:=A.d25.ex; exact ⟨fa,fd,h1,h2,h3,h2.binds (ps:=["frame"]) (fun _ _ _ _ _ _=>all1 (fun _=>rfl))⟩
  | 17,hf=>cases hf; obtain ⟨fa,fd,h1,h2,h3⟩:=A.d26.ex; exact ⟨fa,fd,h1,h2,h3,h2.binds (ps:=["frame"]) (fun _ _ _ _ _ _=>all1 (fun _=>rfl))⟩
  | 18,hf=>cases hf; obtain ⟨fa,fd,h1,h2,h3⟩:=A.d28.ex; exact ⟨fa,fd,h1,h2,h3,h2.binds (ps:=["_law_seed"]) (fun _ _ _ _ _ _=>all1 (fun _=>rfl))⟩
  | 19,hf=>cases hf; obtain ⟨fa,fd,h1,h2,h3⟩:=A.d29.ex; exact ⟨fa,fd,h1,h2,h3,h2.binds (ps:=["_law_script", "_law_k"]) (fun _ _ _ _ _ _=>all2 (fun _ _=>rfl))⟩
  | 20,hf=>cases hf; obtain ⟨fa,fd,h1,h2,h3⟩:=A.d30.ex; exact ⟨fa,fd,h1,h2,h3,h2.binds (ps:=["_law_script", "_law_k", "_law_sizes"]) (fun _ _ _ _ _ _=>i9 (fun _ _ _=>rfl))⟩
  | 21,hf=>cases hf; obtain ⟨fa,fd,h1,h2,h3⟩:=A.d31.ex; exact ⟨fa,fd,h1,h2,h3,h2.binds (ps:=["_law_pegs"]) (fun _ _ _ _ _ _=>all1 (fun _=>rfl))⟩
  | 22,hf=>cases hf; obtain ⟨fa,fd,h1,h2,h3⟩:=A.d32.ex; exact ⟨fa,fd,h1,h2,h3,h2.binds (ps:=["_law_pegs", "_law_number"]) (fun _ _ _ _ _ _=>all2 (fun _ _=>rfl))⟩
  | 23,hf=>cases hf; obtain ⟨fa,fd,h1,h2,h3⟩:=A.d33.ex; exact ⟨fa,fd,h1,h2,h3,h2.binds (ps:=["_law_pegs"]) (fun _ _ _ _ _ _=>all1 (fun _=>rfl))⟩
  | 24,hf=>cases hf; obtain ⟨fa,fd,h1,h2,h3⟩:=A.d34.ex; exact ⟨fa,fd,h1,h2,h3,h2.binds (ps:=["_law_text_here"]) (fun _ _ _ _ _ _=>all1 (fun _=>rfl))⟩
  | 25,hf=>cases hf; obtain ⟨fa,fd,h1,h2,h3⟩:=A.d35.ex; exact ⟨fa,fd,h1,h2,h3,h2.binds (ps:=["_law_raw_here", "_law_pegs"]) (fun _ _ _ _ _ _=>all2 (fun _ _=>rfl))⟩
  | 26,hf=>cases hf; obtain ⟨fa,fd,h1,h2,h3⟩:=A.d36.ex; exact ⟨fa,fd,h1,h2,h3,h2.binds (ps:=["_law_high", "_law_low", "_law_inner"]) (fun _ _ _ _ _ _=>i9 (fun _ _ _=>rfl))⟩
  | 27,hf=>cases hf; obtain ⟨fa,fd,h1,h2,h3⟩:=A.d37.ex; exact ⟨fa,fd,h1,h2,h3,h2.binds (ps:=["_law_high", "_law_low"]) (fun _ _ _ _ _ _=>all2 (fun _ _=>rfl))⟩
  | 28,hf=>cases hf; obtain ⟨fa,fd,h1,h2,h3⟩:=A.d38.ex; exact ⟨fa,fd,h1,h2,h3,h2.binds (ps:=["_law_frame_here"]) (fun _ _ _ _ _ _=>all1 (fun _=>rfl))⟩
  | 29,hf=>cases hf; obtain ⟨fa,fd,h1,h2,h3⟩:=A.d39.ex; exact ⟨fa,fd,h1,h2,h3,h2.binds (ps:=["_law_script", "_law_k", "_law_pegs"]) (fun _ _ _ _ _ _=>i9 (fun _ _ _=>rfl))⟩
  | 30,hf=>cases hf; obtain ⟨fa,fd,h1,h2,h3⟩:=A.d40.ex; exact ⟨fa,fd,h1,h2,h3,h2.binds (ps:=["_law_frame_here"]) (fun _ _ _ _ _ _=>all1 (fun _=>rfl))⟩
  | 31,hf=>cases hf; obtain ⟨fa,fd,h1,h2,h3⟩:=A.d41.ex; exact ⟨fa,fd,h1,h2,h3,h2.binds (ps:=["_law_told", "_law_due"]) (fun _ _ _ _ _ _=>all2 (fun _ _=>rfl))⟩
  | 32,hf=>cases hf; obtain ⟨fa,fd,h1,h2,h3⟩:=A.d42.ex; exact ⟨fa,fd,h1,h2,h3,h2.binds (ps:=["_law_script"]) (fun _ _ _ _ _ _=>all1 (fun _=>rfl))⟩
  | f+33,hf=>cases hf
 blt:=by
  intro x hx
  simp only [p,List.mem_cons,List.mem_nil_iff,or_false] at hx
  rcases hx with rfl | rfl | rfl | rfl | rfl | rfl | rfl | rfl | rfl | rfl | rfl | rfl | rfl | rfl | rfl
  ·exact PySem.W.mg_none_of X G A.Au
  ·exact PySem.W.mg_none_of X G A.zJ
  ·exact PySem.W.mg_none_of X G A.oi
  ·exact PySem.W.mg_none_of X G A.AU
  ·exact PySem.W.mg_none_of X G A.mJ
  ·exact PySem.W.mg_none_of X G A.AB
  ·exact PySem.W.mg_none_of X G A.za
  ·exact PySem.W.mg_none_of X G A.AY
  ·exact PySem.W.mg_none_of X G A.vK
  ·exact PySem.W.mg_none_of X G A.AZ
  ·exact PySem.W.mg_none_of X G A.tX
  ·exact PySem.W.mg_none_of X G A.Ap
  ·exact PySem.W.mg_none_of X G A.Aw
  ·exact PySem.W.mg_none_of X G A.w6
  ·exact PySem.W.mg_none_of X G A.AF
 glb:=by
  intro x i hx
  obtain ⟨t,ht⟩:=A.om
  have e:x = "MOST_PEGS" /\ i=10:=by
   simp only [p,List.lookup] at hx
   split at hx
   ·rename_i he
    cases hx
    exact ⟨by simpa using he,rfl⟩
   ·cases hx
  obtain ⟨rfl,rfl⟩:=e
  exact ⟨_,PySem.W.mg_of X G ht,t,rfl⟩
end K24
namespace PySem.W.Fast
theorem tw3690396151321926656:True:=trivial
theorem tw8176398351447853152:True:=trivial
theorem tw18005309029156440160:True:=trivial
theorem tw13550021899964069152:True:=trivial
theorem tw2412584316103797152:True:=trivial
theorem tw5193606124524517856:True:=trivial
theorem tw9304540351928842816:True:=trivial
theorem tw14942924948388542144:True:=trivial
theorem tw3239053292069280512:True:=trivial
theorem tw3404186255813279745:True:=trivial
theorem tw3357990694376602721:True:=trivial
theorem tw14433931683984894177:True:=trivial
theorem tw14179439838031672641:True:=trivial
theorem tw12817546126508376513:True:=trivial
theorem tw667353204613687809:True:=trivial
theorem tw3054087063960140289:True:=trivial
theorem tw10846927195409334849:True:=trivial
theorem tw5941570772217980577:True:=trivial
theorem tw6573015835785329345:True:=trivial
theorem tw1278146490775402209:True:=trivial
theorem tw2624193919186313250:True:=trivial
theorem tw8763243510820214178:True:=trivial
theorem tw2390921802748480258:True:=trivial
theorem tw16420852863356458754:True:=trivial
theorem tw17336028690517153762:True:=trivial
theorem tw13776574423040741411:True:=trivial
theorem tw2444544259216291907:True:=trivial
theorem tw17633287667822712931:True:=trivial
theorem tw5278619878810567811:True:=trivial
theorem tw17768463741746340035:True:=trivial
theorem tw4380652662347309539:True:=trivial
theorem tw11345070330857370211:True:=trivial
theorem tw7672840347268077219:True:=trivial
theorem tw16755240507975146211:True:=trivial
theorem tw1272606679410884355:True:=trivial
theorem tw3654175464893981603:True:=trivial
theorem tw13698539873531253667:True:=trivial
theorem tw15347847621186015332:True:=trivial
theorem tw9595296284404143396:True:=trivial
theorem tw3010764652013154724:True:=trivial
theorem tw4279642577750878245:True:=trivial
theorem tw17871743859216236677:True:=trivial
theorem tw8728083021129258149:True:=trivial
theorem tw837513075963480325:True:=trivial
theorem tw6678867835201096229:True:=trivial
theorem tw6858639284815661701:True:=trivial
theorem tw17382651121910901381:True:=trivial
theorem tw11900331231362066117:True:=trivial
theorem tw9795169423946937061:True:=trivial
theorem tw16151665401730734182:True:=trivial
theorem tw13461304092515623046:True:=trivial
theorem tw13841602803235253414:True:=trivial
theorem tw10269955826179958054:True:=trivial
theorem tw9135255232237324646:True:=trivial
theorem tw16409081804423506310:True:=trivial
theorem tw18291292957918902758:True:=trivial
theorem tw14336850884395059718:True:=trivial
theorem tw11187378302403020326:True:=trivial
theorem tw9634191623273432678:True:=trivial
theorem tw7971410391328002822:True:=trivial
theorem tw2588813931108975526:True:=trivial
theorem tw14976979149347563494:True:=trivial
theorem tw14435664614827940071:True:=trivial
theorem tw6330335065930149127:True:=trivial
theorem tw4674347379726834119:True:=trivial
theorem tw2920277821671866919:True:=trivial
theorem tw12869347259517973095:True:=trivial
theorem tw15571237846442887815:True:=trivial
theorem tw8058883467072867015:True:=trivial
theorem tw7598528014121072519:True:=trivial
theorem tw3671740589485696935:True:=trivial
theorem tw3130408994036864264:True:=trivial
theorem tw10964334889329006088:True:=trivial
theorem tw6840132989487146536:True:=trivial
theorem tw2151247723662353224:True:=trivial
theorem tw14328887102363369288:True:=trivial
theorem tw16599219789104065448:True:=trivial
theorem tw5028889525588476937:True:=trivial
theorem tw909638050846468105:True:=trivial
theorem tw9534538508244128873:True:=trivial
theorem tw1914968661623944425:True:=trivial
theorem tw3473255305660664105:True:=trivial
theorem tw8851057180930407721:True:=trivial
theorem tw2699878325601032617:True:=trivial
theorem tw12629000401528750601:True:=trivial
theorem tw14211180237814140809:True:=trivial
theorem tw17713929187927705610:True:=trivial
theorem tw1365084826004231466:True:=trivial
theorem tw9143205887033835914:True:=trivial
theorem tw16202882172224583146:True:=trivial
theorem tw13538349226726537738:True:=trivial
theorem tw1355041795250103914:True:=trivial
theorem tw17187394781703059050:True:=trivial
theorem tw12646115393293325994:True:=trivial
theorem tw9562792077137395434:True:=trivial
theorem tw8049133141362325290:True:=trivial
theorem tw14132862619117992778:True:=trivial
theorem tw9675558877552328522:True:=trivial
theorem tw7790680469192024107:True:=trivial
theorem tw12188684673955468363:True:=trivial
theorem tw11430377198775907563:True:=trivial
theorem tw5914204099607046475:True:=trivial
theorem tw7743558946252416395:True:=trivial
theorem tw17300946324156457419:True:=trivial
theorem tw17133031288175978955:True:=trivial
theorem tw5294643338176894475:True:=trivial
theorem tw15953499287679326955:True:=trivial
theorem tw6344281259703468843:True:=trivial
theorem tw7748304584950039371:True:=trivial
theorem tw1257653923946412907:True:=trivial
theorem tw6727396683639111627:True:=trivial
theorem tw9132476733450217484:True:=trivial
theorem tw12691539235022930060:True:=trivial
theorem tw5778907944279556268:True:=trivial
theorem tw7289044964664976620:True:=trivial
theorem tw14205103691052730764:True:=trivial
theorem tw16145841770405608844:True:=trivial
theorem tw14073913354959329868:True:=trivial
theorem tw7134618930447540812:True:=trivial
theorem tw4785995721897599628:True:=trivial
theorem tw17407831153328104108:True:=trivial
theorem tw630101998917828332:True:=trivial
theorem tw3716287498106656684:True:=trivial
theorem tw14412132004744885196:True:=trivial
theorem tw5508033353757448205:True:=trivial
theorem tw3973070712586743949:True:=trivial
theorem tw1981229290871295213:True:=trivial
theorem tw4945939358301582637:True:=trivial
theorem tw6144172189660568909:True:=trivial
theorem tw12497497697784142381:True:=trivial
theorem tw9642276005732941453:True:=trivial
theorem tw14596654217695612685:True:=trivial
theorem tw14984951513367315373:True:=trivial
theorem tw8339855791411406862:True:=trivial
theorem tw4413339874656366862:True:=trivial
theorem tw7185658782336754990:True:=trivial
theorem tw5699989090407555470:True:=trivial
theorem tw16359911728839342734:True:=trivial
theorem tw15934272532289703886:True:=trivial
theorem tw13336535946227227887:True:=trivial
theorem tw7160969952910826735:True:=trivial
theorem tw1926726326188088655:True:=trivial
theorem tw9889439367942405455:True:=trivial
theorem tw7562879560207677039:True:=trivial
theorem tw6673696572918157135:True:=trivial
theorem tw2226872570541112303:True:=trivial
theorem tw15992733656537824304:True:=trivial
theorem tw5618017251302974608:True:=trivial
theorem tw1925700108953954480:True:=trivial
theorem tw15743944353391088912:True:=trivial
theorem tw17560205216069395728:True:=trivial
theorem tw6662122210293673424:True:=trivial
theorem tw36692580812782032:True:=trivial
theorem tw4109305001363751408:True:=trivial
theorem tw8748101388482898864:True:=trivial
theorem tw512366378501823505:True:=trivial
theorem tw1337546617354780721:True:=trivial
theorem tw11597900967362561297:True:=trivial
theorem tw3682601997584760497:True:=trivial
theorem tw6767751912232230673:True:=trivial
theorem tw3306812157779953617:True:=trivial
theorem tw13253196999077586994:True:=trivial
theorem tw283148783396075826:True:=trivial
theorem tw10001107680718513554:True:=trivial
theorem tw12875087280182220178:True:=trivial
theorem tw4933115441171370546:True:=trivial
theorem tw15515213267158401714:True:=trivial
theorem tw11666364321751439090:True:=trivial
theorem tw3151464069704660882:True:=trivial
theorem tw17946041641065731026:True:=trivial
theorem tw9790874583136782867:True:=trivial
theorem tw16490680998049269331:True:=trivial
theorem tw16501011301545694963:True:=trivial
theorem tw1748577624141084595:True:=trivial
theorem tw10128467148876482836:True:=trivial
theorem tw12625647153459114260:True:=trivial
theorem tw2812137881707782484:True:=trivial
theorem tw8674306274359131028:True:=trivial
theorem tw7360183663990676436:True:=trivial
theorem tw6084870302284841141:True:=trivial
theorem tw15285771621626682709:True:=trivial
theorem tw18323878676354260501:True:=trivial
theorem tw12418386743404208981:True:=trivial
theorem tw1620760901042781109:True:=trivial
theorem tw6420814332134854613:True:=trivial
theorem tw18353291753236496470:True:=trivial
theorem tw8600285867928062134:True:=trivial
theorem tw16891632625184314614:True:=trivial
theorem tw6235540258472976886:True:=trivial
theorem tw14217837736841869846:True:=trivial
theorem tw14166088348740255254:True:=trivial
theorem tw5121488097518084886:True:=trivial
theorem tw9653896891519472470:True:=trivial
theorem tw4540035278403491734:True:=trivial
theorem tw5131701790380513303:True:=trivial
theorem tw10919079817000307831:True:=trivial
theorem tw9085047964306954487:True:=trivial
theorem tw16993112180505436631:True:=trivial
theorem tw4152702154555087351:True:=trivial
theorem tw13775497102161267415:True:=trivial
theorem tw12313094880740119415:True:=trivial
theorem tw3430063214923155480:True:=trivial
theorem tw6776085066511331480:True:=trivial
theorem tw18438126971989173464:True:=trivial
theorem tw14164337915928567192:True:=trivial
theorem tw14691955533569883544:True:=trivial
theorem tw9548417108780074456:True:=trivial
theorem tw6871109338681367064:True:=trivial
theorem tw7618923708999646936:True:=trivial
theorem tw15333956094574520024:True:=trivial
theorem tw17994990343465030392:True:=trivial
theorem tw8648900716247952184:True:=trivial
theorem tw11326376557327455064:True:=trivial
theorem tw4866816182425081720:True:=trivial
theorem tw3157203036294212472:True:=trivial
theorem tw6253177325564379032:True:=trivial
theorem tw10071917789310061560:True:=trivial
theorem tw4739724013684462584:True:=trivial
theorem tw12785270171283764313:True:=trivial
theorem tw17581014238577994937:True:=trivial
theorem tw17412642172921412825:True:=trivial
theorem tw4672413759767480569:True:=trivial
theorem tw4698002627789100377:True:=trivial
theorem tw14416937892789506457:True:=trivial
theorem tw2523265102812382713:True:=trivial
theorem tw7783868864717654585:True:=trivial
theorem tw15534329418300390969:True:=trivial
theorem tw13879229886440168089:True:=trivial
theorem tw7090482001552740089:True:=trivial
theorem tw16705078251333957561:True:=trivial
theorem tw16888982765372161017:True:=trivial
theorem tw5554183294894681178:True:=trivial
theorem tw6628505526732468474:True:=trivial
theorem tw10735019086191145562:True:=trivial
theorem tw368433804532257402:True:=trivial
theorem tw3950445239018044186:True:=trivial
theorem tw17247608426160624506:True:=trivial
theorem tw16739027506731530202:True:=trivial
theorem tw15662812396944584827:True:=trivial
theorem tw16144608470602397915:True:=trivial
theorem tw4933138899582448155:True:=trivial
theorem tw4538924162552572475:True:=trivial
theorem tw17440409149229221659:True:=trivial
theorem tw9310741433962755963:True:=trivial
theorem tw6267501448056246332:True:=trivial
theorem tw2693509859438282396:True:=trivial
theorem tw7560885437456271100:True:=trivial
theorem tw4090213678461219836:True:=trivial
theorem tw7534257038060018684:True:=trivial
theorem tw3356025980846354461:True:=trivial
theorem tw4203764260052557917:True:=trivial
theorem tw6747469215461850237:True:=trivial
theorem tw14499521901428361565:True:=trivial
theorem tw4392385120394280509:True:=trivial
theorem tw4698354113885800029:True:=trivial
theorem tw5042293864864732765:True:=trivial
theorem tw4007920783668370013:True:=trivial
theorem tw17986354785478086301:True:=trivial
theorem tw8310075348677457565:True:=trivial
theorem tw7554370500247080637:True:=trivial
theorem tw9279284272289551069:True:=trivial
theorem tw9793632434181137341:True:=trivial
theorem tw13073096401918731390:True:=trivial
theorem tw8412541942001316990:True:=trivial
theorem tw8560930810141438110:True:=trivial
theorem tw3657056866015331870:True:=trivial
theorem tw345481270334287486:True:=trivial
theorem tw7095697028958159614:True:=trivial
theorem tw1041778911903520670:True:=trivial
theorem tw178931610708152351:True:=trivial
theorem tw11693271923166833695:True:=trivial
theorem tw9028812496199077983:True:=trivial
theorem tw12220439786173686111:True:=trivial
theorem tw13860599338340016607:True:=trivial
theorem tw4290636707482609183:True:=trivial
theorem tw13660337103412476671:True:=trivial
theorem tw15362087218148433727:True:=trivial
theorem tw9481600272266490719:True:=trivial
theorem tw970825923320022078:True:=trivial
end PySem.W.Fast
open PySem PySem.W PyProof.Rows
set_option maxRecDepth 100000 in
set_option maxHeartbeats 0 in
theorem PySem.Challenge.cw_ribbonloft_k24_seams_and_lengths_holds : PySem.Challenge.rw_ribbonloft_k24_seams_and_lengths.Holds := by
 w_on; o_law; k_head; (case hw=>w_witness2)
 k_fill
 refine L2.tq (l:=PySem.Challenge.rw_ribbonloft_k24_seams_and_lengths) (n:=63) (k:=30) (x := "_law_script") (CX:=L2.CX0) (sp:=RS.spL 30 K24.p 32) rfl (by decide) rfl ⟨rfl,by decide,by decide⟩ (fun w h Y=>PySem.W.kIn_of Y) ?F ?S ?C
 case F =>
  intro w mg fa h KX G hmg
  have T:K24.oI (L2.KOf KX) mg:=by
   dsimp only [L2.KOf]
   constructor
   iterate 33 (refine' K24.xX KX G ?a ?l ?c ?k; (case a=>k_is); (case l=>k_is); (case c=>k_is); (case k=>k_is))
   iterate 15 k_is
   exact ⟨_,by k_is⟩
  have tp:=K24.xH KX G T
  obtain ⟨fa',fd,h1,h2,h3,h4⟩:=tp.defs 32 _ rfl
  have e0:=hmg.symm.trans h1
  cases e0
  refine ⟨fd,fun s u=>?_,fun base kb nb=>RS.qA K24.BV tp 30 32 _ _ rfl rfl _ _ h2⟩
  obtain ⟨oc,od,kV,doc,pm,an,cdv,ct,osl,e9,_,_⟩:=h2.ex
  subst e9
  exact .of_eq rfl
 case S=>exact fun K H a ns hl hO hS=>RS.xq hO hS (K24.main ns hl)
 case C=>exact fun _ _ _ _ h=>h
