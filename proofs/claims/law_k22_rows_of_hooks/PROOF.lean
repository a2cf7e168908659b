import PyProof.Rows.All
import Wide.All
import OpenK.AllK
import Wide.FinOn
import PyProof.EqAt
import PyProof.EqKinds
import PyProof.TupleCall
import PySem.Str
import PyProof.NeKinds
import PyProof.CompMap
import PyProof.CompFree
import PyProof.EnumMake
import PyProof.Draws
import PyProof.ListRange
import PyProof.ConsumeWalk
import PyProof.Rows.SetFrom
import PyProof.SetRoads
import PyProof.ZipIter
import PyProof.Rows.SumAny
import PyProof.Rows.SortWalk
import PyProof.Rows.SeqMore2
import PyProof.ExcAttrAll.ValueError
import PyProof.ExcBaseAll.ValueError
import PyProof.Rows.FStr
import PyProof.Rows.StrJoin2
import PySem.Challenge.RW_ribbonloft_k22_rows_of_hooks
set_option Elab.async false
set_option linter.all false
set_option maxRecDepth 100000
set_option maxHeartbeats 4000000
set_option genSizeOf false
set_option genSizeOfSpec false
namespace RL
open PySem (Str)
abbrev Ky:=Sum Int Str
inductive D where
 | non
 | bl (b:Bool)
 | int (i:Int)
 | str (x:Str)
 | tup (xs:List D)
 | lst (xs:List D)
 | dK (ks:List Ky) (vs:List D)
 | dT (ks:List (List Ky)) (vs:List D)
 | scr (xs:List D)
 | exc (c:Str)
 deriving Inhabited
mutual
noncomputable def D.imm:D->Bool
 | .tup xs=>aw xs
 | .lst _=>false
 | .dK _ _=>false
 | .dT _ _=>false
 | .scr xs=>aw xs
 | _=>true
noncomputable def aw:List D->Bool
 | []=>true
 | d::r=>d.imm&&aw r
end
inductive Bop where | add | sub | mul | fdiv | mod | pow
 deriving DecidableEq
inductive Cop where | lt | le | gt | ge | eq | ne
 deriving DecidableEq
inductive Bi where | len | list | tuple | int | all | any | lenSet | sorted | sortedSet | abs | sum
 deriving DecidableEq
inductive Ty where | int | bool | list | tuple | str
 deriving DecidableEq
mutual
inductive E where
 | var (i:Nat)
 | cst (d:D)
 | glb (x:Str) (i:Int)
 | bin (o:Bop) (a b:E)
 | cmp (c:Cop) (a b:E)
 | chain (c c':Cop) (a b e:E)
 | isB (neg:Bool) (a:E) (b:Bool)
 | isN (neg:Bool) (a:E)
 | inn (neg:Bool) (a b:E)
 | inD (neg:Bool) (a b:E)
 | and (a b:E)
 | or (a b:E)
 | not (a:E)
 | ifx (t a b:E)
 | tup (es:Es)
 | lst (es:Es)
 | ix (a b:E)
 | ixD (a b:E)
 | slT (a b:E)
 | slF (a b:E)
 | rev (a:E)
 | call (f:Nat) (es:Es)
 | bi (b:Bi) (a:E)
 | max (a b:E)
 | min (a b:E)
 | dvm (a b:E)
 | get (a b c:E)
 | isi (a:E) (t:Ty)
 | rng1 (a:E)
 | rng2 (a b:E)
 | rng3 (c:Int) (a b:E)
 | neg (a:E)
 | comp (e:E) (tg:List Nat) (it:It) (c:E)
 | compA (e:E) (tg:List Nat) (it:It)
 | compL (e:E) (tg:List Nat) (it:It)
 | index (a b:E)
 | chain3 (c c' c'':Cop) (a b e g:E)
 | slB (a b c:E)
 | join (a:E)
 | isx (a:E) (c:Str)
 | dk0
 | dt0
inductive Es where
 | nil
 | cons (e:E) (es:Es)
inductive It where
 | seq (e:E)
 | rng1 (a:E)
 | rng2 (a b:E)
 | rng3 (c:Int) (a b:E)
 | chr (e:E)
 | enm (e:E)
 | zip (a b:E)
 | nope
end
mutual
inductive S where
 | asg (i:Nat) (e:E)
 | own (i:Nat) (e:E)
 | unp (is:List Nat) (e:E)
 | par (i j:Nat) (a b:E)
 | parO (i j:Nat) (a b:E)
 | app (i:Nat) (e:E)
 | put (i:Nat) (k e:E)
 | put2 (i:Nat) (k l a b:E)
 | pop (i j:Nat)
 | clr (i:Nat)
 | aug (i:Nat) (o:Bop) (e:E)
 | ife (t:E) (a b:Ss)
 | ifp (i:Nat) (e:E) (a b:Ss)
 | forr (tg:List Nat) (it:It) (b:Ss)
 | whil (t:E) (b:Ss)
 | mexc (f:Nat) (es:Es) (ps ms:List Nat)
 | maug (i f:Nat) (es:Es) (ps ms:List Nat)
 | ret (e:E)
 | exc (e:E)
 | never
 | rais (c:Str) (ps:Es)
 | tryc (b:Ss) (c:Str) (i:Nat) (h:Ss)
inductive Ss where
 | nil
 | cons (s:S) (r:Ss)
end
abbrev St:=List (Option D)
abbrev Cl:=Nat->List D->Option D
noncomputable def most:Nat:=100000
noncomputable def cN{α:Type}(xs:List α)(i:Int):Option α :=
 if 0<=i then xs[i.toNat]? else if -(xs.length:Int)<=i then xs[(i+xs.length).toNat]? else none
noncomputable def mC(n:Nat)(i:Int):Option Nat :=
 if 0<=i then(if i<n then some i.toNat else none)else if -(n:Int)<=i then some (i+n).toNat else none
noncomputable def cutAt(n:Nat)(i:Int):Nat:=if 0<=i then min i.toNat n else(i+n).toNat
noncomputable def aI:Bop->D->D->Option D
 | .add,.int a,.int b=>some (.int (a+b))
 | .add,.str a,.str b=>if a.length+b.length<=most then some (.str (a++b))else none
 | .add,.lst a,.lst b=>if a.length+b.length<=most then some (.lst (a++b))else none
 | .add,.tup a,.tup b=>if a.length+b.length<=most/\0<a.length then some (.tup (a++b))else none
 | .sub,.int a,.int b=>some (.int (a-b))
 | .mul,.int a,.int b=>if(-(2 ^ 64)<a/\a<2 ^ 64)\/(-(2 ^ 64)<b/\b<2 ^ 64)then some (.int (a*b))else none
 | .mul,.lst a,.int b=>if 0<=b/\b<=most/\a.length*b.toNat<=most then some (.lst (List.replicate b.toNat a).flatten)else none
 | .fdiv,.int a,.int b=>if 0<b/\b<2 ^ 200 then some (.int (a / b))else none
 | .mod,.int a,.int b=>if 0<b then some (.int (a%b))else none
 | .pow,.int a,.int b=>if 0<=b/\b<=1000/\a.natAbs<2 ^ 64 then some (.int (a ^ b.toNat))else none
 | _,_,_=>none
noncomputable def eqs(f:D->D->Option Bool):List D->List D->Option Bool
 | a::r,b::s=>(f a b).bind fun e=>(eqs f r s).map fun k=>e&&k
 | _,_=>some true
noncomputable def eqD:Nat->D->D->Option Bool
 | _,.int a,.int b=>some (a == b)
 | _,.str a,.str b=>some (a == b)
 | _,.bl a,.bl b=>some (a == b)
 | n+1,.tup a,.tup b=>(eqs (eqD n) a b).map fun k=>k&&a.length == b.length
 | n+1,.lst a,.lst b=>(eqs (eqD n) a b).map fun k=>k&&a.length == b.length
 | _,_,_=>none
noncomputable def bu:Cop->D->D->Option Bool
 | .lt,.int a,.int b=>some (decide (a<b))
 | .le,.int a,.int b=>some (decide (a<=b))
 | .gt,.int a,.int b=>some (decide (b<a))
 | .ge,.int a,.int b=>some (decide (b<=a))
 | .eq,a,b=>eqD 8 a b
 | .ne,a,b=>(eqD 8 a b).map not
 | _,_,_=>none
noncomputable def truth:D->Option Bool
 | .bl b=>some b
 | .lst xs=>some (!xs.isEmpty)
 | .tup xs=>some (!xs.isEmpty)
 | .int i=>some (i != 0)
 | _=>none
noncomputable def eJ:List D->Option (List Int)
 | []=>some []
 | .int i::r=>(eJ r).map (i :: ·)
 | _=>none
noncomputable def fF:List D->Option (List Bool)
 | []=>some []
 | .bl i::r=>(fF r).map (i :: ·)
 | _=>none
noncomputable def strs?:List D->Option (List Str)
 | []=>some []
 | .str i::r=>(strs? r).map (i :: ·)
 | _=>none
noncomputable def se(a:Int):List Int->List Int
 | []=>[a]
 | b::r=>if a<=b then a::b::r else b::se a r
noncomputable def sortI:List Int->List Int
 | []=>[]
 | a::r=>se a (sortI r)
noncomputable def gX(xs:List Int):List Int:=xs.foldl (fun m k=>if m.any (· == k)then m else m++[k]) []
noncomputable def items:D->Option (List D)
 | .lst xs=>some xs
 | .tup xs=>some xs
 | _=>none
noncomputable def wZ:D->Option (List D)
 | .lst xs=>some xs
 | .tup xs=>some xs
 | .str x=>some (x.cps.toList.map fun c=>.str ⟨#[c]⟩)
 | _=>none
noncomputable def biV:Bi->D->Option D
 | .len,.str x=>if x.length<=most then some (.int x.length)else none
 | .len,.dK ks _=>some (.int ks.length)
 | .len,.dT ks _=>some (.int ks.length)
 | .len,d=>(items d).map fun xs=>.int xs.length
 | .list,d=>(items d).map .lst
 | .tuple,d=>(items d).map .tup
 | .int,.bl b=>some (.int (if b then 1 else 0))
 | .int,.int i=>some (.int i)
 | .int,_=>none
 | .all,.lst xs=>(fF xs).map fun bs=>.bl (bs.all id)
 | .any,.lst xs=>(fF xs).map fun bs=>.bl (bs.any id)
 | .all,_=>none
 | .any,_=>none
 | .lenSet,.lst xs=>if xs.length<=1000 then(eJ xs).map fun is=>.int (gX is).length else none
 | .lenSet,_=>none
 | .sorted,.lst xs=>if xs.length<64 then(eJ xs).map fun is=>.lst ((sortI is).map .int)else none
 | .sorted,_=>none
 | .sortedSet,.lst xs=>(eJ xs).map fun is=>.lst ((sortI (gX is)).map .int)
 | .sortedSet,_=>none
 | .abs,.int i=>some (.int (if i<0 then -i else i))
 | .abs,_=>none
 | .sum,.lst xs=>(eJ xs).map fun is=>.int is.sum
 | .sum,_=>none
noncomputable def cW:Ty->D->Option Bool
 | .int,.int _=>some true
 | .int,.bl _=>some true
 | .bool,.bl _=>some true
 | .list,.lst _=>some true
 | .tuple,.tup _=>some true
 | .str,.str _=>some true
 | _,.non=>some false
 | _,.bl _=>some false
 | _,.int _=>some false
 | _,.str _=>some false
 | _,.tup _=>some false
 | _,.lst _=>some false
 | _,_=>none
noncomputable def keyOf:D->Option Ky
 | .int i=>some (.inl i)
 | .str x=>some (.inr x)
 | _=>none
noncomputable def keysOf:List D->Option (List Ky)
 | []=>some []
 | d::r=>(keyOf d).bind fun k=>(keysOf r).map (k :: ·)
noncomputable def aH{κ:Type} [DecidableEq κ]:List κ->List D->κ->Option D
 | k::ks,v::vs,x=>if k=x then some v else aH ks vs x
 | _,_,_=>none
noncomputable def putD{κ:Type} [DecidableEq κ](ks:List κ)(vs:List D)(x:κ)(d:D):List κ × List D :=
 if x∈ks then(ks,List.zipWith (fun k v=>if k=x then d else v) ks vs)else(ks++[x],vs++[d])
noncomputable def ixV:D->D->Option D
 | .lst xs,.int i=>cN xs i
 | .tup xs,.int i=>cN xs i
 | .str x,.int i=>if x.length<=most then(cN x.cps.toList i).map fun c=>.str ⟨#[c]⟩else none
 | _,_=>none
noncomputable def mT:D->D->Option D
 | .dK ks vs,k=>(keyOf k).bind (aH ks vs)
 | .dT ks vs,.tup k=>(keysOf k).bind (aH ks vs)
 | _,_=>none
noncomputable def FW:D->D->D->Option D
 | .dK ks vs,k,z=>(keyOf k).map fun q=>(aH ks vs q).getD z
 | .dT ks vs,.tup k,z=>(keysOf k).map fun q=>(aH ks vs q).getD z
 | _,_,_=>none
noncomputable def zk:D->D->Option Bool
 | .dK ks vs,k=>(keyOf k).map fun k=>(aH ks vs k).isSome
 | .dT ks vs,.tup k=>(keysOf k).map fun k=>(aH ks vs k).isSome
 | _,_=>none
noncomputable def flat:D->Bool
 | .int _=>true
 | .str _=>true
 | _=>false
noncomputable def eqF:D->D->Bool
 | .int a,.int b=>a == b
 | .str a,.str b=>a == b
 | _,_=>false
noncomputable def inV(a b:D):Option Bool :=
 (items b).bind fun xs=>if flat a&&xs.all flat then some (xs.any fun x=>eqF x a)else none
noncomputable def kT:D->D->Option D
 | .scr xs,.int k=>some (.lst (xs.take (cutAt xs.length k)))
 | .lst xs,.int k=>some (.lst (xs.take (cutAt xs.length k)))
 | .tup xs,.int k=>if cutAt xs.length k<xs.length then some (.tup (xs.take (cutAt xs.length k)))else none
 | _,_=>none
noncomputable def uc:D->D->Option D
 | .lst xs,.int k=>some (.lst (xs.drop (cutAt xs.length k)))
 | .tup xs,.int k=>if 0<cutAt xs.length k then some (.tup (xs.drop (cutAt xs.length k)))else none
 | _,_=>none
noncomputable def Gd:D->D->D->Option D
 | .lst xs,.int i,.int k=>some (.lst ((xs.take (cutAt xs.length k)).drop (cutAt xs.length i)))
 | .tup xs,.int i,.int k=>if 0<cutAt xs.length i\/cutAt xs.length k<xs.length then some (.tup ((xs.take (cutAt xs.length k)).drop (cutAt xs.length i)))else none
 | _,_,_=>none
noncomputable def c9(lo:Int):Nat->List D
 | 0=>[]
 | n+1=>.int lo::c9 (lo+1) n
noncomputable def bP(c lo:Int):Nat->List D
 | 0=>[]
 | n+1=>.int lo::bP c (lo+c) n
noncomputable def aL(c a b:Int):Nat:=(if c > 0 then(if a<b then(b-a-1) / c+1 else 0)else(if a > b then(a-b-1) / (-c)+1 else 0)).toNat
noncomputable def dU:D->D->Option (List D)
 | .int a,.int b=>if(b-a).toNat<=most/\-(2 ^ 60)<=a/\a<2 ^ 60/\-(2 ^ 60)<=b/\b<2 ^ 60 then some (c9 a (b-a).toNat)else none
 | _,_=>none
noncomputable def fu(c:Int):D->D->Option (List D)
 | .int a,.int b=>if c≠0/\-(2 ^ 60)<c/\c<2 ^ 60/\aL c a b<=most/\-(2 ^ 60)<=a/\a<2 ^ 60/\-(2 ^ 60)<=b/\b<2 ^ 60 then some (bP c a (aL c a b))else none
 | _,_=>none
noncomputable def zO(i:Int):List D->List D
 | []=>[]
 | d::r=>.tup [.int i,d]::zO (i+1) r
noncomputable def eW:List D->List D->List D
 | a::r,b::s=>.tup [a,b]::eW r s
 | _,_=>[]
noncomputable def bF:List Nat->List D->St->Option St
 | [],[],σ=>some σ
 | i::is,d::ds,σ=>bF is ds (σ.set i (some d))
 | _,_,_=>none
noncomputable def aO(tg:List Nat)(d:D)(σ:St):Option St :=
 match tg with
 | [i]=>some (σ.set i (some d))
 | tg=>match d with
  | .tup ds=>bF tg ds σ
  | .lst ds=>bF tg ds σ
  | _=>none
noncomputable def kO(y:Option D)(ys:List D):Option (List D) :=
 match y with
 | some e=>if e.imm then some (e::ys)else none
 | none=>some ys
noncomputable def dn(f:St->Option (Option D))(tg:List Nat)(σ:St):List D->Option (List D)
 | []=>some []
 | d::r=>(aO tg d σ).bind fun σ1=>(f σ1).bind fun y=>(dn f tg σ r).bind (kO y)
noncomputable def aU:D->Bool
 | .lst xs=>aw xs
 | .dK _ vs=>aw vs
 | .dT _ vs=>aw vs
 | _=>false
noncomputable def DN(f:St->Option D)(fr:Bool)(tg:List Nat)(σ:St):List D->Option (List D)
 | []=>some []
 | d::r=>(aO tg d σ).bind fun σ1=>(f σ1).bind fun y=>if aU y&&fr then(DN f fr tg σ r).map (y :: ·)else none
noncomputable def fits(xs:List D):Option (List D):=if xs.length<=most then some xs else none
noncomputable def aF:E->Bool
 | .lst _=>true
 | .tup _=>true
 | .comp _ _ _ _=>true
 | .compA _ _ _=>true
 | .compL _ _ _=>true
 | .bin _ _ _=>true
 | .slT _ _=>true
 | .slF _ _=>true
 | .slB _ _ _=>true
 | .rev _=>true
 | .call _ _=>true
 | .bi _ _=>true
 | .rng1 _=>true
 | .rng2 _ _=>true
 | .rng3 _ _ _=>true
 | .dk0=>true
 | .dt0=>true
 | _=>false
noncomputable def cG(n c:Str):Bool:=n == c || c == "RibbonError" || c == "ValueError"
mutual
noncomputable def ev(cl:Cl)(σ:St):E->Option D
 | .var i=>(σ[i]?).bind id
 | .cst d=>some d
 | .glb _ i=>some (.int i)
 | .bin o a b=>(ev cl σ a).bind fun x=>(ev cl σ b).bind fun y=>aI o x y
 | .cmp c a b=>(ev cl σ a).bind fun x=>(ev cl σ b).bind fun y=>(bu c x y).map .bl
 | .chain c c' a b e=>(ev cl σ a).bind fun x=>(ev cl σ b).bind fun y=>(bu c x y).bind fun k=>if k then(ev cl σ e).bind fun z=>(bu c' y z).map .bl else some (.bl false)
 | .isB neg a b=>(ev cl σ a).bind fun x=>match x with
  | .bl k=>some (.bl (if neg then !decide (k=b)else decide (k=b)))
  | _=>none
 | .isN neg a=>(ev cl σ a).bind fun x=>match x with
  | .non=>some (.bl (!neg))
  | .dK _ _=>none
  | .dT _ _=>none
  | _=>some (.bl neg)
 | .inn neg a b=>(ev cl σ a).bind fun x=>(ev cl σ b).bind fun y=>(inV x y).map fun k=>.bl (if neg then !k else k)
 | .inD neg a b=>(ev cl σ a).bind fun x=>(ev cl σ b).bind fun y=>(zk y x).map fun k=>.bl (if neg then !k else k)
 | .and a b=>(ev cl σ a).bind fun x=>match x with
  | .bl true=>ev cl σ b
  | .bl false=>some (.bl false)
  | _=>none
 | .or a b=>(ev cl σ a).bind fun x=>match x with
  | .bl false=>ev cl σ b
  | .bl true=>some (.bl true)
  | _=>none
 | .not a=>((ev cl σ a).bind truth).map fun k=>.bl (!k)
 | .ifx t a b=>((ev cl σ t).bind truth).bind fun k=>if k then ev cl σ a else ev cl σ b
 | .tup es=>(evs cl σ es).map .tup
 | .lst es=>(evs cl σ es).map .lst
 | .ix a b=>(ev cl σ a).bind fun x=>(ev cl σ b).bind fun y=>ixV x y
 | .ixD a b=>(ev cl σ a).bind fun x=>(ev cl σ b).bind fun y=>mT x y
 | .slT a b=>(ev cl σ a).bind fun x=>(ev cl σ b).bind fun y=>kT x y
 | .slF a b=>(ev cl σ a).bind fun x=>(ev cl σ b).bind fun y=>uc x y
 | .rev a=>(ev cl σ a).bind fun x=>match x with
  | .lst xs=>some (.lst xs.reverse)
  | .tup xs=>some (.tup xs.reverse)
  | _=>none
 | .call f es=>(evs cl σ es).bind fun ds=>cl f ds
 | .bi b a=>(ev cl σ a).bind fun x=>biV b x
 | .max a b=>(ev cl σ a).bind fun x=>(ev cl σ b).bind fun y=>match x,y with
  | .int i,.int j=>some (.int (if j > i then j else i))
  | _,_=>none
 | .min a b=>(ev cl σ a).bind fun x=>(ev cl σ b).bind fun y=>match x,y with
  | .int i,.int j=>some (.int (if j<i then j else i))
  | _,_=>none
 | .dvm a b=>(ev cl σ a).bind fun x=>(ev cl σ b).bind fun y=>match x,y with
  | .int i,.int j=>if 0<j/\j<1073741824 then some (.tup [.int (i / j),.int (i%j)])else none
  | _,_=>none
 | .get a b c=>(ev cl σ a).bind fun x=>(ev cl σ b).bind fun y=>(ev cl σ c).bind fun z=>FW x y z
 | .isi a t=>(ev cl σ a).bind fun x=>(cW t x).map .bl
 | .rng1 a=>(ev cl σ a).bind fun x=>(dU (.int 0) x).map .lst
 | .rng2 a b=>(ev cl σ a).bind fun x=>(ev cl σ b).bind fun y=>(dU x y).map .lst
 | .rng3 c a b=>(ev cl σ a).bind fun x=>(ev cl σ b).bind fun y=>(fu c x y).map .lst
 | .neg a=>(ev cl σ a).bind fun x=>match x with
  | .int i=>some (.int (-i))
  | _=>none
 | .comp e tg it c=>(bp cl σ it).bind fun ds=>(fits ds).bind fun ds=>(dn (fun σ1=>((ev cl σ1 c).bind truth).bind fun k=>if k then(ev cl σ1 e).map some else some none) tg σ ds).map .lst
 | .compA e tg it=>(bp cl σ it).bind fun ds=>(fits ds).bind fun ds=>(dn (fun σ1=>(ev cl σ1 e).map some) tg σ ds).map .lst
 | .compL e tg it=>(bp cl σ it).bind fun ds=>(fits ds).bind fun ds=>(DN (fun σ1=>ev cl σ1 e) (aF e) tg σ ds).map .lst
 | .index a b=>(ev cl σ a).bind fun x=>(ev cl σ b).bind fun y=>match x,y with
  | .lst xs,.int i=>(eJ xs).bind fun is=>if i∈is then some (.int (is.idxOf i))else none
  | _,_=>none
 | .join a=>(ev cl σ a).bind fun x=>match x with
  | .lst xs=>(strs? xs).bind fun ss=>if ss.length<=most/\ss.all (fun s=>s.length<=100)then some (.str ⟨(ss.flatMap fun s=>s.cps.toList).toArray⟩)else none
  | _=>none
 | .chain3 c c' c'' a b e g=>(ev cl σ a).bind fun x=>(ev cl σ b).bind fun y=>(bu c x y).bind fun k=>if k then(ev cl σ e).bind fun z=>(bu c' y z).bind fun k'=>if k' then(ev cl σ g).bind fun w=>(bu c'' z w).map .bl else some (.bl false)else some (.bl false)
 | .slB a b c=>(ev cl σ a).bind fun x=>(ev cl σ b).bind fun y=>(ev cl σ c).bind fun z=>Gd x y z
 | .isx a c=>(ev cl σ a).bind fun x=>match x with
  | .exc n=>some (.bl (cG n c))
  | _=>none
 | .dk0=>some (.dK [] [])
 | .dt0=>some (.dT [] [])
noncomputable def evs(cl:Cl)(σ:St):Es->Option (List D)
 | .nil=>some []
 | .cons e es=>(ev cl σ e).bind fun d=>(evs cl σ es).map (d :: ·)
noncomputable def bp(cl:Cl)(σ:St):It->Option (List D)
 | .seq e=>(ev cl σ e).bind items
 | .rng1 a=>(ev cl σ a).bind fun x=>dU (.int 0) x
 | .rng2 a b=>(ev cl σ a).bind fun x=>(ev cl σ b).bind fun y=>dU x y
 | .rng3 c a b=>(ev cl σ a).bind fun x=>(ev cl σ b).bind fun y=>fu c x y
 | .chr e=>(ev cl σ e).bind fun x=>match x with
  | .str x=>wZ (.str x)
  | _=>none
 | .enm e=>(ev cl σ e).bind fun x=>(wZ x).map (zO 0)
 | .zip a b=>(ev cl σ a).bind fun x=>(ev cl σ b).bind fun y=>(items x).bind fun xs=>(items y).bind fun ys=>if xs.length=ys.length then some (eW xs ys)else none
 | .nope=>none
end
noncomputable def clX(cl:Cl)(f:Nat)(ds:List D):Option Str:=(cl (f+1000) ds).bind fun d=>match d with
 | .str x=>some x
 | _=>none
mutual
noncomputable def evX(cl:Cl)(σ:St):E->Option Str
 | .call f es=>match evs cl σ es with
  | some ds=>clX cl f ds
  | none=>mE cl σ es
 | .ix a _=>evX cl σ a
 | _=>none
noncomputable def mE(cl:Cl)(σ:St):Es->Option Str
 | .nil=>none
 | .cons e es=>match ev cl σ e with
  | some _=>mE cl σ es
  | none=>evX cl σ e
end
noncomputable def written:D->Bool
 | .int i=>decide (i.natAbs<2 ^ 1900)
 | _=>false
inductive Out where
 | nx
 | rt (d:D)
noncomputable def avE(M:List Nat):E->Bool
 | .var j=>!M.contains j
 | .ix a _=>avE M a
 | .call _ _=>true
 | .compL _ _ _=>true
 | .ifx _ a b=>avE M a&&avE M b
 | _=>false
noncomputable def qV(M:List Nat):It->Bool
 | .seq e=>avE M e || aF e
 | .enm e=>avE M e || aF e
 | .zip a b=>(avE M a || aF a)&&(avE M b || aF b)
 | _=>true
noncomputable def cn(M:List Nat)(e:E)(d:D):Bool :=
 d.imm || (aU d&&(aF e || match e with | .var i=>M.contains i | _=>false))
noncomputable def bw(M:List Nat)(e:E)(d:D):Bool:=d.imm || (aU d&&aF e) || avE M e
noncomputable def isVar:E->Bool
 | .var _=>true
 | _=>false
noncomputable def f9(M ps:List Nat):Nat->Es->List D->Bool
 | _,.nil,[]=>true
 | q,.cons e es,d::ds=>(if ps.contains q then isVar e else bw M e d)&&f9 M ps (q+1) es ds
 | _,_,_=>false
noncomputable def dA:D->D->D->Option D
 | .lst xs,.int k,d=>(mC xs.length k).map fun j=>.lst (xs.set j d)
 | .dK ks vs,k,d=>(keyOf k).bind fun k=>if ks.length<most then some (.dK (putD ks vs k d).1 (putD ks vs k d).2)else none
 | .dT ks vs,.tup k,d=>(keysOf k).bind fun k=>if ks.length<most then some (.dT (putD ks vs k d).1 (putD ks vs k d).2)else none
 | _,_,_=>none
noncomputable def aZ(f:St->Option (Out × St))(tg:List Nat):List D->St->Option (Out × St)
 | [],σ=>some (.nx,σ)
 | d::r,σ=>if d.imm then(aO tg d σ).bind fun σ1=>(f σ1).bind fun p=>match p.1 with
   | .nx=>aZ f tg r p.2
   | .rt d=>some (.rt d,p.2)
  else none
noncomputable def whF(t:St->Option Bool)(f:St->Option (Out × St)):Nat->St->Option (Out × St)
 | 0,_=>none
 | n+1,σ=>(t σ).bind fun k=>if k then(f σ).bind fun p=>match p.1 with
   | .nx=>whF t f n p.2
   | .rt d=>some (.rt d,p.2)
  else some (.nx,σ)
noncomputable def d4(f:St->Option (Out × St))(fx:St->Option (Str × St))(tg:List Nat):List D->St->Option (Str × St)
 | [],_=>none
 | d::r,σ=>if d.imm then(aO tg d σ).bind fun σ1=>match f σ1 with
   | some p=>match p.1 with
    | .nx=>d4 f fx tg r p.2
    | .rt _=>none
   | none=>fx σ1
  else none
mutual
noncomputable def evS(cl:Cl)(M:List Nat):S->St->Option (Out × St)
 | .asg i e,σ=>(ev cl σ e).bind fun d=>if bw M e d then some (.nx,σ.set i (some d))else none
 | .own i e,σ=>(ev cl σ e).bind fun d=>if aU d&&aF e then some (.nx,σ.set i (some d))else none
 | .unp is e,σ=>(ev cl σ e).bind fun d=>(items d).bind fun ds=>if aw ds then(bF is ds σ).map fun σ1=>(.nx,σ1)else none
 | .par i j a b,σ=>(ev cl σ a).bind fun x=>(ev cl σ b).bind fun y=>if x.imm&&y.imm then some (.nx,(σ.set i (some x)).set j (some y))else none
 | .parO i j a b,σ=>(ev cl σ a).bind fun x=>(ev cl σ b).bind fun y=>if(aU x&&aF a)&&(aU y&&aF b)then some (.nx,(σ.set i (some x)).set j (some y))else none
 | .app i e,σ=>(ev cl σ e).bind fun d=>((σ[i]?).bind id).bind fun l=>match l with
  | .lst xs=>if d.imm&&decide (xs.length<most)then some (.nx,σ.set i (some (.lst (xs++[d]))))else none
  | _=>none
 | .put i k e,σ=>(ev cl σ e).bind fun d=>(ev cl σ k).bind fun kk=>((σ[i]?).bind id).bind fun l=>if d.imm then(dA l kk d).map fun l'=>(.nx,σ.set i (some l'))else none
 | .put2 i k l a b,σ=>(ev cl σ a).bind fun x=>(ev cl σ b).bind fun y=>if x.imm&&y.imm then
   (ev cl σ k).bind fun kk=>((σ[i]?).bind id).bind fun c=>match c with
   | .lst _=>(dA c kk x).bind fun c1=>(ev cl (σ.set i (some c1)) l).bind fun ll=>(dA c1 ll y).map fun c2=>(.nx,(σ.set i (some c1)).set i (some c2))
   | _=>none
  else none
 | .pop i j,σ=>((σ[i]?).bind id).bind fun l=>match l with
  | .lst xs=>(xs[xs.length-1]?).map fun d=>(.nx,(σ.set i (some (.lst xs.dropLast))).set j (some d))
  | _=>none
 | .clr i,σ=>((σ[i]?).bind id).bind fun l=>match l with
  | .lst _=>some (.nx,σ.set i (some (.lst [])))
  | _=>none
 | .aug i o e,σ=>((σ[i]?).bind id).bind fun x=>(ev cl σ e).bind fun y=>match x,y with
  | .int a,.int b=>(aI o (.int a) (.int b)).map fun z=>(.nx,σ.set i (some z))
  | _,_=>none
 | .ife t a b,σ=>((ev cl σ t).bind truth).bind fun k=>if k then ak cl M a σ else ak cl M b σ
 | .ifp i e a b,σ=>((σ[i]?).bind id).bind fun l=>match l with
  | .lst xs=>(xs[xs.length-1]?).bind fun d=>(ev cl (σ.set i (some (.lst xs.dropLast))) e).bind fun y=>match d,y with
   | .int p,.int q=>if decide (p=q)then ak cl M b (σ.set i (some (.lst xs.dropLast)))else ak cl M a (σ.set i (some (.lst xs.dropLast)))
   | _,_=>none
  | _=>none
 | .forr tg it b,σ=>(bp cl σ it).bind fun ds=>aZ (ak cl M b) tg ds σ
 | .whil t b,σ=>whF (fun σ=>(ev cl σ t).bind truth) (ak cl M b) most σ
 | .mexc f es ps ms,σ=>(evs cl σ es).bind fun ds=>if f9 M ps 0 es ds then(cl f ds).bind fun r=>match r with
  | .tup (_::outs)=>(bF ms outs σ).map fun σ1=>(.nx,σ1)
  | _=>none
  else none
 | .maug i f es ps ms,σ=>((σ[i]?).bind id).bind fun x=>(evs cl σ es).bind fun ds=>if f9 M ps 0 es ds then(cl f ds).bind fun r=>match r with
  | .tup (y::outs)=>match x,y with
   | .int a,.int b=>(bF ms outs σ).map fun σ1=>(.nx,σ1.set i (some (.int (a+b))))
   | _,_=>none
  | _=>none
  else none
 | .ret e,σ=>(ev cl σ e).bind fun d=>if cn M e d then some (.rt d,σ)else none
 | .exc e,σ=>(ev cl σ e).map fun _=>(.nx,σ)
 | .never,_=>none
 | .rais _ _,_=>none
 | .tryc b c i h,σ=>match ak cl M b σ with
  | some p=>some p
  | none=>(bN cl M b σ).bind fun q=>if cG q.1 c then(ak cl M h (q.2.set i (some (.exc q.1)))).map fun r=>(r.1,r.2.set i none)else none
noncomputable def ak(cl:Cl)(M:List Nat):Ss->St->Option (Out × St)
 | .nil,σ=>some (.nx,σ)
 | .cons s r,σ=>(evS cl M s σ).bind fun p=>match p.1 with
  | .nx=>ak cl M r p.2
  | .rt d=>some (.rt d,p.2)
noncomputable def iA(cl:Cl)(M:List Nat):S->St->Option (Str × St)
 | .asg _ e,σ=>(evX cl σ e).map fun x=>(x,σ)
 | .own _ e,σ=>(evX cl σ e).map fun x=>(x,σ)
 | .unp _ e,σ=>(evX cl σ e).map fun x=>(x,σ)
 | .exc e,σ=>(evX cl σ e).map fun x=>(x,σ)
 | .ret e,σ=>(evX cl σ e).map fun x=>(x,σ)
 | .ife t a b,σ=>((ev cl σ t).bind truth).bind fun k=>if k then bN cl M a σ else bN cl M b σ
 | .forr tg it b,σ=>(bp cl σ it).bind fun ds=>d4 (ak cl M b) (bN cl M b) tg ds σ
 | .rais c ps,σ=>(evs cl σ ps).bind fun ds=>if ds.all written then some (c,σ)else none
 | _,_=>none
noncomputable def bN(cl:Cl)(M:List Nat):Ss->St->Option (Str × St)
 | .nil,_=>none
 | .cons s r,σ=>match evS cl M s σ with
  | some p=>match p.1 with
   | .nx=>bN cl M r p.2
   | .rt _=>none
  | none=>iA cl M s σ
end
structure Fn where
 ps:Nat
 nn:Nat
 M:List Nat
 mp:List Nat
 body:Ss
noncomputable def eS(σ:St):List Nat->Option (List D)
 | []=>some []
 | i::is=>((σ[i]?).bind id).bind fun d=>(eS σ is).map (d :: ·)
noncomputable def bg(fn:Fn)(d:D)(σ:St):Option D :=
 if fn.mp.isEmpty then some d else if d.imm then(eS σ fn.mp).map fun os=>.tup (d::os)else none
noncomputable def aA(T:List Fn):Nat->Cl
 | 0,_,_=>none
 | n+1,f,ds=>match T[f]? with
  | some fn=>if ds.length=fn.ps then(ak (aA T n) fn.M fn.body (ds.map some++List.replicate (fn.nn-fn.ps) none)).bind fun p=>match p.1 with
   | .nx=>bg fn .non p.2
   | .rt d=>bg fn d p.2
   else none
  | none=>(T[f-1000]?).bind fun fn=>if ds.length=fn.ps/\fn.mp=[]then(bN (aA T n) fn.M fn.body (ds.map some++List.replicate (fn.nn-fn.ps) none)).map fun p=>.str p.1 else none
end RL
namespace RT
open RL
noncomputable def dm:Fn :=
 ⟨1,1,[],[],(.cons (.ret (.and (.isi (.var 0) .int) (.not (.isi (.var 0) .bool)))) .nil)⟩
noncomputable def cM(f_is_number:Nat):Fn :=
 ⟨1,1,[],[],(.cons (.ret (.and (.call f_is_number (.cons (.var 0) .nil)) (.chain .le .le (.cst (.int 1)) (.var 0) (.glb "MOST_PEGS" 10)))) .nil)⟩
noncomputable def dC(f_is_peg_count:Nat):Fn :=
 ⟨1,1,[],[],(.cons (.ife (.not (.call f_is_peg_count (.cons (.var 0) .nil))) (.cons (.rais "BadPegs" (.cons (.glb "MOST_PEGS" 10) .nil)) .nil) .nil) .nil)⟩
noncomputable def oH:Fn :=
 ⟨3,3,[0,0],[0],(.cons (.put 0 (.var 1) (.var 2)) (.cons (.put 0 (.var 2) (.var 1)) .nil))⟩
noncomputable def jF:Fn :=
 ⟨1,1,[],[],(.cons (.ret (.bin .fdiv (.bi .len (.var 0)) (.cst (.int 2)))) .nil)⟩
noncomputable def jO(f_check_pegs:Nat):Fn :=
 ⟨1,1,[],[],(.cons (.exc (.call f_check_pegs (.cons (.var 0) .nil))) (.cons (.ret (.bi .tuple (.bin .add (.rng2 (.var 0) (.bin .mul (.cst (.int 2)) (.var 0))) (.rng1 (.var 0))))) .nil))⟩
noncomputable def mG(f_hang_hook f_plain f_check_row:Nat):Ss :=
 (.cons (.maug 3 f_hang_hook (.cons (.var 2) (.cons (.var 4) .nil)) [0] [2]) .nil)
noncomputable def ij(f_hang_hook f_plain f_check_row:Nat):Fn :=
 ⟨2,5,[2],[],(.cons (.exc (.call f_check_row (.cons (.var 0) (.cons (.var 1) .nil)))) (.cons (.own 2 (.bi .list (.call f_plain (.cons (.var 0) .nil)))) (.cons (.asg 3 (.cst (.int 0))) (.cons (.forr [4] (.seq (.var 1)) (mG f_hang_hook f_plain f_check_row)) (.cons (.ret (.tup (.cons (.bi .tuple (.var 2)) (.cons (.var 3) .nil)))) .nil)))))⟩
noncomputable def dS(f_tie f_pegs_of:Nat):Fn :=
 ⟨2,4,[0,0],[0],(.cons (.asg 2 (.bin .add (.call f_pegs_of (.cons (.var 0) .nil)) (.var 1))) (.cons (.asg 3 (.bin .add (.var 2) (.cst (.int 1)))) (.cons (.ife (.cmp .eq (.ix (.var 0) (.var 2)) (.var 3)) (.cons (.ret (.cst (.int 1))) .nil) .nil) (.cons (.mexc f_tie (.cons (.var 0) (.cons (.ix (.var 0) (.var 2)) (.cons (.ix (.var 0) (.var 3)) .nil))) [0] [0]) (.cons (.mexc f_tie (.cons (.var 0) (.cons (.var 2) (.cons (.var 3) .nil))) [0] [0]) (.cons (.ret (.cst (.int 0))) .nil))))))⟩
noncomputable def eD(f_is_number:Nat):Fn :=
 ⟨2,2,[],[],(.cons (.ret (.and (.call f_is_number (.cons (.var 1) .nil)) (.chain .le .le (.cst (.int 0)) (.var 1) (.bin .sub (.var 0) (.cst (.int 2)))))) .nil)⟩
noncomputable def cK(f_is_hook f_check_pegs:Nat):Ss :=
 (.cons (.ife (.not (.call f_is_hook (.cons (.var 0) (.cons (.var 2) .nil)))) (.cons (.rais "BadHook" (.cons (.var 2) (.cons (.var 0) .nil))) .nil) .nil) .nil)
noncomputable def dk(f_is_hook f_check_pegs:Nat):Fn :=
 ⟨2,3,[],[],(.cons (.exc (.call f_check_pegs (.cons (.var 0) .nil))) (.cons (.forr [2] (.seq (.var 1)) (cK f_is_hook f_check_pegs)) .nil))⟩
noncomputable def j5:Fn :=
 ⟨1,3,[],[],(.cons (.asg 1 (.bin .mod (.bin .add (.bin .mul (.var 0) (.cst (.int 48271))) (.cst (.int 11))) (.cst (.int 2147483647)))) (.cons (.asg 2 (.bin .mod (.bin .add (.bin .add (.bin .mul (.var 1) (.var 1)) (.bin .mul (.cst (.int 40692)) (.var 1))) (.var 0)) (.cst (.int 2147483399)))) (.cons (.ret (.bin .mod (.bin .add (.bin .add (.bin .mul (.var 2) (.var 2)) (.bin .mul (.cst (.int 69621)) (.var 2))) (.var 1)) (.cst (.int 2147483563)))) .nil)))⟩
noncomputable def iD(f_law_mix:Nat):Ss :=
 (.cons (.asg 3 (.bin .add (.bin .mul (.var 3) (.cst (.int 2147483563))) (.call f_law_mix (.cons (.bin .add (.bin .add (.var 2) (.bin .mul (.cst (.int 1009)) (.var 1))) (.bin .mul (.cst (.int 7919)) (.var 4))) .nil)))) .nil)
noncomputable def jw(f_law_mix:Nat):Fn :=
 ⟨2,5,[],[],(.cons (.asg 2 (.bin .add (.bin .mul (.cst (.int 7)) (.var 1)) (.cst (.int 3)))) (.cons (.ife (.cmp .gt (.bi .len (.var 0)) (.cst (.int 0))) (.cons (.asg 2 (.bin .add (.ix (.var 0) (.bin .mod (.var 1) (.bi .len (.var 0)))) (.bin .mul (.cst (.int 9973)) (.bin .fdiv (.var 1) (.bi .len (.var 0)))))) .nil) .nil) (.cons (.ife (.and (.cmp .lt (.var 1) (.bi .len (.var 0))) (.cmp .ge (.var 2) (.bin .pow (.cst (.int 10)) (.cst (.int 18))))) (.cons (.ret (.bin .sub (.var 2) (.bin .pow (.cst (.int 10)) (.cst (.int 18))))) .nil) .nil) (.cons (.asg 3 (.cst (.int 0))) (.cons (.forr [4] (.rng1 (.cst (.int 40))) (iD f_law_mix)) (.cons (.ret (.var 3)) .nil))))))⟩
noncomputable def fH(f_law_raw:Nat):Ss :=
 (.cons (.app 4 (.bin .mod (.var 3) (.var 5))) (.cons (.asg 3 (.bin .fdiv (.var 3) (.var 5))) .nil))
noncomputable def eV(f_law_raw:Nat):Fn :=
 ⟨3,6,[4],[],(.cons (.asg 3 (.call f_law_raw (.cons (.var 0) (.cons (.var 1) .nil)))) (.cons (.own 4 (.lst .nil)) (.cons (.forr [5] (.seq (.var 2)) (fH f_law_raw)) (.cons (.ret (.var 4)) .nil))))⟩
noncomputable def ck(f_law_digits:Nat):Ss :=
 (.cons (.ife (.cmp .lt (.var 2) (.cst (.int 2))) (.cons (.ret (.lst .nil)) .nil) .nil) (.cons (.asg 8 (.bin .mod (.var 7) (.bin .sub (.var 2) (.cst (.int 1))))) (.cons (.ife (.and (.cmp .ne (.var 4) (.lst .nil)) (.cmp .eq (.bin .mod (.var 7) (.cst (.int 3))) (.cst (.int 1)))) (.cons (.asg 8 (.min (.bin .sub (.var 2) (.cst (.int 2))) (.max (.cst (.int 0)) (.bin .add (.ix (.var 4) (.neg (.cst (.int 1)))) (.ix (.lst (.cons (.cst (.int 1)) (.cons (.neg (.cst (.int 1))) (.cons (.cst (.int 0)) .nil)))) (.bin .mod (.bin .mod (.var 7) (.cst (.int 7))) (.cst (.int 3)))))))) .nil) .nil) (.cons (.app 4 (.var 8)) .nil))))
noncomputable def eL(f_law_digits:Nat):Ss :=
 (.cons (.asg 6 (.call f_law_digits (.cons (.var 0) (.cons (.bin .add (.var 1) (.bin .fdiv (.var 5) (.cst (.int 12)))) (.cons (.bin .mul (.lst (.cons (.cst (.int 97)) .nil)) (.cst (.int 12))) .nil))))) (.cons (.forr [7] (.seq (.slT (.var 6) (.bin .sub (.var 3) (.var 5)))) (ck f_law_digits)) .nil))
noncomputable def df(f_law_digits:Nat):Fn :=
 ⟨4,9,[4],[],(.cons (.own 4 (.lst .nil)) (.cons (.forr [5] (.rng3 (12) (.cst (.int 0)) (.var 3)) (eL f_law_digits)) (.cons (.ret (.var 4)) .nil)))⟩
noncomputable def dh:Fn :=
 ⟨1,2,[],[],(.cons (.ret (.bi .tuple (.bin .add (.compA (.bin .add (.var 0) (.var 1)) [1] (.rng1 (.var 0))) (.rng1 (.var 0))))) .nil)⟩
noncomputable def km(f_law_plain:Nat):Ss :=
 (.cons (.put 2 (.var 3) (.bin .add (.var 3) (.cst (.int 1)))) (.cons (.put 2 (.bin .add (.var 3) (.cst (.int 1))) (.var 3)) .nil))
noncomputable def fO(f_law_plain:Nat):Fn :=
 ⟨2,4,[2],[],(.cons (.own 2 (.bi .list (.call f_law_plain (.cons (.var 0) .nil)))) (.cons (.forr [3] (.seq (.tup (.cons (.var 1) (.cons (.bin .add (.var 0) (.var 1)) .nil)))) (km f_law_plain)) (.cons (.ret (.bi .tuple (.var 2))) .nil)))⟩
noncomputable def d6:Ss :=
 (.cons (.ife (.cmp .eq (.ixD (.var 4) (.var 7)) (.var 9)) (.cons (.put 4 (.var 7) (.var 8)) .nil) .nil) .nil)
noncomputable def eP:Ss :=
 (.cons (.par 8 9 (.ixD (.var 4) (.var 5)) (.ixD (.var 4) (.var 6))) (.cons (.forr [7] (.seq (.var 2)) (d6)) .nil))
noncomputable def gK:Ss :=
 (.cons (.forr [6] (.seq (.tup (.cons (.ix (.var 1) (.var 5)) (.cons (.bin .sub (.ix (.var 0) (.bin .add (.var 3) (.var 5))) (.var 3)) .nil)))) (eP)) .nil)
noncomputable def gN:Ss :=
 (.cons (.put 4 (.var 5) (.var 5)) .nil)
noncomputable def dI:Fn :=
 ⟨3,10,[4],[],(.cons (.asg 3 (.bin .fdiv (.bi .len (.var 0)) (.cst (.int 2)))) (.cons (.own 4 .dk0) (.cons (.forr [5] (.seq (.var 2)) (gN)) (.cons (.forr [5] (.seq (.var 2)) (gK)) (.cons (.ret (.bi .lenSet (.compA (.ixD (.var 4) (.var 5)) [5] (.seq (.var 2))))) .nil)))))⟩
noncomputable def de(f_law_rings_by:Nat):Ss :=
 (.cons (.ife (.cmp .eq (.cmp .eq (.ix (.var 7) (.cst (.int 0))) (.cst (.str "high"))) (.cmp .ge (.ix (.var 7) (.cst (.int 1))) (.var 2))) (.cons (.put 6 (.bin .mod (.ix (.var 7) (.cst (.int 1))) (.var 2)) (.cst (.bl true))) (.cons (.asg 7 (.ixD (.var 3) (.tup (.cons (.ix (.lst (.cons (.cst (.str "high")) (.cons (.cst (.str "low")) .nil))) (.bi .int (.cmp .eq (.ix (.var 7) (.cst (.int 0))) (.cst (.str "high"))))) (.cons (.bin .mod (.bin .add (.ix (.var 7) (.cst (.int 1))) (.var 2)) (.bin .mul (.cst (.int 2)) (.var 2))) .nil))))) .nil)) .nil) .nil)
noncomputable def fv(f_law_rings_by:Nat):Ss :=
 (.cons (.asg 7 (.ixD (.var 3) (.tup (.cons (.ix (.lst (.cons (.cst (.str "high")) (.cons (.cst (.str "low")) .nil))) (.bi .int (.cmp .ge (.var 4) (.var 2)))) (.cons (.var 4) .nil))))) (.cons (.forr [8] (.rng1 (.bin .mul (.cst (.int 4)) (.var 2))) (de f_law_rings_by)) (.cons (.app 5 (.ix (.var 7) (.cst (.int 1)))) .nil)))
noncomputable def fw(f_law_rings_by:Nat):Ss :=
 (.cons (.put 3 (.tup (.cons (.cst (.str "high")) (.cons (.var 4) .nil))) (.tup (.cons (.cst (.str "high")) (.cons (.ix (.var 0) (.var 4)) .nil)))) (.cons (.put 3 (.tup (.cons (.cst (.str "low")) (.cons (.var 4) .nil))) (.tup (.cons (.cst (.str "low")) (.cons (.ix (.var 1) (.var 4)) .nil)))) .nil))
noncomputable def eM(f_law_rings_by:Nat):Fn :=
 ⟨2,9,[3,5,6],[],(.cons (.asg 2 (.bin .fdiv (.bi .len (.var 0)) (.cst (.int 2)))) (.cons (.own 3 .dt0) (.cons (.forr [4] (.rng1 (.bin .mul (.cst (.int 2)) (.var 2))) (fw f_law_rings_by)) (.cons (.own 5 (.lst .nil)) (.cons (.own 6 .dk0) (.cons (.forr [4] (.rng1 (.bin .mul (.cst (.int 2)) (.var 2))) (fv f_law_rings_by)) (.cons (.ret (.tup (.cons (.bi .tuple (.var 5)) (.cons (.call f_law_rings_by (.cons (.var 0) (.cons (.var 1) (.cons (.comp (.var 4) [4] (.rng1 (.var 2)) (.inD true (.var 4) (.var 6))) .nil)))) .nil)))) .nil)))))))⟩
noncomputable def cS(f_law_same:Nat):Fn :=
 ⟨2,4,[],[],(.cons (.ife (.isN false (.var 1)) (.cons (.ret (.isN false (.var 0))) .nil) .nil) (.cons (.ife (.or (.cmp .ne (.isi (.var 0) .bool) (.isi (.var 1) .bool)) (.cmp .ne (.isi (.var 0) .int) (.isi (.var 1) .int))) (.cons (.ret (.cst (.bl false))) .nil) .nil) (.cons (.ife (.or (.cmp .ne (.isi (.var 0) .list) (.isi (.var 1) .list)) (.cmp .ne (.isi (.var 0) .tuple) (.isi (.var 1) .tuple))) (.cons (.ret (.cst (.bl false))) .nil) .nil) (.cons (.ife (.and (.not (.isi (.var 1) .list)) (.not (.isi (.var 1) .tuple))) (.cons (.ret (.and (.cmp .eq (.isi (.var 0) .str) (.isi (.var 1) .str)) (.cmp .eq (.var 0) (.var 1)))) .nil) .nil) (.cons (.ret (.and (.cmp .eq (.bi .len (.var 0)) (.bi .len (.var 1))) (.bi .all (.compA (.call f_law_same (.cons (.var 2) (.cons (.var 3) .nil))) [2,3] (.zip (.var 0) (.var 1)))))) .nil)))))⟩
end RT
namespace M
noncomputable def hg(l r:Nat)(g:Nat->Nat):Nat->Nat:=fun x=>if g l=r then g x else if x=r then l else if x=l then r else if x=g r then g l else if x=g l then g r else g x
section
variable{l r s p q:Nat}{g:Nat->Nat}
theorem Cw(e:g l=r):hg l r g=g:=by funext x;unfold hg;rw[if_pos e]
theorem CK(hlr:l≠r)(h:∀ x,g (g x)=x)(n1:g l≠l)(n2:g r≠r)(x:Nat):hg l r g (hg l r g x)=x:=by
 by_cases e:g l=r
 ·rw[Cw e];exact h x
 ·have k:∀ y,hg l r g y=if y=r then l else if y=l then r else if y=g r then g l else if y=g l then g r else g y:=fun y=>by unfold hg;rw[if_neg e]
  rw[k x,k]
  grind
theorem yS(hlr:l≠r)(h:∀ x,g (g x)=x)(n1:g l≠l)(n2:g r≠r){x:Nat}(nx:g x≠x):hg l r g x≠x:=by
 unfold hg;grind
end
end M
namespace RL
noncomputable def evF(cl:Cl)(fn:Fn)(ds:List D):Option D:=if ds.length=fn.ps then(ak cl fn.M fn.body (ds.map some++List.replicate (fn.nn-fn.ps) none)).bind fun p=>match p.1 with
  | .nx=>bg fn .non p.2
  | .rt d=>bg fn d p.2
  else none
theorem az{T:List Fn}{n f:Nat}{fn:Fn}{ds:List D}(h:T[f]?=some fn):aA T (n+1) f ds=evF (aA T n) fn ds:=by
 rw[aA,h];rfl
noncomputable def L(xs:List Nat):List D:=xs.map fun(i:Nat)=>.int (i:Int)
theorem sY{f:St->Option (Out × St)}{tg:List Nat}(I:List D->St->Prop):∀ (ds done:List D) (σ:St),(∀ pre d post σ,done++ds=pre++d::post->I pre σ->d.imm=true/\∃ σ2,(aO tg d σ).bind f=some (.nx,σ2)/\I (pre++[d]) σ2)->I done σ->∃ σ',aZ f tg ds σ=some (.nx,σ')/\I (done++ds) σ'
 | [],done,σ,_,h=>⟨σ,rfl,by simpa using h⟩
 | d::ds,done,σ,hs,h=>by
  obtain⟨im,σ2,h1,h3⟩:=hs done d ds σ rfl h
  obtain⟨σ',h4,h5⟩:=sY I ds (done++[d]) σ2 (fun pre e post σ he=>hs pre e post σ (by simpa using he)) h3
  refine⟨σ',?_,by simpa using h5⟩
  rw[aZ,if_pos im]
  cases hb:aO tg d σ with
  | none=>rw[hb]at h1;cases h1
  |some σ1=>
   rw[hb]at h1
   simp only[Option.bind_some]at h1 ⊢
   rw[h1]
   exact h4
theorem sX{f:St->Option (Out × St)}{tg:List Nat}{ds:List D}{σ:St}(I:List D->St->Prop)(h0:I [] σ)(hs:∀ pre d post σ,ds=pre++d::post->I pre σ->d.imm=true/\∃ σ2,(aO tg d σ).bind f=some (.nx,σ2)/\I (pre++[d]) σ2):∃ σ',aZ f tg ds σ=some (.nx,σ')/\I ds σ' :=
 sY I ds [] σ (by simpa using hs) h0
@[simp] theorem tf_lst {a:Es}:aF (.lst a)=true:=rfl
@[simp] theorem tf_tup {a:Es}:aF (.tup a)=true:=rfl
@[simp] theorem tf_comp {a:E} {b:List Nat} {c:It} {d:E}:aF (.comp a b c d)=true:=rfl
@[simp] theorem tf_compA {a:E} {b:List Nat} {c:It}:aF (.compA a b c)=true:=rfl
@[simp] theorem tf_bin {a:Bop} {b:E} {c:E}:aF (.bin a b c)=true:=rfl
@[simp] theorem tf_slT {a:E} {b:E}:aF (.slT a b)=true:=rfl
@[simp] theorem tf_slF {a:E} {b:E}:aF (.slF a b)=true:=rfl
@[simp] theorem tf_slB {a:E} {b:E} {c:E}:aF (.slB a b c)=true:=rfl
@[simp] theorem tf_rev {a:E}:aF (.rev a)=true:=rfl
@[simp] theorem tf_call {a:Nat} {b:Es}:aF (.call a b)=true:=rfl
@[simp] theorem tf_bi {a:Bi} {b:E}:aF (.bi a b)=true:=rfl
@[simp] theorem tf_rng1 {a:E}:aF (.rng1 a)=true:=rfl
@[simp] theorem tf_rng2 {a:E} {b:E}:aF (.rng2 a b)=true:=rfl
@[simp] theorem tf_rng3 {a:Int} {b:E} {c:E}:aF (.rng3 a b c)=true:=rfl
@[simp] theorem tf_dk0:aF .dk0=true:=rfl
@[simp] theorem tf_dt0:aF .dt0=true:=rfl
end RL
namespace RM
open RL RT
section basics
variable{a b:Int}
theorem k9:bu .lt (.int a) (.int b)=some (decide (a<b)):=rfl
theorem Gg:bu .le (.int a) (.int b)=some (decide (a<=b)):=rfl
theorem B6:bu .gt (.int a) (.int b)=some (decide (b<a)):=rfl
theorem yu:bu .ge (.int a) (.int b)=some (decide (b<=a)):=rfl
theorem mz:bu .eq (.int a) (.int b)=some (a == b):=rfl
theorem Gf:bu .ne (.int a) (.int b)=some (!(a == b)):=rfl
theorem bT:aI .add (.int a) (.int b)=some (.int (a+b)):=rfl
theorem eU:aI .sub (.int a) (.int b)=some (.int (a-b)):=rfl
theorem dJ(h:0<b):aI .mod (.int a) (.int b)=some (.int (a%b)):=by dsimp only[aI];rw[if_pos h]
theorem oP(h:0<b)(h':b<2 ^ 200):aI .fdiv (.int a) (.int b)=some (.int (a / b)):=by dsimp only[aI];rw[if_pos ⟨h,h'⟩]
theorem dD(h1:-(2 ^ 64)<a)(h2:a<2 ^ 64):aI .mul (.int a) (.int b)=some (.int (a*b)):=by dsimp only[aI];rw[if_pos (.inl ⟨h1,h2⟩)]
theorem wB(h1:-(2 ^ 64)<b)(h2:b<2 ^ 64):aI .mul (.int a) (.int b)=some (.int (a*b)):=by dsimp only[aI];rw[if_pos (.inr ⟨h1,h2⟩)]
theorem xX(k:Bool):truth (.bl k)=some k:=rfl
end basics
theorem sT{xs:List Nat}{pre post:List D}{d:D}(h:L xs=pre++d::post):∃ p x q,xs=p++x::q/\pre=L p/\d=.int (x:Nat)/\post=L q:=by
 unfold L at h
 obtain⟨p,r,rfl,h1,h2⟩:=List.map_eq_append_iff.mp h
 obtain⟨x,q,rfl,h3,h4⟩:=List.map_eq_cons_iff.mp h2
 exact⟨p,x,q,rfl,h1.symm,h3.symm,h4.symm⟩
theorem tQ:∀ {a b:List Nat},L a=L b->a=b
 | [],[],_=>rfl
 | [],_::_,h=>by simp[L]at h
 | _::_,[],h=>by simp[L]at h
 | x::a,y::b,h=>by
  unfold L at h
  rw[List.map_cons,List.map_cons,List.cons.injEq]at h
  have h1:(x:Int)=y:=by injection h.1
  rw[tQ (a:=a) (b:=b) h.2,Int.ofNat_inj.mp h1]
theorem da{f:St->Option (Out × St)}{tg:List Nat}{xs:List Nat}{σ:St}(I:List Nat->St->Prop)(h0:I [] σ)(hs:∀ p x q σ,xs=p++x::q->I p σ->∃ σ2,(aO tg (.int (x:Nat)) σ).bind f=some (.nx,σ2)/\I (p++[x]) σ2):∃ σ',aZ f tg (L xs) σ=some (.nx,σ')/\I xs σ':=by
 obtain⟨σ',e,p,hp,hi⟩:=sX (f:=f) (tg:=tg) (ds:=L xs) (σ:=σ) (fun pre σ=>∃ p,pre=L p/\I p σ) ⟨[],rfl,h0⟩ (by
  rintro pre d post σ hd ⟨p',hp',hi⟩
  obtain⟨p,x,q,rfl,rfl,rfl,rfl⟩:=sT hd
  have:=tQ hp'
  subst this
  obtain⟨σ2,h1,h2⟩:=hs p x q σ rfl hi
  exact⟨rfl,σ2,h1,p++[x],by simp[L],h2⟩)
 have:=tQ hp
 subst this
 exact⟨σ',e,hi⟩
theorem bD(xs:List Nat):(L xs).length=xs.length:=by simp[L]
theorem u5(xs:List Nat)(i:Nat):(L xs)[i]?=(xs[i]?).map fun(i:Nat)=>.int (i:Int):=by simp[L]
theorem zX(xs:List Nat)(i j:Nat):(L xs).set i (.int j)=L (xs.set i j):=by simp[L,List.map_set]
theorem dz:∀ xs:List Nat,aw (L xs)=true
 | []=>rfl
 | x::xs=>by
  show((D.int x).imm&&aw (L xs))=true
  rw[dz xs];rfl
theorem iC(xs ys:List Nat):L (xs++ys)=L xs++L ys:=by simp[L]
theorem iS{α:Type}(xs:List α)(i:Nat):cN xs (i:Int)=xs[i]?:=by
 unfold cN
 rw[if_pos (Int.natCast_nonneg i)]
 rfl
theorem yB{n i:Nat}(h:i<n):mC n (i:Int)=some i:=by
 unfold mC
 rw[if_pos (Int.natCast_nonneg i),if_pos (by lia)]
 rfl
theorem ky(a:Nat):∀ n:Nat,c9 (a:Int) n=L (List.range' a n)
 | 0=>rfl
 | n+1=>by
  rw[c9,List.range'_succ]
  have:=ky (a+1) n
  rw[show((a+1:Nat):Int)=(a:Int)+1 by lia]at this
  rw[this]
  rfl
theorem j7{a b:Nat}(h1:a<=1000)(h2:b<=1000):dU (.int a) (.int b)=some (L (List.range' a (b-a))):=by
 dsimp only[dU]
 have:((b:Int)-a).toNat=b-a:=by lia
 rw[if_pos ⟨by unfold most;lia,by lia,by lia,by lia,by lia⟩,this,ky]
section
variable{cl:Cl}
theorem fM(i:Int):evF cl dm [.int i]=some (.bl true):=rfl
theorem kM{f:Nat}(h:∀ i:Int,cl f [.int i]=some (.bl true))(i:Int):evF cl (cM f) [.int i]=some (.bl (decide (1<=i/\i<=10))):=by
 simp[evF,cM,ak,evS,ev,evs,h,bu,cn,D.imm,bg]
 by_cases h1:1<=i<;>simp[h1,cn,D.imm,bg]
theorem my{f:Nat}{i:Int}(h:cl f [.int i]=some (.bl true)):evF cl (dC f) [.int i]=some .non:=by
 simp[evF,dC,ak,evS,ev,evs,h,truth,bg]
theorem AF(xs:List Nat){i j:Nat}(hi:i<xs.length)(hj:j<xs.length):evF cl oH [.lst (L xs),.int i,.int j]=some (.tup [.non,.lst (L ((xs.set i j).set j i))]):=by
 simp[evF,oH,ak,evS,ev,evs,dA,mC,hi,hj,D.imm,bg,eS,bD,zX]
theorem rJ(xs:List D):evF cl jF [.lst xs]=some (.int (xs.length / 2)):=rfl
noncomputable def ay(n:Nat):List Nat:=List.range' n n++List.range' 0 n
theorem run_plain{f:Nat}{n:Nat}(hn:n<=10)(h:cl f [.int n]=some .non):evF cl (jO f) [.int n]=some (.tup (L (ay n))):=by
 have e1:=j7 (a:=n) (b:=2*n) (by lia) (by lia)
 rw[show 2*n-n=n by lia,show((2*n:Nat):Int)=2*(n:Int) by lia]at e1
 have e2:=j7 (a:=0) (b:=n) (by lia) (by lia)
 rw[Nat.sub_zero]at e2
 have e3:aI .mul (.int 2) (.int n)=some (.int (2*n)):=by
  dsimp only[aI]
  rw[if_pos (by lia)]
 have e4:aI .add (.lst (L (List.range' n n))) (.lst (L (List.range' 0 n)))=some (.lst (L (ay n))):=by
  dsimp only[aI]
  rw[if_pos (by simp[bD,most];lia),ay,iC]
 simp only[Int.natCast_zero]at e2
 simp[evF,jO,ak,evS,ev,evs,h,e1,e2,e3,e4,biV,items,cn,D.imm,dz,bg]
theorem kn{f:Nat}(h:∀ i:Int,cl f [.int i]=some (.bl true))(n i:Int):evF cl (eD f) [.int n,.int i]=some (.bl (decide (0<=i/\i<=n-2))):=by
 simp[evF,eD,ak,evS,ev,evs,h,bu,aI]
 by_cases h1:0<=i<;>simp[h1,cn,D.imm,bg]
theorem ot{f g:Nat}{n:Nat}{row:List Nat}(h1:cl g [.int n]=some .non)(h2:∀ i∈row,cl f [.int n,.int i]=some (.bl true)):evF cl (dk f g) [.int n,.lst (L row)]=some .non:=by
 obtain⟨σ',e,o',rfl⟩:=sX (f:=ak cl [] (cK f g)) (tg:=[2]) (ds:=L row) (σ:=[some (.int n),some (.lst (L row)),none])
  (fun _ σ=>∃ o,σ=[some (.int n),some (.lst (L row)),o]) ⟨none,rfl⟩ (by
   rintro pre d post σ hd ⟨o,rfl⟩
   obtain⟨p,x,q,rfl,rfl,rfl,rfl⟩:=sT hd
   have hx:=h2 x (by simp)
   refine⟨rfl,[some (.int n),some (.lst (L (p++x::q))),some (.int x)],?_,⟨_,rfl⟩⟩
   simp[aO,cK,ak,evS,ev,evs,hx,truth])
 simp[evF,dk,ak,evS,ev,evs,h1,bp,items]
 simp[e,bg]
noncomputable def at'(f:List Nat)(x:Nat):Nat:=(f[x]?).getD x
noncomputable def bU(f:List Nat)(l:Nat):List Nat:=if at' f l=l+1 then f else(((f.set (at' f l) (at' f (l+1))).set (at' f (l+1)) (at' f l)).set l (l+1)).set (l+1) l
noncomputable def eN(f:List Nat)(l:Nat):Nat:=if at' f l=l+1 then 1 else 0
structure Frm(n:Nat)(f:List Nat):Prop where
 len:f.length=2*n
 lt:∀ x,x<2*n->at' f x<2*n
 inv:∀ x,at' f (at' f x)=x
 no:∀ x,x<2*n->at' f x≠x
theorem dE{f:List Nat}{x:Nat}(h:x<f.length):f[x]?=some (at' f x):=by simp[at',h]
theorem iz{f:List Nat}{x:Nat}(h:f.length<=x):at' f x=x:=by simp[at',h]
theorem fy{f:List Nat}{i j x:Nat}(h:i<f.length):at' (f.set i j) x=if x=i then j else at' f x:=by
 unfold at'
 rw[List.getElem?_set]
 by_cases e:i=x
 ·subst e
  simp[h]
 ·simp[e,Ne.symm e]
theorem jK{n:Nat}{f:List Nat}(F:Frm n f){l:Nat}(hl:l+1<2*n):at' (bU f l)=M.hg l (l+1) (at' f):=by
 funext x
 unfold bU M.hg
 have a1:=F.lt l (by lia)
 have a2:=F.lt (l+1) hl
 have hlen:=F.len
 by_cases e:at' f l=l+1
 ·rw[if_pos e,if_pos e]
 ·rw[if_neg e,if_neg e,fy (by simp;lia),fy (by simp;lia),fy (by simp;lia),fy (by lia)]
theorem ku{f:List Nat}{l:Nat}:(bU f l).length=f.length:=by
 unfold bU
 split
 ·rfl
 ·simp
theorem qe{n:Nat}{f:List Nat}(F:Frm n f){l:Nat}(hl:l+1<2*n):Frm n (bU f l):=by
 have n1:=F.no l (by lia)
 have n2:=F.no (l+1) hl
 refine⟨by rw[ku];exact F.len,fun x hx=>?_,fun x=>?_,fun x hx=>?_⟩
 ·rw[jK F hl]
  unfold M.hg
  have a1:=F.lt l (by lia)
  have a2:=F.lt (l+1) hl
  have a3:=F.lt x hx
  repeat' split
  all_goals lia
 ·rw[jK F hl]
  exact M.CK (by lia) F.inv n1 n2 x
 ·rw[jK F hl]
  exact M.yS (by lia) F.inv n1 n2 (F.no x hx)
theorem Ez{n:Nat}{f g:List Nat}(F:f.length=2*n)(G:g.length=2*n)(h:at' f=at' g):f=g:=by
 apply List.ext_getElem?
 intro i
 by_cases hi:i<2*n
 ·rw[dE (by lia),dE (by lia),h]
 ·rw[List.getElem?_eq_none (by lia),List.getElem?_eq_none (by lia)]
theorem ou{f_tie f_pegs:Nat}{n:Nat}{f:List Nat}{i:Nat}(F:Frm n f)(hi:i+1<n)(hp:∀ xs:List D,cl f_pegs [.lst xs]=some (.int (xs.length / 2)))
 (ht:∀ (xs:List Nat) (i j:Nat),i<xs.length->j<xs.length->cl f_tie [.lst (L xs),.int i,.int j]=some (.tup [.non,.lst (L ((xs.set i j).set j i))])) :
  evF cl (dS f_tie f_pegs) [.lst (L f),.int i]=some (.tup [.int (eN f (n+i)),.lst (L (bU f (n+i)))]):=by
 have hlen:=F.len
 have h2:((2*n:Nat):Int) / 2=n:=by lia
 have g1:((L f).length:Int) / 2=n:=by rw[bD,hlen];exact h2
 have hl:n+i+1<2*n:=by lia
 have k1:f[n+i]?=some (at' f (n+i)):=dE (by lia)
 have k2:f[n+i+1]?=some (at' f (n+i+1)):=dE (by lia)
 have p1:∀ k:Nat,cN (L f) ((n:Int)+(k:Int))=(f[n+k]?).map fun(i:Nat)=>.int (i:Int):=fun k=>by
  have:=iS (L f) (n+k)
  rw[show((n+k:Nat):Int)=(n:Int)+(k:Int) by lia]at this
  rw[this,u5]
 have p2:=p1 (i+1)
 rw[show(n:Int)+((i+1:Nat):Int)=(n:Int)+(i:Int)+1 by lia,show n+(i+1)=n+i+1 by lia]at p2
 have a1:=F.lt (n+i) (by lia)
 have a2:=F.lt (n+i+1) hl
 have t1:=ht f (at' f (n+i)) (at' f (n+i+1)) (by lia) (by lia)
 have t2:=ht ((f.set (at' f (n+i)) (at' f (n+i+1))).set (at' f (n+i+1)) (at' f (n+i))) (n+i) (n+i+1) (by simp;lia) (by simp;lia)
 rw[show((n+i:Nat):Int)=(n:Int)+(i:Int) by lia,show((n+i+1:Nat):Int)=(n:Int)+(i:Int)+1 by lia]at t2
 by_cases e:at' f (n+i)=n+i+1
 ·have e':((at' f (n+i):Nat):Int)=(n:Int)+(i:Int)+1:=by lia
  simp[evF,dS,ak,evS,ev,evs,hp,g1,aI,bw,D.imm,ixV,p1,p2,k1,k2,bu,eqD,truth,e',cn,bg,eS,eN,bU,e]
 ·have e':¬ ((at' f (n+i):Nat):Int)=(n:Int)+(i:Int)+1:=by lia
  simp[evF,dS,ak,evS,ev,evs,hp,g1,aI,bw,D.imm,ixV,p1,p2,k1,k2,bu,eqD,truth,e',cn,bg,eS,eN,bU,e,f9,isVar,t1,t2,bF]
end
end RM
namespace RL
section
variable{cl:Cl}{M:List Nat}{σ σ':St}{e t:E}{d:D}{r a b:Ss}{i j:Nat}{res:Option (Out × St)}
theorem c8:ak cl M .nil σ=some (.nx,σ):=by rw[ak]
theorem fN{s:S}(h:evS cl M s σ=some (.nx,σ'))(k:ak cl M r σ'=res):ak cl M (.cons s r) σ=res:=by
 rw[ak,h];exact k
theorem tG{s:S}(h:evS cl M s σ=some (.rt d,σ')):ak cl M (.cons s r) σ=some (.rt d,σ'):=by
 rw[ak,h];rfl
theorem bI(h:ev cl σ e=some d)(ok:bw M e d=true)(k:ak cl M r (σ.set i (some d))=res):ak cl M (.cons (.asg i e) r) σ=res :=
 fN (by rw[evS,h];show(if bw M e d=true then _ else _)=_;rw[if_pos ok]) k
theorem qf(h:ev cl σ e=some d)(ok:(aU d&&aF e)=true)(k:ak cl M r (σ.set i (some d))=res):ak cl M (.cons (.own i e) r) σ=res :=
 fN (by rw[evS,h];show(if(aU d&&aF e)=true then _ else _)=_;rw[if_pos ok]) k
theorem cY(h:ev cl σ e=some d)(ok:cn M e d=true):ak cl M (.cons (.ret e) r) σ=some (.rt d,σ) :=
 tG (by rw[evS,h];show(if cn M e d=true then _ else _)=_;rw[if_pos ok])
theorem xq(h:(ev cl σ t).bind truth=some true)(h1:ak cl M a σ=some (.nx,σ'))(k:ak cl M r σ'=res):ak cl M (.cons (.ife t a b) r) σ=res :=
 fN (by rw[evS,h];exact h1) k
theorem mB(h:(ev cl σ t).bind truth=some true)(h1:ak cl M a σ=some (.rt d,σ')):ak cl M (.cons (.ife t a b) r) σ=some (.rt d,σ') :=
 tG (by rw[evS,h];exact h1)
theorem Ex(h:(ev cl σ t).bind truth=some false)(h1:ak cl M b σ=some (.nx,σ'))(k:ak cl M r σ'=res):ak cl M (.cons (.ife t a b) r) σ=res :=
 fN (by rw[evS,h];exact h1) k
theorem dN(h:(ev cl σ t).bind truth=some false)(k:ak cl M r σ=res):ak cl M (.cons (.ife t a .nil) r) σ=res:=Ex h c8 k
theorem wC{is:List Nat}{ds:List D}(h:ev cl σ e=some d)(hd:items d=some ds)(im:aw ds=true)(hs:bF is ds σ=some σ')(k:ak cl M r σ'=res):ak cl M (.cons (.unp is e) r) σ=res :=
 fN (by rw[evS,h,Option.bind_some,hd];show(if aw ds=true then _ else _)=_;rw[if_pos im,hs];rfl) k
theorem qa{x y:D}{e':E}(h:ev cl σ e=some x)(h':ev cl σ e'=some y)(im:(x.imm&&y.imm)=true)(k:ak cl M r ((σ.set i (some x)).set j (some y))=res):ak cl M (.cons (.par i j e e') r) σ=res :=
 fN (by rw[evS,h,Option.bind_some,h'];show(if(x.imm&&y.imm)=true then _ else _)=_;rw[if_pos im]) k
theorem vJ{x kk l l':D}{e':E}(h:ev cl σ e'=some x)(h':ev cl σ e=some kk)(hi:(σ[i]?).bind id=some l)(im:x.imm=true)(hp:dA l kk x=some l')(k:ak cl M r (σ.set i (some l'))=res):ak cl M (.cons (.put i e e') r) σ=res :=
 fN (by rw[evS,h,Option.bind_some,h',Option.bind_some,hi,Option.bind_some,if_pos im,hp];rfl) k
theorem eQ{tg:List Nat}{it:It}{ds:List D}{b:Ss}(h:bp cl σ it=some ds)(h1:aZ (ak cl M b) tg ds σ=some (.nx,σ'))(k:ak cl M r σ'=res):ak cl M (.cons (.forr tg it b) r) σ=res :=
 fN (by rw[evS,h];exact h1) k
theorem sI{tg:List Nat}{it:It}{ds:List D}{b:Ss}(h:bp cl σ it=some ds)(h1:aZ (ak cl M b) tg ds σ=some (.rt d,σ')):ak cl M (.cons (.forr tg it b) r) σ=some (.rt d,σ') :=
 tG (by rw[evS,h];exact h1)
theorem af(h:(σ[i]?).bind id=some d):ev cl σ (.var i)=some d:=by rw[ev];exact h
theorem aC:ev cl σ (.cst d)=some d:=by rw[ev]
theorem x_call{f:Nat}{es:Es}{ds:List D}(h:evs cl σ es=some ds)(hc:cl f ds=some d):ev cl σ (.call f es)=some d:=by rw[ev,h];exact hc
theorem cF:evs cl σ .nil=some []:=by rw[evs]
theorem aP{es:Es}{ds:List D}(h:ev cl σ e=some d)(hr:evs cl σ es=some ds):evs cl σ (.cons e es)=some (d::ds):=by rw[evs,h,Option.bind_some,hr];rfl
theorem tJ{f:Nat}(h:ev cl σ e=some d){x:D}(hc:cl f [d]=some x):ev cl σ (.call f (.cons e .nil))=some x:=x_call (aP h cF) hc
theorem gU{f:Nat}{e':E}{d' x:D}(h:ev cl σ e=some d)(h':ev cl σ e'=some d')(hc:cl f [d,d']=some x):ev cl σ (.call f (.cons e (.cons e' .nil)))=some x:=x_call (aP h (aP h' cF)) hc
theorem DI{f:Nat}{e' e'':E}{d' d'' x:D}(h:ev cl σ e=some d)(h':ev cl σ e'=some d')(h'':ev cl σ e''=some d'')(hc:cl f [d,d',d'']=some x):ev cl σ (.call f (.cons e (.cons e' (.cons e'' .nil))))=some x:=x_call (aP h (aP h' (aP h'' cF))) hc
theorem aE{o:Bop}{e':E}{x y:D}(h:ev cl σ e=some x)(h':ev cl σ e'=some y)(hb:aI o x y=some d):ev cl σ (.bin o e e')=some d:=by rw[ev,h,Option.bind_some,h'];exact hb
theorem bQ{o:Cop}{e':E}{x y:D}{k:Bool}(h:ev cl σ e=some x)(h':ev cl σ e'=some y)(hb:bu o x y=some k):ev cl σ (.cmp o e e')=some (.bl k):=by rw[ev,h,Option.bind_some,h',Option.bind_some,hb];rfl
theorem pN{e':E}{x y:D}(h:ev cl σ e=some x)(h':ev cl σ e'=some y)(hb:ixV x y=some d):ev cl σ (.ix e e')=some d:=by rw[ev,h,Option.bind_some,h'];exact hb
theorem e8{o:Bi}{x:D}(h:ev cl σ e=some x)(hb:biV o x=some d):ev cl σ (.bi o e)=some d:=by rw[ev,h];exact hb
theorem lQ{e':E}{x y:D}(h:ev cl σ e=some x)(h':ev cl σ e'=some y)(hb:kT x y=some d):ev cl σ (.slT e e')=some d:=by rw[ev,h,Option.bind_some,h'];exact hb
theorem Ff{e':E}{x y:D}(h:ev cl σ e=some x)(h':ev cl σ e'=some y)(hb:uc x y=some d):ev cl σ (.slF e e')=some d:=by rw[ev,h,Option.bind_some,h'];exact hb
theorem Fd{xs:List D}(h:ev cl σ e=some (.lst xs)):ev cl σ (.rev e)=some (.lst xs.reverse):=by rw[ev,h];rfl
theorem iN{e':E}{x y:D}(h:ev cl σ e=some x)(h':ev cl σ e'=some y)(hb:mT x y=some d):ev cl σ (.ixD e e')=some d:=by rw[ev,h,Option.bind_some,h'];exact hb
theorem cV{t:Ty}{x:D}{k:Bool}(h:ev cl σ e=some x)(hb:cW t x=some k):ev cl σ (.isi e t)=some (.bl k):=by rw[ev,h,Option.bind_some,hb];rfl
theorem gJ{es:Es}{ds:List D}(h:evs cl σ es=some ds):ev cl σ (.lst es)=some (.lst ds):=by rw[ev,h];rfl
theorem zB{es:Es}{ds:List D}(h:evs cl σ es=some ds):ev cl σ (.tup es)=some (.tup ds):=by rw[ev,h];rfl
theorem jN{e':E}(h:ev cl σ e=some (.bl true))(h':ev cl σ e'=some d):ev cl σ (.and e e')=some d:=by rw[ev,h];exact h'
theorem pG{e':E}(h:ev cl σ e=some (.bl false)):ev cl σ (.and e e')=some (.bl false):=by rw[ev,h];rfl
theorem yO{e':E}(h:ev cl σ e=some (.bl false))(h':ev cl σ e'=some d):ev cl σ (.or e e')=some d:=by rw[ev,h];exact h'
theorem ER{k:Bool}(h:(ev cl σ e).bind truth=some k):ev cl σ (.not e)=some (.bl (!k)):=by rw[ev,h];rfl
theorem fD{k:Bool}(h:ev cl σ e=some (.bl k)):ev cl σ (.not e)=some (.bl (!k)):=ER (by rw[h];rfl)
theorem cQ{k:Bool}(h:ev cl σ e=some (.bl k)):(ev cl σ e).bind truth=some k:=by rw[h];rfl
theorem mL{tg:List Nat}{it:It}{ds ys:List D}(h:bp cl σ it=some ds)(hf:ds.length<=most)(hm:dn (fun σ1=>(ev cl σ1 e).map some) tg σ ds=some ys):ev cl σ (.compA e tg it)=some (.lst ys):=by
 rw[ev,h,Option.bind_some,fits,if_pos hf,Option.bind_some,hm];rfl
theorem wt{x:D}{ds:List D}(h:ev cl σ e=some x)(hr:dU (.int 0) x=some ds):bp cl σ (.rng1 e)=some ds:=by rw[bp,h];exact hr
theorem wD{c:Int}{e':E}{x y:D}{ds:List D}(h:ev cl σ e=some x)(h':ev cl σ e'=some y)(hr:fu c x y=some ds):bp cl σ (.rng3 c e e')=some ds:=by rw[bp,h,Option.bind_some,h'];exact hr
theorem fq{x:D}{ds:List D}(h:ev cl σ e=some x)(hr:items x=some ds):bp cl σ (.seq e)=some ds:=by rw[bp,h];exact hr
theorem EK{e':E}{x y:D}{xs ys:List D}(h:ev cl σ e=some x)(h':ev cl σ e'=some y)(hx:items x=some xs)(hy:items y=some ys)(hl:xs.length=ys.length):bp cl σ (.zip e e')=some (eW xs ys):=by rw[bp,h,Option.bind_some,h',Option.bind_some,hx,Option.bind_some,hy,Option.bind_some,if_pos hl]
theorem ET{x:D}{n k:Bool}(hk:(match x with | .non=>some (D.bl (!n)) | .dK _ _=>none | .dT _ _=>none | _=>some (.bl n))=some (D.bl k))(h:ev cl σ e=some x):ev cl σ (.isN n e)=some (.bl k):=by rw[ev,h];exact hk
end
theorem wY{f:St->Option (Out × St)}{tg:List Nat}{σ:St}:aZ f tg [] σ=some (.nx,σ):=rfl
theorem mO{f:St->Option (Out × St)}{tg:List Nat}{d:D}{r:List D}{σ σ1 σ2:St}{res:Option (Out × St)}(im:d.imm=true)(hb:aO tg d σ=some σ1)(h:f σ1=some (.nx,σ2))(k:aZ f tg r σ2=res):aZ f tg (d::r) σ=res:=by
 rw[aZ,if_pos im,hb,Option.bind_some,h];exact k
theorem cb{cl:Cl}{fn:Fn}{ds:List D}{d:D}{σ':St}(hl:ds.length=fn.ps)(hm:fn.mp=[])(h:ak cl fn.M fn.body (ds.map some++List.replicate (fn.nn-fn.ps) none)=some (.rt d,σ')):evF cl fn ds=some d:=by
 unfold evF
 rw[if_pos hl,h]
 show bg fn d σ'=_
 unfold bg
 rw[hm]
 rfl
end RL
set_option maxHeartbeats 1000000
namespace RL
open PySem (Str)
noncomputable def Rx(cl:Cl)(σ:St)(e:E)(c:Str):Prop:=ev cl σ e=none/\evX cl σ e=some c
noncomputable def Rr(cl:Cl)(M:List Nat)(b:Ss)(σ:St)(c:Str)(σ':St):Prop:=ak cl M b σ=none/\bN cl M b σ=some (c,σ')
noncomputable def Rc(cl:Cl)(f:Nat)(ds:List D)(c:Str):Prop:=cl f ds=none/\cl (f+1000) ds=some (.str c)
section
variable{cl:Cl}{M:List Nat}{σ σ' σ1:St}{e t:E}{d:D}{r a b:Ss}{i j:Nat}{c:Str}
theorem Fx{s:S}(h:evS cl M s σ=some (.nx,σ1))(k:Rr cl M r σ1 c σ'):Rr cl M (.cons s r) σ c σ':=by
 refine⟨?_,?_⟩
 ·rw[ak,h];exact k.1
 ·rw[bN,h];exact k.2
theorem lg{s:S}(h:evS cl M s σ=none)(k:iA cl M s σ=some (c,σ')):Rr cl M (.cons s r) σ c σ':=by
 refine⟨?_,?_⟩
 ·rw[ak,h];rfl
 ·rw[bN,h];exact k
theorem D7{ps:Es}{ds:List D}(h:evs cl σ ps=some ds)(w:ds.all written=true):Rr cl M (.cons (.rais c ps) r) σ c σ:=lg (by rw[evS]) (by show(evs cl σ ps).bind _=_;rw[h,Option.bind_some,if_pos w])
theorem zC(h:Rx cl σ e c):Rr cl M (.cons (.exc e) r) σ c σ:=lg (by rw[evS,h.1];rfl) (by show(evX cl σ e).map _=_;rw[h.2];rfl)
theorem Fe(h:(ev cl σ t).bind truth=some true)(k:Rr cl M a σ c σ'):Rr cl M (.cons (.ife t a b) r) σ c σ':=lg (by rw[evS,h];exact k.1) (by show((ev cl σ t).bind truth).bind _=_;rw[h];exact k.2)
theorem FU(h:ev cl σ e=some d)(k:Rr cl M r σ c σ'):Rr cl M (.cons (.exc e) r) σ c σ':=Fx (by rw[evS,h];rfl) k
theorem Ft{tg:List Nat}{it:It}{ds:List D}(h:bp cl σ it=some ds)(k1:aZ (ak cl M b) tg ds σ=none)(k2:d4 (ak cl M b) (bN cl M b) tg ds σ=some (c,σ')):Rr cl M (.cons (.forr tg it b) r) σ c σ':=lg (by rw[evS,h];exact k1) (by show(bp cl σ it).bind _=_;rw[h];exact k2)
theorem Ep{f:Nat}{es:Es}{ds:List D}(h:evs cl σ es=some ds)(k:Rc cl f ds c):Rx cl σ (.call f es) c:=by
 refine⟨?_,?_⟩
 ·rw[ev,h];exact k.1
 ·show(match evs cl σ es with | some ds=>clX cl f ds | none=>mE cl σ es)=_
  rw[h]
  show clX cl f ds=_
  unfold clX
  rw[k.2];rfl
theorem DW{f:Nat}{e':E}{d':D}(h:ev cl σ e=some d)(h':ev cl σ e'=some d')(k:Rc cl f [d,d'] c):Rx cl σ (.call f (.cons e (.cons e' .nil))) c:=Ep (aP h (aP h' cF)) k
theorem AM{h:Ss}{n:Str}{σ2:St}{res:Option (Out × St)}(h1:Rr cl M b σ n σ1)(hs:cG n c=true)(h2:ak cl M h (σ1.set i (some (.exc n)))=some (.nx,σ2))(k:ak cl M r (σ2.set i none)=res):ak cl M (.cons (.tryc b c i h) r) σ=res:=fN (by
 rw[evS,h1.1]
 show(bN cl M b σ).bind _=_
 rw[h1.2,Option.bind_some,if_pos hs,h2]
 rfl) k
end
theorem uX{f:St->Option (Out × St)}{fx:St->Option (Str × St)}{tg:List Nat}{c:Str}{post:List D}{d:D}(I:St->Prop):∀ (pre:List D) (σ:St),I σ->(∀ x∈pre,x.imm=true)->d.imm=true ->
  (∀ x∈pre,∀ σ,I σ->∃ σ1 σ2,aO tg x σ=some σ1/\f σ1=some (.nx,σ2)/\I σ2) ->
  (∀ σ,I σ->∃ σ1,aO tg d σ=some σ1/\f σ1=none/\∃ σ2,fx σ1=some (c,σ2)/\I σ2) ->
  aZ f tg (pre++d::post) σ=none/\∃ σ',d4 f fx tg (pre++d::post) σ=some (c,σ')/\I σ'
 | [],σ,hI,_,him,_,hd=>by
  obtain⟨σ1,e1,e2,σ2,e3,i2⟩:=hd σ hI
  refine⟨?_,σ2,?_,i2⟩
  ·show aZ f tg (d::post) σ=none
   rw[aZ,if_pos him,e1,Option.bind_some,e2];rfl
  ·show d4 f fx tg (d::post) σ=_
   rw[d4,if_pos him,e1,Option.bind_some,e2];exact e3
 | x::pre,σ,hI,hp,him,ht,hd=>by
  obtain⟨σ1,σ2,e1,e2,i2⟩:=ht x (.head _) σ hI
  obtain⟨k1,σ',k2,i3⟩:=uX I pre σ2 i2 (fun y hy=>hp y (.tail _ hy)) him (fun y hy=>ht y (.tail _ hy)) hd
  refine⟨?_,σ',?_,i3⟩
  ·show aZ f tg (x::(pre++d::post)) σ=none
   rw[aZ,if_pos (hp x (.head _)),e1,Option.bind_some,e2];exact k1
  ·show d4 f fx tg (x::(pre++d::post)) σ=_
   rw[d4,if_pos (hp x (.head _)),e1,Option.bind_some,e2];exact k2
theorem zZ{T:List Fn}{f n:Nat}{fn:Fn}{ds:List D}{c:Str}{σ':St}(h:T[f]?=some fn)(hT:T.length<=1000)(hl:ds.length=fn.ps)(hm:fn.mp=[])(k:Rr (aA T n) fn.M fn.body (ds.map some++List.replicate (fn.nn-fn.ps) none) c σ'):Rc (aA T (n+1)) f ds c:=by
 refine⟨?_,?_⟩
 ·rw[aA,h]
  show(if ds.length=fn.ps then _ else none)=none
  rw[if_pos hl,k.1];rfl
 ·rw[aA,List.getElem?_eq_none (by omega)]
  show(T[f+1000-1000]?).bind _=_
  rw[Nat.add_sub_cancel,h,Option.bind_some,if_pos ⟨hl,hm⟩,k.2]
  rfl
end RL
namespace RT
open RL
noncomputable def jq:Fn :=
 ⟨1,5,[1],[],(.cons (.own 1 (.lst (.cons (.isx (.var 0) "BadPegs") (.cons (.isx (.var 0) "BadFrame") (.cons (.isx (.var 0) "BadHalf") (.cons (.isx (.var 0) "BadHook") .nil)))))) (.cons (.own 1 (.bin .add (.var 1) (.lst (.cons (.isx (.var 0) "BadName") (.cons (.isx (.var 0) "NoNumber") (.cons (.isx (.var 0) "NoFrame") (.cons (.isx (.var 0) "NoStack") .nil))))))) (.cons (.own 1 (.bin .add (.var 1) (.lst (.cons (.isx (.var 0) "NoPlace") (.cons (.isx (.var 0) "Taken") (.cons (.isx (.var 0) "Full") (.cons (.isx (.var 0) "NothingThere") .nil))))))) (.cons (.own 1 (.bin .add (.var 1) (.lst (.cons (.isx (.var 0) "BadTrade") (.cons (.isx (.var 0) "Hangs") (.cons (.isx (.var 0) "BadPage") .nil)))))) (.cons (.app 1 (.not (.isx (.var 0) "ValueError"))) (.cons (.asg 2 (.lst (.cons (.cst (.str "BadPegs")) (.cons (.cst (.str "BadFrame")) (.cons (.cst (.str "BadHalf")) (.cons (.cst (.str "BadHook")) (.cons (.cst (.str "BadName")) (.cons (.cst (.str "NoNumber")) (.cons (.cst (.str "NoFrame")) (.cons (.cst (.str "NoStack")) (.cons (.cst (.str "NoPlace")) .nil))))))))))) (.cons (.asg 2 (.bin .add (.var 2) (.lst (.cons (.cst (.str "Taken")) (.cons (.cst (.str "Full")) (.cons (.cst (.str "NothingThere")) (.cons (.cst (.str "BadTrade")) (.cons (.cst (.str "Hangs")) (.cons (.cst (.str "BadPage")) (.cons (.cst (.str "odd")) .nil)))))))))) (.cons (.ret (.join (.comp (.var 3) [3,4] (.zip (.var 2) (.var 1)) (.var 4)))) .nil))))))))⟩
end RT
namespace RM
open RL RT
theorem C2{cl:Cl}{c:PySem.Str}(h:c∈(["BadPegs", "BadFrame", "BadHalf", "BadHook", "BadName", "NoNumber", "NoFrame", "NoStack"]:List PySem.Str)):evF cl jq [.exc c]=some (.str c):=by
 simp only[List.mem_cons,List.not_mem_nil,or_false]at h
 rcases h with rfl | rfl | rfl | rfl | rfl | rfl | rfl | rfl<;>rfl
section
variable{cl:Cl}
noncomputable def hangs(n:Nat):List Nat->List Nat × Nat->List Nat × Nat
 | [],s=>s
 | i::row,s=>hangs n row (bU s.1 (n+i),s.2+eN s.1 (n+i))
theorem jC(n:Nat):∀ (a b:List Nat) (s:List Nat × Nat),hangs n (a++b) s=hangs n b (hangs n a s)
 | [],_,_=>rfl
 | i::a,b,s=>by
  rw[List.cons_append,hangs,hangs,jC n a b]
theorem nG{n:Nat}:∀ {row:List Nat} {s:List Nat × Nat},(∀ i∈row,i+1<n)->Frm n s.1->Frm n (hangs n row s).1
 | [],_,_,F=>F
 | i::row,s,h,F=>by
  rw[hangs]
  have:=h i List.mem_cons_self
  exact nG (fun j hj=>h j (List.mem_cons_of_mem _ hj)) (qe F (by lia))
theorem plain_at(n x:Nat):at' (ay n) x=if x<n then n+x else if x<2*n then x-n else x:=by
 unfold at' ay
 by_cases h1:x<n
 ·rw[List.getElem?_append_left (by simpa using h1),if_pos h1]
  simp[h1]
 ·rw[List.getElem?_append_right (by simpa using h1),if_neg h1]
  by_cases h2:x<2*n
  ·rw[if_pos h2]
   simp[show x-n<n by lia]
  ·rw[if_neg h2]
   simp[show ¬ x-n<n by lia]
theorem bC(n:Nat):Frm n (ay n):=by
 refine⟨by simp[ay];lia,fun x hx=>?_,fun x=>?_,fun x hx=>?_⟩
 ·rw[plain_at];repeat' split
  all_goals lia
 ·rw[plain_at,plain_at];repeat' split
  all_goals lia
 ·rw[plain_at];repeat' split
  all_goals lia
theorem zh{hh pl cr:Nat}{n:Nat}{row:List Nat}(hn:n<=10)(hrow:∀ i∈row,i+1<n)(h1:cl cr [.int n,.lst (L row)]=some .non)(h2:cl pl [.int n]=some (.tup (L (ay n))))
 (h3:∀ (f:List Nat) (i:Nat),Frm n f->i+1<n->cl hh [.lst (L f),.int i]=some (.tup [.int (eN f (n+i)),.lst (L (bU f (n+i)))])) :
  evF cl (ij hh pl cr) [.int n,.lst (L row)]=some (.tup [.tup (L (hangs n row (ay n,0)).1),.int (hangs n row (ay n,0)).2]):=by
 obtain⟨σ',e,o',rfl⟩:=da (f:=ak cl [2] (mG hh pl cr)) (tg:=[4]) (xs:=row) (σ:=[some (.int n),some (.lst (L row)),some (.lst (L (ay n))),some (.int 0),none])
  (fun p σ=>∃ o,σ=[some (.int n),some (.lst (L row)),some (.lst (L (hangs n p (ay n,0)).1)),some (.int (hangs n p (ay n,0)).2),o]) ⟨none,rfl⟩ (by
   rintro p x q σ rfl ⟨o,rfl⟩
   have F:Frm n (hangs n p (ay n,0)).1:=nG (fun i hi=>hrow i (by simp[hi])) (bC n)
   have hx:=h3 (hangs n p (ay n,0)).1 x F (hrow x (by simp))
   refine⟨[some (.int n),some (.lst (L (p++x::q))),some (.lst (L (hangs n (p++[x]) (ay n,0)).1)),some (.int (hangs n (p++[x]) (ay n,0)).2),some (.int x)],?_,_,rfl⟩
   simp[aO,mG,ak,evS,ev,evs,hx,f9,isVar,bw,D.imm,bF,jC,hangs])
 simp[evF,ij,ak,evS,ev,evs,h1,h2,bp,items,biV,aU,dz,bw,D.imm]
 simp[e,ev,evs,biV,items,cn,D.imm,aw,dz,bg]
end
noncomputable def LI(xs:List Int):List D:=xs.map D.int
theorem BS(xs:List Int):(LI xs).length=xs.length:=by simp[LI]
theorem wQ:∀ xs:List Int,aw (LI xs)=true
 | []=>rfl
 | x::xs=>by
  show((D.int x).imm&&aw (LI xs))=true
  rw[wQ xs];rfl
section
variable{cl:Cl}
theorem mod_lt{a b:Int}(h:0<b):0<=a%b/\a%b<b:=⟨Int.emod_nonneg _ (by lia),Int.emod_lt_of_pos _ h⟩
theorem Ay(s:Int):∃ m:Int,evF cl j5 [.int s]=some (.int m):=by
 have a1:=mod_lt (a:=s*48271+11) (b:=2147483647) (by decide)
 generalize h1:(s*48271+11)%2147483647=one at a1
 have a2:=mod_lt (a:=one*one+40692*one+s) (b:=2147483399) (by decide)
 generalize h2:(one*one+40692*one+s)%2147483399=two at a2
 exact⟨_,cb rfl rfl (bI (d:=.int one) (aE (aE (aE (af rfl) aC (wB (by decide) (by decide))) aC bT) aC (by rw[dJ (by decide),h1])) rfl
  (bI (d:=.int two) (aE (aE (aE (aE (af rfl) (af rfl) (dD (by lia) (by lia))) (aE aC (af rfl) (dD (by decide) (by decide))) bT) (af rfl) bT) aC (by rw[dJ (by decide),h2])) rfl
  (cY (aE (aE (aE (aE (af rfl) (af rfl) (dD (by omega) (by omega))) (aE aC (af rfl) (dD (by decide) (by decide))) bT) (af rfl) bT) aC (dJ (by decide))) rfl)))⟩
theorem Bj{f:Nat}(h:∀ s:Int,∃ m:Int,cl f [.int s]=some (.int m)){ns:List Int}(hl:ns.length<=63){k:Nat}(hk:k<=1000):∃ r:Int,evF cl (jw f) [.lst (LI ns),.int k]=some (.int r):=by
 have pw:aI .pow (.int 10) (.int 18)=some (.int 1000000000000000000):=rfl
 have rest:∀ c:Int,∃ r σ',ak cl [] (.cons (.asg 3 (.cst (.int 0))) (.cons (.forr [4] (.rng1 (.cst (.int 40))) (iD f)) (.cons (.ret (.var 3)) .nil))) [some (.lst (LI ns)),some (.int k),some (.int c),none,none]=some (.rt (.int r),σ'):=by
  intro c
  have hr:dU (.int 0) (.int 40)=some (L (List.range' 0 40)):=congrArg some (ky 0 40)
  obtain⟨σ',e,r,o,rfl⟩:=da (f:=ak cl [] (iD f)) (tg:=[4]) (xs:=List.range' 0 40) (σ:=[some (.lst (LI ns)),some (.int k),some (.int c),some (.int 0),none])
   (fun p σ=>∃ (r:Int) (o:Option D),σ=[some (.lst (LI ns)),some (.int k),some (.int c),some (.int r),o]) ⟨0,none,rfl⟩ (by
    rintro p x q σ hx ⟨r,o,rfl⟩
    obtain⟨m,hm⟩:=h (c+1009*k+7919*x)
    exact⟨_,bI (aE (aE (af rfl) aC (wB (by decide) (by decide))) (tJ (aE (aE (af rfl) (aE aC (af rfl) (dD (by decide) (by decide))) bT) (aE aC (af rfl) (dD (by decide) (by decide))) bT) hm) bT) rfl c8,_,_,rfl⟩)
  exact⟨r,_,bI aC rfl (eQ (wt aC hr) e (cY (af rfl) rfl))⟩
 have len:biV .len (.lst (LI ns))=some (.int ns.length):=congrArg (fun n:Nat=>some (D.int n)) (BS ns)
 have first:ev cl [some (.lst (LI ns)),some (.int k),none,none,none] (.bin .add (.bin .mul (.cst (.int 7)) (.var 1)) (.cst (.int 3)))=some (.int (7*k+3)):=aE (aE aC (af rfl) (dD (by decide) (by decide))) aC bT
 by_cases h0:0<ns.length
 ·have hmod:=mod_lt (a:=(k:Int)) (b:=(ns.length:Int)) (by lia)
  obtain⟨j,hj⟩:=Int.eq_ofNat_of_zero_le hmod.1
  have hjl:j<ns.length:=by lia
  have ix:ixV (.lst (LI ns)) (.int ((k:Int)%ns.length))=some (.int ns[j]):=by
   show cN (LI ns) _=_
   rw[hj,iS]
   simp[LI,hjl]
  obtain⟨r,σ',hr⟩:=rest (ns[j]+9973*((k:Int) / ns.length))
  generalize hc:ns[j]+9973*((k:Int) / ns.length)=cell at hr
  have cel:∀ {r':Ss} {res:Option (Out × St)},ak cl [] r' [some (.lst (LI ns)),some (.int k),some (.int cell),none,none]=res->ak cl [] (.cons (.asg 2 (.bin .add (.bin .mul (.cst (.int 7)) (.var 1)) (.cst (.int 3)))) (.cons (.ife (.cmp .gt (.bi .len (.var 0)) (.cst (.int 0))) (.cons (.asg 2 (.bin .add (.ix (.var 0) (.bin .mod (.var 1) (.bi .len (.var 0)))) (.bin .mul (.cst (.int 9973)) (.bin .fdiv (.var 1) (.bi .len (.var 0)))))) .nil) .nil) r')) [some (.lst (LI ns)),some (.int k),none,none,none]=res:=fun z =>
   bI first rfl (xq (cQ (bQ (e8 (af rfl) len) aC (by rw[B6,decide_eq_true (by lia)]))) (bI (d:=.int cell) (aE (pN (af rfl) (aE (af rfl) (e8 (af rfl) len) (dJ (by lia))) ix) (aE aC (aE (af rfl) (e8 (af rfl) len) (oP (by lia) (by lia))) (dD (by decide) (by decide))) (by rw[bT,hc])) rfl c8) z)
  by_cases h1:k<ns.length
  ·have c1:bu .lt (.int (k:Nat)) (.int (ns.length:Nat))=some true:=by rw[k9,decide_eq_true (by lia)]
   by_cases h2:(1000000000000000000:Int)<=cell
   ·exact⟨_,cb rfl rfl (cel (mB (cQ (jN (bQ (af rfl) (e8 (af rfl) len) c1) (bQ (af rfl) (aE aC aC pw) (by rw[yu,decide_eq_true h2])))) (cY (aE (af rfl) (aE aC aC pw) eU) rfl)))⟩
   ·exact⟨r,cb rfl rfl (cel (dN (cQ (jN (bQ (af rfl) (e8 (af rfl) len) c1) (bQ (af rfl) (aE aC aC pw) (by rw[yu,decide_eq_false h2])))) hr))⟩
  ·exact⟨r,cb rfl rfl (cel (dN (cQ (pG (bQ (af rfl) (e8 (af rfl) len) (by rw[k9,decide_eq_false (by lia)])))) hr))⟩
 ·obtain⟨r,σ',hr⟩:=rest (7*k+3)
  exact⟨r,cb rfl rfl (bI first rfl (dN (cQ (bQ (e8 (af rfl) len) aC (by rw[B6,decide_eq_false (by lia)]))) (dN (cQ (pG (bQ (af rfl) (e8 (af rfl) len) (by rw[k9,decide_eq_false (by lia)])))) hr)))⟩
end
section
variable{cl:Cl}
noncomputable def gW(ds sizes:List Nat):Prop:=ds.length=sizes.length/\∀ (i d s:Nat),ds[i]?=some d->sizes[i]?=some s->d<s
theorem gW.snoc{ds sizes:List Nat}{d s:Nat}(h:gW ds sizes)(hd:d<s):gW (ds++[d]) (sizes++[s]):=by
 refine⟨by simp[h.1],fun i x y h1 h2=>?_⟩
 by_cases hi:i<ds.length
 ·rw[List.getElem?_append_left hi]at h1
  rw[List.getElem?_append_left (by rw[<-h.1];exact hi)]at h2
  exact h.2 i x y h1 h2
 ·rw[List.getElem?_append_right (by lia)]at h1
  rw[List.getElem?_append_right (by rw[<-h.1];lia)]at h2
  rw[h.1]at h1
  cases hk:i-sizes.length with
  | zero=>rw[hk]at h1 h2;simp at h1 h2;lia
  | succ k=>rw[hk]at h1;simp at h1
theorem uT{f:Nat}{scr:D}{k:Nat}{sizes:List Nat}{r:Int}(h:cl f [scr,.int k]=some (.int r))(hp:∀ s∈sizes,0<s/\s<2 ^ 200)(hlen:sizes.length<=1000):∃ ds:List Nat,gW ds sizes/\evF cl (eV f) [scr,.int k,.lst (L sizes)]=some (.lst (L ds)):=by
 obtain⟨σ',e,r',ds,o,hds,rfl⟩:=da (f:=ak cl [4] (fH f)) (tg:=[5]) (xs:=sizes) (σ:=[some scr,some (.int k),some (.lst (L sizes)),some (.int r),some (.lst []),none])
  (fun p σ=>∃ (r:Int) (ds:List Nat) (o:Option D),gW ds p/\σ=[some scr,some (.int k),some (.lst (L sizes)),some (.int r),some (.lst (L ds)),o]) ⟨r,[],none,⟨rfl,by simp⟩,rfl⟩ (by
   rintro p x q σ hx ⟨r,ds,o,hds,rfl⟩
   have hx0:=hp x (by rw[hx];simp)
   have hpl:p.length<1000:=by
    have:=congrArg List.length hx
    simp at this
    lia
   have hx1:(0:Int)<x:=by lia
   have hx2:(x:Int)<2 ^ 200:=by
    have:=hx0.2
    lia
   obtain⟨d,hd⟩:=Int.eq_ofNat_of_zero_le (Int.emod_nonneg r (show(x:Int)≠0 by lia))
   have hdx:d<x:=by
    have:=Int.emod_lt_of_pos r hx1
    lia
   refine⟨[some scr,some (.int k),some (.lst (L sizes)),some (.int (r / x)),some (.lst (L (ds++[d]))),some (.int x)],?_,_,_,_,hds.snoc hdx,rfl⟩
   have hl:(L ds).length<most:=by
    rw[bD,hds.1]
    unfold most
    lia
   simp[aO,fH,ak,evS,ev,dJ hx1,oP hx1 hx2,hd,D.imm,hl,bw,iC]
   rfl)
 refine⟨ds,hds,?_⟩
 simp[evF,eV,ak,evS,ev,evs,bp,items,h,bw,D.imm,aU,aw]
 simp[e,ev,cn,aU,dz,bg]
end
section
variable{cl:Cl}
theorem kK(c:Nat):∀ (n a:Nat),bP (c:Int) (a:Int) n=L (List.range' a n c)
 | 0,a=>rfl
 | n+1,a=>by
  rw[bP,List.range'_succ]
  have:=kK c n (a+c)
  rw[show((a+c:Nat):Int)=(a:Int)+(c:Int) by lia]at this
  rw[this]
  rfl
theorem ne_nil(hs:List Nat):bu .ne (.lst (L hs)) (.lst [])=some (!hs.isEmpty):=by
 cases hs with
 | nil=>rfl
 |cons h t=>
  show((eqs (eqD 7) (D.int h::L t) []).map fun k=>k&&(D.int h::L t).length == ([]:List D).length).map not=_
  simp[eqs]
theorem AN{hs:List Nat}(h:hs≠[]):∃ m,m∈hs/\cN (L hs) (-1)=some (.int (m:Nat)):=by
 have hl:0<hs.length:=List.length_pos_iff.mpr h
 refine⟨hs[hs.length-1],List.getElem_mem _,?_⟩
 unfold cN
 rw[if_neg (by decide),if_pos (by rw[bD];lia),bD,show((-1:Int)+hs.length).toNat=hs.length-1 by lia,u5,List.getElem?_eq_getElem (by omega)]
 rfl
theorem yV(x:Nat):∃ v:Int,(v=1\/v=-1\/v=0)/\cN [D.int 1,D.int (-1),D.int 0] ((x:Int)%7%3)=some (.int v):=by
 have h:x%7%3=0\/x%7%3=1\/x%7%3=2:=by lia
 have e:(x:Int)%7%3=((x%7%3:Nat):Int):=by lia
 rw[e,iS]
 rcases h with h | h | h
 ·exact⟨1,.inl rfl,by rw[h];rfl⟩
 ·exact⟨-1,.inr (.inl rfl),by rw[h];rfl⟩
 ·exact⟨0,.inr (.inr rfl),by rw[h];rfl⟩
theorem tX{f:Nat}{scr:D}{k size start n x:Nat}{hs steps:List Nat}{o7 o8:Option D}(hn:2<=n)(hh:∀ h∈hs,h+1<n)(hl:hs.length<10000):∃ m:Nat,m+1<n /\
  (aO [7] (.int (x:Nat)) [some scr,some (.int k),some (.int n),some (.int size),some (.lst (L hs)),some (.int start),some (.lst (L steps)),o7,o8]).bind (ak cl [4] (ck f)) =
   some (.nx,[some scr,some (.int k),some (.int n),some (.int size),some (.lst (L (hs++[m]))),some (.int start),some (.lst (L steps)),some (.int x),some (.int m)]):=by
 have hlen:(L hs).length<most:=by rw[bD];unfold most;lia
 have c1:¬ (n:Int)<2:=by lia
 have pos1:(0:Int)<(n:Int)-1:=by lia
 have ap:∀ m:Nat,L hs++[D.int m]=L (hs++[m]):=fun m=>by rw[iC];rfl
 obtain⟨m0,hm0⟩:=Int.eq_ofNat_of_zero_le (Int.emod_nonneg (x:Int) (show(n:Int)-1≠0 by lia))
 have hm0':m0+1<n:=by
  have:=Int.emod_lt_of_pos (x:Int) pos1
  lia
 by_cases hc:hs.isEmpty=false/\(x:Int)%3=1
 ·have hne:hs≠[]:=by
   intro z
   subst z
   cases hc.1
  obtain⟨m1,hm1,e1⟩:=AN hne
  obtain⟨v,hv,e2⟩:=yV x
  have hm1':=hh m1 hm1
  have fin:∃ m:Nat,(if(if(m1:Int)+v > 0 then(m1:Int)+v else 0)<(n:Int)-2 then(if(m1:Int)+v > 0 then(m1:Int)+v else 0)else(n:Int)-2)=(m:Int)/\m+1<n:=by
   refine⟨(if(if(m1:Int)+v > 0 then(m1:Int)+v else 0)<(n:Int)-2 then(if(m1:Int)+v > 0 then(m1:Int)+v else 0)else(n:Int)-2).toNat,?_,?_⟩<;>rcases hv with rfl | rfl | rfl<;>(repeat' split)<;>lia
  obtain⟨m,em,hm⟩:=fin
  refine⟨m,hm,?_⟩
  simp only[aO,Option.bind_some,ck,ak,evS,ev,evs,List.set_cons_succ,List.set_cons_zero,List.getElem?_cons_succ,List.getElem?_cons_zero,id,k9,c1,decide_false,Option.map_some,xX,Bool.false_eq_true,if_false,eU,dJ pos1,hm0,bw,D.imm,Bool.true_or,if_true,ne_nil,hc.1,Bool.not_false,dJ (show(0:Int)<3 by decide),dJ (show(0:Int)<7 by decide),hc.2,mz,beq_self_eq_true,ixV,e1,e2,bT,em,Bool.and_eq_true,decide_eq_true_eq,true_and,hlen,ap]
 ·refine⟨m0,hm0',?_⟩
  by_cases h1:hs.isEmpty=false
  ·have h2:((x:Int)%3 == 1)=false:=by
    have:¬ (x:Int)%3=1:=fun z=>hc ⟨h1,z⟩
    simpa using this
   simp only[aO,Option.bind_some,ck,ak,evS,ev,evs,List.set_cons_succ,List.set_cons_zero,List.getElem?_cons_succ,List.getElem?_cons_zero,id,k9,c1,decide_false,Option.map_some,xX,Bool.false_eq_true,if_false,eU,dJ pos1,hm0,bw,D.imm,Bool.true_or,if_true,ne_nil,h1,Bool.not_false,dJ (show(0:Int)<3 by decide),mz,h2,Bool.and_eq_true,decide_eq_true_eq,true_and,hlen,ap]
  ·have h1':hs.isEmpty=true:=by
    cases hz:hs.isEmpty with
    | true=>rfl
    | false=>exact absurd hz h1
   simp only[aO,Option.bind_some,ck,ak,evS,ev,evs,List.set_cons_succ,List.set_cons_zero,List.getElem?_cons_succ,List.getElem?_cons_zero,id,k9,c1,decide_false,Option.map_some,xX,Bool.false_eq_true,if_false,eU,dJ pos1,hm0,bw,D.imm,Bool.true_or,if_true,ne_nil,h1',Bool.not_true,Bool.and_eq_true,decide_eq_true_eq,true_and,hlen,ap]
theorem p7(xs:List Nat)(n:Nat):(L xs).take n=L (xs.take n):=by simp[L]
end
section
variable{n:Nat}{f:List Nat}{l:Nat}
end
theorem gP{k:Nat}{g:Nat->Nat}{p q:List Nat}{x:Nat}(h:(List.range k).map g=p++x::q):p.length<k/\x=g p.length:=by
 have l:((List.range k).map g).length=(p++x::q).length:=by rw[h]
 have e:((List.range k).map g)[p.length]?=(p++x::q)[p.length]?:=by rw[h]
 simp at l e
 obtain⟨y,hy,e⟩:=e
 refine⟨by lia,?_⟩
 rw[List.getElem?_range (by lia)]at hy
 cases hy
 exact e.symm
noncomputable def rd(n q:Nat):Nat:=if q<n then q else 3*n-1-q
theorem cO{n q:Nat}(h:q<2*n):rd n q<2*n:=by unfold rd;split<;>omega
theorem dW{n q:Nat}(h:q<2*n):rd n (rd n q)=q:=by
 unfold rd
 by_cases e:q<n
 ·rw[if_pos e,if_pos e]
 ·rw[if_neg e,if_neg (by omega)]
  lia
theorem vN{n p q:Nat}(hp:p<2*n)(hq:q<2*n)(h:rd n p=rd n q):p=q:=by rw[<-dW hp,h,dW hq]
noncomputable def rnd(n:Nat)(f:List Nat)(q:Nat):Nat:=rd n (at' f (rd n q))
structure Val(n:Nat)(f:List Nat):Prop where
 frm:Frm n f
 nox:∀ q q',q<2*n->q'<2*n->¬ (q<q'/\q'<rnd n f q/\rnd n f q<rnd n f q')
theorem lH{f:List Nat}{i j:Nat}(h:i<f.length):dA (.lst (L f)) (.int (i:Int)) (.int (j:Int))=some (.lst (L (f.set i j))):=by
 dsimp only[dA]
 rw[bD,yB h]
 simp[zX]
theorem wd{F:St->Option (Option D)}{tg:List Nat}{σ:St}{g:Nat->D}(im:∀ x,(g x).imm=true):∀ xs:List Nat,(∀ x∈xs,(aO tg (.int (x:Nat)) σ).bind F=some (some (g x)))->dn F tg σ (L xs)=some (xs.map g)
 | [],_=>rfl
 | x::r,h=>by
  have a:=h x (by simp)
  have b:=wd im r (fun y hy=>h y (by simp[hy]))
  rw[show L (x::r)=.int x::L r from rfl,dn]
  cases hb:aO tg (.int (x:Nat)) σ with
  | none=>rw[hb]at a;cases a
  |some σ1=>
   rw[hb]at a
   simp only[Option.bind_some]at a ⊢
   rw[a,b]
   simp[kO,im]
theorem wm{F:St->Option (Option D)}{tg:List Nat}{σ:St}{g:Nat->D}{c:Nat->Bool}(im:∀ x,(g x).imm=true):∀ xs:List Nat,(∀ x∈xs,(aO tg (.int (x:Nat)) σ).bind F=some (if c x then some (g x)else none))->dn F tg σ (L xs)=some ((xs.filter c).map g)
 | [],_=>rfl
 | x::r,h=>by
  have a:=h x (by simp)
  have b:=wm im r (fun y hy=>h y (by simp[hy]))
  rw[show L (x::r)=.int x::L r from rfl,dn]
  cases hb:aO tg (.int (x:Nat)) σ with
  | none=>rw[hb]at a;cases a
  |some σ1=>
   rw[hb]at a
   simp only[Option.bind_some]at a ⊢
   rw[a,b]
   cases hc:c x<;>simp[kO,im,hc]
theorem Fy(xs:List Nat)(g:Nat->Nat):(xs.map fun x=>D.int (g x:Nat))=L (xs.map g):=by simp[L]
theorem xi{xs:List Nat}(h:xs.length<=1000):fits (L xs)=some (L xs):=by
 unfold fits
 rw[if_pos (by rw[bD];unfold most;lia)]
theorem gi{n:Nat}(h:n<=1000):dU (.int 0) (.int n)=some (L (List.range n)):=by
 have e2:=j7 (a:=0) (b:=n) (by lia) h
 rw[Nat.sub_zero,<-List.range_eq_range']at e2
 exact e2
theorem mm{n:Nat}(hn:n<=100):evF cl dh [.int n]=some (.tup (L (ay n))):=by
 have e2:=gi (n:=n) (by lia)
 have e3:=wd (F:=fun σ1=>(ev cl σ1 (.bin .add (.var 0) (.var 1))).map some) (tg:=[1]) (σ:=[some (.int n),none]) (g:=fun x=>.int ((n+x:Nat):Int)) (fun _=>rfl) (List.range n) (by
  intro x _
  simp[aO,ev,bT])
 rw[Fy]at e3
 have e4:aI .add (.lst (L ((List.range n).map fun x=>n+x))) (.lst (L (List.range n)))=some (.lst (L (ay n))):=by
  dsimp only[aI]
  rw[if_pos (by simp[bD,most];lia),ay,iC]
  congr 3
  ·rw[List.range'_eq_map_range]
  ·rw[List.range_eq_range']
 have e5:=xi (xs:=List.range n) (by simp;lia)
 simp only[evF,dh,ak,evS,ev,bp]
 simp[ev,e2,e5]
 simp[ev]at e3
 rw[e3]
 simp[e4,biV,items,cn,D.imm,dz,bg]
theorem jf{n:Nat}(hn:n<=10):evF cl dh [.int n]=some (.tup (L (ay n))):=mm (by lia)
theorem nt{n q:Nat}(h:q<2*n):rnd n (ay n) q=2*n-1-q:=by
 unfold rnd rd
 by_cases c:q<n
 ·rw[if_pos c,plain_at,if_pos c,if_neg (by lia)];lia
 ·have e:at' (ay n) (3*n-1-q)=2*n-1-q:=by rw[plain_at,if_neg (by omega),if_pos (by omega)];lia
  rw[if_neg c,e,if_pos (by omega)]
theorem j6(n:Nat):Val n (ay n):=by
 refine⟨bC n,fun q q' h1 h2=>?_⟩
 rw[nt h1,nt h2]
 omega
noncomputable def au(n i:Nat):List Nat:=bU (ay n) (n+i)
theorem gd{n i x:Nat}(h:i+1<n):at' (au n i) x=if x=n+i+1 then n+i else if x=n+i then n+i+1 else if x=i+1 then i else if x=i then i+1 else if x<n then n+x else if x<2*n then x-n else x:=by
 have F:=bC n
 unfold au bU
 have a1:at' (ay n) (n+i)=i:=by rw[plain_at,if_neg (by lia),if_pos (by lia)];lia
 have a2:at' (ay n) (n+i+1)=i+1:=by rw[plain_at,if_neg (by lia),if_pos (by lia)];lia
 have hl:=F.len
 rw[a1,a2,if_neg (by lia),fy (by simp;lia),fy (by simp;lia),fy (by simp;lia),fy (by lia),plain_at]
set_option synthInstance.maxSize 10000 in
set_option synthInstance.maxHeartbeats 0 in
theorem yy:∀ n,n<11->∀ i,i<n->i+1<n->∀ q,q<2*n->∀ q',q'<2*n->¬ (q<q'/\q'<rnd n (au n i) q/\rnd n (au n i) q<rnd n (au n i) q'):=by decide +kernel
theorem dZ{n i:Nat}(hn:n<=10)(h:i+1<n):Val n (au n i):=⟨qe (bC n) (by lia),fun q q' h1 h2=>yy n (by lia) i (by lia) h q h1 q' h2⟩
theorem pR{fp:Nat}{n i:Nat}(hn:n<=10)(hi:i+1<n)(hp:cl fp [.int n]=some (.tup (L (ay n)))):evF cl (fO fp) [.int n,.int i]=some (.tup (L (au n i))):=by
 have hl:=(bC n).len
 have e:au n i=((((ay n).set i (i+1)).set (i+1) i).set (n+i) (n+i+1)).set (n+i+1) (n+i):=by
  unfold au bU
  have a1:at' (ay n) (n+i)=i:=by rw[plain_at,if_neg (by lia),if_pos (by lia)];lia
  have a2:at' (ay n) (n+i+1)=i+1:=by rw[plain_at,if_neg (by lia),if_pos (by lia)];lia
  rw[a1,a2,if_neg (by lia)]
 have p1:=lH (f:=ay n) (i:=i) (j:=i+1) (by lia)
 have p2:=lH (f:=(ay n).set i (i+1)) (i:=i+1) (j:=i) (by simp;lia)
 have p3:=lH (f:=((ay n).set i (i+1)).set (i+1) i) (i:=n+i) (j:=n+i+1) (by simp;lia)
 have p4:=lH (f:=(((ay n).set i (i+1)).set (i+1) i).set (n+i) (n+i+1)) (i:=n+i+1) (j:=n+i) (by simp;lia)
 rw[<-e]at p4
 simp only[Int.natCast_add,Int.natCast_one]at p1 p2 p3 p4
 simp[evF,fO,ak,evS,ev,evs,hp,biV,items,aU,dz,bp,bT,aZ,D.imm,aO,km,p1,p2,p3,p4,cn,bg]
theorem half{xs:List D}{n:Nat}(h:xs.length=2*n):biV .len (.tup xs)=some (.int (2*n)):=by
 simp[biV,items,h]
theorem B4(n:Nat):aI .fdiv (.int (2*(n:Int))) (.int 2)=some (.int n):=by
 rw[oP (by decide) (by decide)]
 congr 2
 lia
theorem iu{f:List Nat}{x:Nat}(h:x<f.length):ixV (.tup (L f)) (.int (x:Nat))=some (.int (at' f x:Nat)):=by
 show cN _ _=_
 rw[iS,u5,dE h]
 rfl
section dicts
variable{κ:Type} [DecidableEq κ]
theorem rm:∀ {ks:List κ} {vs:List D} {x:κ} {d:D} {y:κ},ks.length=vs.length->x∉ks->aH (ks++[x]) (vs++[d]) y=if x=y then some d else aH ks vs y
 | [],[],x,d,y,_,_=>by simp[aH]
 | k::ks,v::vs,x,d,y,h,hn=>by
  simp at h hn
  have:=rm (ks:=ks) (vs:=vs) (x:=x) (d:=d) (y:=y) h hn.2
  simp only[List.cons_append,aH]
  by_cases e:k=y
  ·rw[if_pos e,if_pos e,if_neg (fun c=>hn.1 (c.trans e.symm))]
  ·rw[if_neg e,if_neg e,this]
theorem qQ:∀ {ks:List κ} {vs:List D} {x:κ} {d:D} {y:κ},ks.length=vs.length->x∈ks->aH ks (List.zipWith (fun k v=>if k=x then d else v) ks vs) y=if x=y then some d else aH ks vs y
 | k::ks,v::vs,x,d,y,h,hm=>by
  simp at h
  simp only[List.zipWith_cons_cons,aH]
  by_cases e:k=y
  ·rw[if_pos e,if_pos e]
   by_cases e':k=x
   ·rw[if_pos e',if_pos (e'.symm.trans e)]
   ·rw[if_neg e',if_neg (fun c=>e' (e.trans c.symm))]
  ·rw[if_neg e,if_neg e]
   by_cases hx:x∈ks
   ·exact qQ h hx
   ·have kx:x=k:=by simpa[hx]using hm
    rw[if_neg (fun c=>e (kx.symm.trans c))]
    have:List.zipWith (fun k v=>if k=x then d else v) ks vs=vs:=by
     clear e hm kx
     induction ks generalizing vs with
     | nil=>cases vs with | nil=>rfl | cons _ _=>simp at h
     | cons a ks ih=>cases vs with
      | nil=>simp at h
      |cons b vs=>
       simp at h hx
       simp only[List.zipWith_cons_cons]
       rw[if_neg (fun c=>hx.1 c.symm),ih (vs:=vs) (h:=h) (hx:=hx.2)]
    rw[this]
theorem fb{ks:List κ}{vs:List D}{x:κ}{d:D}{y:κ}(h:ks.length=vs.length):aH (putD ks vs x d).1 (putD ks vs x d).2 y=if x=y then some d else aH ks vs y:=by
 unfold putD
 split
 ·exact qQ h ‹_›
 ·exact rm h ‹_›
theorem gc{ks:List κ}{vs:List D}{x:κ}{d:D}(h:ks.length=vs.length):(putD ks vs x d).1.length=(putD ks vs x d).2.length/\(putD ks vs x d).1.length<=ks.length+1:=by
 unfold putD
 split<;>simp[h]
end dicts
noncomputable def sd(b:Bool):PySem.Str:=if b then PySem.Str.ofString "high" else PySem.Str.ofString "low"
theorem oI(b:Bool):(sd b == PySem.Str.ofString "high")=b:=by cases b<;>decide +kernel
theorem D5{a b:Bool}(h:sd a=sd b):a=b:=by
 have:=oI a
 rw[h,oI]at this
 exact this.symm
noncomputable def nk(b:Bool)(p:Nat):List Ky:=[.inr (sd b),.inl (p:Int)]
theorem qT{a b:Bool}{p q:Nat}(h:nk a p=nk b q):a=b/\p=q:=by
 unfold nk at h
 injection h with h1 h2
 injection h1 with h1
 injection h2 with h2
 injection h2 with h2
 exact⟨D5 h1,by lia⟩
noncomputable def bb(b:Bool)(x:Nat):D:=.tup [.str (sd b),.int x]
noncomputable def pick(h l:List Nat)(b:Bool):List Nat:=if b then h else l
noncomputable def jm(h l:List Nat)(k:Nat)(ks:List (List Ky))(vs:List D):Prop:=ks.length=vs.length/\ks.length<=2*k/\∀ b p,p<k->aH ks vs (nk b p)=some (bb b (at' (pick h l b) p))
theorem jm.next{h l:List Nat}{k:Nat}{ks:List (List Ky)}{vs:List D}(N:jm h l k ks vs):jm h l (k+1) (putD (putD ks vs (nk true k) (bb true (at' h k))).1 (putD ks vs (nk true k) (bb true (at' h k))).2 (nk false k) (bb false (at' l k))).1 (putD (putD ks vs (nk true k) (bb true (at' h k))).1 (putD ks vs (nk true k) (bb true (at' h k))).2 (nk false k) (bb false (at' l k))).2:=by
 obtain⟨n1,n2,n3⟩:=N
 obtain⟨a1,a2⟩:=gc (x:=nk true k) (d:=bb true (at' h k)) n1
 obtain⟨b1,b2⟩:=gc (x:=nk false k) (d:=bb false (at' l k)) a1
 refine⟨b1,by lia,fun b p hp=>?_⟩
 rw[fb a1,fb n1]
 by_cases e:p=k
 ·subst e
  cases b
  ·rw[if_pos rfl];rfl
  ·rw[if_neg (fun c=>by have:=(qT c).1;cases this),if_pos rfl];rfl
 ·rw[if_neg (fun c=>e (qT c).2.symm),if_neg (fun c=>e (qT c).2.symm)]
  exact n3 b p (by lia)
theorem vF{fr:Nat}{n:Nat}{h l:List Nat}(hn:n<=10)(hh:h.length=2*n)(hl:l.length=2*n):∃ ks vs o,jm h l (2*n) ks vs/\aZ (ak cl [3,5,6] (fw fr)) [4] (L (List.range (2*n))) [some (.tup (L h)),some (.tup (L l)),some (.int n),some (.dT [] []),none,none,none,none,none]=some (.nx,[some (.tup (L h)),some (.tup (L l)),some (.int n),some (.dT ks vs),o,none,none,none,none]):=by
 obtain⟨σ',e,ks,vs,o,rfl,N⟩:=da (f:=ak cl [3,5,6] (fw fr)) (tg:=[4]) (xs:=List.range (2*n)) (σ:=[some (.tup (L h)),some (.tup (L l)),some (.int n),some (.dT [] []),none,none,none,none,none])
  (fun p σ=>∃ ks vs o,σ=[some (.tup (L h)),some (.tup (L l)),some (.int n),some (.dT ks vs),o,none,none,none,none]/\jm h l p.length ks vs) ⟨[],[],none,rfl,rfl,by simp,by simp⟩ (by
   rintro p x q σ hx ⟨ks,vs,o,rfl,N⟩
   obtain⟨h1,h2⟩:=gP (g:=id) (by simpa using hx)
   simp only[id]at h2
   subst h2
   have i1:=iu (f:=h) (x:=p.length) (by lia)
   have i2:=iu (f:=l) (x:=p.length) (by lia)
   have a:=gc (x:=nk true p.length) (d:=bb true (at' h p.length)) N.1
   have m1:ks.length<most:=by have:=N.2.1;unfold most;lia
   have m2:(putD ks vs (nk true p.length) (bb true (at' h p.length))).1.length<most:=by have:=N.2.1;unfold most;lia
   refine⟨_,?_,_,_,some (.int (p.length:Int)),rfl,by simpa using N.next⟩
   have k1:keysOf [.str (PySem.Str.ofString "high"),.int (p.length:Int)]=some (nk true p.length):=rfl
   have k2:keysOf [.str (PySem.Str.ofString "low"),.int (p.length:Int)]=some (nk false p.length):=rfl
   have u1:dA (.dT ks vs) (.tup [.str (PySem.Str.ofString "high"),.int (p.length:Int)]) (.tup [.str (PySem.Str.ofString "high"),.int (at' h p.length:Nat)])=some (.dT (putD ks vs (nk true p.length) (bb true (at' h p.length))).1 (putD ks vs (nk true p.length) (bb true (at' h p.length))).2):=by
    dsimp only[dA]
    rw[k1,Option.bind_some,if_pos m1]
    rfl
   have u2:∀ ks vs,ks.length<most->dA (.dT ks vs) (.tup [.str (PySem.Str.ofString "low"),.int (p.length:Int)]) (.tup [.str (PySem.Str.ofString "low"),.int (at' l p.length:Nat)])=some (.dT (putD ks vs (nk false p.length) (bb false (at' l p.length))).1 (putD ks vs (nk false p.length) (bb false (at' l p.length))).2):=by
    intro ks vs m
    dsimp only[dA]
    rw[k2,Option.bind_some,if_pos m]
    rfl
   simp only[aO,fw,ak,evS,ev,evs,List.set,Option.bind_some,List.getElem?_cons_zero,List.getElem?_cons_succ,id,i1,i2,Option.map_some,D.imm,aw,Bool.and_self,if_true,u1,u2 _ _ m2])
 simp only[List.length_range]at N
 exact⟨ks,vs,o,N,e⟩
noncomputable def stp(n:Nat)(h l:List Nat)(s:Bool × Nat):Bool × Nat:=if s.1=decide (n<=s.2)then(!s.1,at' (pick h l (!s.1)) ((s.2+n)%(2*n)))else s
noncomputable def itr(n:Nat)(h l:List Nat):Nat->Bool × Nat->Bool × Nat
 | 0,s=>s
 | i+1,s=>stp n h l (itr n h l i s)
noncomputable def Tr(n:Nat)(s:Bool × Nat)(m:Nat):Prop:=s.1=decide (n<=s.2)/\s.2%n=m
noncomputable def GD(gk:List Ky)(gv:List D)(k:Nat)(P:Nat->Prop):Prop:=gk.length=gv.length/\gk.length<=k/\∀ m:Nat,(aH gk gv (.inl (m:Int))).isSome=true↔P m
theorem GD.put{gk:List Ky}{gv:List D}{k:Nat}{P:Nat->Prop}(G:GD gk gv k P)(m0:Nat)(d:D):GD (putD gk gv (.inl (m0:Int)) d).1 (putD gk gv (.inl (m0:Int)) d).2 (k+1) (fun m=>P m\/m0=m):=by
 obtain⟨g1,g2,g3⟩:=G
 obtain⟨a1,a2⟩:=gc (x:=(.inl (m0:Int):Ky)) (d:=d) g1
 refine⟨a1,by lia,fun m=>?_⟩
 rw[fb g1]
 by_cases e:m0=m
 ·subst e
  simp
 ·rw[if_neg (fun c=>e (by injection c;lia)),g3]
  simp[e]
theorem GD.mono{gk:List Ky}{gv:List D}{k k':Nat}{P Q:Nat->Prop}(G:GD gk gv k P)(hk:k<=k')(h:∀ m,P m↔Q m):GD gk gv k' Q :=
 ⟨G.1,by have:=G.2.1;lia,fun m=>(G.2.2 m).trans (h m)⟩
noncomputable def hst(n:Nat)(h l:List Nat)(ks:List (List Ky))(vs:List D)(o4:Option D)(fnd:List Nat)(gk:List Ky)(gv:List D)(o7 o8:Option D):St :=
 [some (.tup (L h)),some (.tup (L l)),some (.int n),some (.dT ks vs),o4,some (.lst (L fnd)),some (.dK gk gv),o7,o8]
section
variable{fr n:Nat}{h l:List Nat}{ks:List (List Ky)}{vs:List D}{fnd:List Nat}
theorem qo(b:Bool)(x:Nat):ixV (bb b x) (.int 0)=some (.str (sd b)):=rfl
theorem kS(b:Bool)(x:Nat):ixV (bb b x) (.int 1)=some (.int (x:Nat)):=rfl
theorem kz(b:Bool):ixV (.lst [.str (PySem.Str.ofString "high"),.str (PySem.Str.ofString "low")]) (.int (if b=true then 1 else 0))=some (.str (sd !b)):=by cases b<;>rfl
theorem Az(h1:1<=n)(hn:n<=10)(N:jm h l (2*n) ks vs){b:Bool}{x:Nat}(hx:x<2*n){gk:List Ky}{gv:List D}{k:Nat}{P:Nat->Prop}(G:GD gk gv k P)(hk:k<=2000)(o4 o8:Option D)(t:D) :
  ∃ gk' gv',GD gk' gv' (k+1) (fun m=>P m\/Tr n (b,x) m)/\(aO [8] t (hst n h l ks vs o4 fnd gk gv (some (bb b x)) o8)).bind (ak cl [3,5,6] (de fr))=some (.nx,hst n h l ks vs o4 fnd gk' gv' (some (bb (stp n h l (b,x)).1 (stp n h l (b,x)).2)) (some t)):=by
 have e1:aI .mul (.int 2) (.int n)=some (.int (2*n)):=dD (by decide) (by decide)
 have cnd:ev cl (hst n h l ks vs o4 fnd gk gv (some (bb b x)) (some t)) (.cmp .eq (.cmp .eq (.ix (.var 7) (.cst (.int 0))) (.cst (.str "high"))) (.cmp .ge (.ix (.var 7) (.cst (.int 1))) (.var 2)))=some (.bl (b == decide (n<=x))):=by
  simp only[hst,ev,Option.bind_some,List.getElem?_cons_zero,List.getElem?_cons_succ,id,qo,kS,bu,eqD,oI,Option.map_some]
  simp
 by_cases e:b=decide (n<=x)
 ·refine⟨_,_,(G.put (x%n) (.bl true)).mono (Nat.le_refl _) (fun m=>by simp[Tr,e]),?_⟩
  have m1:aI .mod (.int (x:Nat)) (.int n)=some (.int ((x%n:Nat):Int)):=by rw[dJ (by lia)];simp
  have m2:aI .mod (.int ((x:Nat)+(n:Int))) (.int (2*(n:Int)))=some (.int (((x+n)%(2*n):Nat):Int)):=by rw[dJ (by lia)];simp
  have u:dA (.dK gk gv) (.int ((x%n:Nat):Int)) (.bl true)=some (.dK (putD gk gv (.inl ((x%n:Nat):Int)) (.bl true)).1 (putD gk gv (.inl ((x%n:Nat):Int)) (.bl true)).2):=by
   dsimp only[dA,keyOf]
   rw[Option.bind_some,if_pos (by have:=G.2.1;unfold most;lia)]
  have lk:mT (.dT ks vs) (.tup [.str (sd !b),.int (((x+n)%(2*n):Nat):Int)])=some (bb (!b) (at' (pick h l !b) ((x+n)%(2*n)))):=by
   have:=N.2.2 (!b) ((x+n)%(2*n)) (Nat.mod_lt _ (by lia))
   rw[<-this]
   rfl
  have s1:stp n h l (b,x)=(!b,at' (pick h l !b) ((x+n)%(2*n))):=by unfold stp;rw[if_pos e]
  rw[s1]
  have eb:(b == decide (n<=x))=true:=by simp[e]
  rw[eb]at cnd
  simp only[aO,hst,List.set,Option.bind_some,de,ak,evS]at cnd ⊢
  rw[cnd]
  simp only[Option.bind_some,truth,if_true,ak,evS,ev,evs,List.getElem?_cons_zero,List.getElem?_cons_succ,id,qo,kS,m1,u,D.imm,Option.map_some,List.set,bu,eqD,oI,biV,kz,bT,e1,m2,lk]
  have ok:bw [3,5,6] (.ixD (.var 3) (.tup (.cons (.ix (.lst (.cons (.cst (.str "high")) (.cons (.cst (.str "low")) .nil))) (.bi .int (.cmp .eq (.ix (.var 7) (.cst (.int 0))) (.cst (.str "high"))))) (.cons (.bin .mod (.bin .add (.ix (.var 7) (.cst (.int 1))) (.var 2)) (.bin .mul (.cst (.int 2)) (.var 2))) .nil)))) (bb (!b) (at' (pick h l !b) ((x+n)%(2*n))))=true:=rfl
  rw[if_pos ok]
  rfl
 ·refine⟨gk,gv,G.mono (by lia) (fun m=>by simp[Tr,e]),?_⟩
  have s1:stp n h l (b,x)=(b,x):=by unfold stp;rw[if_neg e]
  rw[s1]
  have eb:(b == decide (n<=x))=false:=by simp[e]
  rw[eb]at cnd
  simp only[aO,hst,List.set,Option.bind_some,de,ak,evS]at cnd ⊢
  rw[cnd]
  simp[truth,ak]
theorem BV(hh:∀ x,x<2*n->at' h x<2*n)(hl:∀ x,x<2*n->at' l x<2*n){s:Bool × Nat}(hs:s.2<2*n):(stp n h l s).2<2*n:=by
 unfold stp
 split
 ·have m:(s.2+n)%(2*n)<2*n:=Nat.mod_lt _ (by lia)
  cases s.1
  ·exact hh _ m
  ·exact hl _ m
 ·exact hs
theorem gx(hh:∀ x,x<2*n->at' h x<2*n)(hl:∀ x,x<2*n->at' l x<2*n){s:Bool × Nat}(hs:s.2<2*n):∀ i,(itr n h l i s).2<2*n
 | 0=>hs
 | i+1=>BV hh hl (gx hh hl hs i)
noncomputable def Met(n:Nat)(h l:List Nat)(s:Bool × Nat)(i:Nat)(m:Nat):Prop:=∃ j,j<i/\Tr n (itr n h l j s) m
theorem Bb(h1:1<=n)(hn:n<=10)(N:jm h l (2*n) ks vs)(hh:∀ x,x<2*n->at' h x<2*n)(hl:∀ x,x<2*n->at' l x<2*n){s:Bool × Nat}(hs:s.2<2*n){gk:List Ky}{gv:List D}{k:Nat}{P:Nat->Prop}(G:GD gk gv k P)(hk:k<=1000)(o4 o8:Option D) :
  ∃ gk' gv' o8',GD gk' gv' (k+4*n) (fun m=>P m\/Met n h l s (4*n) m)/\aZ (ak cl [3,5,6] (de fr)) [8] (L (List.range (4*n))) (hst n h l ks vs o4 fnd gk gv (some (bb s.1 s.2)) o8)=some (.nx,hst n h l ks vs o4 fnd gk' gv' (some (bb (itr n h l (4*n) s).1 (itr n h l (4*n) s).2)) o8'):=by
 obtain⟨σ',e,gk',gv',o8',rfl,G'⟩:=da (f:=ak cl [3,5,6] (de fr)) (tg:=[8]) (xs:=List.range (4*n)) (σ:=hst n h l ks vs o4 fnd gk gv (some (bb s.1 s.2)) o8)
  (fun p σ=>∃ gk' gv' o8',σ=hst n h l ks vs o4 fnd gk' gv' (some (bb (itr n h l p.length s).1 (itr n h l p.length s).2)) o8'/\GD gk' gv' (k+p.length) (fun m=>P m\/Met n h l s p.length m))
  ⟨gk,gv,o8,rfl,G.mono (by simp) (fun m=>by simp[Met])⟩ (by
   rintro p x q σ hx ⟨gk',gv',o8',rfl,G'⟩
   obtain⟨a1,a2⟩:=gP (g:=id) (by simpa using hx)
   obtain⟨gk2,gv2,G2,e2⟩:=Az (cl:=cl) (fr:=fr) (fnd:=fnd) h1 hn N (gx hh hl hs p.length) G' (by lia) o4 o8' (.int (x:Nat)) (b:=(itr n h l p.length s).1)
   refine⟨_,e2,gk2,gv2,_,by rw[List.length_append];rfl,G2.mono (by simp;lia) (fun m=>?_)⟩
   simp only[Met,List.length_append,List.length_singleton]
   constructor
   ·rintro((hp | ⟨j,h1,h2⟩) | h2)
    ·exact .inl hp
    ·exact .inr ⟨j,by lia,h2⟩
    ·exact .inr ⟨p.length,by lia,h2⟩
   ·rintro(hp | ⟨j,h1,h2⟩)
    ·exact .inl (.inl hp)
    ·by_cases hj:j=p.length
     ·subst hj
      exact .inr h2
     ·exact .inl (.inr ⟨j,by lia,h2⟩))
 simp only[List.length_range]at G' e
 exact⟨gk',gv',o8',G',e⟩
noncomputable def beg(n:Nat)(h l:List Nat)(p:Nat):Bool × Nat:=(decide (p<n),at' (pick h l (decide (p<n))) p)
noncomputable def aB(n:Nat)(h l:List Nat):List Nat:=(List.range (2*n)).map fun p=>(itr n h l (4*n) (beg n h l p)).2
noncomputable def Gn(n:Nat)(h l:List Nat)(k m:Nat):Prop:=∃ p,p<k/\Met n h l (beg n h l p) (4*n) m
theorem Fw(b:Bool):ixV (.lst [.str (PySem.Str.ofString "high"),.str (PySem.Str.ofString "low")]) (.int (if b=true then 1 else 0))=some (.str (sd !b)):=kz b
theorem Ai(h1:1<=n)(hn:n<=10)(N:jm h l (2*n) ks vs)(hh:∀ x,x<2*n->at' h x<2*n)(hl:∀ x,x<2*n->at' l x<2*n)(o4 o7 o8:Option D) :
  ∃ gk gv o4' o7' o8',GD gk gv 1000 (Gn n h l (2*n))/\aZ (ak cl [3,5,6] (fv fr)) [4] (L (List.range (2*n))) (hst n h l ks vs o4 [] [] [] o7 o8)=some (.nx,hst n h l ks vs o4' (aB n h l) gk gv o7' o8'):=by
 have e4:aI .mul (.int 4) (.int n)=some (.int (4*n)):=dD (by decide) (by decide)
 have r4:=gi (n:=4*n) (by lia)
 rw[show((4*n:Nat):Int)=4*(n:Int) by lia]at r4
 obtain⟨σ',e,gk,gv,o4',o7',o8',rfl,G⟩:=da (f:=ak cl [3,5,6] (fv fr)) (tg:=[4]) (xs:=List.range (2*n)) (σ:=hst n h l ks vs o4 [] [] [] o7 o8)
  (fun p σ=>∃ gk gv o4' o7' o8',σ=hst n h l ks vs o4' ((List.range p.length).map fun p=>(itr n h l (4*n) (beg n h l p)).2) gk gv o7' o8'/\GD gk gv (40*p.length) (Gn n h l p.length))
  ⟨[],[],o4,o7,o8,rfl,rfl,by simp,fun m=>by simp[aH,Gn]⟩ (by
   rintro p x q σ hx ⟨gk,gv,o4',o7',o8',rfl,G⟩
   obtain⟨a1,a2⟩:=gP (g:=id) (by simpa using hx)
   simp only[id]at a2
   subst a2
   have hb:(beg n h l p.length).2<2*n:=by
    unfold beg pick
    cases decide (p.length<n)
    ·exact hl _ a1
    ·exact hh _ a1
   obtain⟨gk2,gv2,o82,G2,e2⟩:=Bb (cl:=cl) (fr:=fr) (fnd:=(List.range p.length).map fun p=>(itr n h l (4*n) (beg n h l p)).2) h1 hn N hh hl hb G (by lia) (some (.int (p.length:Nat))) o8'
   have c1:bu .ge (.int (p.length:Nat)) (.int n)=some (!decide (p.length<n)):=by
    rw[yu]
    congr 1
    by_cases c:p.length<n
    ·simp[c]
    ·simp[c];lia
   have lk:mT (.dT ks vs) (.tup [.str (sd (decide (p.length<n))),.int (p.length:Nat)])=some (bb (beg n h l p.length).1 (beg n h l p.length).2):=by
    have:=N.2.2 (decide (p.length<n)) p.length a1
    rw[show bb (beg n h l p.length).1 (beg n h l p.length).2=bb (decide (p.length<n)) (at' (pick h l (decide (p.length<n))) p.length)from rfl,<-this]
    rfl
   have sx:=kz (!decide (p.length<n))
   rw[Bool.not_not]at sx
   refine⟨hst n h l ks vs (some (.int (p.length:Nat))) ((List.range (p++[p.length]).length).map fun p=>(itr n h l (4*n) (beg n h l p)).2) gk2 gv2 (some (bb (itr n h l (4*n) (beg n h l p.length)).1 (itr n h l (4*n) (beg n h l p.length)).2)) o82,?_,gk2,gv2,_,_,_,rfl,G2.mono (by simp;lia) (fun m=>?_)⟩
   ·have ok:bw [3,5,6] (.ixD (.var 3) (.tup (.cons (.ix (.lst (.cons (.cst (.str "high")) (.cons (.cst (.str "low")) .nil))) (.bi .int (.cmp .ge (.var 4) (.var 2)))) (.cons (.var 4) .nil)))) (bb (beg n h l p.length).1 (beg n h l p.length).2)=true:=rfl
    simp only[aO,hst,List.set,Option.bind_some,fv,ak,evS,ev,evs,bp,List.getElem?_cons_zero,List.getElem?_cons_succ,id,c1,Option.map_some,biV,sx,lk,e4,r4]at e2 ⊢
    rw[if_pos ok]
    simp only[Option.bind_some,e4,r4,List.getElem?_cons_zero,List.getElem?_cons_succ,id,e2,kS]
    have ml:((D.int (((itr n h l (4*n) (beg n h l p.length)).2:Nat):Int)).imm&&decide ((L (List.map (fun p=>(itr n h l (4*n) (beg n h l p)).snd) (List.range p.length))).length<most))=true:=by
     simp[D.imm,bD,most]
     lia
    rw[if_pos ml]
    simp[L,List.range_succ]
   ·simp only[Gn,List.length_append,List.length_singleton]
    constructor
    ·rintro(⟨j,h1,h2⟩ | h2)
     ·exact⟨j,by lia,h2⟩
     ·exact⟨p.length,by lia,h2⟩
    ·rintro⟨j,h1,h2⟩
     by_cases hj:j=p.length
     ·subst hj
      exact .inr h2
     ·exact .inl ⟨j,by lia,h2⟩)
 simp only[List.length_range]at G e
 exact⟨gk,gv,o4',o7',o8',G.mono (by lia) (fun _=>Iff.rfl),e⟩
theorem xH(h1:1<=n)(hn:n<=10)(h2:h.length=2*n)(l2:l.length=2*n)(hh:∀ x,x<2*n->at' h x<2*n)(hl:∀ x,x<2*n->at' l x<2*n) :
  ∃ inner:List Nat,(∀ m,m∈inner↔m<n/\¬ Gn n h l (2*n) m)/\inner.length<=n/\∀ r:Int,cl fr [.tup (L h),.tup (L l),.lst (L inner)]=some (.int r)->evF cl (eM fr) [.tup (L h),.tup (L l)]=some (.tup [.tup (L (aB n h l)),.int r]):=by
 have e1:aI .mul (.int 2) (.int n)=some (.int (2*n)):=dD (by decide) (by decide)
 have r2:=gi (n:=2*n) (by lia)
 rw[show((2*n:Nat):Int)=2*(n:Int) by lia]at r2
 have r1:=gi (n:=n) (by lia)
 obtain⟨ks,vs,o,N,en⟩:=vF (cl:=cl) (fr:=fr) hn h2 l2
 obtain⟨gk,gv,o4,o7,o8,G,eb⟩:=Ai (cl:=cl) (fr:=fr) h1 hn N hh hl o none none
 refine⟨(List.range n).filter fun m:Nat=>!(aH gk gv (.inl (m:Int))).isSome,fun m=>?_,?_,?_⟩
 ·have:=G.2.2 m
  simp[<-this]
 ·have:=List.length_filter_le (fun m:Nat=>!(aH gk gv (.inl (m:Int))).isSome) (List.range n)
  simpa using this
 ·intro r hr
  have e6:=half (xs:=L h) (n:=n) (by rw[bD,h2])
  have e7:=B4 n
  have ft:=xi (xs:=List.range n) (by simp;lia)
  have mc:=wm (F:=fun σ1=>((ev cl σ1 (.inD true (.var 4) (.var 6))).bind truth).bind fun k=>if k then(ev cl σ1 (.var 4)).map some else some none) (tg:=[4]) (σ:=hst n h l ks vs o4 (aB n h l) gk gv o7 o8) (g:=fun m=>.int (m:Nat)) (c:=fun m=>!(aH gk gv (.inl (m:Int))).isSome) (fun _=>rfl) (List.range n) (by
   intro x _
   simp only[aO,hst,List.set,Option.bind_some,ev,List.getElem?_cons_zero,List.getElem?_cons_succ,id,zk,keyOf,Option.map_some,truth,if_true]
   cases(aH gk gv (.inl (x:Int))).isSome<;>rfl)
  simp only[evF,eM,ak,evS,ev,bp]
  simp[ev,e6,e7,bw,D.imm,aU,aw,e1,r2]
  rw[en]
  simp[ak,evS,ev,evs,bp,e1,r2,aU,aw,D.imm]
  simp[hst]at eb
  rw[show L []=[]from rfl]at eb
  rw[eb]
  simp[ak,evS,ev,evs,bp,r1,ft,biV,items]
  simp[ev,hst]at mc
  rw[mc]
  rw[show(List.map (fun m:Nat=>D.int (m:Int)) (List.filter (fun m:Nat=>(aH gk gv (Sum.inl (m:Int))).isNone) (List.range n)))=L (List.filter (fun m:Nat=>(aH gk gv (Sum.inl (m:Int))).isNone) (List.range n))from rfl]
  simp at hr
  simp[hr,cn,D.imm,aw,dz,bg]
end
theorem pK{κ:Type} [DecidableEq κ]:∀ {ks:List κ} {vs:List D} {x:κ} {d:D},aH ks vs x=some d->x∈ks
 | k::ks,v::vs,x,d,h=>by
  rw[aH]at h
  by_cases e:k=x
  ·simp[e]
  ·rw[if_neg e]at h
   simp[pK h]
theorem xG{κ:Type} [DecidableEq κ]{ks:List κ}{vs:List D}{x:κ}{d e:D}(h:aH ks vs x=some d):(putD ks vs x e).1=ks:=by
 unfold putD
 rw[if_pos (pK h)]
noncomputable def HI(inner:List Nat)(hk:List Ky)(hv:List D):Prop:=hk.length=hv.length/\hk.length<=10/\∀ m∈inner,∃ v:Int,aH hk hv (.inl (m:Int))=some (.int v)
theorem HI.put{inner:List Nat}{hk:List Ky}{hv:List D}(H:HI inner hk hv){m:Nat}(hm:m∈inner)(v:Int):HI inner (putD hk hv (.inl (m:Int)) (.int v)).1 (putD hk hv (.inl (m:Int)) (.int v)).2:=by
 obtain⟨a,b,c⟩:=H
 obtain⟨v0,h0⟩:=c m hm
 refine⟨(gc a).1,by rw[xG h0];exact b,fun i hi=>?_⟩
 rw[fb a]
 by_cases e:(.inl (m:Int):Ky)=.inl (i:Int)
 ·rw[if_pos e];exact⟨v,rfl⟩
 ·rw[if_neg e];exact c i hi
noncomputable def rst(n:Nat)(h l inner:List Nat)(hk:List Ky)(hv:List D)(o5 o6 o7 o8 o9:Option D):St :=
 [some (.tup (L h)),some (.tup (L l)),some (.lst (L inner)),some (.int n),some (.dK hk hv),o5,o6,o7,o8,o9]
section
variable{n:Nat}{h l inner:List Nat}
theorem jW{hk:List Ky}{hv:List D}{m:Nat}{v:Int}(e:aH hk hv (.inl (m:Int))=some (.int v)):mT (.dK hk hv) (.int (m:Nat))=some (.int v):=e
theorem ints_map(v:Nat->Int):∀ xs:List Nat,eJ (xs.map fun m=>.int (v m))=some (xs.map v)
 | []=>rfl
 | x::r=>by simp[eJ,ints_map v r]
end
noncomputable def dP(n:Nat)(f:List Nat):List Nat:=(List.range (2*n)).map fun p=>if p<n then(if at' f p<n then at' f p else p+n)else(if at' f (p-n)<n then at' f (p-n)+n else p-n)
theorem pV{n:Nat}{f:List Nat}{p:Nat}(h:p<2*n):at' (dP n f) p=if p<n then(if at' f p<n then at' f p else p+n)else(if at' f (p-n)<n then at' f (p-n)+n else p-n):=by
 unfold dP
 rw[at']
 rw[List.getElem?_map,List.getElem?_range h]
 rfl
theorem gp{n:Nat}{h l:List Nat}{s:Bool × Nat}(hs:stp n h l s=s):∀ i,itr n h l i s=s
 | 0=>rfl
 | i+1=>by rw[itr,gp hs i,hs]
theorem m8{n:Nat}{h l:List Nat}{s t:Bool × Nat}(hs:stp n h l s=t)(ht:stp n h l t=t):∀ i,itr n h l (i+1) s=t
 | 0=>hs
 | i+1=>by rw[itr,m8 hs ht i,ht]
section
variable{n:Nat}{f:List Nat}
end
section
variable{n:Nat}{f:List Nat}
end
section
variable{r:Nat->Nat}{m k:Nat}{W:List Nat}
end
section
variable{n:Nat}{f:List Nat}
end
theorem l4{β:Type}{F:St->Option (Option D)}{tg:List Nat}{σ:St}{h g:β->D}(im:∀ x,(g x).imm=true):∀ xs:List β,(∀ x∈xs,(aO tg (h x) σ).bind F=some (some (g x)))->dn F tg σ (xs.map h)=some (xs.map g)
 | [],_=>rfl
 | x::r,hh=>by
  have a:=hh x (by simp)
  have b:=l4 im r (fun y hy=>hh y (by simp[hy]))
  rw[List.map_cons,dn]
  cases hb:aO tg (h x) σ with
  | none=>rw[hb]at a;cases a
  |some σ1=>
   rw[hb]at a
   simp only[Option.bind_some]at a ⊢
   rw[a,b]
   simp[kO,im]
theorem oQ(x:Bool):bu .ne (.bl x) (.bl x)=some false:=by cases x<;>rfl
theorem zY(x:Bool):bu .eq (.bl x) (.bl x)=some true:=by cases x<;>rfl
section
variable{fs:Nat}{d:D}{kb ki kl kt:Bool}{res:Option (Out × St)}{r:Ss}
theorem mZ(hN:(match d with | .non=>some (D.bl (!false)) | .dK _ _=>none | .dT _ _=>none | _=>some (.bl false))=some (D.bl false))(hb:cW .bool d=some kb)(hi:cW .int d=some ki)(hl:cW .list d=some kl)(ht:cW .tuple d=some kt)
 (k:ak cl [] r [some d,some d,none,none]=res):ak cl [] (.cons (.ife (.isN false (.var 1)) (.cons (.ret (.isN false (.var 0))) .nil) .nil) (.cons (.ife (.or (.cmp .ne (.isi (.var 0) .bool) (.isi (.var 1) .bool)) (.cmp .ne (.isi (.var 0) .int) (.isi (.var 1) .int))) (.cons (.ret (.cst (.bl false))) .nil) .nil) (.cons (.ife (.or (.cmp .ne (.isi (.var 0) .list) (.isi (.var 1) .list)) (.cmp .ne (.isi (.var 0) .tuple) (.isi (.var 1) .tuple))) (.cons (.ret (.cst (.bl false))) .nil) .nil) r))) [some d,some d,none,none]=res :=
 dN (cQ (ET hN (af rfl))) (dN (cQ (yO (bQ (cV (af rfl) hb) (cV (af rfl) hb) (oQ _)) (bQ (cV (af rfl) hi) (cV (af rfl) hi) (oQ _)))) (dN (cQ (yO (bQ (cV (af rfl) hl) (cV (af rfl) hl) (oQ _)) (bQ (cV (af rfl) ht) (cV (af rfl) ht) (oQ _)))) k))
theorem js{ks:Bool}(hN:(match d with | .non=>some (D.bl (!false)) | .dK _ _=>none | .dT _ _=>none | _=>some (.bl false))=some (D.bl false))(hb:cW .bool d=some kb)(hi:cW .int d=some ki)(hl:cW .list d=some false)(ht:cW .tuple d=some false)(hs:cW .str d=some ks)(he:bu .eq d d=some true):evF cl (cS fs) [d,d]=some (.bl true) :=
 cb rfl rfl (mZ hN hb hi hl ht (mB (cQ (jN (fD (cV (af rfl) hl)) (fD (cV (af rfl) ht)))) (cY (jN (bQ (cV (af rfl) hs) (cV (af rfl) hs) (zY _)) (bQ (af rfl) (af rfl) he)) rfl)))
end
theorem same_int{fs:Nat}(a:Int):evF cl (cS fs) [.int a,.int a]=some (.bl true):=js rfl rfl rfl rfl rfl rfl (by rw[mz,beq_self_eq_true])
theorem kI:∀ xs:List D,eW xs xs=xs.map fun x=>.tup [x,x]
 | []=>rfl
 | x::r=>by simp[eW,kI r]
theorem wq{β:Type}:∀ xs:List β,fF (xs.map fun _=>D.bl true)=some (xs.map fun _=>true)
 | []=>rfl
 | x::r=>by simp[fF,wq r]
theorem qA{fs:Nat}{d:D}{xs:List D}(hd:d=.tup xs\/d=.lst xs)(hl:xs.length<=1000)(h:∀ x∈xs,cl fs [x,x]=some (.bl true)):evF cl (cS fs) [d,d]=some (.bl true):=by
 have al:biV .all (.lst (xs.map fun _=>.bl true))=some (.bl true):=by
  simp only[biV,wq]
  simp
 have mc:=l4 (F:=fun σ1=>(ev cl σ1 (.call fs (.cons (.var 2) (.cons (.var 3) .nil)))).map some) (tg:=[2,3]) (σ:=[some d,some d,none,none]) (h:=fun x=>.tup [x,x]) (g:=fun _=>.bl true) (fun _=>rfl) xs (by
  intro x hx
  show(ev cl [some d,some d,some x,some x] (.call fs (.cons (.var 2) (.cons (.var 3) .nil)))).map some=_
  rw[gU (af rfl) (af rfl) (h x hx)]
  rfl)
 have it:items d=some xs:=by rcases hd with rfl | rfl<;>rfl
 have ln:biV .len d=some (.int xs.length):=by rcases hd with rfl | rfl<;>rfl
 have lq:bu .eq (.int (xs.length:Int)) (.int (xs.length:Int))=some true:=by simp[mz]
 have lz:(eW xs xs).length<=most:=by rw[kI,List.length_map];unfold most;lia
 rw[<-kI]at mc
 have tl:∀ {res:Option (Out × St)},some (Out.rt (.bl true),[some d,some d,none,none])=res->ak cl [] (.cons (.ret (.and (.cmp .eq (.bi .len (.var 0)) (.bi .len (.var 1))) (.bi .all (.compA (.call fs (.cons (.var 2) (.cons (.var 3) .nil))) [2,3] (.zip (.var 0) (.var 1)))))) .nil) [some d,some d,none,none]=res:=fun e=>(cY (jN (bQ (e8 (af rfl) ln) (e8 (af rfl) ln) lq) (e8 (mL (EK (af rfl) (af rfl) it it rfl) lz mc) al)) rfl).trans e
 rcases hd with rfl | rfl
 ·exact cb rfl rfl (mZ rfl rfl rfl rfl rfl (dN (cQ (jN (fD (k:=false) (cV (af rfl) rfl)) (fD (k:=true) (cV (af rfl) rfl)))) (tl rfl)))
 ·exact cb rfl rfl (mZ rfl rfl rfl rfl rfl (dN (cQ (pG (fD (k:=true) (cV (af rfl) rfl)))) (tl rfl)))
end RM
set_option maxHeartbeats 1000000
namespace RM
open RL RT
section
variable{r:Nat->Nat}{m k:Nat}{W:List Nat}
end
end RM
set_option maxHeartbeats 1000000
namespace RM
open RL RT
section
variable{cl:Cl}{xs:List Int}
end
structure Dg(T:List Fn)(mx rw dg:Nat):Prop where
 FV:T[mx]?=some j5
 FI:T[rw]?=some (jw mx)
 Ge:T[dg]?=some (eV rw)
theorem Dg.digits{T:List Fn}{mx rw dg:Nat}(h:Dg T mx rw dg){ns:List Int}(hl:ns.length<=63)(n:Nat){k:Nat}{sizes:List Nat}(hk:k<=1000)(hp:∀ s∈sizes,0<s/\s<2 ^ 200)(hz:sizes.length<=1000) :
  ∃ ds:List Nat,gW ds sizes/\aA T (n+3) dg [.lst (LI ns),.int k,.lst (L sizes)]=some (.lst (L ds)):=by
 obtain⟨r,hr⟩:=Bj (cl:=aA T (n+1)) (f:=mx) (fun s=>by
  obtain⟨m,hm⟩:=Ay (cl:=aA T n) s
  exact⟨m,(az h.FV).trans hm⟩) hl hk
 obtain⟨ds,h1,h2⟩:=uT (cl:=aA T (n+2)) (f:=rw) ((az h.FI).trans hr) hp hz
 exact⟨ds,h1,(az h.Ge).trans h2⟩
section
variable{T:List Fn}{mx rw dg pl hk ci ft tx rg hu ov fr:Nat}
end
section
variable{T:List Fn}{nu pc pa nb un if' cf po rp ir mv:Nat}
end
inductive Pl:Nat->D->Prop
 | int (n:Nat) (i:Int):Pl n (.int i)
 | bl (n:Nat) (b:Bool):Pl n (.bl b)
 | str (n:Nat) (x:PySem.Str):Pl n (.str x)
 | tup (n:Nat) (xs:List D) (hl:xs.length<=1000) (h:∀ x∈xs,Pl n x):Pl (n+1) (.tup xs)
 | lst (n:Nat) (xs:List D) (hl:xs.length<=1000) (h:∀ x∈xs,Pl n x):Pl (n+1) (.lst xs)
theorem sg{cl:Cl}{fs:Nat}(a:Bool):evF cl (cS fs) [.bl a,.bl a]=some (.bl true):=js rfl rfl rfl rfl rfl rfl (zY a)
theorem same_str{cl:Cl}{fs:Nat}(x:PySem.Str):evF cl (cS fs) [.str x,.str x]=some (.bl true):=js rfl rfl rfl rfl rfl rfl (show some (x == x)=some true by rw[beq_self_eq_true])
theorem sameAll{T:List Fn}{sm:Nat}(h:T[sm]?=some (cS sm)):∀ (k n:Nat) (d:D),Pl k d->k<=n->aA T (n+1) sm [d,d]=some (.bl true):=by
 intro k
 induction k with
 |zero=>
  intro n d p _
  cases p with
  | int=>exact(az h).trans (same_int _)
  | bl=>exact(az h).trans (sg _)
  | str=>exact(az h).trans (same_str _)
 |succ k ih=>
  intro n d p hn
  cases p with
  | int=>exact(az h).trans (same_int _)
  | bl=>exact(az h).trans (sg _)
  | str=>exact(az h).trans (same_str _)
  |tup _ xs hl hx=>
   obtain⟨m,rfl⟩:∃ m,n=m+1:=⟨n-1,by lia⟩
   exact(az h).trans (qA (.inl rfl) hl fun x hd=>ih m x (hx x hd) (by lia))
  |lst _ xs hl hx=>
   obtain⟨m,rfl⟩:∃ m,n=m+1:=⟨n-1,by lia⟩
   exact(az h).trans (qA (.inr rfl) hl fun x hd=>ih m x (hx x hd) (by lia))
theorem Pl.L{n:Nat}{xs:List Nat}(h:xs.length<=1000):Pl (n+1) (.tup (L xs)):=.tup _ _ (by rw[bD];exact h) fun x hx=>by
 obtain⟨a,_,rfl⟩:=List.mem_map.mp hx
 exact .int _ _
theorem Pl.LL{n:Nat}{xs:List Nat}(h:xs.length<=1000):Pl (n+1) (.lst (RL.L xs)):=.lst _ _ (by rw[bD];exact h) fun x hx=>by
 obtain⟨a,_,rfl⟩:=List.mem_map.mp hx
 exact .int _ _
noncomputable def Cyc(a b c d:Nat):Prop:=(a<b/\b<c/\c<d)\/(b<c/\c<d/\d<a)\/(c<d/\d<a/\a<b)\/(d<a/\a<b/\b<c)
theorem sj{m:Nat}{r:Nat->Nat}(inv:∀ q,q<m->r (r q)=q)(nox:∀ q q',q<m->q'<m->¬ (q<q'/\q'<r q/\r q<r q')){a b c d:Nat}(ha:a<m)(hb:b<m)(hc:c<m)(hd:d<m)(e1:r a=c)(e2:r b=d):¬ Cyc a b c d:=by
 have e3:r c=a:=by rw[<-e1];exact inv a ha
 have e4:r d=b:=by rw[<-e2];exact inv b hb
 rintro(h | h | h | h)
 ·exact nox a b ha hb ⟨h.1,by lia,by lia⟩
 ·exact nox b c hb hc ⟨h.1,by lia,by lia⟩
 ·exact nox c d hc hd ⟨h.1,by lia,by lia⟩
 ·exact nox d a hd ha ⟨h.1,by lia,by lia⟩
theorem iq{n:Nat}{f g:List Nat}(hf:f.length=n)(hg:g.length=n)(h:∀ x,x<n->at' f x=at' g x):f=g:=by
 refine List.ext_getElem? fun x=>?_
 by_cases hx:x<n
 ·rw[dE (by lia),dE (by lia),h x hx]
 ·rw[List.getElem?_eq_none (by lia),List.getElem?_eq_none (by lia)]
structure Way(n:Nat)(to ba:Nat->Nat):Prop where
 lt:∀ p,p<2*n->to p<2*n
 blt:∀ p,p<2*n->ba p<2*n
 tb:∀ p,p<2*n->to (ba p)=p
 bt:∀ p,p<2*n->ba (to p)=p
 cyc:∀ a b c d,a<2*n->b<2*n->c<2*n->d<2*n->a<b->b<c->c<d->Cyc (rd n (ba (rd n a))) (rd n (ba (rd n b))) (rd n (ba (rd n c))) (rd n (ba (rd n d)))\/Cyc (rd n (ba (rd n d))) (rd n (ba (rd n c))) (rd n (ba (rd n b))) (rd n (ba (rd n a)))
noncomputable def bO(n:Nat)(to ba:Nat->Nat)(f:List Nat):List Nat:=(List.range (2*n)).map fun p=>to (at' f (ba p))
theorem gq(n:Nat)(to ba:Nat->Nat)(f:List Nat):(bO n to ba f).length=2*n:=by simp[bO]
theorem bX{n:Nat}{to ba:Nat->Nat}{f:List Nat}{p:Nat}(h:p<2*n):at' (bO n to ba f) p=to (at' f (ba p)):=by
 simp[bO,at',h]
theorem Way.val{n:Nat}{to ba:Nat->Nat}(W:Way n to ba){f:List Nat}(V:Val n f):Val n (bO n to ba f):=by
 have F:=V.frm
 have hl:=gq n to ba f
 refine⟨⟨hl,fun x hx=>?_,fun x=>?_,fun x hx e=>?_⟩,fun q q' hq hq' h=>?_⟩
 ·rw[bX hx]
  exact W.lt _ (F.lt _ (W.blt _ hx))
 ·by_cases hx:x<2*n
  ·have h1:=F.lt _ (W.blt _ hx)
   rw[bX hx,bX (W.lt _ h1),W.bt _ h1,F.inv,W.tb _ hx]
  ·rw[iz (f:=bO n to ba f) (x:=x) (by lia),iz (by lia)]
 ·rw[bX hx]at e
  have h1:=F.lt _ (W.blt _ hx)
  have:at' f (ba x)=ba x:=by rw[<-W.bt _ h1,e]
  exact F.no _ (W.blt _ hx) this
 ·obtain⟨h1,h2,h3⟩:=h
  have rl:∀ q,q<2*n->rnd n f q<2*n:=fun q hq=>cO (F.lt _ (cO hq))
  have rr:∀ q,q<2*n->rnd n f (rnd n f q)=q:=fun q hq=>by
   unfold rnd
   rw[dW (F.lt _ (cO hq)),F.inv,dW hq]
  have key:∀ q,q<2*n->rnd n (bO n to ba f) q<2*n/\rnd n f (rd n (ba (rd n q)))=rd n (ba (rd n (rnd n (bO n to ba f) q))):=fun q hq=>by
   have a1:=cO hq
   have a2:=W.blt _ a1
   have a3:=F.lt _ a2
   unfold rnd
   rw[bX a1]
   refine⟨cO (W.lt _ a3),?_⟩
   rw[dW a2,dW (W.lt _ a3),W.bt _ a3]
  obtain⟨k1,k2⟩:=key q hq
  obtain⟨k3,k4⟩:=key q' hq'
  have bl:∀ q,q<2*n->rd n (ba (rd n q))<2*n:=fun q hq=>cO (W.blt _ (cO hq))
  rcases W.cyc q q' _ _ hq hq' k1 k3 h1 h2 h3 with c | c
  ·exact sj rr V.nox (bl _ hq) (bl _ hq') (bl _ k1) (bl _ k3) k2 k4 c
  ·refine sj rr V.nox (bl _ k3) (bl _ k1) (bl _ hq') (bl _ hq) ?_ ?_ c
   ·rw[<-k4,rr _ (bl _ hq')]
   ·rw[<-k2,rr _ (bl _ hq)]
noncomputable def ovr(n p:Nat):Nat:=if p<n then p+n else p-n
noncomputable def mir(n p:Nat):Nat:=if p<n then n-1-p else 3*n-1-p
theorem zU{n q:Nat}(c:q<n):rd n q=q:=by unfold rd;rw[if_pos c]
theorem zK{n q:Nat}(c:¬ q<n):rd n q=3*n-1-q:=by unfold rd;rw[if_neg c]
theorem lE{n q:Nat}(c:q<n):ovr n q=q+n:=by unfold ovr;rw[if_pos c]
theorem p9{n q:Nat}(c:¬ q<n):ovr n q=q-n:=by unfold ovr;rw[if_neg c]
theorem lY{n p:Nat}(hp:p<2*n):ovr n p<2*n/\ovr n (ovr n p)=p:=by
 by_cases c:p<n
 ·rw[lE c,p9 (by lia)];exact⟨by lia,by lia⟩
 ·rw[p9 c,lE (by omega)];exact⟨by lia,by lia⟩
theorem lr{n q:Nat}(hq:q<2*n):rd n (ovr n (rd n q))=2*n-1-q:=by
 by_cases c:q<n
 ·rw[zU c,lE c,zK (by lia)];lia
 ·rw[zK c,p9 (by omega),zU (by omega)];lia
theorem fc(n:Nat):Way n (ovr n) (ovr n) :=
 ⟨fun p hp=>(lY hp).1,fun p hp=>(lY hp).1,fun p hp=>(lY hp).2,fun p hp=>(lY hp).2,fun a b c d ha hb hc hd h1 h2 h3=>.inr (.inl (by
  rw[lr ha,lr hb,lr hc,lr hd]
  exact⟨by lia,by lia,by omega⟩))⟩
theorem AZ{n:Nat}{to ba to' ba':Nat->Nat}{f:List Nat}(W:Way n to ba)(W':Way n to' ba'):bO n to' ba' (bO n to ba f)=bO n (fun p=>to' (to p)) (fun p=>ba (ba' p)) f:=by
 refine iq (n:=2*n) (gq ..) (gq ..) fun p hp=>?_
 rw[bX hp,bX (W'.blt _ hp),bX hp]
theorem BN{n:Nat}{to ba:Nat->Nat}{f:List Nat}(F:Frm n f)(h1:∀ p,p<2*n->to p=p)(h2:∀ p,p<2*n->ba p=p):bO n to ba f=f:=by
 refine iq (n:=2*n) (gq ..) F.len fun p hp=>?_
 rw[bX hp,h2 p hp,h1 _ (F.lt _ hp)]
theorem cP:∀ {a b:List Nat},a.Nodup->(∀ x∈a,x∈b)->a.length<=b.length
 | [],_,_,_=>Nat.zero_le _
 | x::r,b,hn,h=>by
  rw[List.nodup_cons]at hn
  have hx:=h x List.mem_cons_self
  have:=cP (a:=r) (b:=b.erase x) hn.2 fun y hy=>(List.mem_erase_of_ne (fun e=>hn.1 (by rw[<-e];exact hy))).mpr (h y (List.mem_cons_of_mem _ hy))
  rw[List.length_erase_of_mem hx]at this
  have:0<b.length:=List.length_pos_of_mem hx
  simp only[List.length_cons]
  lia
theorem kF{f:D->D->Option Bool}:∀ xs:List D,(∀ x∈xs,f x x=some true)->eqs f xs xs=some true
 | [],_=>rfl
 | x::r,h=>by
  rw[eqs,h x List.mem_cons_self,Option.bind_some,kF r fun y hy=>h y (List.mem_cons_of_mem _ hy)]
  rfl
theorem Fq:∀ (k n:Nat) (d:D),Pl k d->k<=n->eqD n d d=some true:=by
 intro k
 induction k with
 |zero=>
  intro n d p _
  cases p with
  | int i=>cases n<;>simp[eqD]
  | bl i=>cases n<;>simp[eqD]
  | str i=>cases n<;>simp[eqD]
 |succ k ih=>
  intro n d p hn
  obtain⟨m,rfl⟩:∃ m,n=m+1:=⟨n-1,by lia⟩
  cases p with
  | int i=>simp[eqD]
  | bl i=>simp[eqD]
  | str i=>simp[eqD]
  | tup _ xs hl h=>rw[eqD,kF xs fun x hx=>ih m x (h x hx) (by lia)];simp
  | lst _ xs hl h=>rw[eqD,kF xs fun x hx=>ih m x (h x hx) (by lia)];simp
theorem Ae{k:Nat}{d:D}(p:Pl k d)(h:k<=8):bu .ne d d=some false:=by
 show(eqD 8 d d).map not=some false
 rw[Fq k 8 d p h];rfl
theorem EY{ns:List Int}(hl:ns.length<=63):kT (.scr (LI ns)) (.int 63)=some (.lst (LI ns)):=by
 show some (D.lst ((LI ns).take (cutAt (LI ns).length 63)))=_
 rw[List.take_of_length_le]
 have:(LI ns).length=ns.length:=by simp[LI]
 rw[this]
 unfold cutAt
 rw[if_pos (by decide)]
 have:(63:Int).toNat=63:=rfl
 lia
theorem yh{cl:Cl}{m N:Nat}{M:List Nat}{B:Ss}{ns:List Int}(hl:ns.length<=63)(hN:N<=1000)
 (turn:∀ (k:Nat) (os:List (Option D)),k<N->os.length=m->∃ os',os'.length=m+1/\ak cl M B (some (.lst (LI ns))::some (.int (k:Nat))::os)=some (.nx,some (.lst (LI ns))::os')) :
  evF cl ⟨1,m+2,M,[],.cons (.asg 0 (.slT (.var 0) (.cst (.int 63)))) (.cons (.forr [1] (.rng1 (.cst (.int (N:Nat)))) B) (.cons (.ret (.cst (.bl true))) .nil))⟩ [.scr (LI ns)]=some (.bl true):=by
 have e1:=gi (n:=N) hN
 obtain⟨σ',e,os,hos,rfl⟩:=da (f:=ak cl M B) (tg:=[1]) (xs:=List.range N) (σ:=some (.lst (LI ns))::List.replicate (m+1) none) (fun _ σ=>∃ os:List (Option D),os.length=m+1/\σ=some (.lst (LI ns))::os) ⟨_,by simp,rfl⟩ (by
  rintro p x q σ hx ⟨os,ho,rfl⟩
  have hxN:x<N:=by
   have:x∈List.range N:=by rw[hx];simp
   simpa using this
  cases os with
  | nil=>simp at ho
  |cons o os=>
   obtain⟨os',h1,h2⟩:=turn x os hxN (by simpa using ho)
   exact⟨_,by simpa[aO]using h2,os',h1,rfl⟩)
 exact cb rfl rfl (bI (lQ (af rfl) aC (EY hl)) (by simp[bw,D.imm,aU,wQ]) (eQ (wt aC e1) e (cY aC rfl)))
section
variable{cl:Cl}{n:Nat}{f:List Nat}
end
section
variable{T:List Fn}{nu pc pa nb un if' cf po rp ir mv:Nat}
theorem C4{n:Nat}{to ba:Nat->Nat}{f E:List Nat}(W:Way n to ba)(h1:E.length=2*n)(h2:∀ p,p<2*n->at' E (to p)=to (at' f p)):E=bO n to ba f:=by
 refine iq h1 (gq ..) fun p hp=>?_
 rw[bX hp]
 have:=h2 (ba p) (W.blt _ hp)
 rw[W.tb _ hp]at this
 exact this
end
end RM
set_option maxHeartbeats 1000000
namespace RT
open RL
end RT
namespace RM
open RL RT
section
variable{cl:Cl}{n:Nat}{f:List Nat}
end
structure Two(m:Nat)(a b:Nat->Nat):Prop where
 al:∀ x,x<m->a x<m
 bl:∀ x,x<m->b x<m
 ai:∀ x,x<m->a (a x)=x
 bi:∀ x,x<m->b (b x)=x
noncomputable def wk(a b:Nat->Nat)(x:Nat):Nat->Nat
 | 0=>x
 | k+1=>if k%2=0 then b (wk a b x k)else a (wk a b x k)
noncomputable def Stp(a b:Nat->Nat)(x k:Nat):Prop:=wk a b x (k+1)=wk a b x k\/wk a b x (k+1)=x
noncomputable instance{a b:Nat->Nat}{x k:Nat}:Decidable (Stp a b x k):=inferInstanceAs (Decidable (_\/_))
section
variable{m:Nat}{a b:Nat->Nat}{x:Nat}
theorem dX{k:Nat}(h:k%2=0):wk a b x (k+1)=b (wk a b x k):=by rw[wk,if_pos h]
theorem fV{k:Nat}(h:k%2=1):wk a b x (k+1)=a (wk a b x k):=by rw[wk,if_neg (by lia)]
theorem gI(T:Two m a b)(hx:x<m):∀ k,wk a b x k<m
 | 0=>hx
 | k+1=>by
  rw[wk]
  split
  ·exact T.bl _ (gI T hx k)
  ·exact T.al _ (gI T hx k)
theorem hX(T:Two m a b)(hx:x<m)(k:Nat):(if k%2=0 then b (wk a b x (k+1))else a (wk a b x (k+1)))=wk a b x k:=by
 have h:=gI T hx k
 rw[wk]
 split
 ·exact T.bi _ h
 ·exact T.ai _ h
theorem Cj(T:Two m a b)(hx:x<m){i j:Nat}(hp:i%2=j%2)(h:wk a b x (i+1)=wk a b x (j+1)):wk a b x i=wk a b x j:=by
 rw[<-hX T hx i,<-hX T hx j,h,hp]
theorem rZ(T:Two m a b)(hx:x<m){k:Nat}(hs:∀ j,j<k->¬ Stp a b x j){d:Nat}(hd:d%2=1):∀ i,i+(d+1)<=k->wk a b x i≠wk a b x (i+(d+1))
 | 0,hk,h=>hs d (by lia) (.inr (by rw[Nat.zero_add]at h;exact h.symm))
 | i+1,hk,h=>rZ T hx hs hd i (by lia) (Cj T hx (i:=i) (j:=i+(d+1)) (by lia) (by rw[h];congr 1;lia))
theorem xy(T:Two m a b)(hx:x<m){k:Nat}(hs:∀ j,j<k->¬ Stp a b x j):∀ (c i:Nat),i+(2*c+1)<=k->wk a b x i≠wk a b x (i+(2*c+1))
 | 0,i,hk,h=>hs i (by lia) (.inl h.symm)
 | c+1,i,hk,h=>by
  refine xy T hx hs c (i+1) (by lia) ?_
  have h1:=hX T hx (i+(2*c+2))
  rw[show i+(2*c+2)+1=i+(2*(c+1)+1) by lia,<-h]at h1
  have h2:wk a b x (i+1)=if(i+(2*c+2))%2=0 then b (wk a b x i)else a (wk a b x i):=by
   rw[wk]
   have:(i+(2*c+2))%2=i%2:=by lia
   rw[this]
  rw[h2,h1]
  congr 1
  lia
theorem jH(T:Two m a b)(hx:x<m){k:Nat}(hs:∀ j,j<k->¬ Stp a b x j){i j:Nat}(hij:i<j)(hj:j<=k):wk a b x i≠wk a b x j:=by
 obtain⟨d,rfl⟩:∃ d,j=i+(d+1):=⟨j-i-1,by lia⟩
 by_cases c:d%2=1
 ·exact rZ T hx hs c i hj
 ·obtain⟨e,rfl⟩:∃ e,d=2*e:=⟨d / 2,by lia⟩
  exact xy T hx hs e i hj
theorem least{P:Nat->Prop} [DecidablePred P]:∀ n,P n->∃ k,k<=n/\P k/\∀ j,j<k->¬ P j:=by
 intro n
 induction n using Nat.strongRecOn with
 |_ n ih=>
  intro h
  by_cases c:∃ j,j<n/\P j
  ·obtain⟨j,hj,hp⟩:=c
   obtain⟨k,h1,h2,h3⟩:=ih j hj hp
   exact⟨k,by lia,h2,h3⟩
  ·exact⟨n,Nat.le_refl _,h,fun j hj hp=>c ⟨j,hj,hp⟩⟩
theorem gu(T:Two m a b)(hx:x<m):∃ k,k<m/\Stp a b x k/\∀ j,j<k->¬ Stp a b x j:=by
 by_cases c:∃ k,k<m/\Stp a b x k
 ·obtain⟨k,h1,h2⟩:=c
  obtain⟨j,h3,h4,h5⟩:=least k h2
  exact⟨j,by lia,h4,h5⟩
 ·exfalso
  have hs:∀ j,j<m->¬ Stp a b x j:=fun j hj h=>c ⟨j,hj,h⟩
  have nd:((List.range (m+1)).map (wk a b x)).Nodup:=by
   rw[List.nodup_iff_pairwise_ne,List.pairwise_map]
   refine List.Pairwise.imp_of_mem ?_ (List.pairwise_lt_range (n:=m+1))
   intro i j hi hj hlt
   exact jH T hx hs hlt (by have:=List.mem_range.mp hj;lia)
  have:=cP nd (b:=List.range m) fun y hy=>by
   obtain⟨i,_,rfl⟩:=List.mem_map.mp hy
   exact List.mem_range.mpr (gI T hx i)
  simp at this
  lia
inductive Cn (a b:Nat->Nat) (x:Nat):Nat->Prop
 | refl:Cn a b x x
 | sa {y:Nat}:Cn a b x y->Cn a b x (a y)
 | sb {y:Nat}:Cn a b x y->Cn a b x (b y)
theorem Cn.lt(T:Two m a b)(hx:x<m){y:Nat}(h:Cn a b x y):y<m:=by
 induction h with
 | refl=>exact hx
 | sa _ ih=>exact T.al _ ih
 | sb _ ih=>exact T.bl _ ih
theorem Cn.trans{y z:Nat}(h:Cn a b x y)(h':Cn a b y z):Cn a b x z:=by
 induction h' with
 | refl=>exact h
 | sa _ ih=>exact .sa ih
 | sb _ ih=>exact .sb ih
theorem Cn.symm(T:Two m a b)(hx:x<m){y:Nat}(h:Cn a b x y):Cn a b y x:=by
 induction h with
 | refl=>exact .refl
 |@sa y h ih=>
  have:=Cn.sa (a:=a) (b:=b) (Cn.refl (x:=a y))
  rw[T.ai _ (h.lt T hx)]at this
  exact this.trans ih
 |@sb y h ih=>
  have:=Cn.sb (a:=a) (b:=b) (Cn.refl (x:=b y))
  rw[T.bi _ (h.lt T hx)]at this
  exact this.trans ih
theorem jJ:∀ k,Cn a b x (wk a b x k)
 | 0=>.refl
 | k+1=>by
  rw[wk]
  split
  ·exact .sb (jJ k)
  ·exact .sa (jJ k)
theorem m3(T:Two m a b)(hx:x<m){k:Nat}(st:Stp a b x k)(hs:∀ j,j<k->¬ Stp a b x j)(h:a x=x\/∀ y,Cn a b x y->a y≠y/\b y≠y){y:Nat}(hy:Cn a b x y):∃ i,i<=k/\wk a b x i=y:=by
 have bx:∃ i,i<=k/\wk a b x i=b x:=by
  by_cases c:k=0
  ·subst c
   refine⟨0,Nat.le_refl _,?_⟩
   rcases st with st | st
   ·rw[dX rfl]at st;exact st.symm
   ·rw[dX rfl]at st;exact st.symm
  ·exact⟨1,by lia,dX rfl⟩
 have key:∀ j,0<j->j<=k->(∃ i,i<=k/\wk a b x i=a (wk a b x j))/\∃ i,i<=k/\wk a b x i=b (wk a b x j):=by
  intro j h0 hj
  have prev:=hX T hx (j-1)
  rw[show j-1+1=j by omega]at prev
  have next:∃ i,i<=k/\wk a b x i=wk a b x (j+1):=by
   by_cases c:j<k
   ·exact⟨j+1,by lia,rfl⟩
   ·have:j=k:=by lia
    subst this
    rcases st with st | st
    ·exact⟨j,Nat.le_refl _,st.symm⟩
    ·exact⟨0,by lia,st.symm⟩
  by_cases c:j%2=0
  ·rw[if_neg (by lia)]at prev
   rw[dX c]at next
   exact⟨⟨j-1,by lia,prev.symm⟩,next⟩
  ·rw[if_pos (by lia)]at prev
   rw[fV (by lia)]at next
   exact⟨next,⟨j-1,by omega,prev.symm⟩⟩
 have ax:∃ i,i<=k/\wk a b x i=a x:=by
  rcases h with h | h
  ·exact⟨0,by lia,h.symm⟩
  ·rcases st with st | st
   ·exfalso
    have hc:=h _ (jJ k)
    by_cases c:k%2=0
    ·rw[dX c]at st;exact hc.2 st
    ·rw[fV (by lia)]at st;exact hc.1 st
   ·by_cases c:k%2=0
    ·exfalso
     rw[dX c]at st
     have e:wk a b x k=b x:=by
      have:=congrArg b st
      rw[T.bi _ (gI T hx k)]at this
      exact this
     by_cases k0:k=0
     ·subst k0
      exact(h x .refl).2 e.symm
     ·have:wk a b x 1=b x:=dX rfl
      exact jH T hx hs (i:=1) (j:=k) (by lia) (Nat.le_refl _) (by rw[this,e])
    ·rw[fV (by lia)]at st
     exact⟨k,Nat.le_refl _,by
      have:=congrArg a st
      rw[T.ai _ (gI T hx k)]at this
      exact this⟩
 induction hy with
 | refl=>exact⟨0,by lia,rfl⟩
 |sa _ ih=>
  obtain⟨i,hi,rfl⟩:=ih
  by_cases c:i=0
  ·subst c;exact ax
  ·exact(key i (by lia) hi).1
 |sb _ ih=>
  obtain⟨i,hi,rfl⟩:=ih
  by_cases c:i=0
  ·subst c;exact bx
  ·exact(key i (by lia) hi).2
theorem jX(T:Two m a b)(hx:x<m){k:Nat}(st:Stp a b x k)(hs:∀ j,j<k->¬ Stp a b x j)(hb:∀ y,y<m->b y≠y)(ha:a x=x):k%2=1/\a (wk a b x k)=wk a b x k:=by
 have lk:=gI T hx k
 by_cases c:k%2=0
 ·exfalso
  rcases st with st | st
  ·rw[dX c]at st
   exact hb _ lk st
  ·rw[dX c]at st
   have e:wk a b x k=b x:=by
    have:=congrArg b st
    rw[T.bi _ lk]at this
    exact this
   by_cases k0:k=0
   ·subst k0
    exact hb x hx e.symm
   ·have:wk a b x 1=b x:=dX rfl
    exact jH T hx hs (i:=1) (j:=k) (by lia) (Nat.le_refl _) (by rw[this,e])
 ·refine⟨by lia,?_⟩
  rcases st with st | st
  ·rw[fV (by lia)]at st;exact st
  ·exfalso
   rw[fV (by lia)]at st
   have e:wk a b x k=x:=by rw[<-T.ai _ lk,st,ha]
   exact jH T hx hs (i:=0) (j:=k) (by lia) (Nat.le_refl _) e.symm
end
structure bc(m:Nat)(a b:Nat->Nat)(S:List Nat):Prop where
 lt:∀ s∈S,s<m
 nd:S.Pairwise fun s t=>¬ Cn a b s t
 ring:∀ s∈S,∀ y,Cn a b s y->a y≠y/\b y≠y
 all:∀ x,x<m->(∃ s,s<m/\(a s=s\/b s=s)/\Cn a b s x)\/∃ s∈S,Cn a b s x
theorem bc.le{m:Nat}{a b:Nat->Nat}(T:Two m a b){S S':List Nat}(R:bc m a b S)(R':bc m a b S'):S.length<=S'.length:=by
 have pick:∀ s∈S,∃ t∈S',Cn a b t s:=fun s hs=>by
  rcases R'.all s (R.lt s hs)with⟨q,h1,h2,h3⟩ | h
  ·exfalso
   have:=R.ring s hs q (h3.symm T h1)
   rcases h2 with h2 | h2
   ·exact this.1 h2
   ·exact this.2 h2
  ·exact h
 have:∀ s,∃ t,s∈S->t∈S'/\Cn a b t s:=fun s=>by
  by_cases hs:s∈S
  ·obtain⟨t,h1,h2⟩:=pick s hs
   exact⟨t,fun _=>⟨h1,h2⟩⟩
  ·exact⟨0,fun z=>absurd z hs⟩
 obtain⟨g,hg⟩:=Classical.axiomOfChoice this
 have nd:(S.map g).Nodup:=by
  rw[List.nodup_iff_pairwise_ne,List.pairwise_map]
  refine List.Pairwise.imp_of_mem ?_ R.nd
  intro s t hs ht hn e
  obtain⟨h1,h2⟩:=hg s hs
  obtain⟨h3,h4⟩:=hg t ht
  rw[<-e]at h4
  exact hn ((h2.symm T (R'.lt _ h1)).trans h4)
 have:=cP nd (b:=S') fun y hy=>by
  obtain⟨s,hs,rfl⟩:=List.mem_map.mp hy
  exact(hg s hs).1
 simpa using this
theorem bc.one{m:Nat}{a b:Nat->Nat}(T:Two m a b){S S':List Nat}(R:bc m a b S)(R':bc m a b S'):S.length=S'.length:=Nat.le_antisymm (R.le T R') (R'.le T R)
section
variable{cl:Cl}{m x:Nat}{a b:Nat->Nat}{A B:D}
noncomputable def wks(a b:Nat->Nat)(x k:Nat):List Nat:=(List.range (k+1)).map (wk a b x)
end
section
variable{cl:Cl}{m:Nat}{a b:Nat->Nat}{A B:D}
noncomputable def Pth(m:Nat)(a b:Nat->Nat)(y:Nat):Prop:=∃ s,s<m/\(a s=s\/b s=s)/\Cn a b s y
theorem AJ{x k y:Nat}:y∈wks a b x k↔∃ i,i<=k/\wk a b x i=y:=by
 unfold wks
 rw[List.mem_map]
 constructor
 ·rintro⟨i,hi,e⟩
  exact⟨i,by have:=List.mem_range.mp hi;lia,e⟩
 ·rintro⟨i,hi,e⟩
  exact⟨i,List.mem_range.mpr (by lia),e⟩
end
noncomputable def jn(n x:Nat):Nat:=if x<n then x else if x<2*n then x+n else if x<3*n then x-n else x
noncomputable def rb(n:Nat)(h l:List Nat)(x:Nat):Nat:=if x<2*n then at' h x else 2*n+at' l (x-2*n)
noncomputable def out(n p:Nat):Nat:=if p<n then p else p+2*n
section
variable{n:Nat}{h l:List Nat}
theorem two(F:Frm n h)(G:Frm n l):Two (4*n) (jn n) (rb n h l):=by
 refine⟨fun x hx=>?_,fun x hx=>?_,fun x hx=>?_,fun x hx=>?_⟩
 ·unfold jn;(repeat' split)<;>lia
 ·unfold rb
  split
  ·have:=F.lt x (by lia);lia
  ·have:=G.lt (x-2*n) (by omega);lia
 ·unfold jn;(repeat' split)<;>lia
 ·unfold rb
  by_cases c:x<2*n
  ·rw[if_pos c,if_pos (F.lt x c),F.inv]
  ·rw[if_neg c,if_neg (by lia),Nat.add_sub_cancel_left,G.inv]
   omega
theorem cH(F:Frm n h)(G:Frm n l){x:Nat}(hx:x<4*n):rb n h l x≠x:=by
 unfold rb
 split
 ·rename_i c
  exact F.no x c
 ·have:=G.no (x-2*n) (by omega)
  lia
theorem aM{p:Nat}(hp:p<2*n):out n p<4*n:=by unfold out;split<;>lia
theorem cZ{p:Nat}(hp:p<2*n):jn n (out n p)=out n p:=by unfold out jn;(repeat' split)<;>lia
theorem m5{p q:Nat}(e:out n p=out n q)(hp:p<2*n)(hq:q<2*n):p=q:=by unfold out at e;(repeat' split at e)<;>lia
theorem uY{x:Nat}(hx:x<4*n)(e:jn n x=x):∃ p,p<2*n/\x=out n p:=by
 by_cases c:x<n
 ·exact⟨x,by lia,by unfold out;rw[if_pos c]⟩
 ·have:3*n<=x:=by
   unfold jn at e
   (repeat' split at e)<;>lia
  exact⟨x-2*n,by lia,by unfold out;rw[if_neg (by lia)];lia⟩
noncomputable def en2(n:Nat)(s:Bool × Nat):Nat:=if s.1 then s.2 else 2*n+s.2
theorem B3{s:Bool × Nat}(hs:s.2<2*n)(c:s.1=decide (n<=s.2)):en2 n (stp n h l s)=rb n h l (jn n (en2 n s)):=by
 obtain⟨b,q⟩:=s
 unfold stp
 rw[if_pos c]
 dsimp only at c hs ⊢
 rw[c]
 clear c
 by_cases c:n<=q
 ·have e:(q+n)%(2*n)=q-n:=by rw[Nat.mod_eq_sub_mod (by lia),Nat.mod_eq_of_lt (by omega)];lia
  have e2:jn n q=q+n:=by unfold jn;rw[if_neg (by lia),if_pos hs]
  simp only[c,decide_true,Bool.not_true,en2,pick,if_true,Bool.false_eq_true,if_false,e,e2,rb]
  rw[if_neg (by lia),show q+n-2*n=q-n by lia]
 ·have e:(q+n)%(2*n)=q+n:=Nat.mod_eq_of_lt (by lia)
  have e2:jn n (2*n+q)=n+q:=by unfold jn;rw[if_neg (by lia),if_neg (by lia),if_pos (by lia)];lia
  simp only[c,decide_false,Bool.not_false,en2,pick,if_true,Bool.false_eq_true,if_false,e,e2,rb]
  rw[if_pos (by lia),Nat.add_comm]
theorem tF{s:Bool × Nat}(hs:s.2<2*n):s.1=decide (n<=s.2)↔jn n (en2 n s)≠en2 n s:=by
 obtain⟨b,q⟩:=s
 dsimp only at hs
 cases b
 ·simp only[en2,Bool.false_eq_true,if_false]
  by_cases c:n<=q
  ·simp only[c,decide_true,Bool.false_eq_true,false_iff,Classical.not_not]
   unfold jn;rw[if_neg (by lia),if_neg (by lia),if_neg (by lia)]
  ·simp only[c,decide_false,true_iff]
   unfold jn;rw[if_neg (by lia),if_neg (by lia),if_pos (by lia)];lia
 ·simp only[en2,if_true]
  by_cases c:n<=q
  ·simp only[c,decide_true,true_iff]
   unfold jn;rw[if_neg (by lia),if_pos hs];lia
  ·simp only[c,decide_false,Bool.true_eq_false,false_iff,Classical.not_not]
   unfold jn;rw[if_pos (by lia)]
theorem A7{s:Bool × Nat}(c:¬ s.1=decide (n<=s.2)):stp n h l s=s:=by
 unfold stp
 rw[if_neg c]
theorem BE{p:Nat}(hp:p<2*n):en2 n (beg n h l p)=rb n h l (out n p):=by
 unfold beg en2 rb out pick
 by_cases c:p<n
 ·simp only[c,decide_true,if_true]
  rw[if_pos (by lia)]
 ·simp only[c,decide_false,Bool.false_eq_true,if_false]
  rw[if_neg (by lia),show p+2*n-2*n=p by lia]
theorem iQ(F:Frm n h)(G:Frm n l){p k:Nat}(hp:p<2*n)(st:Stp (jn n) (rb n h l) (out n p) k)(hs:∀ j,j<k->¬ Stp (jn n) (rb n h l) (out n p) j) :
  ∀ j,en2 n (itr n h l j (beg n h l p))=wk (jn n) (rb n h l) (out n p) (if 2*j+1<=k then 2*j+1 else k):=by
 have T:=two F G
 obtain⟨k1,k2⟩:=jX T (aM hp) st hs (fun y hy=>cH F G hy) (cZ hp)
 have blt:(beg n h l p).2<2*n:=by
  unfold beg pick
  dsimp only
  split
  ·exact F.lt p hp
  ·exact G.lt p hp
 intro j
 induction j with
 |zero=>
  rw[if_pos (by lia)]
  show en2 n (beg n h l p)=_
  rw[BE hp]
  exact(dX (k:=0) rfl).symm
 |succ j ih=>
  have hl:=gx (fun x hx=>F.lt x hx) (fun x hx=>G.lt x hx) (h:=h) (l:=l) blt j
  show en2 n (stp n h l (itr n h l j (beg n h l p)))=_
  by_cases c:2*(j+1)+1<=k
  ·rw[if_pos (by lia)]at ih
   rw[if_pos c]
   have ne:jn n (en2 n (itr n h l j (beg n h l p)))≠en2 n (itr n h l j (beg n h l p)):=by
    rw[ih]
    intro e
    exact hs (2*j+1) (by lia) (.inl (by rw[fV (by lia)];exact e))
   rw[B3 hl ((tF hl).mpr ne),ih,<-fV (a:=jn n) (b:=rb n h l) (x:=out n p) (k:=2*j+1) (by lia),<-dX (a:=jn n) (b:=rb n h l) (x:=out n p) (k:=2*j+1+1) (by lia)]
   congr 1
  ·rw[if_neg c]
   have e:(if 2*j+1<=k then 2*j+1 else k)=k:=by split<;>lia
   rw[e]at ih
   rw[A7 (fun z=>(tF hl).mp z (by rw[ih];exact k2)),ih]
theorem bW:(aB n h l).length=2*n:=by simp[aB]
theorem qP{p:Nat}(hp:p<2*n):at' (aB n h l) p=(itr n h l (4*n) (beg n h l p)).2:=by simp[aB,at',hp]
theorem nh(F:Frm n h)(G:Frm n l){p k:Nat}(hp:p<2*n)(hk:k<4*n)(st:Stp (jn n) (rb n h l) (out n p) k)(hs:∀ j,j<k->¬ Stp (jn n) (rb n h l) (out n p) j) :
  at' (aB n h l) p<2*n/\wk (jn n) (rb n h l) (out n p) k=out n (at' (aB n h l) p):=by
 have T:=two F G
 obtain⟨k1,k2⟩:=jX T (aM hp) st hs (fun y hy=>cH F G hy) (cZ hp)
 have w:=iQ F G hp st hs (4*n)
 rw[show(if 2*(4*n)+1<=k then 2*(4*n)+1 else k)=k by split<;>lia]at w
 rw[qP hp]
 have blt:(beg n h l p).2<2*n:=by
  unfold beg pick
  dsimp only
  split
  ·exact F.lt p hp
  ·exact G.lt p hp
 have hl:=gx (fun x hx=>F.lt x hx) (fun x hx=>G.lt x hx) (h:=h) (l:=l) blt (4*n)
 refine⟨hl,?_⟩
 rw[<-w]
 have no:¬ (itr n h l (4*n) (beg n h l p)).1=decide (n<=(itr n h l (4*n) (beg n h l p)).2):=fun z=>(tF hl).mp z (by rw[w];exact k2)
 generalize itr n h l (4*n) (beg n h l p)=s at *
 obtain⟨b,q⟩:=s
 unfold en2 out
 dsimp only at no hl ⊢
 cases b
 ·rw[if_neg (by decide)]
  have:¬ q<n:=fun c=>no (by simp[show ¬ n<=q by lia])
  rw[if_neg this];lia
 ·rw[if_pos rfl]
  have:q<n:=by
   apply Classical.byContradiction
   intro c
   exact no (by simp[show n<=q by lia])
  rw[if_pos this]
theorem found_iff(F:Frm n h)(G:Frm n l){p q:Nat}(hp:p<2*n)(hq:q<2*n)(ne:p≠q):at' (aB n h l) p=q↔Cn (jn n) (rb n h l) (out n p) (out n q):=by
 have T:=two F G
 obtain⟨k,hk,st,hs⟩:=gu T (aM hp)
 obtain⟨e1,e2⟩:=nh F G hp hk st hs
 constructor
 ·intro e
  rw[<-e,<-e2]
  exact jJ k
 ·intro c
  obtain⟨i,hi,e⟩:=m3 T (aM hp) st hs (.inl (cZ hp)) c
  have fx:jn n (wk (jn n) (rb n h l) (out n p) i)=wk (jn n) (rb n h l) (out n p) i:=by rw[e];exact cZ hq
  have ik:i=k:=by
   apply Classical.byContradiction
   intro z
   have i0:i≠0:=fun z=>by
    subst z
    exact ne (m5 e hp hq)
   by_cases c:i%2=1
   ·exact hs i (by lia) (.inl (by rw[fV c];exact fx))
   ·have:=hX T (aM hp) (i-1)
    rw[show i-1+1=i by lia,if_neg (by lia),fx]at this
    exact hs (i-1) (by lia) (.inl (by rw[show i-1+1=i by lia];exact this))
  subst ik
  rw[e2]at e
  exact(m5 e e1 hq)
theorem cB(F:Frm n h)(G:Frm n l):Frm n (aB n h l):=by
 have T:=two F G
 have lt:∀ p,p<2*n->at' (aB n h l) p<2*n/\at' (aB n h l) p≠p:=fun p hp=>by
  obtain⟨k,hk,st,hs⟩:=gu T (aM hp)
  obtain⟨e1,e2⟩:=nh F G hp hk st hs
  obtain⟨k1,k2⟩:=jX T (aM hp) st hs (fun y hy=>cH F G hy) (cZ hp)
  refine⟨e1,fun e=>?_⟩
  rw[e]at e2
  exact jH T (aM hp) hs (i:=0) (j:=k) (by lia) (Nat.le_refl _) e2.symm
 refine⟨bW,fun p hp=>(lt p hp).1,fun p=>?_,fun p hp=>(lt p hp).2⟩
 by_cases hp:p<2*n
 ·obtain⟨l1,l2⟩:=lt p hp
  have c:=(found_iff F G hp l1 (Ne.symm l2)).mp rfl
  exact(found_iff F G l1 hp l2).mpr (c.symm T (aM hp))
 ·rw[iz (f:=aB n h l) (x:=p) (by rw[bW];lia),iz (by rw[bW];lia)]
end
section
variable{cl:Cl}{n:Nat}{h l:List Nat}
theorem Ap{β:Type}{σ:St}{e:E}{i:Nat}{u g:β->D}(im:∀ x,(g x).imm=true)(xs:List β)(h:∀ x∈xs,ev cl (σ.set i (some (u x))) e=some (g x)):dn (fun σ1=>(ev cl σ1 e).map some) [i] σ (xs.map u)=some (xs.map g) :=
 l4 im xs fun x hx=>by
  show Option.map some (ev cl (σ.set i (some (u x))) e)=_
  rw[h x hx]
  rfl
theorem Bx{σ:St}{e:E}{i:Nat}{g:Nat->D}(im:∀ x,(g x).imm=true)(xs:List Nat)(h:∀ x∈xs,ev cl (σ.set i (some (.int (x:Nat)))) e=some (g x)):dn (fun σ1=>(ev cl σ1 e).map some) [i] σ (L xs)=some (xs.map g) :=
 Ap im xs h
end
section
variable{n:Nat}{h l:List Nat}
theorem Pth.step{m:Nat}{a b:Nat->Nat}{x y:Nat}(h:Pth m a b x)(c:Cn a b x y):Pth m a b y:=by
 obtain⟨s,h1,h2,h3⟩:=h
 exact⟨s,h1,h2,h3.trans c⟩
theorem fk{m:Nat}(hm:m<n):jn n (n+m)=2*n+m:=by unfold jn;rw[if_neg (by lia),if_pos (by lia)];lia
theorem gz{m:Nat}(hm:m<n):jn n (2*n+m)=n+m:=by unfold jn;rw[if_neg (by lia),if_neg (by lia),if_pos (by lia)];lia
theorem l6{a b:Nat->Nat}{x y:Nat}(e:a x=y):Cn a b x y:=by rw[<-e];exact .sa .refl
theorem ke{a b:Nat->Nat}{x y:Nat}(e:b x=y):Cn a b x y:=by rw[<-e];exact .sb .refl
theorem pC(F:Frm n h)(G:Frm n l){m:Nat}(hm:m<n):Gn n h l (2*n) m↔Pth (4*n) (jn n) (rb n h l) (n+m):=by
 have T:=two F G
 constructor
 ·rintro⟨p,hp,j,hj,t1,t2⟩
  obtain⟨k,hk,st,hs⟩:=gu T (aM hp)
  have w:=iQ F G hp st hs j
  refine⟨out n p,aM hp,.inl (cZ hp),?_⟩
  have c:Cn (jn n) (rb n h l) (out n p) (en2 n (itr n h l j (beg n h l p))):=by rw[w];exact jJ _
  have blt:(beg n h l p).2<2*n:=by
   unfold beg pick
   dsimp only
   split
   ·exact F.lt p hp
   ·exact G.lt p hp
  have hl:=gx (fun x hx=>F.lt x hx) (fun x hx=>G.lt x hx) (h:=h) (l:=l) blt j
  generalize itr n h l j (beg n h l p)=s at *
  obtain⟨b,q⟩:=s
  dsimp only at t1 t2 hl
  unfold en2 at c
  cases b
  ·simp only[Bool.false_eq_true,if_false]at c
   have:q<n:=by
    apply Classical.byContradiction
    intro z
    rw[decide_eq_true (by lia)]at t1
    cases t1
   rw[Nat.mod_eq_of_lt this]at t2
   subst t2
   have:=Cn.sa c
   rw[gz hm]at this
   exact this
  ·rw[if_pos rfl]at c
   have:n<=q:=of_decide_eq_true t1.symm
   rw[Nat.mod_eq_sub_mod this,Nat.mod_eq_of_lt (by lia)]at t2
   rw[show n+m=q by lia]
   exact c
 ·rintro⟨s,h1,h2,h3⟩
  have h2:jn n s=s:=h2.resolve_right (cH F G h1)
  obtain⟨p,hp,rfl⟩:=uY h1 h2
  obtain⟨k,hk,st,hs⟩:=gu T (aM hp)
  obtain⟨k1,k2⟩:=jX T (aM hp) st hs (fun y hy=>cH F G hy) (cZ hp)
  obtain⟨i,hi,e⟩:=m3 T (aM hp) st hs (.inl (cZ hp)) h3
  have na:=fk hm
  have i0:i≠0:=fun z=>by
   subst z
   have:=cZ hp
   rw[show out n p=n+m from e,na]at this
   lia
  have ik:i≠k:=fun z=>by
   subst z
   rw[e,na]at k2
   lia
  have blt:(beg n h l p).2<2*n:=by
   unfold beg pick
   dsimp only
   split
   ·exact F.lt p hp
   ·exact G.lt p hp
  by_cases c:i%2=1
  ·obtain⟨j,rfl⟩:∃ j,i=2*j+1:=⟨i / 2,by lia⟩
   have w:=iQ F G hp st hs j
   rw[if_pos hi,e]at w
   have hl:=gx (fun x hx=>F.lt x hx) (fun x hx=>G.lt x hx) (h:=h) (l:=l) blt j
   refine⟨p,hp,j,by lia,?_⟩
   unfold Tr
   generalize itr n h l j (beg n h l p)=s at *
   obtain⟨b,q⟩:=s
   unfold en2 at w
   dsimp only at w hl ⊢
   cases b
   ·rw[if_neg (by decide)]at w;lia
   ·rw[if_pos rfl]at w
    subst w
    exact⟨(decide_eq_true (by lia)).symm,by rw[Nat.mod_eq_sub_mod (by lia),Nat.mod_eq_of_lt (by lia)];lia⟩
  ·obtain⟨j,rfl⟩:∃ j,i=2*j+1+1:=⟨i / 2-1,by lia⟩
   have w:=iQ F G hp st hs j
   rw[fV (by lia)]at e
   have e':wk (jn n) (rb n h l) (out n p) (2*j+1)=2*n+m:=by
    have:=congrArg (jn n) e
    rw[T.ai _ (gI T (aM hp) _),na]at this
    exact this
   rw[if_pos (by lia),e']at w
   have hl:=gx (fun x hx=>F.lt x hx) (fun x hx=>G.lt x hx) (h:=h) (l:=l) blt j
   refine⟨p,hp,j,by lia,?_⟩
   unfold Tr
   generalize itr n h l j (beg n h l p)=s at *
   obtain⟨b,q⟩:=s
   unfold en2 at w
   dsimp only at w hl ⊢
   cases b
   ·rw[if_neg (by decide)]at w
    have:q=m:=by lia
    subst this
    exact⟨(decide_eq_false (by lia)).symm,Nat.mod_eq_of_lt hm⟩
   ·rw[if_pos rfl]at w;lia
theorem fh(F:Frm n h)(G:Frm n l){x:Nat}(hx:x<4*n)(np:¬ Pth (4*n) (jn n) (rb n h l) x):∃ m,m<n/\(x=n+m\/x=2*n+m)/\¬ Pth (4*n) (jn n) (rb n h l) (n+m):=by
 have no:jn n x≠x:=fun e=>np ⟨x,hx,.inl e,.refl⟩
 by_cases c:x<2*n
 ·have:n<=x:=by
   apply Classical.byContradiction
   intro z
   exact no (by unfold jn;rw[if_pos (by lia)])
  exact⟨x-n,by omega,.inl (by lia),by rw[show n+(x-n)=x by lia];exact np⟩
 ·have:x<3*n:=by
   apply Classical.byContradiction
   intro z
   exact no (by unfold jn;rw[if_neg (by lia),if_neg (by lia),if_neg (by lia)])
  refine⟨x-2*n,by omega,.inr (by lia),fun z=>np (z.step ?_)⟩
  have:=fk (n:=n) (m:=x-2*n) (by omega)
  rw[show 2*n+(x-2*n)=x by lia]at this
  exact l6 this
theorem pD(F:Frm n h)(G:Frm n l){m:Nat}(hm:m<n)(np:¬ Pth (4*n) (jn n) (rb n h l) (n+m)):at' l m<n/\¬ Pth (4*n) (jn n) (rb n h l) (n+at' l m)/\Cn (jn n) (rb n h l) (n+m) (n+at' l m):=by
 have T:=two F G
 have hl:=G.lt m (by lia)
 have e:rb n h l (2*n+m)=2*n+at' l m:=by unfold rb;rw[if_neg (by lia),show 2*n+m-2*n=m by lia]
 have c:Cn (jn n) (rb n h l) (n+m) (2*n+at' l m):=(l6 (fk hm)).trans (ke e)
 have np':¬ Pth (4*n) (jn n) (rb n h l) (2*n+at' l m):=fun z=>np (z.step (c.symm T (by lia)))
 obtain⟨j,hj,e1 | e1,e2⟩:=fh F G (by lia) np'
 ·lia
 ·have:at' l m=j:=by lia
  rw[this]
  refine⟨hj,e2,?_⟩
  rw[this]at c
  have:=Cn.sa c
  rw[gz hj]at this
  exact this
theorem oa(F:Frm n h)(G:Frm n l){m:Nat}(hm:m<n)(np:¬ Pth (4*n) (jn n) (rb n h l) (n+m)):∃ j,j<n/\at' h (n+m)=n+j/\¬ Pth (4*n) (jn n) (rb n h l) (n+j)/\Cn (jn n) (rb n h l) (n+m) (n+j):=by
 have T:=two F G
 have hl:=F.lt (n+m) (by lia)
 have e:rb n h l (n+m)=at' h (n+m):=by unfold rb;rw[if_pos (by lia)]
 have c:Cn (jn n) (rb n h l) (n+m) (at' h (n+m)):=ke e
 have np':¬ Pth (4*n) (jn n) (rb n h l) (at' h (n+m)):=fun z=>np (z.step (c.symm T (by lia)))
 obtain⟨j,hj,e1 | e1,e2⟩:=fh F G (by lia) np'
 ·exact⟨j,hj,e1,e2,by rw[<-e1];exact c⟩
 ·lia
theorem xZ(F:Frm n h)(G:Frm n l){inner:List Nat}(hin:∀ m,m∈inner↔m<n/\¬ Pth (4*n) (jn n) (rb n h l) (n+m)){f:Nat->Int}
 (f1:∀ x∈inner,∀ y∈inner,f x=f y->Cn (jn n) (rb n h l) (n+x) (n+y))(f2:∀ m∈inner,f (at' l m)=f m)(f3:∀ m∈inner,∀ j,at' h (n+m)=n+j->f j=f m) :
  ∃ S,bc (4*n) (jn n) (rb n h l) S/\(gX (inner.map f)).length=S.length:=by
 have T:=two F G
 have f4:∀ x∈inner,∀ z,Cn (jn n) (rb n h l) (n+x) z->∃ m∈inner,(z=n+m\/z=2*n+m)/\f m=f x:=by
  intro x hx z c
  induction c with
  | refl=>exact⟨x,hx,.inl rfl,rfl⟩
  |sa _ ih=>
   obtain⟨m,hm,e | e,ef⟩:=ih
   ·exact⟨m,hm,.inr (by rw[e,fk ((hin m).mp hm).1]),ef⟩
   ·exact⟨m,hm,.inl (by rw[e,gz ((hin m).mp hm).1]),ef⟩
  |sb _ ih=>
   obtain⟨m,hm,e | e,ef⟩:=ih
   ·have mn:=((hin m).mp hm).1
    obtain⟨j,h1,h2,h3,_⟩:=oa F G ((hin m).mp hm).1 ((hin m).mp hm).2
    exact⟨j,(hin j).mpr ⟨h1,h3⟩,.inl (by rw[e];unfold rb;rw[if_pos (by lia),h2]),by rw[f3 m hm j h2,ef]⟩
   ·obtain⟨h1,h2,_⟩:=pD F G ((hin m).mp hm).1 ((hin m).mp hm).2
    exact⟨at' l m,(hin _).mpr ⟨h1,h2⟩,.inr (by rw[e];unfold rb;rw[if_neg (by lia),show 2*n+m-2*n=m by lia]),by rw[f2 m hm,ef]⟩
 have jr:∀ xs:List Nat,∃ R:List Nat,(∀ r∈R,r∈xs)/\R.map f=gX (xs.map f)/\(R.Pairwise fun r t=>f r≠f t)/\∀ x∈xs,∃ r∈R,f r=f x:=by
  intro xs
  suffices H:∀ (ys:List Nat) (R:List Nat) (done:List Nat),(∀ r∈R,r∈done)->(R.Pairwise fun r t=>f r≠f t)->(∀ x∈done,∃ r∈R,f r=f x)->∃ R':List Nat,(∀ r∈R',r∈done++ys)/\R'.map f=(ys.map f).foldl (fun m k=>if m.any (· == k)then m else m++[k]) (R.map f)/\(R'.Pairwise fun r t=>f r≠f t)/\∀ x∈done++ys,∃ r∈R',f r=f x by
   obtain⟨R,h1,h2,h3,h4⟩:=H xs [] [] (by simp) .nil (by simp)
   exact⟨R,by simpa using h1,h2,h3,by simpa using h4⟩
  intro ys
  induction ys with
  | nil=>intro R done h1 h2 h3;exact⟨R,by simpa using h1,rfl,h2,by simpa using h3⟩
  |cons y ys ih=>
   intro R done h1 h2 h3
   by_cases c:(R.map f).any (· == f y)=true
   ·obtain⟨R',g1,g2,g3,g4⟩:=ih R (done++[y]) (fun r hr=>by simp[h1 r hr]) h2 (fun x hx=>by
     rcases List.mem_append.mp hx with hx | hx
     ·exact h3 x hx
     ·have:x=y:=by simpa using hx
      subst this
      simpa using c)
    exact⟨R',by simpa using g1,by rw[List.map_cons,List.foldl_cons,if_pos c];exact g2,g3,by simpa using g4⟩
   ·obtain⟨R',g1,g2,g3,g4⟩:=ih (R++[y]) (done++[y]) (fun r hr=>by
     rcases List.mem_append.mp hr with hr | hr
     ·simp[h1 r hr]
     ·simp at hr;simp[hr]) (by
     rw[List.pairwise_append]
     refine⟨h2,by simp,fun r hr t ht e=>c ?_⟩
     have:t=y:=by simpa using ht
     subst this
     simpa using⟨r,hr,e⟩) (fun x hx=>by
     rcases List.mem_append.mp hx with hx | hx
     ·obtain⟨r,a1,a2⟩:=h3 x hx
      exact⟨r,by simp[a1],a2⟩
     ·have:x=y:=by simpa using hx
      subst this
      exact⟨x,by simp,rfl⟩)
    exact⟨R',by simpa using g1,by rw[List.map_cons,List.foldl_cons,if_neg c];simpa using g2,g3,by simpa using g4⟩
 obtain⟨R,r1,r2,r3,r4⟩:=jr inner
 refine⟨R.map fun m=>n+m,⟨fun s hs=>?_,?_,fun s hs y hy=>?_,fun x hx=>?_⟩,by rw[<-r2];simp⟩
 ·obtain⟨m,hm,rfl⟩:=List.mem_map.mp hs
  have:=((hin m).mp (r1 m hm)).1
  lia
 ·rw[List.pairwise_map]
  refine List.Pairwise.imp_of_mem ?_ r3
  intro a b ha hb ne c
  obtain⟨m,hm,e | e,ef⟩:=f4 a (r1 a ha) _ c
  ·have:m=b:=by lia
   subst this
   exact ne ef.symm
  ·have:=((hin m).mp hm).1
   have:=((hin b).mp (r1 b hb)).1
   lia
 ·obtain⟨m,hm,rfl⟩:=List.mem_map.mp hs
  obtain⟨j,hj,e,_⟩:=f4 m (r1 m hm) y hy
  have jn':=((hin j).mp hj).1
  refine⟨?_,cH F G (by rcases e with rfl | rfl<;>lia)⟩
  rcases e with rfl | rfl
  ·rw[fk jn'];lia
  ·rw[gz jn'];lia
 ·by_cases np:Pth (4*n) (jn n) (rb n h l) x
  ·exact .inl np
  ·obtain⟨m,hm,e,nm⟩:=fh F G hx np
   have mi:=(hin m).mpr ⟨hm,nm⟩
   obtain⟨r,hr,er⟩:=r4 m mi
   refine .inr ⟨n+r,List.mem_map.mpr ⟨r,hr,rfl⟩,?_⟩
   have c:=f1 r (r1 r hr) m mi er
   rcases e with rfl | rfl
   ·exact c
   ·exact c.trans (l6 (fk hm))
end
section
variable{cl:Cl}{n:Nat}{h l inner:List Nat}
noncomputable def HF(inner:List Nat)(hk:List Ky)(hv:List D)(f:Nat->Int):Prop:=hk.length=hv.length/\hk.length<=10/\∀ m∈inner,aH hk hv (.inl (m:Int))=some (.int (f m))
theorem HF.hi{hk:List Ky}{hv:List D}{f:Nat->Int}(H:HF inner hk hv f):HI inner hk hv:=⟨H.1,H.2.1,fun m hm=>⟨f m,H.2.2 m hm⟩⟩
theorem HF.put{hk:List Ky}{hv:List D}{f:Nat->Int}(H:HF inner hk hv f){m:Nat}(hm:m∈inner)(v:Int):HF inner (putD hk hv (.inl (m:Int)) (.int v)).1 (putD hk hv (.inl (m:Int)) (.int v)).2 (fun x=>if x=m then v else f x):=by
 obtain⟨p1,p2,_⟩:=H.hi.put hm v
 refine⟨p1,p2,fun x hx=>?_⟩
 rw[fb H.1]
 dsimp only
 by_cases c:x=m
 ·subst c;rw[if_pos rfl,if_pos rfl]
 ·rw[if_neg (fun e=>c (by injection e with e;lia)),if_neg c]
  exact H.2.2 x hx
theorem v8{hk:List Ky}{hv:List D}(hl:hk.length<=10)(x:Nat)(d:D):dA (.dK hk hv) (.int (x:Nat)) d=some (.dK (putD hk hv (.inl (x:Int)) d).1 (putD hk hv (.inl (x:Int)) d).2):=by
 dsimp only[dA,keyOf]
 rw[Option.bind_some,if_pos (by unfold most;lia)]
theorem pH{hk:List Ky}{hv:List D}{f:Nat->Int}(H:HF inner hk hv f)(o5 o6 o7:Option D)(keep go:Int):∃ hk' hv' o7',HF inner hk' hv' (fun x=>if f x=go then keep else f x)/\aZ (ak cl [4] d6) [7] (L inner) (rst n h l inner hk hv o5 o6 o7 (some (.int keep)) (some (.int go)))=some (.nx,rst n h l inner hk' hv' o5 o6 o7' (some (.int keep)) (some (.int go))):=by
 obtain⟨σ',e,hk',hv',o7',g,rfl,H',hg⟩:=da (f:=ak cl [4] d6) (tg:=[7]) (xs:=inner) (σ:=rst n h l inner hk hv o5 o6 o7 (some (.int keep)) (some (.int go)))
  (fun p σ=>∃ (hk':List Ky) (hv':List D) (o7':Option D) (g:Nat->Int),σ=rst n h l inner hk' hv' o5 o6 o7' (some (.int keep)) (some (.int go))/\HF inner hk' hv' g/\∀ x,g x=if x∈p then(if f x=go then keep else f x)else f x) ⟨hk,hv,o7,f,rfl,H,fun x=>by simp⟩ (by
   rintro p x q σ hx ⟨hk',hv',o7',g,rfl,H',hg⟩
   have hm:x∈inner:=by rw[hx];simp
   have lk:=jW (H'.2.2 x hm)
   show ∃ σ2,ak cl [4] d6 (rst n h l inner hk' hv' o5 o6 (some (.int (x:Nat))) (some (.int keep)) (some (.int go)))=some (.nx,σ2)/\_
   by_cases c:g x=go
   ·refine⟨rst n h l inner (putD hk' hv' (.inl (x:Int)) (.int keep)).1 (putD hk' hv' (.inl (x:Int)) (.int keep)).2 o5 o6 (some (.int (x:Nat))) (some (.int keep)) (some (.int go)),xq (cQ (bQ (iN (af rfl) (af rfl) lk) (af rfl) (by rw[mz];congr 1;simp[c]))) (vJ (af rfl) (af rfl) rfl rfl (v8 H'.2.1 x _) c8) c8,_,_,_,_,rfl,H'.put hm keep,fun y=>?_⟩
    by_cases e:y=x
    ·subst e
     rw[if_pos rfl,if_pos (by simp)]
     rw[hg]at c
     split at c
     ·split
      ·rfl
      ·rename_i z1 z2
       rw[if_neg z2]at c
       exact absurd c z2
     ·rw[if_pos c]
    ·rw[if_neg e,hg y]
     simp[e]
   ·refine⟨rst n h l inner hk' hv' o5 o6 (some (.int (x:Nat))) (some (.int keep)) (some (.int go)),dN (cQ (bQ (iN (af rfl) (af rfl) lk) (af rfl) (by rw[mz];congr 1;simp[c]))) c8,_,_,_,_,rfl,H',fun y=>?_⟩
    by_cases e:y=x
    ·subst e
     rw[if_pos (by simp)]
     rw[hg]at c ⊢
     split at c
     ·rename_i z;rw[if_pos z]
     ·rename_i z;rw[if_neg z,if_neg c]
    ·rw[hg y]
     simp[e])
 refine⟨hk',hv',o7',⟨H'.1,H'.2.1,fun m hm=>?_⟩,e⟩
 rw[H'.2.2 m hm,hg m,if_pos hm]
noncomputable def Tog(n:Nat)(h l inner:List Nat)(f:Nat->Int):Prop:=∀ x∈inner,∀ y∈inner,f x=f y->Cn (jn n) (rb n h l) (n+x) (n+y)
noncomputable def mg(f:Nat->Int)(m o x:Nat):Int:=if f x=f o then f m else f x
theorem l9{f:Nat->Int}{m o a b:Nat}(e:f a=f b):mg f m o a=mg f m o b:=by unfold mg;rw[e]
theorem zR{f:Nat->Int}{m o:Nat}:mg f m o o=mg f m o m:=by
 unfold mg
 rw[if_pos rfl]
 split<;>rfl
theorem Tog.merge(F:Frm n h)(G:Frm n l){f:Nat->Int}(t:Tog n h l inner f)(hlt:∀ m∈inner,m<n){m o:Nat}(hm:m∈inner)(ho:o∈inner)(c:Cn (jn n) (rb n h l) (n+m) (n+o)):Tog n h l inner (mg f m o):=by
 have T:=two F G
 intro x hx y hy e
 have lx:=hlt x hx
 have ly:=hlt y hy
 have lm:=hlt m hm
 have lo:=hlt o ho
 unfold mg at e
 split at e
 ·rename_i e1
  split at e
  ·rename_i e2
   exact t x hx y hy (e1.trans e2.symm)
  ·exact(t x hx o ho e1).trans ((c.symm T (by lia)).trans (t m hm y hy e))
 ·split at e
  ·rename_i e2
   exact(t x hx m hm e).trans (c.trans (t o ho y hy e2.symm))
  ·exact t x hx y hy e
theorem tK(h1:1<=n)(hn:n<=10)(F:Frm n h)(G:Frm n l)(hil:inner.length<=n)(hin:∀ m,m∈inner↔m<n/\¬ Pth (4*n) (jn n) (rb n h l) (n+m)):∃ S:List Nat,bc (4*n) (jn n) (rb n h l) S/\evF cl dI [.tup (L h),.tup (L l),.lst (L inner)]=some (.int (S.length:Nat)):=by
 have e6:=half (xs:=L h) (n:=n) (by rw[bD,F.len])
 obtain⟨σ1,l1,hk,hv,o5,rfl,H0,H1,H2⟩:=da (f:=ak cl [4] gN) (tg:=[5]) (xs:=inner) (σ:=rst n h l inner [] [] none none none none none)
  (fun p σ=>∃ hk hv o5,σ=rst n h l inner hk hv o5 none none none none/\hk.length=hv.length/\hk.length<=p.length/\∀ m∈p,aH hk hv (.inl (m:Int))=some (.int (m:Nat))) ⟨[],[],none,rfl,rfl,by simp,by simp⟩ (by
   rintro p x q σ hx ⟨hk,hv,o5,rfl,H0,H1,H2⟩
   have hp:p.length<10:=by
    have:=congrArg List.length hx
    simp at this
    lia
   have pl:=gc (x:=(.inl (x:Int):Ky)) (d:=.int (x:Nat)) H0
   refine⟨rst n h l inner (putD hk hv (.inl (x:Int)) (.int (x:Nat))).1 (putD hk hv (.inl (x:Int)) (.int (x:Nat))).2 (some (.int (x:Nat))) none none none none,vJ (cl:=cl) (M:=[4]) (σ:=rst n h l inner hk hv (some (.int (x:Nat))) none none none none) (r:=.nil) (af rfl) (af rfl) rfl rfl (v8 (by lia) x _) c8,_,_,_,rfl,pl.1,by have:=pl.2;simp;lia,fun m hm=>?_⟩
   rw[fb H0]
   by_cases e:(.inl (x:Int):Ky)=.inl (m:Int)
   ·rw[if_pos e]
    injection e with e
    have:x=m:=by lia
    rw[this]
   ·rw[if_neg e]
    simp at hm
    rcases hm with hm | hm
    ·exact H2 m hm
    ·exact absurd (by rw[hm]) e)
 have H:HF inner hk hv (fun m=>(m:Int)):=⟨H0,by lia,H2⟩
 obtain⟨σ2,l2',hk',hv',o5',o6',o7',o8',o9',f,rfl,H',t,pr⟩:=da (f:=ak cl [4] gK) (tg:=[5]) (xs:=inner) (σ:=rst n h l inner hk hv o5 none none none none)
  (fun p σ=>∃ (hk:List Ky) (hv:List D) (o5 o6 o7 o8 o9:Option D) (f:Nat->Int),σ=rst n h l inner hk hv o5 o6 o7 o8 o9/\HF inner hk hv f/\Tog n h l inner f/\∀ m∈p,f (at' l m)=f m/\∀ j,at' h (n+m)=n+j->f j=f m) ⟨hk,hv,o5,none,none,none,none,_,rfl,H,fun x _ y _ e=>by
   have e:(x:Int)=(y:Int):=e
   have:x=y:=by lia
   subst this
   exact .refl,by simp⟩ (by
   rintro p x q σ hx ⟨hk',hv',o5',o6',o7',o8',o9',f,rfl,H',t,pr⟩
   have hm:x∈inner:=by rw[hx];simp
   have hsub:∀ m∈p,m∈inner:=fun m hm=>by rw[hx];simp[hm]
   have hlt:∀ m∈inner,m<n:=fun m hm=>((hin m).mp hm).1
   have xn:=hlt x hm
   obtain⟨ln,lp,lc⟩:=pD F G xn ((hin x).mp hm).2
   obtain⟨j,jn',hjj,jp,jc⟩:=oa F G xn ((hin x).mp hm).2
   have li:=(hin _).mpr ⟨ln,lp⟩
   have ji:=(hin _).mpr ⟨jn',jp⟩
   obtain⟨hk2,hv2,o72,H2,e2⟩:=pH (cl:=cl) (n:=n) (h:=h) (l:=l) H' (some (.int (x:Nat))) (some (.int (at' l x:Nat))) o7' (f x) (f (at' l x))
   have t2:=t.merge F G hlt hm li lc
   have H2:HF inner hk2 hv2 (mg f x (at' l x)):=H2
   obtain⟨hk3,hv3,o73,H3,e3⟩:=pH (cl:=cl) (n:=n) (h:=h) (l:=l) H2 (some (.int (x:Nat))) (some (.int (j:Nat))) o72 (mg f x (at' l x) x) (mg f x (at' l x) j)
   have H3:HF inner hk3 hv3 (mg (mg f x (at' l x)) x j):=H3
   have t3:=t2.merge F G hlt hm ji jc
   have s1:ak cl [4] eP (rst n h l inner hk' hv' (some (.int (x:Nat))) (some (.int (at' l x:Nat))) o7' o8' o9')=some (.nx,rst n h l inner hk2 hv2 (some (.int (x:Nat))) (some (.int (at' l x:Nat))) o72 (some (.int (f x))) (some (.int (f (at' l x))))) :=
    qa (iN (af rfl) (af rfl) (jW (H'.2.2 x hm))) (iN (af rfl) (af rfl) (jW (H'.2.2 _ li))) rfl (eQ (fq (af rfl) rfl) e2 c8)
   have s2:ak cl [4] eP (rst n h l inner hk2 hv2 (some (.int (x:Nat))) (some (.int (j:Nat))) o72 (some (.int (f x))) (some (.int (f (at' l x)))))=some (.nx,rst n h l inner hk3 hv3 (some (.int (x:Nat))) (some (.int (j:Nat))) o73 (some (.int (mg f x (at' l x) x))) (some (.int (mg f x (at' l x) j)))) :=
    qa (iN (af rfl) (af rfl) (jW (H2.2.2 x hm))) (iN (af rfl) (af rfl) (jW (H2.2.2 _ ji))) rfl (eQ (fq (af rfl) rfl) e3 c8)
   have i1:=iu (f:=l) (x:=x) (by rw[G.len];lia)
   have i2:=iu (f:=h) (x:=n+x) (by rw[F.len];lia)
   rw[hjj]at i2
   refine⟨rst n h l inner hk3 hv3 (some (.int (x:Nat))) (some (.int (j:Nat))) o73 (some (.int (mg f x (at' l x) x))) (some (.int (mg f x (at' l x) j))),eQ (cl:=cl) (M:=[4]) (σ:=rst n h l inner hk' hv' (some (.int (x:Nat))) o6' o7' o8' o9') (fq (x:=.tup [.int (at' l x:Nat),.int (j:Nat)]) (zB (aP (pN (af rfl) (af rfl) i1) (aP (aE (pN (af rfl) (aE (af rfl) (af rfl) (by rw[bT];rfl)) i2) (af rfl) (by rw[eU];congr 2;lia)) cF))) rfl) ?_ c8,_,_,_,_,_,_,_,_,rfl,H3,t3,fun m hm'=>?_⟩
   ·exact mO rfl rfl s1 (mO rfl rfl s2 wY)
   ·rcases List.mem_append.mp hm' with hp | hp
    ·obtain⟨q1,q2⟩:=pr m hp
     exact⟨l9 (l9 q1),fun j' hj'=>l9 (l9 (q2 j' hj'))⟩
    ·have:m=x:=by simpa using hp
     subst this
     refine⟨l9 zR,fun j' hj'=>?_⟩
     have:j'=j:=by lia
     subst this
     exact zR)
 obtain⟨S,R,hS⟩:=xZ F G hin t (fun m hm=>(pr m hm).1) (fun m hm=>(pr m hm).2)
 refine⟨S,R,?_⟩
 have mc:=Bx (cl:=cl) (σ:=rst n h l inner hk' hv' o5' o6' o7' o8' o9') (e:=.ixD (.var 4) (.var 5)) (i:=5) (g:=fun m=>.int (f m)) (fun _=>rfl) inner (fun x hx=>iN (af rfl) (af rfl) (jW (H'.2.2 x hx)))
 have ls:biV .lenSet (.lst (inner.map fun m=>.int (f m)))=some (.int (S.length:Nat)):=by
  dsimp only[biV]
  rw[if_pos (by simp;lia),ints_map,<-hS]
  rfl
 exact cb rfl rfl (bI (aE (e8 (af rfl) e6) aC (B4 n)) rfl (qf (d:=.dK [] []) (by rw[ev]) rfl (eQ (fq (af rfl) rfl) l1 (eQ (fq (af rfl) rfl) l2' (cY (e8 (mL (fq (af rfl) rfl) (by rw[bD];unfold most;lia) mc) ls) rfl)))))
end
section
variable{T:List Fn}{nu pc pa nb un if' cf po rp ir mv rn mk rg jb pu c2 hu:Nat}
end
section
variable{T:List Fn}{mx rw dg pl hk ci ft tx rg hu ov fr:Nat}
end
section
variable{n:Nat}{f:List Nat}
theorem kU{p:Nat}(hp:p<2*n):Cn (jn n) (rb n (ay n) f) (out n p) (2*n+p):=by
 unfold out
 split
 ·rename_i c
  have e:rb n (ay n) f p=n+p:=by unfold rb;rw[if_pos (by lia),plain_at,if_pos c]
  exact(ke e).trans (l6 (fk c))
 ·rw[Nat.add_comm];exact .refl
theorem k8{p:Nat}(hp:p<2*n):Cn (jn n) (rb n f (ay n)) (out n p) p:=by
 unfold out
 split
 ·exact .refl
 ·rename_i c
  have e:rb n f (ay n) (p+2*n)=2*n+(p-n):=by unfold rb;rw[if_neg (by lia),show p+2*n-2*n=p by lia,plain_at,if_neg c,if_pos hp]
  have:=gz (n:=n) (m:=p-n) (by lia)
  rw[show n+(p-n)=p by lia]at this
  exact(ke e).trans (l6 this)
theorem mH(F:Frm n f):aB n (ay n) f=f:=by
 have T:=two (bC n) F
 refine iq bW F.len fun p hp=>?_
 have hl:=F.lt p hp
 refine(found_iff (bC n) F hp hl (Ne.symm (F.no p hp))).mpr ?_
 have e:rb n (ay n) f (2*n+p)=2*n+at' f p:=by unfold rb;rw[if_neg (by lia),show 2*n+p-2*n=p by lia]
 exact(kU hp).trans ((ke e).trans ((kU hl).symm T (aM hl)))
theorem mY(F:Frm n f):aB n f (ay n)=f:=by
 have T:=two F (bC n)
 refine iq bW F.len fun p hp=>?_
 have hl:=F.lt p hp
 refine(found_iff F (bC n) hp hl (Ne.symm (F.no p hp))).mpr ?_
 have e:rb n f (ay n) p=at' f p:=by unfold rb;rw[if_pos hp]
 exact(k8 hp).trans ((ke e).trans ((k8 hl).symm T (aM hl)))
theorem m6(F:Frm n f):bc (4*n) (jn n) (rb n (ay n) f) []:=by
 refine⟨by simp,.nil,by simp,fun x hx=>.inl ?_⟩
 apply Classical.byContradiction
 intro np
 obtain⟨m,hm,_,nm⟩:=fh (bC n) F hx np
 refine nm ⟨out n m,aM (by lia),.inl (cZ (by lia)),?_⟩
 have:=Cn.sa (kU (n:=n) (f:=f) (p:=m) (by lia))
 rw[gz hm]at this
 exact this
theorem mM(F:Frm n f):bc (4*n) (jn n) (rb n f (ay n)) []:=by
 refine⟨by simp,.nil,by simp,fun x hx=>.inl ?_⟩
 apply Classical.byContradiction
 intro np
 obtain⟨m,hm,_,nm⟩:=fh F (bC n) hx np
 exact nm ⟨out n (n+m),aM (by lia),.inl (cZ (by lia)),k8 (by lia)⟩
end
theorem qw{xs:List Nat}{b:Nat->Nat}(nd:xs.Nodup)(cl:∀ x∈xs,b x∈xs)(bi:∀ x∈xs,b (b x)=x)(no:∀ x∈xs,b x≠x):xs.length%2=0:=by
 have h1:(xs.filter fun x=>decide (x<b x)).length<=(xs.filter fun x=>decide (b x<x)).length:=by
  have:(xs.filter fun x=>decide (x<b x)).length=((xs.filter fun x=>decide (x<b x)).map b).length:=by simp
  rw[this]
  refine cP ?_ fun y hy=>?_
  ·rw[List.nodup_iff_pairwise_ne,List.pairwise_map]
   refine List.Pairwise.imp_of_mem ?_ (List.nodup_iff_pairwise_ne.mp (nd.filter _))
   intro x y hx hy hne e
   rw[List.mem_filter]at hx hy
   exact hne (by rw[<-bi x hx.1,e,bi y hy.1])
  ·obtain⟨x,hx,rfl⟩:=List.mem_map.mp hy
   rw[List.mem_filter,decide_eq_true_eq]at hx ⊢
   exact⟨cl x hx.1,by rw[bi x hx.1];exact hx.2⟩
 have h2:(xs.filter fun x=>decide (b x<x)).length<=(xs.filter fun x=>decide (x<b x)).length:=by
  have:(xs.filter fun x=>decide (b x<x)).length=((xs.filter fun x=>decide (b x<x)).map b).length:=by simp
  rw[this]
  refine cP ?_ fun y hy=>?_
  ·rw[List.nodup_iff_pairwise_ne,List.pairwise_map]
   refine List.Pairwise.imp_of_mem ?_ (List.nodup_iff_pairwise_ne.mp (nd.filter _))
   intro x y hx hy hne e
   rw[List.mem_filter]at hx hy
   exact hne (by rw[<-bi x hx.1,e,bi y hy.1])
  ·obtain⟨x,hx,rfl⟩:=List.mem_map.mp hy
   rw[List.mem_filter,decide_eq_true_eq]at hx ⊢
   exact⟨cl x hx.1,by rw[bi x hx.1];exact hx.2⟩
 have h3:∀ ys:List Nat,(∀ x∈ys,b x≠x)->ys.length=(ys.filter fun x=>decide (x<b x)).length+(ys.filter fun x=>decide (b x<x)).length:=by
  intro ys
  induction ys with
  | nil=>intro _;rfl
  |cons y ys ih=>
   intro h
   have i:=ih fun x hx=>h x (List.mem_cons_of_mem _ hx)
   have hy:=h y List.mem_cons_self
   rw[List.filter_cons,List.filter_cons]
   by_cases c:y<b y
   ·rw[if_pos (decide_eq_true c),if_neg (by rw[decide_eq_true_eq];lia)]
    simp only[List.length_cons]
    lia
   ·rw[if_neg (by rw[decide_eq_true_eq];exact c),if_pos (decide_eq_true (by lia))]
    simp only[List.length_cons]
    lia
 have:=h3 xs no
 lia
section
variable{n:Nat}{h l:List Nat}
noncomputable def rp(n x:Nat):Nat:=if x<2*n then rd n x else 2*n+rd n (x-2*n)
noncomputable def phi(n:Nat)(Q:List Nat)(x:Nat):Nat:=(Q.filter fun y=>decide (y<2*n↔x<2*n)&&decide (rp n y<rp n x)).length
theorem fz(Q:List Nat)(P R:Nat->Bool):(Q.filter P).length=(Q.filter fun y=>P y&&R y).length+(Q.filter fun y=>P y && !R y).length:=by
 induction Q with
 | nil=>rfl
 |cons y Q ih=>
  rw[List.filter_cons,List.filter_cons,List.filter_cons]
  cases P y<;>cases R y<;>simp[ih]<;>lia
theorem bG{Q:List Nat}{P R:Nat->Bool}(e:∀ y∈Q,P y=R y):(Q.filter P).length=(Q.filter R).length:=by rw[List.filter_congr e]
theorem lA{x y:Nat}(hx:x<4*n)(hy:y<4*n)(e:rp n x=rp n y):x=y:=by
 unfold rp at e
 have:∀ q,q<2*n->rd n q<2*n:=fun q hq=>cO hq
 split at e<;>split at e
 ·exact vN (by lia) (by lia) e
 ·have:=this x (by lia);lia
 ·have:=this y (by lia);lia
 ·have:=vN (n:=n) (p:=x-2*n) (q:=y-2*n) (by omega) (by omega) (by lia)
  omega
theorem x4(V:Val n h)(W:Val n l){x y:Nat}(hx:x<4*n)(hy:y<4*n):¬ (rp n x<rp n y/\rp n y<rp n (rb n h l x)/\rp n (rb n h l x)<rp n (rb n h l y)):=by
 have F:=V.frm
 have G:=W.frm
 have T:=two F G
 rintro⟨h1,h2,h3⟩
 have r2:∀ q,q<2*n->rd n q<2*n:=fun q hq=>cO hq
 by_cases cx:x<2*n
 ·have ex:rb n h l x=at' h x:=by unfold rb;rw[if_pos cx]
  have lx:=F.lt x cx
  by_cases cy:y<2*n
  ·have ey:rb n h l y=at' h y:=by unfold rb;rw[if_pos cy]
   have ly:=F.lt y cy
   rw[ex]at h2 h3
   rw[ey]at h3
   unfold rp at h1 h2 h3
   rw[if_pos cx,if_pos cy]at h1
   rw[if_pos cy,if_pos lx]at h2
   rw[if_pos lx,if_pos ly]at h3
   refine V.nox (rd n x) (rd n y) (cO cx) (cO cy) ?_
   unfold rnd
   rw[dW cx,dW cy]
   exact⟨h1,h2,h3⟩
  ·rw[ex]at h2
   unfold rp at h2
   rw[if_neg cy,if_pos lx]at h2
   have:=r2 _ lx
   lia
 ·have ex:rb n h l x=2*n+at' l (x-2*n):=by unfold rb;rw[if_neg cx]
  have lx:=G.lt (x-2*n) (by omega)
  by_cases cy:y<2*n
  ·unfold rp at h1
   rw[if_neg cx,if_pos cy]at h1
   have:=r2 _ cy
   lia
  ·have ey:rb n h l y=2*n+at' l (y-2*n):=by unfold rb;rw[if_neg cy]
   have ly:=G.lt (y-2*n) (by omega)
   rw[ex]at h2 h3
   rw[ey]at h3
   unfold rp at h1 h2 h3
   rw[if_neg cx,if_neg cy]at h1
   rw[if_neg cy,if_neg (by lia),Nat.add_sub_cancel_left]at h2
   rw[if_neg (by lia),if_neg (by lia),Nat.add_sub_cancel_left,Nat.add_sub_cancel_left]at h3
   refine W.nox (rd n (x-2*n)) (rd n (y-2*n)) (cO (by omega)) (cO (by omega)) ?_
   unfold rnd
   rw[dW (by omega),dW (by omega)]
   exact⟨by lia,by lia,by lia⟩
structure Cls(n:Nat)(h l Q:List Nat):Prop where
 nd:Q.Nodup
 lt:∀ y∈Q,y<4*n
 b:∀ y∈Q,rb n h l y∈Q
 a:∀ y∈Q,jn n y∈Q
theorem mr(F:Frm n h)(G:Frm n l){x:Nat}(hx:x<4*n):rb n h l x<2*n↔x<2*n:=by
 unfold rb
 split
 ·rename_i c
  have:=F.lt x c
  lia
 ·lia
theorem EL(V:Val n h)(W:Val n l){Q:List Nat}(C:Cls n h l Q){x:Nat}(hx:x<4*n)(hq:x∉Q):phi n Q (rb n h l x)%2=phi n Q x%2:=by
 have F:=V.frm
 have G:=W.frm
 have T:=two F G
 have key:∀ x,x<4*n->x∉Q->rp n x<rp n (rb n h l x)->phi n Q (rb n h l x)%2=phi n Q x%2:=by
  intro x hx hq lt
  have bl:=T.bl x hx
  have bq:rb n h l x∉Q:=fun z=>hq (by have:=C.b _ z;rw[T.bi x hx]at this;exact this)
  have sd:=mr F G (h:=h) (l:=l) hx
  have e:phi n Q (rb n h l x)=phi n Q x+(Q.filter fun y=>decide (y<2*n↔x<2*n)&&(decide (rp n x<rp n y)&&decide (rp n y<rp n (rb n h l x)))).length:=by
   unfold phi
   rw[fz Q (fun y=>decide (y<2*n↔rb n h l x<2*n)&&decide (rp n y<rp n (rb n h l x))) (fun y=>decide (rp n y<rp n x))]
   congr 1
   ·refine bG fun y hy=>?_
    rw[Bool.eq_iff_iff]
    simp only[Bool.and_eq_true,decide_eq_true_eq]
    rw[sd]
    lia
   ·refine bG fun y hy=>?_
    have ne:rp n y≠rp n x:=fun e=>hq (lA (C.lt y hy) hx e▸hy)
    rw[Bool.eq_iff_iff]
    simp only[Bool.and_eq_true,decide_eq_true_eq,Bool.not_eq_true',decide_eq_false_iff_not]
    rw[sd]
    lia
  have ev:=qw (b:=rb n h l) (xs:=Q.filter fun y=>decide (y<2*n↔x<2*n)&&(decide (rp n x<rp n y)&&decide (rp n y<rp n (rb n h l x)))) (C.nd.filter _) (fun y hy=>by
   simp only[List.mem_filter,Bool.and_eq_true,decide_eq_true_eq]at hy ⊢
   obtain⟨y1,y2,y3,y4⟩:=hy
   have ly:=C.lt y y1
   have lb:=T.bl y ly
   refine⟨C.b y y1,by rw[mr F G ly];exact y2,?_⟩
   have n1:=x4 V W hx ly
   have n2:=x4 V W lb hx
   rw[T.bi y ly]at n2
   have ne1:rp n (rb n h l y)≠rp n x:=fun e=>hq (lA lb hx e▸C.b y y1)
   have ne2:rp n (rb n h l y)≠rp n (rb n h l x):=fun e=>bq (lA lb bl e▸C.b y y1)
   lia) (fun y hy=>by
   simp only[List.mem_filter]at hy
   exact T.bi y (C.lt y hy.1)) (fun y hy=>by
   simp only[List.mem_filter]at hy
   exact cH F G (C.lt y hy.1))
  lia
 by_cases c:rp n x<rp n (rb n h l x)
 ·exact key x hx hq c
 ·have bl:=T.bl x hx
  have bq:rb n h l x∉Q:=fun z=>hq (by have:=C.b _ z;rw[T.bi x hx]at this;exact this)
  have ne:rp n (rb n h l x)≠rp n x:=fun e=>cH F G hx (lA bl hx e)
  have:=key (rb n h l x) bl bq (by rw[T.bi x hx];lia)
  rw[T.bi x hx]at this
  exact this.symm
theorem tw(F:Frm n h)(G:Frm n l){Q:List Nat}(C:Cls n h l Q):(Q.filter fun y=>decide (y<2*n)).length%2=0:=by
 have T:=two F G
 refine qw (b:=rb n h l) (C.nd.filter _) (fun y hy=>?_) (fun y hy=>?_) (fun y hy=>?_)
 ·simp only[List.mem_filter,decide_eq_true_eq]at hy ⊢
  exact⟨C.b y hy.1,(mr F G (C.lt y hy.1)).mpr hy.2⟩
 ·simp only[List.mem_filter]at hy
  exact T.bi y (C.lt y hy.1)
 ·simp only[List.mem_filter]at hy
  exact cH F G (C.lt y hy.1)
set_option synthInstance.maxSize 10000 in
set_option synthInstance.maxHeartbeats 0 in
theorem hG:∀ n,n<11->∀ m,m<n->∀ y,y<4*n->(decide (y<2*n↔2*n+m<2*n)&&decide (rp n y<rp n (2*n+m)))=decide (2*n<=y/\y<2*n+m) /\
  (y≠n+m->(decide (y<2*n) && !decide (rp n y<rp n (n+m)))=decide (n<=y/\y<n+m))/\(decide (y<2*n↔n+m<2*n)&&decide (rp n y<rp n (n+m)))=(decide (y<2*n)&&decide (rp n y<rp n (n+m))) /\
  (2*n<=y->y<2*n+m->n<=jn n y/\jn n y<n+m)/\(n<=y->y<n+m->2*n<=jn n y/\jn n y<2*n+m):=by decide +kernel
theorem si(hn:n<11)(F:Frm n h)(G:Frm n l){Q:List Nat}(C:Cls n h l Q){m:Nat}(hm:m<n)(hq:n+m∉Q):phi n Q (2*n+m)%2=phi n Q (n+m)%2:=by
 have T:=two F G
 have swap:(Q.filter fun y=>decide (2*n<=y/\y<2*n+m)).length=(Q.filter fun y=>decide (n<=y/\y<n+m)).length:=by
  have go:∀ (P R:Nat->Bool),(∀ y,y<4*n->P y=true->R (jn n y)=true)->(Q.filter P).length<=(Q.filter R).length:=fun P R hPR=>by
   have:(Q.filter P).length=((Q.filter P).map (jn n)).length:=by simp
   rw[this]
   refine cP ?_ fun y hy=>?_
   ·rw[List.nodup_iff_pairwise_ne,List.pairwise_map]
    refine List.Pairwise.imp_of_mem ?_ (List.nodup_iff_pairwise_ne.mp (C.nd.filter _))
    intro x y hx hy hne e
    rw[List.mem_filter]at hx hy
    exact hne (by rw[<-T.ai x (C.lt x hx.1),e,T.ai y (C.lt y hy.1)])
   ·obtain⟨x,hx,rfl⟩:=List.mem_map.mp hy
    rw[List.mem_filter]at hx ⊢
    exact⟨C.a x hx.1,hPR x (C.lt x hx.1) hx.2⟩
  refine Nat.le_antisymm (go _ _ fun y hy e=>?_) (go _ _ fun y hy e=>?_)
  ·rw[decide_eq_true_eq]at e ⊢
   exact(hG n hn m hm y hy).2.2.2.1 e.1 e.2
  ·rw[decide_eq_true_eq]at e ⊢
   exact(hG n hn m hm y hy).2.2.2.2 e.1 e.2
 have e1:phi n Q (2*n+m)=(Q.filter fun y=>decide (2*n<=y/\y<2*n+m)).length:=bG fun y hy=>(hG n hn m hm y (C.lt y hy)).1
 have e2:phi n Q (n+m)+(Q.filter fun y=>decide (n<=y/\y<n+m)).length=(Q.filter fun y=>decide (y<2*n)).length:=by
  rw[fz Q (fun y=>decide (y<2*n)) (fun y=>decide (rp n y<rp n (n+m)))]
  congr 1
  ·exact bG fun y hy=>(hG n hn m hm y (C.lt y hy)).2.2.1
  ·exact(bG fun y hy=>(hG n hn m hm y (C.lt y hy)).2.1 fun e=>hq (e▸hy)).symm
 have e3:=tw F G C
 lia
theorem Di(hn:n<11)(V:Val n h)(W:Val n l){Q:List Nat}(C:Cls n h l Q){x z:Nat}(hx:x<4*n)(hq:x∉Q)(c:Cn (jn n) (rb n h l) x z):z∉Q/\phi n Q z%2=phi n Q x%2:=by
 have F:=V.frm
 have G:=W.frm
 have T:=two F G
 induction c with
 | refl=>exact⟨hq,rfl⟩
 |@sa y hy ih=>
  obtain⟨i1,i2⟩:=ih
  have ly:=hy.lt T hx
  have nq:jn n y∉Q:=fun z=>i1 (by have:=C.a _ z;rw[T.ai y ly]at this;exact this)
  refine⟨nq,?_⟩
  rw[<-i2]
  by_cases c1:y<n
  ·have:jn n y=y:=by unfold jn;rw[if_pos c1]
   rw[this]
  ·by_cases c2:y<2*n
   ·have e:y=n+(y-n):=by lia
    have:jn n y=2*n+(y-n):=by rw[e,fk (by lia)];lia
    rw[this]
    have:=si hn F G C (m:=y-n) (by lia) (by rw[<-e];exact i1)
    rw[<-e]at this
    exact this
   ·by_cases c3:y<3*n
    ·have e:y=2*n+(y-2*n):=by lia
     have ej:jn n y=n+(y-2*n):=by rw[e,gz (by lia)];lia
     have:=si hn F G C (m:=y-2*n) (by lia) (by rw[<-ej];exact nq)
     rw[<-e,<-ej]at this
     exact this.symm
    ·have:jn n y=y:=by unfold jn;rw[if_neg c1,if_neg c2,if_neg c3]
     rw[this]
 |@sb y hy ih=>
  obtain⟨i1,i2⟩:=ih
  have ly:=hy.lt T hx
  exact⟨fun z=>i1 (by have:=C.b _ z;rw[T.bi y ly]at this;exact this),by rw[EL V W C ly i1,i2]⟩
end
section
variable{n:Nat}{h l:List Nat}
theorem AR{Q:List Nat}(nd:Q.Nodup){P:Nat->Bool}{u v:Nat}(hu:u∈Q)(hv:v∈Q)(ne:u≠v)(only:∀ y∈Q,P y=true->y=u\/y=v):(Q.filter P).length=([u,v].filter P).length:=by
 have nz:[u,v].Nodup:=by simp[ne]
 refine Nat.le_antisymm (cP (nd.filter _) fun y hy=>?_) (cP (nz.filter _) fun y hy=>?_)
 ·rw[List.mem_filter]at hy ⊢
  exact⟨by rcases only y hy.1 hy.2 with e | e<;>simp[e],hy.2⟩
 ·rw[List.mem_filter]at hy ⊢
  refine⟨?_,hy.2⟩
  have:=hy.1
  simp only[List.mem_cons,List.not_mem_nil,or_false]at this
  rcases this with rfl | rfl<;>assumption
noncomputable def psi(n p y:Nat):Bool:=(decide (y<n)&&decide (y<rd n p)) || (decide (3*n<=y)&&decide (rd n (y-2*n)<rd n p))
set_option synthInstance.maxSize 10000 in
set_option synthInstance.maxHeartbeats 0 in
theorem sf:∀ n,n<11->∀ p,p<2*n->∀ y,y<4*n->(p<n->(decide (y<2*n↔p<2*n)&&decide (rp n y<rp n p))=psi n p y) /\
  (¬ p<n->(decide (y<2*n↔p+2*n<2*n)&&decide (rp n y<rp n (p+2*n))&&decide (y<3*n))=decide (2*n<=y/\y<3*n) /\
   (decide (y<2*n↔p+2*n<2*n)&&decide (rp n y<rp n (p+2*n)) && !decide (y<3*n))=(decide (3*n<=y)&&decide (rd n (y-2*n)<rd n p)) /\
   (psi n p y&&decide (y<n))=decide (y<n)/\(psi n p y && !decide (y<n))=(decide (3*n<=y)&&decide (rd n (y-2*n)<rd n p))) /\
  (decide (y<2*n)&&decide (y<n))=decide (y<n)/\(decide (y<2*n) && !decide (y<n))=decide (n<=y/\y<2*n) /\
  (2*n<=y->y<3*n->n<=jn n y/\jn n y<2*n)/\(n<=y->y<2*n->2*n<=jn n y/\jn n y<3*n)/\(psi n p y=true->jn n y=y):=by decide +kernel
theorem sW(hn:n<11)(F:Frm n h)(G:Frm n l){Q:List Nat}(C:Cls n h l Q){p:Nat}(hp:p<2*n):phi n Q (out n p)%2=(Q.filter (psi n p)).length%2:=by
 have T:=two F G
 have fin:=fun y (hy:y∈Q)=>sf n hn p hp y (C.lt y hy)
 by_cases c:p<n
 ·have eo:out n p=p:=by unfold out;rw[if_pos c]
  rw[eo]
  congr 1
  exact bG fun y hy=>(fin y hy).1 c
 ·have eo:out n p=p+2*n:=by unfold out;rw[if_neg c]
  rw[eo]
  have go:∀ (P R:Nat->Bool),(∀ y,y∈Q->P y=true->R (jn n y)=true)->(Q.filter P).length<=(Q.filter R).length:=fun P R hPR=>by
   have:(Q.filter P).length=((Q.filter P).map (jn n)).length:=by simp
   rw[this]
   refine cP ?_ fun y hy=>?_
   ·rw[List.nodup_iff_pairwise_ne,List.pairwise_map]
    refine List.Pairwise.imp_of_mem ?_ (List.nodup_iff_pairwise_ne.mp (C.nd.filter _))
    intro x y hx hy hne e
    rw[List.mem_filter]at hx hy
    exact hne (by rw[<-T.ai x (C.lt x hx.1),e,T.ai y (C.lt y hy.1)])
   ·obtain⟨x,hx,rfl⟩:=List.mem_map.mp hy
    rw[List.mem_filter]at hx ⊢
    exact⟨C.a x hx.1,hPR x hx.1 hx.2⟩
  have swap:(Q.filter fun y=>decide (2*n<=y/\y<3*n)).length=(Q.filter fun y=>decide (n<=y/\y<2*n)).length:=by
   refine Nat.le_antisymm (go _ _ fun y hy e=>?_) (go _ _ fun y hy e=>?_)
   ·rw[decide_eq_true_eq]at e ⊢
    exact(fin y hy).2.2.2.2.1 e.1 e.2
   ·rw[decide_eq_true_eq]at e ⊢
    exact(fin y hy).2.2.2.2.2.1 e.1 e.2
  have e1:phi n Q (p+2*n)=(Q.filter fun y=>decide (2*n<=y/\y<3*n)).length+(Q.filter fun y=>decide (3*n<=y)&&decide (rd n (y-2*n)<rd n p)).length:=by
   unfold phi
   rw[fz Q (fun y=>decide (y<2*n↔p+2*n<2*n)&&decide (rp n y<rp n (p+2*n))) (fun y=>decide (y<3*n)),bG fun y hy=>((fin y hy).2.1 c).1,bG fun y hy=>((fin y hy).2.1 c).2.1]
  have e2:(Q.filter (psi n p)).length=(Q.filter fun y=>decide (y<n)).length+(Q.filter fun y=>decide (3*n<=y)&&decide (rd n (y-2*n)<rd n p)).length:=by
   rw[fz Q (psi n p) (fun y=>decide (y<n)),bG fun y hy=>((fin y hy).2.1 c).2.2.1,bG fun y hy=>((fin y hy).2.1 c).2.2.2]
  have e3:(Q.filter fun y=>decide (y<2*n)).length=(Q.filter fun y=>decide (y<n)).length+(Q.filter fun y=>decide (n<=y/\y<2*n)).length:=by
   rw[fz Q (fun y=>decide (y<2*n)) (fun y=>decide (y<n)),bG fun y hy=>(fin y hy).2.2.1,bG fun y hy=>(fin y hy).2.2.2.1]
  have e4:=tw F G C
  rw[e1,e2,swap]
  rw[e3]at e4
  clear e1 e2 e3 swap go fin
  lia
theorem Dk(F:Frm n h)(G:Frm n l){s:Nat}(hs:s<2*n):∃ Q,Cls n h l Q/\∀ y,y∈Q↔Cn (jn n) (rb n h l) (out n s) y:=by
 have T:=two F G
 obtain⟨k,hk,st,hn⟩:=gu T (aM hs)
 have mem:∀ y,y∈wks (jn n) (rb n h l) (out n s) k↔Cn (jn n) (rb n h l) (out n s) y:=fun y=>by
  rw[AJ]
  exact⟨fun⟨i,_,e⟩=>e▸jJ i,fun c=>m3 T (aM hs) st hn (.inl (cZ hs)) c⟩
 refine⟨_,⟨?_,fun y hy=>((mem y).mp hy).lt T (aM hs),fun y hy=>(mem _).mpr (.sb ((mem y).mp hy)),fun y hy=>(mem _).mpr (.sa ((mem y).mp hy))⟩,mem⟩
 unfold wks
 rw[List.nodup_iff_pairwise_ne,List.pairwise_map]
 refine List.Pairwise.imp_of_mem ?_ (List.pairwise_lt_range (n:=k+1))
 intro i j hi hj hlt
 exact jH T (aM hs) hn hlt (by have:=List.mem_range.mp hj;lia)
theorem ka{p q:Nat}(hp:p<2*n)(hq:q<2*n):psi n p (out n q)=decide (rd n q<rd n p):=by
 rw[Bool.eq_iff_iff]
 unfold psi out
 simp only[Bool.and_eq_true,Bool.or_eq_true,decide_eq_true_eq]
 split
 ·rename_i c
  have:rd n q=q:=by unfold rd;rw[if_pos c]
  rw[this]
  lia
 ·rename_i c
  rw[show q+2*n-2*n=q by lia]
  lia
theorem fC(hn:n<=10)(V:Val n h)(W:Val n l):Val n (aB n h l):=by
 have F:=V.frm
 have G:=W.frm
 have T:=two F G
 have FF:=cB F G
 refine⟨FF,fun q q' hq hq' hc=>?_⟩
 obtain⟨c1,c2,c3⟩:=hc
 have p1:=cO hq
 have s1:=cO hq'
 unfold rnd at c2 c3
 have ep:rd n (rd n q)=q:=dW hq
 have es:rd n (rd n q')=q':=dW hq'
 generalize rd n q=p at *
 generalize rd n q'=s at *
 have lp:=FF.lt p p1
 have ls:=FF.lt s s1
 obtain⟨Q,C,mem⟩:=Dk F G s1
 have su:out n s∈Q:=(mem _).mpr .refl
 have sv:out n (at' (aB n h l) s)∈Q:=(mem _).mpr ((found_iff F G s1 ls (Ne.symm (FF.no s s1))).mp rfl)
 have suv:out n s≠out n (at' (aB n h l) s):=fun e=>FF.no s s1 (m5 e s1 ls).symm
 have only:∀ t,t<2*n->out n t∈Q->t=s\/t=at' (aB n h l) s:=fun t ht hm=>by
  by_cases c:s=t
  ·exact .inl c.symm
  ·exact .inr ((found_iff F G s1 ht c).mpr ((mem _).mp hm)).symm
 have pq:out n p∉Q:=fun z=>by
  rcases only p p1 z with e | e
  ·subst e;lia
  ·subst e;lia
 have pc:=(found_iff F G p1 lp (Ne.symm (FF.no p p1))).mp rfl
 obtain⟨_,ph⟩:=Di (by lia) V W C (aM p1) pq pc
 rw[sW (by lia) F G C lp,sW (by lia) F G C p1]at ph
 have cnt2:∀ t,t<2*n->(Q.filter (psi n t)).length=([out n s,out n (at' (aB n h l) s)].filter (psi n t)).length:=fun t ht=>by
  refine AR C.nd su sv suv fun y hy e=>?_
  have ly:=C.lt y hy
  have:jn n y=y:=(sf n (by lia) t ht y ly).2.2.2.2.2.2 e
  obtain⟨u,hu,rfl⟩:=uY ly this
  rcases only u hu hy with e | e
  ·exact .inl (by rw[e])
  ·exact .inr (by rw[e])
 rw[cnt2 p p1,cnt2 _ lp,List.filter_cons,List.filter_cons,List.filter_cons,List.filter_cons,ka lp s1,ka lp ls,ka p1 s1,ka p1 ls]at ph
 rw[if_pos (by rw[decide_eq_true_eq];lia),if_neg (by rw[decide_eq_true_eq];lia),if_neg (by rw[decide_eq_true_eq];lia),if_neg (by rw[decide_eq_true_eq];lia)]at ph
 simp at ph
end
section
variable{T:List Fn}{mx rw dg pl hk ci ft tx rg hu ov fr:Nat}
end
structure Fld(M:Nat)(a a' b:Nat->Nat)(N:Nat)(c f o:Nat->Nat):Prop where
 T:Two M a b
 T':Two M a' b
 T2:Two N c f
 ol:∀ p,p<N->o p<M
 oi:∀ p q,p<N->q<N->o p=o q->p=q
 fx:∀ x,x<M->a x=x->∃ p,p<N/\x=o p
 fo:∀ p,p<N->a (o p)=o p
 jo:∀ p,p<N->a' (o p)=o (c p)
 jj:∀ x,x<M->a x≠x->a' x=a x
 ff:∀ p q,p<N->q<N->p≠q->(f p=q↔Cn a b (o p) (o q))
 nb:∀ x,x<M->b x≠x
 nf:∀ p,p<N->f p≠p
section
variable{M N:Nat}{a a' b c f o:Nat->Nat}
theorem Fld.up(D:Fld M a a' b N c f o){x y:Nat}(hx:x<M)(h:Cn a b x y):Cn a' b x y:=by
 induction h with
 | refl=>exact .refl
 |@sa y hy ih=>
  by_cases e:a y=y
  ·rw[e];exact ih
  ·rw[<-D.jj y (hy.lt D.T hx) e];exact .sa ih
 | @sb y hy ih=>exact .sb ih
theorem Fld.to(D:Fld M a a' b N c f o){p q:Nat}(hp:p<N)(h:Cn c f p q):Cn a' b (o p) (o q):=by
 induction h with
 | refl=>exact .refl
 | @sa y hy ih=>rw[<-D.jo y (hy.lt D.T2 hp)];exact .sa ih
 |@sb y hy ih=>
  have ly:=hy.lt D.T2 hp
  exact ih.trans (D.up (D.ol y ly) ((D.ff y _ ly (D.T2.bl y ly) (Ne.symm (D.nf y ly))).mp rfl))
theorem Fld.one(D:Fld M a a' b N c f o){p q t:Nat}(hq:q<N)(ht:t<N)(h2:Cn c f p q)(h3:Cn a b (o q) (o t)):Cn c f p t:=by
 by_cases z:q=t
 ·rw[<-z];exact h2
 ·have:=(D.ff q t hq ht z).mpr h3
  rw[<-this];exact .sb h2
theorem Fld.back(D:Fld M a a' b N c f o){p y:Nat}(hp:p<N)(h:Cn a' b (o p) y):∃ q,q<N/\Cn c f p q/\Cn a b (o q) y:=by
 induction h with
 | refl=>exact⟨p,hp,.refl,.refl⟩
 |@sa y hy ih=>
  obtain⟨q,h1,h2,h3⟩:=ih
  have ly:=h3.lt D.T (D.ol q h1)
  by_cases e:a y=y
  ·obtain⟨t,ht,rfl⟩:=D.fx y ly e
   exact⟨c t,D.T2.al t ht,.sa (D.one h1 ht h2 h3),by rw[D.jo t ht];exact .refl⟩
  ·exact⟨q,h1,h2,by rw[D.jj y ly e];exact .sa h3⟩
 |@sb y hy ih=>
  obtain⟨q,h1,h2,h3⟩:=ih
  exact⟨q,h1,h2,.sb h3⟩
theorem Fld.iff(D:Fld M a a' b N c f o){p q:Nat}(hp:p<N)(hq:q<N):Cn c f p q↔Cn a' b (o p) (o q) :=
 ⟨D.to hp,fun h=>by
  obtain⟨t,h1,h2,h3⟩:=D.back hp h
  exact D.one h1 hq h2 h3⟩
theorem Fld.ring(D:Fld M a a' b N c f o){x y:Nat}(hx:x<M)(np:¬ Pth M a b x)(h:Cn a' b x y):Cn a b x y:=by
 induction h with
 | refl=>exact .refl
 |@sa y hy ih=>
  have ly:=ih.lt D.T hx
  rw[D.jj y ly fun e=>np ⟨y,ly,.inl e,ih.symm D.T hx⟩]
  exact .sa ih
 | @sb y hy ih=>exact .sb ih
theorem Fld.rings(D:Fld M a a' b N c f o){S C:List Nat}(R:bc M a b S)(R':bc N c f C):bc M a' b (S++C.map o):=by
 have np:∀ s∈S,¬ Pth M a b s:=fun s hs ⟨q,h1,h2,h3⟩=>by
  have:=R.ring s hs q (h3.symm D.T h1)
  rcases h2 with h2 | h2
  ·exact this.1 h2
  ·exact this.2 h2
 refine⟨fun s hs=>?_,?_,fun s hs y h=>?_,fun x hx=>?_⟩
 ·rcases List.mem_append.mp hs with hs | hs
  ·exact R.lt s hs
  ·obtain⟨p,hp,rfl⟩:=List.mem_map.mp hs
   exact D.ol p (R'.lt p hp)
 ·rw[List.pairwise_append,List.pairwise_map]
  refine⟨List.Pairwise.imp_of_mem (fun {s t} hs ht hn h=>hn (D.ring (R.lt s hs) (np s hs) h)) R.nd,List.Pairwise.imp_of_mem (fun {p q} hp hq hn h=>hn ((D.iff (R'.lt p hp) (R'.lt q hq)).mpr h)) R'.nd,fun s hs t ht h=>?_⟩
  obtain⟨p,hp,rfl⟩:=List.mem_map.mp ht
  have lp:=R'.lt p hp
  exact np s hs ⟨o p,D.ol p lp,.inl (D.fo p lp),(D.ring (R.lt s hs) (np s hs) h).symm D.T (R.lt s hs)⟩
 ·rcases List.mem_append.mp hs with hs | hs
  ·have c1:=D.ring (R.lt s hs) (np s hs) h
   have g:=R.ring s hs y c1
   exact⟨by rw[D.jj y (c1.lt D.T (R.lt s hs)) g.1];exact g.1,g.2⟩
  ·obtain⟨p,hp,rfl⟩:=List.mem_map.mp hs
   obtain⟨q,h1,h2,h3⟩:=D.back (R'.lt p hp) h
   have ly:=h3.lt D.T (D.ol q h1)
   refine⟨fun e=>?_,D.nb y ly⟩
   by_cases z:a y=y
   ·obtain⟨t,ht,rfl⟩:=D.fx y ly z
    rw[D.jo t ht]at e
    exact(R'.ring p hp t (D.one h1 ht h2 h3)).1 (D.oi _ _ (D.T2.al t ht) ht e)
   ·exact z ((D.jj y ly z).symm.trans e)
 ·by_cases z:Pth M a b x
  ·obtain⟨s,h1,h2,h3⟩:=z
   have h2:a s=s:=h2.resolve_right (D.nb s h1)
   obtain⟨p,hp,rfl⟩:=D.fx s h1 h2
   have u:=D.up h1 h3
   rcases R'.all p hp with⟨q,g1,g2,g3⟩ | ⟨q,g1,g2⟩
   ·have g2:=g2.resolve_right (D.nf q g1)
    exact .inl ⟨o q,D.ol q g1,.inl (by rw[D.jo q g1,g2]),(D.to g1 g3).trans u⟩
   ·exact .inr ⟨o q,List.mem_append.mpr (.inr (List.mem_map.mpr ⟨q,g1,rfl⟩)),(D.to (R'.lt q g1) g2).trans u⟩
  ·rcases R.all x hx with h | ⟨s,h1,h2⟩
   ·exact absurd h z
   ·exact .inr ⟨s,List.mem_append.mpr (.inl h1),D.up (R.lt s h1) h2⟩
end
theorem gh{m:Nat}{a b:Nat->Nat}(T:Two m a b):∃ S,bc m a b S:=by
 classical
 refine⟨(List.range m).filter fun x=>decide ((∀ y,Cn a b x y->a y≠y/\b y≠y)/\∀ y,Cn a b x y->x<=y),fun s hs=>?_,?_,fun s hs y c=>?_,fun x hx=>?_⟩
 ·exact List.mem_range.mp (List.mem_filter.mp hs).1
 ·refine List.Pairwise.imp_of_mem ?_ (List.pairwise_lt_range.filter _)
  intro x y hx hy lt c
  have hy:=List.mem_filter.mp hy
  have lx:=List.mem_range.mp (List.mem_filter.mp hx).1
  have:=(of_decide_eq_true hy.2).2 x (c.symm T lx)
  lia
 ·exact(of_decide_eq_true (List.mem_filter.mp hs).2).1 y c
 ·by_cases p:Pth m a b x
  ·exact .inl p
  ·refine .inr ?_
   obtain⟨k,_,hk,hm⟩:=least (P:=fun k=>Cn a b x k) x .refl
   have lk:=hk.lt T hx
   refine⟨k,List.mem_filter.mpr ⟨List.mem_range.mpr lk,decide_eq_true ⟨fun y c=>?_,fun y c=>Nat.le_of_not_lt fun z=>hm y z (hk.trans c)⟩⟩,hk.symm T hx⟩
   have cy:=hk.trans c
   have ly:=cy.lt T hx
   exact⟨fun e=>p ⟨y,ly,.inl e,cy.symm T hx⟩,fun e=>p ⟨y,ly,.inr e,cy.symm T hx⟩⟩
section
variable{m m':Nat}{a b a' b':Nat->Nat}
theorem Cn.map{t:Nat->Nat}(T:Two m a b)(ha:∀ x,x<m->t (a x)=a' (t x))(hb:∀ x,x<m->t (b x)=b' (t x)){x y:Nat}(hx:x<m)(c:Cn a b x y):Cn a' b' (t x) (t y):=by
 induction c with
 | refl=>exact .refl
 | @sa y hy ih=>rw[ha y (hy.lt T hx)];exact .sa ih
 | @sb y hy ih=>rw[hb y (hy.lt T hx)];exact .sb ih
theorem bc.map{t u:Nat->Nat}(T:Two m a b)(T':Two m a' b')(tl:∀ x,x<m->t x<m)(ul:∀ x,x<m->u x<m)(tu:∀ x,x<m->t (u x)=x)(ut:∀ x,x<m->u (t x)=x)
 (ha:∀ x,x<m->t (a x)=a' (t x))(hb:∀ x,x<m->t (b x)=b' (t x)){S:List Nat}(R:bc m a b S):bc m a' b' (S.map t):=by
 have ha':∀ x,x<m->u (a' x)=a (u x):=fun x hx=>by
  have:=ha (u x) (ul x hx)
  rw[tu x hx]at this
  rw[<-this,ut _ (T.al _ (ul x hx))]
 have hb':∀ x,x<m->u (b' x)=b (u x):=fun x hx=>by
  have:=hb (u x) (ul x hx)
  rw[tu x hx]at this
  rw[<-this,ut _ (T.bl _ (ul x hx))]
 have back:∀ {x y:Nat},x<m->Cn a' b' (t x) y->Cn a b x (u y):=fun {x y} hx c=>by
  have:=c.map T' ha' hb' (tl x hx)
  rw[ut x hx]at this
  exact this
 refine⟨fun s hs=>?_,?_,fun s hs y c=>?_,fun x hx=>?_⟩
 ·obtain⟨x,hx,rfl⟩:=List.mem_map.mp hs
  exact tl x (R.lt x hx)
 ·rw[List.pairwise_map]
  refine List.Pairwise.imp_of_mem ?_ R.nd
  intro x y hx hy hn c
  have:=back (R.lt x hx) c
  rw[ut y (R.lt y hy)]at this
  exact hn this
 ·obtain⟨x,hx,rfl⟩:=List.mem_map.mp hs
  have ly:=c.lt T' (tl x (R.lt x hx))
  have:=R.ring x hx _ (back (R.lt x hx) c)
  refine⟨fun e=>this.1 ?_,fun e=>this.2 ?_⟩
  ·rw[<-ha' y ly,e]
  ·rw[<-hb' y ly,e]
 ·rcases R.all (u x) (ul x hx)with⟨s,h1,h2,h3⟩ | ⟨s,h1,h2⟩
  ·refine .inl ⟨t s,tl s h1,?_,?_⟩
   ·rcases h2 with h2 | h2
    ·exact .inl (by rw[<-ha s h1,h2])
    ·exact .inr (by rw[<-hb s h1,h2])
   ·have:=h3.map T ha hb h1
    rw[tu x hx]at this
    exact this
  ·refine .inr ⟨t s,List.mem_map.mpr ⟨s,h1,rfl⟩,?_⟩
   have:=h2.map T ha hb (R.lt s h1)
   rw[tu x hx]at this
   exact this
end
section
variable{n:Nat}{h l f:List Nat}
end
noncomputable def j3(n x:Nat):Nat:=if x<n then x else if x<2*n then x+n else if x<3*n then x-n else if x<4*n then x+n else if x<5*n then x-n else x
noncomputable def jB(n x:Nat):Nat:=if x<3*n then x else if x<4*n then x+n else if x<5*n then x-n else x
noncomputable def r3(n:Nat)(h m l:List Nat)(x:Nat):Nat:=if x<2*n then at' h x else 2*n+rb n m l (x-2*n)
noncomputable def oB(n p:Nat):Nat:=if p<3*n then p else p+2*n
theorem bc.part{m M:Nat}{a b a' b' t:Nat->Nat}(T':Two m a' b')(tl:∀ x,x<m->t x<M)(ti:∀ x y,x<m->y<m->t x=t y->x=y)(ha:∀ x,x<m->t (a' x)=a (t x))(hb:∀ x,x<m->t (b' x)=b (t x))(rest:∀ z,z<M->(∃ x,x<m/\z=t x)\/a z=z){S:List Nat}(R:bc m a' b' S):bc M a b (S.map t):=by
 have back:∀ {x w:Nat},x<m->Cn a b (t x) w->∃ v,v<m/\w=t v/\Cn a' b' x v:=fun {x w} hx c=>by
  induction c with
  | refl=>exact⟨x,hx,rfl,.refl⟩
  |sa _ ih=>
   obtain⟨v,h1,rfl,h2⟩:=ih
   exact⟨_,T'.al v h1,(ha v h1).symm,.sa h2⟩
  |sb _ ih=>
   obtain⟨v,h1,rfl,h2⟩:=ih
   exact⟨_,T'.bl v h1,(hb v h1).symm,.sb h2⟩
 refine⟨fun s hs=>?_,?_,fun s hs y c=>?_,fun z hz=>?_⟩
 ·obtain⟨x,hx,rfl⟩:=List.mem_map.mp hs
  exact tl x (R.lt x hx)
 ·rw[List.pairwise_map]
  refine List.Pairwise.imp_of_mem (fun {x y} hx hy hn c=>?_) R.nd
  obtain⟨v,h1,h2,h3⟩:=back (R.lt x hx) c
  exact hn (by rw[ti y v (R.lt y hy) h1 h2];exact h3)
 ·obtain⟨x,hx,rfl⟩:=List.mem_map.mp hs
  obtain⟨v,h1,rfl,h3⟩:=back (R.lt x hx) c
  have g:=R.ring x hx v h3
  exact⟨fun e=>g.1 (ti _ _ (T'.al v h1) h1 ((ha v h1).trans e)),fun e=>g.2 (ti _ _ (T'.bl v h1) h1 ((hb v h1).trans e))⟩
 ·rcases rest z hz with⟨x,hx,rfl⟩ | e
  ·rcases R.all x hx with⟨s,h1,h2,h3⟩ | ⟨s,h1,h2⟩
   ·refine .inl ⟨t s,tl s h1,?_,h3.map T' ha hb h1⟩
    rcases h2 with h2 | h2
    ·exact .inl (by rw[<-ha s h1,h2])
    ·exact .inr (by rw[<-hb s h1,h2])
   ·exact .inr ⟨t s,List.mem_map.mpr ⟨s,h1,rfl⟩,h2.map T' ha hb (R.lt s h1)⟩
  ·exact .inl ⟨z,hz,.inl e,.refl⟩
section
variable{n:Nat}{h m l:List Nat}
theorem jS(F:Frm n h){x:Nat}(hx:x<4*n):r3 n h m l x=rb n h m x:=by
 unfold r3 rb
 by_cases c:x<2*n
 ·rw[if_pos c,if_pos c]
 ·rw[if_neg c,if_neg c,if_pos (by omega)]
theorem Fj{x:Nat}(hx:4*n<=x):r3 n h m l x=4*n+at' l (x-4*n):=by
 unfold r3 rb
 rw[if_neg (by lia),if_neg (by lia),show x-2*n-2*n=x-4*n by lia]
 lia
theorem lS{x:Nat}:r3 n h m l (2*n+x)=2*n+rb n m l x:=by
 unfold r3
 rw[if_neg (by lia),show 2*n+x-2*n=x by lia]
theorem jM(F:Frm n h)(G:Frm n m)(H:Frm n l){x:Nat}(hx:x<6*n):r3 n h m l x<6*n/\r3 n h m l (r3 n h m l x)=x/\r3 n h m l x≠x:=by
 by_cases c:x<2*n
 ·have e:r3 n h m l x=at' h x:=by unfold r3;rw[if_pos c]
  have lt:=F.lt x c
  rw[e]
  refine⟨by lia,?_,F.no x c⟩
  unfold r3
  rw[if_pos lt]
  exact F.inv x
 ·obtain⟨y,rfl⟩:∃ y,x=2*n+y:=⟨x-2*n,by omega⟩
  have T:=two G H
  have ly:y<4*n:=by lia
  have lt:=T.bl y ly
  rw[lS]
  refine⟨by lia,by rw[lS,T.bi y ly],?_⟩
  have:=cH G H ly
  lia
theorem oK(F:Frm n h)(G:Frm n m)(H:Frm n l){j:Nat->Nat}(jl:∀ x,x<6*n->j x<6*n)(jj:∀ x,x<6*n->j (j x)=x):Two (6*n) j (r3 n h m l):=⟨jl,fun x hx=>(jM F G H hx).1,jj,fun x hx=>(jM F G H hx).2.1⟩
theorem gM{f g:List Nat}{p:Nat}(hp:p<2*n):rb n f g p=at' f p:=by unfold rb;rw[if_pos hp]
theorem fT{f g:List Nat}{p:Nat}:rb n f g (2*n+p)=2*n+at' g p:=by unfold rb;rw[if_neg (by lia),show 2*n+p-2*n=p by lia]
theorem vV{a b:Nat->Nat}{x y:Nat}(h1:a x=x)(h2:a (b x)=b x)(h3:b (b x)=x)(c:Cn a b x y):y=x\/y=b x:=by
 induction c with
 | refl=>exact .inl rfl
 |sa _ ih=>
  rcases ih with rfl | rfl
  ·exact .inl h1
  ·exact .inr h2
 |sb _ ih=>
  rcases ih with rfl | rfl
  ·exact .inr rfl
  ·exact .inl h3
set_option synthInstance.maxSize 10000 in
set_option synthInstance.maxHeartbeats 0 in
theorem Ac:∀ n,n<11->∀ x,x<6*n->(jn n x<6*n/\jn n (jn n x)=x)/\(j3 n x<6*n/\j3 n (j3 n x)=x)/\(jB n x<6*n/\jB n (jB n x)=x)/\(jn n x=x->x<n\/3*n<=x)/\(jn n x≠x->j3 n x=jn n x)/\(jB n x=x->x<3*n\/5*n<=x)/\(jB n x≠x->j3 n x=jB n x):=by decide +kernel
set_option synthInstance.maxSize 10000 in
set_option synthInstance.maxHeartbeats 0 in
theorem zt:∀ n,n<11->∀ p,p<4*n->(out n p<6*n/\jn n (out n p)=out n p/\j3 n (out n p)=out n (jn n p))/\(oB n p<6*n/\jB n (oB n p)=oB n p/\j3 n (oB n p)=oB n (jn n p)):=by decide +kernel
theorem eO{p:Nat}(c:¬ p<n):out n p=p+2*n:=by unfold out;rw[if_neg c]
theorem gj{p:Nat}(c:p<n):out n p=p:=by unfold out;rw[if_pos c]
theorem gF{p:Nat}(c:p<3*n):oB n p=p:=by unfold oB;rw[if_pos c]
theorem jG{p:Nat}(c:¬ p<3*n):oB n p=p+2*n:=by unfold oB;rw[if_neg c]
theorem tV{p q:Nat}(e:out n p=out n q):p=q:=by
 by_cases c:p<n
 ·rw[gj c]at e
  by_cases d:q<n
  ·rw[gj d]at e;exact e
  ·rw[eO d]at e;lia
 ·rw[eO c]at e
  by_cases d:q<n
  ·rw[gj d]at e;lia
  ·rw[eO d]at e;lia
theorem yz{p q:Nat}(e:oB n p=oB n q):p=q:=by
 by_cases c:p<3*n
 ·rw[gF c]at e
  by_cases d:q<3*n
  ·rw[gF d]at e;exact e
  ·rw[jG d]at e;lia
 ·rw[jG c]at e
  by_cases d:q<3*n
  ·rw[gF d]at e;lia
  ·rw[jG d]at e;lia
theorem vG(hn:n<11)(F:Frm n h)(G:Frm n m)(H:Frm n l):Fld (6*n) (jn n) (j3 n) (r3 n h m l) (4*n) (jn n) (rb n (aB n h m) l) (out n):=by
 have FF:=cB F G
 have f3:=Ac n hn
 have f4:=zt n hn
 have T4:Two (4*n) (jn n) (rb n h m):=two F G
 have T4':Two (4*n) (jn n) (r3 n h m l):=⟨T4.al,fun x hx=>by rw[jS F hx];exact T4.bl x hx,T4.ai,fun x hx=>by rw[jS F hx,jS F (T4.bl x hx)];exact T4.bi x hx⟩
 refine⟨oK F G H (fun x hx=>(f3 x hx).1.1) (fun x hx=>(f3 x hx).1.2),oK F G H (fun x hx=>(f3 x hx).2.1.1) (fun x hx=>(f3 x hx).2.1.2),two FF H,
  fun p hp=>(f4 p hp).1.1,fun p q _ _ e=>tV e,fun x hx e=>?_,fun p hp=>(f4 p hp).1.2.1,fun p hp=>(f4 p hp).1.2.2,fun x hx e=>(f3 x hx).2.2.2.2.1 e,fun p q hp hq ne=>?_,fun x hx=>(jM F G H hx).2.2,fun p hp=>cH FF H hp⟩
 ·rcases(f3 x hx).2.2.2.1 e with c | c
  ·exact⟨x,by lia,(gj c).symm⟩
  ·exact⟨x-2*n,by lia,by rw[eO (by lia)];lia⟩
 ·by_cases c:p<2*n
  ·have lo:=aM c
   rw[gM c]
   constructor
   ·rintro rfl
    have lf:=FF.lt p c
    exact((found_iff F G c lf ne).mp rfl).map T4 (t:=fun x=>x) (fun x hx=>rfl) (fun x hx=>(jS F hx).symm) lo
   ·intro z
    have z:=z.map T4' (t:=fun x=>x) (a':=jn n) (b':=rb n h m) (fun x hx=>rfl) (fun x hx=>jS F hx) lo
    have lz:=z.lt T4 lo
    have lq:q<2*n:=by
     by_cases d:q<n
     ·lia
     ·rw[eO d]at lz;lia
    exact(found_iff F G c lq ne).mpr z
  ·obtain⟨y,rfl⟩:∃ y,p=2*n+y:=⟨p-2*n,by lia⟩
   have ly:y<2*n:=by lia
   have la:=H.lt y ly
   have eo:∀ y,out n (2*n+y)=4*n+y:=fun y=>by rw[eO (by lia)];lia
   have er:∀ y,r3 n h m l (4*n+y)=4*n+at' l y:=fun y=>by rw[Fj (by lia),Nat.add_sub_cancel_left]
   have ej:∀ y,jn n (4*n+y)=4*n+y:=fun y=>by unfold jn;rw[if_neg (by lia),if_neg (by lia),if_neg (by lia)]
   rw[fT,eo]
   constructor
   ·rintro rfl
    rw[eo,<-er]
    exact .sb .refl
   ·intro z
    have e2:=(jM (l:=l) F G H (x:=4*n+y) (by lia)).2.1
    rcases vV (ej y) (by rw[er,ej]) e2 z with w | w
    ·exact absurd (tV ((eo y).trans w.symm)) ne
    ·rw[er,<-eo]at w
     exact tV w.symm
theorem zM(y:Nat):jB n (2*n+y)=2*n+jn n y:=by
 unfold jB jn
 by_cases c:y<n
 ·rw[if_pos c,if_pos (by lia)]
 ·rw[if_neg c,if_neg (by lia)]
  by_cases d:y<2*n
  ·rw[if_pos d,if_pos (by lia)];lia
  ·rw[if_neg d,if_neg (by lia)]
   by_cases e:y<3*n
   ·rw[if_pos e,if_pos (by lia)];lia
   ·rw[if_neg e,if_neg (by lia)]
theorem vq(hn:n<11)(F:Frm n h)(G:Frm n m)(H:Frm n l):Fld (6*n) (jB n) (j3 n) (r3 n h m l) (4*n) (jn n) (rb n h (aB n m l)) (oB n):=by
 have FF:=cB G H
 have f3:=Ac n hn
 have f4:=zt n hn
 have T4:Two (4*n) (jn n) (rb n m l):=two G H
 have eo:∀ y,oB n (2*n+y)=2*n+out n y:=fun y=>by
  by_cases c:y<n
  ·rw[gF (by lia),gj c]
  ·rw[jG (by lia),eO c];lia
 have ej:=zM (n:=n)
 refine⟨oK F G H (fun x hx=>(f3 x hx).2.2.1.1) (fun x hx=>(f3 x hx).2.2.1.2),oK F G H (fun x hx=>(f3 x hx).2.1.1) (fun x hx=>(f3 x hx).2.1.2),two F FF,
  fun p hp=>(f4 p hp).2.1,fun p q _ _ e=>yz e,fun x hx e=>?_,fun p hp=>(f4 p hp).2.2.1,fun p hp=>(f4 p hp).2.2.2,fun x hx e=>(f3 x hx).2.2.2.2.2.2 e,fun p q hp hq ne=>?_,fun x hx=>(jM F G H hx).2.2,fun p hp=>cH F FF hp⟩
 ·rcases(f3 x hx).2.2.2.2.2.1 e with c | c
  ·exact⟨x,by lia,(gF c).symm⟩
  ·exact⟨x-2*n,by lia,by rw[jG (by lia)];lia⟩
 ·by_cases c:p<2*n
  ·have la:=F.lt p c
   have eb:∀ {y:Nat},y<2*n->oB n y=y:=fun {y} hy=>gF (by lia)
   have er:∀ {y:Nat},y<2*n->r3 n h m l y=at' h y:=fun {y} hy=>by unfold r3;rw[if_pos hy]
   have ejj:∀ {y:Nat},y<2*n->jB n y=y:=fun {y} hy=>by unfold jB;rw[if_pos (by lia)]
   rw[gM c,eb c]
   constructor
   ·rintro rfl
    rw[eb la,<-er c]
    exact .sb .refl
   ·intro z
    have e2:=(jM (l:=l) F G H (x:=p) (by lia)).2.1
    rcases vV (ejj c) (by rw[er c,ejj la]) e2 z with w | w
    ·exact absurd (yz ((eb c).trans w.symm)) ne
    ·rw[er c,<-eb la]at w
     exact yz w.symm
  ·obtain⟨y,rfl⟩:∃ y,p=2*n+y:=⟨p-2*n,by lia⟩
   have ly:y<2*n:=by lia
   have lo:=aM ly
   rw[fT,eo]
   constructor
   ·rintro rfl
    have lf:=FF.lt y ly
    rw[eo]
    exact((found_iff G H ly lf (by lia)).mp rfl).map T4 (t:=fun x=>2*n+x) (fun x hx=>(ej x).symm) (fun x hx=>lS.symm) lo
   ·intro z
    have back:∀ {x w:Nat},x<4*n->Cn (jB n) (r3 n h m l) (2*n+x) w->∃ v,w=2*n+v/\Cn (jn n) (rb n m l) x v:=fun {x w} hx cc=>by
     induction cc with
     | refl=>exact⟨x,rfl,.refl⟩
     |sa _ ih=>
      obtain⟨v,rfl,hv⟩:=ih
      exact⟨_,ej v,.sa hv⟩
     |sb _ ih=>
      obtain⟨v,rfl,hv⟩:=ih
      exact⟨_,lS,.sb hv⟩
    obtain⟨v,hv,cv⟩:=back lo z
    obtain⟨u,rfl⟩:∃ u,q=2*n+u:=⟨q-2*n,by
     by_cases d:q<3*n
     ·rw[gF d]at hv;lia
     ·lia⟩
    rw[eo]at hv
    have:v=out n u:=Nat.add_left_cancel hv.symm
    subst this
    rw[(found_iff G H ly (show u<2*n by lia) (by lia)).mpr cv]
theorem rH(hn:n<11)(F:Frm n h)(G:Frm n m)(H:Frm n l):aB n (aB n h m) l=aB n h (aB n m l):=by
 have A:=cB F G
 have B:=cB G H
 have C:=cB A H
 refine iq bW bW fun p hp=>?_
 have lq:=C.lt p hp
 have ne:=Ne.symm (C.no p hp)
 have c1:=((vG hn F G H).iff (aM hp) (aM lq)).mp ((found_iff A H hp lq ne).mp rfl)
 have e:∀ {p:Nat},p<2*n->out n (out n p)=oB n (out n p):=fun {p} hp=>by
  by_cases c:p<n
  ·rw[gj c,gj c,gF (by lia)]
  ·rw[eO c,eO (by lia),jG (by lia)]
 rw[e hp,e lq]at c1
 exact((found_iff F B hp lq ne).mpr (((vq hn F G H).iff (aM hp) (aM lq)).mpr c1)).symm
theorem rD(hn:n<11)(F:Frm n h)(G:Frm n m)(H:Frm n l){S1 S2 S3 S4:List Nat}(R1:bc (4*n) (jn n) (rb n h m) S1)(R2:bc (4*n) (jn n) (rb n (aB n h m) l) S2)(R3:bc (4*n) (jn n) (rb n m l) S3)(R4:bc (4*n) (jn n) (rb n h (aB n m l)) S4):S1.length+S2.length=S3.length+S4.length:=by
 have a1:=R1.part (M:=6*n) (a:=jn n) (b:=r3 n h m l) (t:=fun x=>x) (two F G) (fun x hx=>by lia) (fun _ _ _ _ e=>e) (fun _ _=>rfl) (fun x hx=>(jS F hx).symm) (fun z hz=>by
  by_cases c:z<4*n
  ·exact .inl ⟨z,c,rfl⟩
  ·exact .inr (by unfold jn;rw[if_neg (by lia),if_neg (by lia),if_neg (by lia)]))
 have a3:=R3.part (M:=6*n) (a:=jB n) (b:=r3 n h m l) (t:=fun x=>2*n+x) (two G H) (fun x hx=>by lia) (fun _ _ _ _ e=>by lia) (fun x hx=>(zM x).symm) (fun x hx=>lS.symm) (fun z hz=>by
  by_cases c:z<2*n
  ·exact .inr (by unfold jB;rw[if_pos (by lia)])
  ·exact .inl ⟨z-2*n,by omega,by lia⟩)
 have f1:=vG hn F G H
 have b1:=f1.rings a1 R2
 have b2:=(vq hn F G H).rings a3 R4
 have:=b1.one f1.T' b2
 simpa using this
end
end RM
set_option maxHeartbeats 1000000
namespace RM
open RL RT
section
variable{n:Nat}{f g h l:List Nat}
theorem lM{x:Nat}(c:x<n):stp n h l (true,x)=(true,x):=by
 unfold stp
 rw[if_neg (by simp;exact c)]
theorem wU{x:Nat}(c:¬ x<n):stp n h l (false,x)=(false,x):=by
 unfold stp
 rw[if_neg (by simp;lia)]
theorem Ck{x:Nat}(c:¬ x<n)(d:x<2*n):stp n h l (true,x)=(false,at' l (x-n)):=by
 unfold stp
 rw[if_pos (by simp;lia)]
 show(false,at' l ((x+n)%(2*n)))=_
 rw[show(x+n)%(2*n)=x-n by rw[Nat.mod_eq_sub_mod (by lia),Nat.mod_eq_of_lt (by omega)];lia]
theorem vX{x:Nat}(c:x<n):stp n h l (false,x)=(true,at' h (x+n)):=by
 unfold stp
 rw[if_pos (by simp;exact c)]
 show(true,at' h ((x+n)%(2*n)))=_
 rw[Nat.mod_eq_of_lt (by lia)]
theorem Ek(h1:1<=n)(F:Frm n f)(G:Frm n g)(s:∀ p,p<n->at' f p<n->at' g p=at' f p):aB n (dP n f) g=g:=by
 have q:∀ x,x<n->¬ at' f x<n->(∀ i,(itr n (dP n f) g (i+1) (false,at' g x)).2=at' g x):=by
  intro x hx nx i
  by_cases c:at' g x<n
  ·have k:¬ at' f (at' g x)<n:=fun k=>by
    have:=s _ c k
    rw[G.inv]at this
    have e:=F.inv (at' g x)
    rw[<-this]at e
    lia
   have e:stp n (dP n f) g (false,at' g x)=(true,at' g x):=by
    rw[vX c,pV (by lia),if_neg (by lia),show at' g x+n-n=at' g x by lia,if_neg k]
   rw[m8 e (lM c)]
  ·rw[gp (wU c)]
 apply Ez (n:=n) (by simp[aB]) G.len
 funext p
 by_cases hp:p<2*n
 ·rw[show at' (aB n (dP n f) g) p=(itr n (dP n f) g (4*n) (beg n (dP n f) g p)).2 by simp[aB,at',hp],show 4*n=(4*n-2)+2 by lia]
  by_cases c:p<n
  ·rw[show beg n (dP n f) g p=(true,at' (dP n f) p) by simp[beg,c,pick],pV hp,if_pos c]
   by_cases d:at' f p<n
   ·rw[if_pos d,gp (lM d),s p c d]
   ·rw[if_neg d]
    have e:stp n (dP n f) g (true,p+n)=(false,at' g p):=by rw[Ck (by lia) (by lia),show p+n-n=p by lia]
    have step:∀ i,itr n (dP n f) g (i+1) (true,p+n)=itr n (dP n f) g i (false,at' g p):=fun i=>by
     induction i with
     | zero=>exact e
     | succ i ih=>rw[itr,ih];rfl
    rw[step]
    exact q p c d _
  ·rw[show beg n (dP n f) g p=(false,at' g p) by simp[beg,c,pick]]
   by_cases d:at' g p<n
   ·have k:¬ at' f (at' g p)<n:=fun k=>by
     have:=s _ d k
     rw[G.inv]at this
     lia
    have e:stp n (dP n f) g (false,at' g p)=(true,at' g p):=by
     rw[vX d,pV (by lia),if_neg (by lia),show at' g p+n-n=at' g p by lia,if_neg k]
    rw[m8 e (lM d)]
   ·rw[gp (wU d)]
 ·rw[iz (by simp[aB];lia),iz (by rw[G.len];lia)]
end
end RM
set_option maxHeartbeats 1000000
namespace RT
open RL
end RT
namespace RM
open RL RT
section
variable{T:List Fn}{nu pc pa nb un if' cf po rp ir mv rn mk rg jb pu c2 hu:Nat}
end
end RM
set_option maxHeartbeats 1000000
namespace RM
open RL RT
noncomputable def rgN(n:Nat)(h l:List Nat):Nat:=Classical.epsilon fun r=>∃ S,bc (4*n) (jn n) (rb n h l) S/\S.length=r
section
variable{n:Nat}{h l h' l':List Nat}
theorem eX(F:Frm n h)(G:Frm n l){S:List Nat}(R:bc (4*n) (jn n) (rb n h l) S):rgN n h l=S.length:=by
 have:=Classical.epsilon_spec (p:=fun r=>∃ S,bc (4*n) (jn n) (rb n h l) S/\S.length=r) ⟨_,S,R,rfl⟩
 obtain⟨S',R',e⟩:=this
 exact e.symm.trans (R'.one (two F G) R)
noncomputable def cw(n:Nat)(a b:List Nat × Nat):List Nat × Nat:=(aB n a.1 b.1,rgN n a.1 b.1+a.2+b.2)
theorem tY(hn:n<=10){a b c:List Nat × Nat}(A:Frm n a.1)(B:Frm n b.1)(C:Frm n c.1):cw n (cw n a b) c=cw n a (cw n b c):=by
 have AB:=cB A B
 have BC:=cB B C
 obtain⟨S1,R1⟩:=gh (two A B)
 obtain⟨S2,R2⟩:=gh (two AB C)
 obtain⟨S3,R3⟩:=gh (two B C)
 obtain⟨S4,R4⟩:=gh (two A BC)
 have e:=rD (by lia) A B C R1 R2 R3 R4
 rw[<-eX A B R1,<-eX AB C R2,<-eX B C R3,<-eX A BC R4]at e
 unfold cw
 refine Prod.ext (rH (by lia) A B C) ?_
 dsimp only
 lia
theorem xJ{a:List Nat × Nat}(A:Frm n a.1):cw n a (ay n,0)=a:=by
 unfold cw
 refine Prod.ext (mY A) ?_
 dsimp only
 rw[eX A (bC n) (mM A)]
 simp
theorem kP{a:List Nat × Nat}(A:Frm n a.1):cw n (ay n,0) a=a:=by
 unfold cw
 refine Prod.ext (mH A) ?_
 dsimp only
 rw[eX (bC n) A (m6 A)]
 simp
noncomputable def iM(n:Nat)(a:List Nat × Nat)(fs:List (List Nat)):List Nat × Nat:=fs.foldl (fun a f=>cw n a (f,0)) a
noncomputable def stk(n:Nat)(fs:List (List Nat)):List Nat × Nat:=iM n (ay n,0) fs
theorem xO(hn:n<=10){fs:List (List Nat)}(V:∀ f∈fs,Val n f):∀ {a:List Nat × Nat},Val n a.1->Val n (iM n a fs).1:=by
 induction fs with
 | nil=>exact fun A=>A
 | cons f r ih=>exact fun {a} A=>ih (fun g hg=>V g (by simp[hg])) (a:=cw n a (f,0)) (fC hn A (V f (by simp)))
theorem m9(hn:n<=10){fs:List (List Nat)}(V:∀ f∈fs,Val n f):Val n (stk n fs).1:=xO hn V (j6 n)
theorem zr(hn:n<=10){fs:List (List Nat)}(V:∀ f∈fs,Val n f):∀ {a:List Nat × Nat},Val n a.1->iM n a fs=cw n a (stk n fs):=by
 induction fs with
 | nil=>exact fun A=>(xJ A.frm).symm
 |cons f r ih=>
  intro a A
  have Vf:=V f (by simp)
  have Vr:∀ g∈r,Val n g:=fun g hg=>V g (by simp[hg])
  have i1:=ih Vr (a:=cw n a (f,0)) (fC hn A Vf)
  have i2:=ih Vr (a:=cw n (ay n,0) (f,0)) (fC hn (j6 n) Vf)
  rw[kP (a:=(f,0)) Vf.frm]at i2
  have e1:iM n a (f::r)=iM n (cw n a (f,0)) r:=rfl
  have e2:stk n (f::r)=iM n (cw n (ay n,0) (f,0)) r:=rfl
  rw[e1,i1,e2,kP (a:=(f,0)) Vf.frm,i2,tY hn (b:=(f,0)) A.frm Vf.frm (m9 hn Vr).frm]
theorem zg(hn:n<=10){f:List Nat}{r:List (List Nat)}(Vf:Val n f)(Vr:∀ g∈r,Val n g):stk n (f::r)=cw n (f,0) (stk n r):=by
 have e2:stk n (f::r)=iM n (cw n (ay n,0) (f,0)) r:=rfl
 rw[e2,kP (a:=(f,0)) Vf.frm,zr hn Vr (a:=(f,0)) Vf]
theorem vK{s t s':Nat->Nat}(W:Way n s s')(F:Frm n h)(G:Frm n l)(F':Frm n h')(G':Frm n l')(tl:∀ x,x<4*n->t x<4*n)(tt:∀ x,x<4*n->t (t x)=x)(tj:∀ x,x<4*n->t (jn n x)=jn n (t x))(tb:∀ x,x<4*n->t (rb n h l x)=rb n h' l' (t x))(to:∀ p,p<2*n->t (out n p)=out n (s p)) :
  aB n h' l'=bO n s s' (aB n h l)/\rgN n h' l'=rgN n h l:=by
 have FF:=cB F G
 have T:=two F G
 constructor
 ·refine C4 W bW fun p hp=>?_
  have lq:=FF.lt p hp
  have ne:=Ne.symm (FF.no p hp)
  have c:=((found_iff F G hp lq ne).mp rfl).map T tj tb (aM hp)
  rw[to p hp,to _ lq]at c
  exact(found_iff F' G' (W.lt p hp) (W.lt _ lq) (fun e=>ne ((W.bt p hp).symm.trans ((congrArg s' e).trans (W.bt _ lq))))).mpr c
 ·obtain⟨S,R⟩:=gh T
  have R':=R.map T (two F' G') (t:=t) (u:=t) tl tl tt tt tj tb
  rw[eX F' G' R',eX F G R,List.length_map]
noncomputable def ovT(n x:Nat):Nat:=if x<2*n then 2*n+ovr n x else ovr n (x-2*n)
noncomputable def miT(n x:Nat):Nat:=if x<2*n then mir n x else 2*n+mir n (x-2*n)
set_option synthInstance.maxSize 10000 in
set_option synthInstance.maxHeartbeats 0 in
theorem Fm:∀ n,n<11->∀ x,x<4*n->(ovT n x<4*n/\ovT n (ovT n x)=x/\ovT n (jn n x)=jn n (ovT n x))/\(miT n x<4*n/\miT n (miT n x)=x/\miT n (jn n x)=jn n (miT n x)):=by decide +kernel
theorem Fs:∀ n,n<11->∀ p,p<2*n->ovT n (out n p)=out n (ovr n p)/\miT n (out n p)=out n (mir n p):=by decide +kernel
theorem vd(hn:n<=10)(V:Val n h)(W:Val n l):aB n (bO n (ovr n) (ovr n) l) (bO n (ovr n) (ovr n) h)=bO n (ovr n) (ovr n) (aB n h l)/\rgN n (bO n (ovr n) (ovr n) l) (bO n (ovr n) (ovr n) h)=rgN n h l:=by
 have wo:=fc n
 have oo:∀ {p},p<2*n->ovr n (ovr n p)=p:=fun {p} hp=>wo.bt p hp
 have f:=Fm n (by lia)
 refine vK (t:=ovT n) wo V.frm W.frm (wo.val W).frm (wo.val V).frm (fun x hx=>(f x hx).1.1) (fun x hx=>(f x hx).1.2.1) (fun x hx=>(f x hx).1.2.2) (fun x hx=>?_) (fun p hp=>(Fs n (by lia) p hp).1)
 unfold ovT
 by_cases c:x<2*n
 ·have lx:=V.frm.lt x c
  rw[gM c,if_pos lx,if_pos c,fT,bX (wo.lt x c),oo c]
 ·obtain⟨y,rfl⟩:∃ y,x=2*n+y:=⟨x-2*n,by lia⟩
  have ly:y<2*n:=by lia
  rw[fT,if_neg (by lia),if_neg c,Nat.add_sub_cancel_left,Nat.add_sub_cancel_left,gM (wo.lt y ly),bX (wo.lt y ly),oo ly]
end
end RM
set_option maxHeartbeats 1000000
namespace RT
open RL
end RT
namespace RM
open RL RT
section
variable{cl:Cl}{n:Nat}{f:List Nat}
end
section
variable{T:List Fn}{nu pc pa nb un if' cf po rp ir mv:Nat}
end
section
variable{n:Nat}{f:List Nat}
theorem Ab(F:Frm n f):bO n (ovr n) (ovr n) (bO n (ovr n) (ovr n) f)=f:=by
 rw[AZ (fc n) (fc n)]
 exact BN F (fun p hp=>(fc n).bt p hp) (fun p hp=>(fc n).bt p hp)
theorem ES(F:Frm n f){p:Nat}(hp:p<n):at' (bO n (ovr n) (ovr n) f) p=if at' f (n+p)<n then at' f (n+p)+n else at' f (n+p)-n:=by
 rw[bX (by lia),lE hp,Nat.add_comm p n]
 rfl
end
noncomputable def Has(n:Nat)(a b:List Nat):Prop:=∀ p,p<n->at' a p<n->at' b p=at' a p
section
variable{n:Nat}{a b h l:List Nat}
theorem wN(hp:∀ p,p<n->at' h p<n->p<2*n):Has n h (aB n h l):=fun p c d=>by
 rw[qP (by lia),show beg n h l p=(true,at' h p) by simp[beg,c,pick],gp (lM d)]
end
end RM
set_option maxHeartbeats 1000000
namespace RM
open RL RT
theorem Bt:∀ n,n<11->∀ i,i<n->i+1<n->dP n (au n i)=au n i:=by decide +kernel
theorem yx:∀ n,n<11->∀ i,i<n->i+1<n->bO n (ovr n) (ovr n) (au n i)=au n i:=by decide +kernel
section
variable{n i:Nat}{f:List Nat}
theorem qZ(hi:i+1<n)(F:Frm n f):Has n (au n i) f↔at' f i=i+1:=by
 constructor
 ·intro H
  have e:at' (au n i) i=i+1:=by
   rw[gd hi,if_neg (by omega),if_neg (by omega),if_neg (by omega),if_pos rfl]
  have:=H i (by omega) (by omega)
  omega
 ·intro e p hp c
  rw[gd hi,if_neg (by omega),if_neg (by omega)]at c ⊢
  by_cases c1:p=i+1
  ·rw[if_pos c1,c1,<-e,F.inv]
  ·rw[if_neg c1]at c ⊢
   by_cases c2:p=i
   ·rw[if_pos c2,c2]
    exact e
   ·rw[if_neg c2,if_pos hp]at c
    omega
theorem uC(hn:n<=10)(hi:i+1<n)(F:Frm n f):aB n (au n i) f=f↔at' f i=i+1:=by
 constructor
 ·intro e
  have H:Has n (au n i) (aB n (au n i) f):=wN fun _ _ _=>by omega
  rw[e]at H
  exact(qZ hi F).mp H
 ·intro e
  have:=Ek (n:=n) (f:=au n i) (by omega) (dZ hn hi).frm F ((qZ hi F).mpr e)
  rw[Bt n (by omega) i (by omega) hi]at this
  exact this
theorem u7(hn:n<=10)(hi:i+1<n)(F:Frm n f)(e:at' f i=i+1):bc (4*n) (jn n) (rb n (au n i) f) [n+i]:=by
 have G:=(dZ hn hi).frm
 have e':at' f (i+1)=i:=by rw[<-e,F.inv]
 have h1:at' (au n i) (n+i)=n+i+1:=by rw[gd hi,if_neg (by omega),if_pos rfl]
 have h2:at' (au n i) (n+(i+1))=n+i:=by rw[gd hi,if_pos (by omega)]
 have b1:rb n (au n i) f (n+i)=n+(i+1):=by rw[gM (by omega),h1];rfl
 have i1:i<n:=by omega
 have j1:=fk i1
 have j2:=fk hi
 have j3:=gz i1
 have j4:=gz hi
 have cls:∀ y,Cn (jn n) (rb n (au n i) f) (n+i) y->y=n+i\/y=n+(i+1)\/y=2*n+i\/y=2*n+(i+1):=by
  intro y h
  induction h with
  | refl=>exact .inl rfl
  |sa _ ih=>
   rcases ih with rfl | rfl | rfl | rfl
   ·exact .inr (.inr (.inl j1))
   ·exact .inr (.inr (.inr j2))
   ·exact .inl j3
   ·exact .inr (.inl j4)
  |sb _ ih=>
   rcases ih with rfl | rfl | rfl | rfl
   ·exact .inr (.inl b1)
   ·exact .inl (by rw[gM (by omega),h2])
   ·exact .inr (.inr (.inr (by rw[fT,e])))
   ·exact .inr (.inr (.inl (by rw[fT,e'])))
 refine⟨fun s hs=>?_,List.pairwise_singleton _ _,fun s hs y hy=>?_,fun x hx=>?_⟩
 ·rw[List.mem_singleton.mp hs];omega
 ·rw[List.mem_singleton.mp hs]at hy
  have c:=cls y hy
  have n0:0<n:=by omega
  rcases c with rfl | rfl | rfl | rfl
  ·exact⟨by rw[j1];omega,cH G F (by omega)⟩
  ·exact⟨by rw[j2];omega,cH G F (by omega)⟩
  ·exact⟨by rw[j3];omega,cH G F (by omega)⟩
  ·exact⟨by rw[j4];omega,cH G F (by omega)⟩
 ·by_cases np:Pth (4*n) (jn n) (rb n (au n i) f) x
  ·exact .inl np
  ·obtain⟨m,hm,cm,nm⟩:=fh G F hx np
   have cm:Cn (jn n) (rb n (au n i) f) (n+m) x:=by
    rcases cm with rfl | rfl
    ·exact .refl
    ·have:=Cn.sa (a:=jn n) (b:=rb n (au n i) f) (x:=n+m) .refl
     rw[fk hm]at this
     exact this
   by_cases c1:m=i
   ·subst c1
    exact .inr ⟨n+m,List.mem_singleton.mpr rfl,cm⟩
   ·by_cases c2:m=i+1
    ·subst c2
     refine .inr ⟨n+i,List.mem_singleton.mpr rfl,Cn.trans ?_ cm⟩
     have:=Cn.sb (a:=jn n) (b:=rb n (au n i) f) (x:=n+i) .refl
     rw[b1]at this
     exact this
    ·refine absurd ⟨m,by omega,.inl ?_,?_⟩ nm
     ·unfold jn
      rw[if_pos hm]
     ·have:=Cn.sb (a:=jn n) (b:=rb n (au n i) f) (x:=m) .refl
      rw[gM (by omega),gd hi,if_neg (by omega),if_neg (by omega),if_neg c2,if_neg c1,if_pos hm]at this
      exact this
theorem yp(hn:n<=10){i:Nat}(hi:i+1<n)(V:Val n f):(aB n f (au n i)=f↔at' f (n+i)=n+i+1)/\(at' f (n+i)=n+i+1->rgN n f (au n i)=1):=by
 have K:=dZ hn hi
 have V':=(fc n).val V
 have ho:bO n (ovr n) (ovr n) (au n i)=au n i:=yx n (by omega) i (by omega) hi
 have p:=vd hn V K
 rw[ho]at p
 have t:at' (bO n (ovr n) (ovr n) f) i=i+1↔at' f (n+i)=n+i+1:=by
  have l:=V.frm.lt (n+i) (by omega)
  rw[ES V.frm (by omega)]
  split<;>omega
 refine⟨?_,fun e=>?_⟩
 ·rw[<-t,<-uC hn hi V'.frm,p.1]
  constructor
  ·intro e;rw[e]
  ·intro e
   have:=congrArg (bO n (ovr n) (ovr n)) e
   rw[Ab V.frm,Ab (fC hn V K).frm]at this
   exact this
 ·rw[<-p.2,eX K.frm V'.frm (u7 hn hi V'.frm (t.mpr e))]
  rfl
end
section
variable{T:List Fn}{nu pc pa nb un if' cf po rp ir mv:Nat}
end
end RM
set_option maxHeartbeats 1000000
namespace RM
open RL RT
section
variable{cl:Cl}
theorem vo{n:Nat}(h:n<=100):written (.int (n:Nat))=true:=by
 show decide (_<_)=true
 rw[decide_eq_true_eq]
 refine Nat.lt_of_le_of_lt (show((n:Int)).natAbs<=100 by omega) (Nat.lt_of_lt_of_le (show 100<2 ^ 7 by decide) (Nat.pow_le_pow_right (by decide) (by decide)))
theorem uZ{z:Int}(h:z.natAbs<2 ^ 200):written (.int z)=true:=by
 show decide (_<_)=true
 rw[decide_eq_true_eq]
 exact Nat.lt_of_lt_of_le h (Nat.pow_le_pow_right (by decide) (by decide))
theorem rK{f g n:Nat}{pre:List Nat}{z:Int}{post:List D}(hn:n<=100)(h1:cl g [.int n]=some .non)(h2:∀ i∈pre,cl f [.int n,.int (i:Nat)]=some (.bl true))(h3:cl f [.int n,.int z]=some (.bl false))(hz:z.natAbs<2 ^ 200) :
  ∃ σ',Rr cl [] (dk f g).body [some (.int n),some (.lst (L pre ++ .int z::post)),none] "BadHook" σ':=by
 obtain⟨k1,σ',k2,_⟩:=uX (f:=ak cl [] (cK f g)) (fx:=bN cl [] (cK f g)) (tg:=[2]) (c := "BadHook") (post:=post) (d:=.int z) (fun σ=>∃ o,σ=[some (.int n),some (.lst (L pre ++ .int z::post)),o]) (L pre) [some (.int n),some (.lst (L pre ++ .int z::post)),none] ⟨none,rfl⟩ (fun x hx=>by
  obtain⟨a,_,rfl⟩:=List.mem_map.mp hx
  rfl) rfl (by
  rintro x hx σ ⟨o,rfl⟩
  obtain⟨a,ha,rfl⟩:=List.mem_map.mp hx
  refine⟨_,_,rfl,dN (cQ (fD (gU (af rfl) (af rfl) (h2 a ha)))) c8,⟨_,rfl⟩⟩) (by
  rintro σ ⟨o,rfl⟩
  have r:Rr cl [] (cK f g) [some (.int n),some (.lst (L pre ++ .int z::post)),some (.int z)] "BadHook" _:=Fe (cQ (fD (gU (af rfl) (af rfl) h3))) (D7 (aP (af rfl) (aP (af rfl) cF)) (by
   rw[List.all_cons,List.all_cons,uZ hz,vo hn];rfl))
  exact⟨_,rfl,r.1,_,r.2,⟨_,rfl⟩⟩)
 exact⟨σ',FU (tJ (af rfl) h1) (Ft (fq (af rfl) rfl) k1 k2)⟩
theorem E3{hh pl cr:Nat}{a b:D}{c:PySem.Str}(h:Rc cl cr [a,b] c):∃ σ',Rr cl [2] (ij hh pl cr).body [some a,some b,none,none,none] c σ':=⟨_,zC (DW (af rfl) (af rfl) h)⟩
end
section
variable{T:List Fn}{nu pc:Nat}
theorem AH{ish n:Nat}{k:Nat}{z:Int}(hnu:T[nu]?=some dm)(his:T[ish]?=some (eD nu))(hz:¬ (0<=z/\z<k-1)):aA T (n+2) ish [.int (k:Nat),.int z]=some (.bl false):=by
 refine(az his).trans ((kn (fun i=>(az hnu).trans (fM i)) _ _).trans ?_)
 rw[decide_eq_false (by omega)]
theorem rY{ish n:Nat}{k i:Nat}(hnu:T[nu]?=some dm)(his:T[ish]?=some (eD nu))(hi:i+1<k):aA T (n+2) ish [.int (k:Nat),.int (i:Nat)]=some (.bl true):=by
 refine(az his).trans ((kn (fun i=>(az hnu).trans (fM i)) _ _).trans ?_)
 rw[decide_eq_true (by omega)]
theorem vA{cp n:Nat}{k:Nat}(hnu:T[nu]?=some dm)(hpc:T[pc]?=some (cM nu))(hcp:T[cp]?=some (dC pc))(h1:1<=k)(hk:k<=10):aA T (n+3) cp [.int (k:Nat)]=some .non:=by
 refine(az hcp).trans (my ((az hpc).trans ((kM (fun i=>(az hnu).trans (fM i)) _).trans ?_)))
 rw[decide_eq_true (by omega)]
theorem rM{ish cp cr hh pl md n:Nat}{k:Nat}{pre:List Nat}{z:Int}{post:List D}(hT:T.length<=1000)(hnu:T[nu]?=some dm)(hpc:T[pc]?=some (cM nu))(hcp:T[cp]?=some (dC pc))(his:T[ish]?=some (eD nu))(hcr:T[cr]?=some (dk ish cp))(hmd:T[md]?=some (ij hh pl cr))(h1:1<=k)(hk:k<=10)(hp:∀ i∈pre,i+1<k)(hz:¬ (0<=z/\z<k-1))(hw:z.natAbs<2 ^ 200) :
  Rc (aA T (n+5)) md [.int (k:Nat),.lst (L pre ++ .int z::post)] "BadHook" := by
 obtain⟨σ1,r1⟩:=rK (cl:=aA T (n+3)) (f:=ish) (g:=cp) (n:=k) (pre:=pre) (post:=post) (by omega) (vA hnu hpc hcp h1 hk) (fun i hi=>rY hnu his (hp i hi)) (AH hnu his hz) hw
 have c1:Rc (aA T (n+4)) cr [.int (k:Nat),.lst (L pre ++ .int z::post)] "BadHook" := zZ hcr hT rfl rfl r1
 obtain⟨σ2,r2⟩:=E3 (hh:=hh) (pl:=pl) c1
 exact zZ hmd hT rfl rfl r2
end
theorem EW:aI .pow (.int 10) (.int 29)=some (.int ((10 ^ 29:Nat):Int)):=by
 dsimp only[aI]
 rw[if_pos (by decide)]
 rfl
end RM
namespace RT
open RL
end RT
namespace RM
open RL RT
noncomputable def fsD(fs:List (List Nat)):List D:=fs.map fun f=>.tup (L f)
noncomputable def prD(a:List Nat × Nat):D:=.tup [.tup (L a.1),.int (a.2:Nat)]
theorem jT(f:List Nat):(D.tup (L f)).imm=true:=by simp[D.imm,dz]
theorem wI(a:List Nat × Nat):(prD a).imm=true:=by
 show((D.tup (L a.1)).imm&&((D.int (a.2:Nat)).imm&&true))=true
 rw[jT];rfl
theorem zx{f:St->Option (Out × St)}{i:Nat}(I:List (List Nat)->St->Prop):∀ (xs done:List (List Nat)) (σ:St),(∀ x∈xs,∀ (d:List (List Nat)) (σ:St),I d σ->∃ σ2,f (σ.set i (some (.tup (L x))))=some (.nx,σ2)/\I (d++[x]) σ2)->I done σ->∃ σ',aZ f [i] (fsD xs) σ=some (.nx,σ')/\I (done++xs) σ'
 | [],done,σ,_,h0=>⟨σ,rfl,by simpa using h0⟩
 | x::r,done,σ,hs,h0=>by
  obtain⟨σ2,h1,h2⟩:=hs x (by simp) done σ h0
  obtain⟨σ',h3,h4⟩:=zx I r (done++[x]) σ2 (fun y hy=>hs y (by simp[hy])) h2
  exact⟨σ',mO (jT x) rfl h1 h3,by simpa using h4⟩
section
variable{T:List Fn}{nu pc pa nb un if' cf po rp ir mv rn mk rg jb pu c2 hu:Nat}
end
end RM
set_option maxHeartbeats 1000000
namespace RT
open RL
noncomputable def ic(f_law_hung f_law_plain:Nat):Ss :=
 (.cons (.unp [3,5] (.call f_law_hung (.cons (.var 2) (.cons (.var 3) .nil)))) (.cons (.asg 4 (.bin .add (.var 4) (.var 5))) .nil))
noncomputable def jg(f_law_hung f_law_plain:Nat):Fn :=
 ⟨2,6,[],[],(.cons (.par 3 4 (.call f_law_plain (.cons (.var 0) .nil)) (.cst (.int 0))) (.cons (.forr [2] (.seq (.rev (.var 1))) (ic f_law_hung f_law_plain)) (.cons (.ret (.tup (.cons (.var 3) (.cons (.var 4) .nil)))) .nil)))⟩
end RT
namespace RM
open RL RT
section
variable{T:List Fn}
theorem x8{rg hu:Nat}(t_hu:T[hu]?=some (eM rg))(t_rg:T[rg]?=some dI)(n:Nat){k:Nat}{f g:List Nat}(h1:1<=k)(hk':k<=10)(F:Frm k f)(G:Frm k g) :
  aA T (n+2) hu [.tup (L f),.tup (L g)]=some (prD (aB k f g,rgN k f g)):=by
 obtain⟨inner,i1,i2,i3⟩:=xH (cl:=aA T (n+1)) (fr:=rg) h1 hk' F.len G.len F.lt G.lt
 obtain⟨S,R,e⟩:=tK (cl:=aA T n) h1 hk' F G i2 (fun m=>by
  rw[i1 m]
  exact⟨fun⟨a,b⟩=>⟨a,fun z=>b ((pC F G a).mpr z)⟩,fun⟨a,b⟩=>⟨a,fun z=>b ((pC F G a).mp z)⟩⟩)
 rw[prD,eX F G R]
 exact(az t_hu).trans (i3 _ ((az t_rg).trans e))
theorem oY{rg hu pl st:Nat}(t_hu:T[hu]?=some (eM rg))(t_rg:T[rg]?=some dI)(t_pl:T[pl]?=some dh)(t_st:T[st]?=some (jg hu pl))(n:Nat){k:Nat}{fs:List (List Nat)}(h1:1<=k)(hk:k<=10)(V:∀ f∈fs,Val k f) :
  aA T (n+3) st [.int (k:Nat),.lst (fsD fs)]=some (prD (stk k fs)):=by
 obtain⟨σ3,e3,⟨o3,o5,rfl⟩,W3⟩:=zx (f:=ak (aA T (n+2)) [] (ic hu pl)) (i:=2) (fun d σ=>(∃ o o5,σ=[some (.int (k:Nat)),some (.lst (fsD fs)),o,some (.tup (L (stk k d.reverse).1)),some (.int ((stk k d.reverse).2:Nat)),o5])/\∀ f∈d,Val k f) fs.reverse [] [some (.int (k:Nat)),some (.lst (fsD fs)),none,some (.tup (L (ay k))),some (.int ((0:Nat):Int)),none] (fun x hx d σ ⟨⟨o,o5,e⟩,W⟩=>by
  subst e
  have Vx:=V x (by simpa using hx)
  have W':∀ f∈d.reverse,Val k f:=fun f hf=>W f (by simpa using hf)
  have hs:stk k (d++[x]).reverse=cw k (x,0) (stk k d.reverse):=by rw[List.reverse_append,List.reverse_singleton,List.singleton_append,zg hk Vx W']
  rw[hs]
  refine⟨_,wC (gU (af rfl) (af rfl) (x8 t_hu t_rg n h1 hk Vx.frm (m9 hk W').frm)) rfl (by simp[aw,D.imm,dz]) rfl (bI (aE (af rfl) (af rfl) bT) rfl c8),⟨some (.tup (L x)),some (.int (rgN k x (stk k d.reverse).1:Nat)),?_⟩,fun f hf=>?_⟩
  ·show _=[some (D.int (k:Nat)),some (.lst (fsD fs)),some (.tup (L x)),some (.tup (L (aB k x (stk k d.reverse).1))),some (.int ((rgN k x (stk k d.reverse).1+0+(stk k d.reverse).2:Nat):Int)),some (.int (rgN k x (stk k d.reverse).1:Nat))]
   rw[show((rgN k x (stk k d.reverse).1+0+(stk k d.reverse).2:Nat):Int)=((stk k d.reverse).2:Int)+(rgN k x (stk k d.reverse).1:Nat) by omega]
   rfl
  ·rcases List.mem_append.mp hf with h | h
   ·exact W f h
   ·rw[List.mem_singleton.mp h];exact Vx) ⟨⟨none,none,rfl⟩,fun f hf=>nomatch hf⟩
 have er:(fsD fs).reverse=fsD fs.reverse:=by unfold fsD;rw[List.map_reverse]
 have es:stk k ([]++fs.reverse).reverse=stk k fs:=by rw[List.nil_append,List.reverse_reverse]
 rw[es]at e3
 exact(az t_st).trans (cb rfl rfl (qa (tJ (af rfl) ((az t_pl).trans (jf hk))) aC (by rw[jT];rfl) (eQ (fq (Fd (af rfl)) (by rw[er];rfl)) e3 (cY (d:=prD (stk k fs)) (zB (aP (af rfl) (aP (af rfl) cF))) (by unfold cn;rw[wI];rfl)))))
end
end RM
set_option maxHeartbeats 1000000
namespace RM
open RL RT
section
variable{n i:Nat}{f:List Nat}
theorem uq(hn:n<=10)(hi:i+1<n)(V:Val n f)(ne:at' f (n+i)≠n+i+1) :
  (∀ p,p<2*n->p≠n+i->p≠n+i+1->Cn (jn n) (rb n f (au n i)) (out n p) p)/\Cn (jn n) (rb n f (au n i)) (n+i) (n+i+1)/\Cn (jn n) (rb n f (au n i)) (out n (n+i)) (out n (n+i+1)):=by
 have hk:=fun x=>gd (n:=n) (i:=i) (x:=x) hi
 refine⟨fun p hp h1 h2=>?_,?_,?_⟩
 ·by_cases c:p<n
  ·unfold out
   rw[if_pos c]
   exact .refl
  ·obtain⟨j,rfl⟩:∃ j,p=n+j:=⟨p-n,by omega⟩
   have hj:j<n:=by omega
   have e0:out n (n+j)=2*n+(n+j):=by unfold out;rw[if_neg (by omega)];omega
   have e1:rb n f (au n i) (2*n+(n+j))=2*n+j:=by
    rw[fT,hk,if_neg (by omega),if_neg (by omega),if_neg (by omega),if_neg (by omega),if_neg (by omega),if_pos (by omega)]
    omega
   rw[e0]
   have c1:=Cn.sb (a:=jn n) (b:=rb n f (au n i)) (x:=2*n+(n+j)) .refl
   rw[e1]at c1
   have c2:=Cn.sa c1
   rw[gz hj]at c2
   exact c2
 ·have c1:=Cn.sa (a:=jn n) (b:=rb n f (au n i)) (x:=n+i) .refl
  rw[fk (by omega)]at c1
  have c2:=Cn.sb c1
  rw[fT,hk,if_neg (by omega),if_neg (by omega),if_neg (by omega),if_pos rfl]at c2
  have c3:=Cn.sa c2
  rw[gz hi]at c3
  exact c3
 ·have e0:out n (n+i)=2*n+(n+i):=by unfold out;rw[if_neg (by omega)];omega
  have e1:out n (n+i+1)=2*n+(n+i+1):=by unfold out;rw[if_neg (by omega)];omega
  have c1:=Cn.sb (a:=jn n) (b:=rb n f (au n i)) (x:=2*n+(n+i)) .refl
  rw[fT,hk,if_neg (by omega),if_pos rfl]at c1
  rw[e0,e1]
  exact c1
theorem ui(hn:n<=10)(hi:i+1<n)(V:Val n f):aB n f (au n i)=bU f (n+i)/\rgN n f (au n i)=eN f (n+i):=by
 by_cases ne:at' f (n+i)=n+i+1
 ·have z:=yp hn hi V
  unfold bU eN
  rw[if_pos ne,if_pos ne]
  exact⟨z.1.mpr ne,z.2 ne⟩
 ·have F:=V.frm
  have K:=(dZ hn hi).frm
  have T2:=two F K
  obtain⟨r1,r2,r3⟩:=uq hn hi V ne
  have a1:=F.lt (n+i) (by omega)
  have b1:=F.lt (n+i+1) (by omega)
  have a2:=F.no (n+i) (by omega)
  have b2:=F.no (n+i+1) (by omega)
  have ia:=F.inv (n+i)
  have ib:=F.inv (n+i+1)
  have b3:at' f (n+i+1)≠n+i:=fun e=>ne (by rw[e]at ib;exact ib)
  have st:∀ p,p<2*n->Cn (jn n) (rb n f (au n i)) p (at' f p):=fun p hp=>by
   have:=Cn.sb (a:=jn n) (b:=rb n f (au n i)) (x:=p) .refl
   rw[gM hp]at this
   exact this
  have back:∀ p,p<2*n->p≠n+i->p≠n+i+1->Cn (jn n) (rb n f (au n i)) p (out n p):=fun p hp h1 h2=>(r1 p hp h1 h2).symm T2 (aM hp)
  have key:∀ p,p<2*n->at' (aB n f (au n i)) p=at' (bU f (n+i)) p:=fun p hp=>by
   have h:at' (bU f (n+i)) p=M.hg (n+i) (n+i+1) (at' f) p:=by rw[jK F (by omega)]
   rw[h]
   unfold M.hg
   rw[if_neg ne]
   by_cases c1:p=n+i+1
   ·rw[if_pos c1,found_iff F K hp (by omega) (by omega),c1]
    exact r3.symm T2 (aM (by omega))
   ·rw[if_neg c1]
    by_cases c2:p=n+i
    ·rw[if_pos c2,found_iff F K hp (by omega) (by omega),c2]
     exact r3
    ·rw[if_neg c2]
     by_cases c3:p=at' f (n+i+1)
     ·rw[if_pos c3]
      have nn:p≠at' f (n+i):=fun e=>by
       have:at' f (at' f (n+i))=at' f (at' f (n+i+1)):=by rw[<-e,<-c3]
       omega
      rw[found_iff F K hp a1 nn]
      have s1:=(r1 p hp c2 c1).trans (st p hp)
      rw[c3,ib]at s1
      have s2:=s1.trans (r2.symm T2 (by omega))
      have s3:=s2.trans (st _ (by omega))
      rw[c3]
      exact s3.trans (back _ a1 a2 ne)
     ·rw[if_neg c3]
      by_cases c4:p=at' f (n+i)
      ·rw[if_pos c4]
       have nn:p≠at' f (n+i+1):=c3
       rw[found_iff F K hp b1 nn]
       have s1:=(r1 p hp c2 c1).trans (st p hp)
       rw[c4,ia]at s1
       have s2:=s1.trans r2
       have s3:=s2.trans (st _ (by omega))
       rw[c4]
       exact s3.trans (back _ b1 b3 b2)
      ·rw[if_neg c4]
       have ip:=F.inv p
       have n1:at' f p≠n+i:=fun e=>c4 (by rw[<-e,ip])
       have n2:at' f p≠n+i+1:=fun e=>c3 (by rw[<-e,ip])
       rw[found_iff F K hp (F.lt p hp) (fun e=>F.no p hp e.symm)]
       exact((r1 p hp c2 c1).trans (st p hp)).trans (back _ (F.lt p hp) n1 n2)
  refine⟨?_,?_⟩
  ·apply List.ext_getElem?
   intro p
   by_cases hp:p<2*n
   ·rw[dE (by rw[bW];exact hp),dE (by rw[ku,F.len];exact hp),key p hp]
   ·rw[List.getElem?_eq_none (by rw[bW];omega),List.getElem?_eq_none (by rw[ku,F.len];omega)]
  ·have R:bc (4*n) (jn n) (rb n f (au n i)) []:=by
    have fix:∀ p,p<2*n->jn n (out n p)=out n p:=fun p hp=>by unfold out jn;(repeat' split)<;>omega
    have pth:∀ p,p<2*n->p≠n+i->p≠n+i+1->∀ {x},Cn (jn n) (rb n f (au n i)) p x->∃ s,s<4*n/\(jn n s=s\/rb n f (au n i) s=s)/\Cn (jn n) (rb n f (au n i)) s x:=fun p hp h1 h2 x c=>⟨out n p,aM hp,.inl (fix p hp),(r1 p hp h1 h2).trans c⟩
    have mid:∀ j,j<n->∀ {x},Cn (jn n) (rb n f (au n i)) (n+j) x->∃ s,s<4*n/\(jn n s=s\/rb n f (au n i) s=s)/\Cn (jn n) (rb n f (au n i)) s x:=fun j hj x c=>by
     by_cases h1:j=i
     ·subst h1
      exact pth _ a1 a2 ne (((st (n+j) (by omega)).symm T2 (by omega)).trans c)
     ·by_cases h2:j=i+1
      ·subst h2
       exact pth _ b1 b3 b2 (((st (n+i+1) (by omega)).symm T2 (by omega)).trans c)
      ·exact pth _ (by omega) (by omega) (by omega) c
    refine bc.mk (fun s hs=>by cases hs) List.Pairwise.nil (fun s hs=>by cases hs) fun x hx=>Or.inl ?_
    by_cases c1:x<n
    ·exact⟨x,hx,.inl (by unfold jn;rw[if_pos c1]),.refl⟩
    ·by_cases c2:x<2*n
     ·obtain⟨j,rfl⟩:∃ j,x=n+j:=⟨x-n,by omega⟩
      exact mid j (by omega) .refl
     ·by_cases c3:x<3*n
      ·obtain⟨j,rfl⟩:∃ j,x=2*n+j:=⟨x-2*n,by omega⟩
       have c:=Cn.sa (a:=jn n) (b:=rb n f (au n i)) (x:=n+j) .refl
       rw[fk (by omega)]at c
       exact mid j (by omega) c
      ·exact⟨x,hx,.inl (by unfold jn;rw[if_neg c1,if_neg c2,if_neg c3]),.refl⟩
   rw[eX F K R]
   unfold eN
   rw[if_neg ne]
   rfl
theorem nM(hn:n<=10):∀ (row:List Nat) (s:List Nat × Nat),(∀ j∈row,j+1<n)->Val n s.1->hangs n row s=iM n s (row.map (au n))
 | [],s,_,_=>rfl
 | j::row,s,h,V=>by
  have hj:=h j (.head _)
  obtain⟨e1,e2⟩:=ui hn hj V
  have e:cw n s (au n j,0)=(bU s.1 (n+j),s.2+eN s.1 (n+j)):=by
   unfold cw
   refine Prod.ext e1 ?_
   show rgN n s.1 (au n j)+s.2+0=_
   rw[e2]
   show _=s.2+eN s.1 (n+j)
   omega
  show hangs n row (bU s.1 (n+j),s.2+eN s.1 (n+j))=iM n (cw n s (au n j,0)) (row.map (au n))
  rw[e]
  refine nM hn row _ (fun k hk=>h k (.tail _ hk)) ?_
  rw[<-e1]
  exact fC hn V (dZ hn hj)
end
section
variable{cl:Cl}
theorem uJ{f:Nat}{scr:D}{k n size:Nat}(hn:2<=n)(hs:size<=100)(hk:k<=900)(h:∀ k:Nat,k<=1000->∃ ds:List Nat,gW ds (List.replicate 12 97)/\cl f [scr,.int k,.lst (L (List.replicate 12 97))]=some (.lst (L ds))) :
  ∃ hs:List Nat,(∀ h∈hs,h+1<n)/\hs.length<=12*aL 12 0 size/\evF cl (df f) [scr,.int k,.int n,.int size]=some (.lst (L hs)):=by
 have cnt:aL 12 0 size<=100:=by
  unfold aL
  rw[if_pos (by decide)]
  split
  ·lia
  ·simp
 have rg:fu 12 (.int 0) (.int size)=some (L (List.range' 0 (aL 12 0 size) 12)):=by
  dsimp only[fu]
  rw[if_pos ⟨by decide,by decide,by decide,by unfold most;lia,by decide,by decide,by lia,by lia⟩]
  have:=kK 12 (aL 12 0 size) 0
  exact congrArg some this
 have m97:aI .mul (.lst [.int 97]) (.int 12)=some (.lst (L (List.replicate 12 97))):=rfl
 obtain⟨σ',e,hs',o5,o6,o7,o8,q1,q2,rfl⟩:=da (f:=ak cl [4] (eL f)) (tg:=[5]) (xs:=List.range' 0 (aL 12 0 size) 12) (σ:=[some scr,some (.int k),some (.int n),some (.int size),some (.lst []),none,none,none,none])
  (fun p σ=>∃ (hs:List Nat) (o5 o6 o7 o8:Option D),(∀ h∈hs,h+1<n)/\hs.length<=12*p.length/\σ=[some scr,some (.int k),some (.int n),some (.int size),some (.lst (L hs)),o5,o6,o7,o8]) ⟨[],none,none,none,none,by simp,by simp,rfl⟩ (by
   rintro p x q σ hx ⟨hs,o5,o6,o7,o8,q1,q2,rfl⟩
   have hxm:x∈List.range' 0 (aL 12 0 size) 12:=by rw[hx];simp
   have hxb:x<=1200:=by
    obtain⟨i,hi,rfl⟩:=List.mem_range'.mp hxm
    lia
   have hpl:p.length<100:=by
    have:=congrArg List.length hx
    simp at this
    lia
   obtain⟨ds,hds,ed⟩:=h (k+x / 12) (by lia)
   have ek:(k:Int)+(x:Int) / 12=((k+x / 12:Nat):Int):=by lia
   have hdl:ds.length=12:=by rw[hds.1];simp
   obtain⟨σ2,e2,hs2,o7',o8',g1,g2,rfl⟩:=da (f:=ak cl [4] (ck f)) (tg:=[7]) (xs:=ds.take (cutAt (L ds).length ((size:Int)-(x:Int)))) (σ:=[some scr,some (.int k),some (.int n),some (.int size),some (.lst (L hs)),some (.int x),some (.lst (L ds)),o7,o8])
    (fun p σ=>∃ (hs':List Nat) (o7 o8:Option D),(∀ h∈hs',h+1<n)/\hs'.length<=hs.length+p.length/\σ=[some scr,some (.int k),some (.int n),some (.int size),some (.lst (L hs')),some (.int x),some (.lst (L ds)),o7,o8]) ⟨hs,o7,o8,q1,by simp,rfl⟩ (by
     rintro p' y q' σ hy ⟨hs',o7,o8,g1,g2,rfl⟩
     have hpl':p'.length<12:=by
      have:=congrArg List.length hy
      simp at this
      lia
     obtain⟨m,hm,em⟩:=tX (cl:=cl) (f:=f) (scr:=scr) (k:=k) (size:=size) (start:=x) (x:=y) (steps:=ds) (o7:=o7) (o8:=o8) hn g1 (by lia)
     refine⟨_,em,_,_,_,?_,?_,rfl⟩
     ·intro h hh
      rcases List.mem_append.mp hh with z | z
      ·exact g1 h z
      ·rw[List.mem_singleton.mp z];exact hm
     ·simp;lia)
   have hcl:(ds.take (cutAt (L ds).length ((size:Int)-(x:Int)))).length<=12:=by
    rw[List.length_take]
    lia
   refine⟨[some scr,some (.int k),some (.int n),some (.int size),some (.lst (L hs2)),some (.int x),some (.lst (L ds)),o7',o8'],?_,hs2,_,_,_,_,g1,?_,rfl⟩
   ·simp only[aO,Option.bind_some,eL,ak,evS,ev,evs,bp,List.set_cons_succ,List.set_cons_zero,List.getElem?_cons_succ,List.getElem?_cons_zero,id,Option.map_some,oP (show(0:Int)<12 by decide) (show(12:Int)<2 ^ 200 by decide),bT,ek,m97,ed,bw,D.imm,aU,dz,aF,Bool.true_and,Bool.or_true,Bool.true_or,if_true,eU,kT,p7,items,e2]
   ·simp only[List.length_append,List.length_cons,List.length_nil]
    lia)
 refine⟨hs',q1,by rw[List.length_range']at q2;exact q2,?_⟩
 simp[evF,df,ak,evS,ev,evs,bp,rg,aU,aw,aF]
 simp[e,ev,cn,aU,dz,bg]
theorem zD{g:St->Option (Out × St)}{tg:List Nat}{d x:D}{r:List D}{σ σ1 σ2:St}(im:d.imm=true)(hb:aO tg d σ=some σ1)(h:g σ1=some (.rt x,σ2)):aZ g tg (d::r) σ=some (.rt x,σ2):=by
 rw[aZ,if_pos im,hb,Option.bind_some,h];rfl
theorem uU{f:Nat}{scr:D}{k n size:Nat}(hn:n<2)(hs:size<=100)(hk:k<=900)(h:∀ k:Nat,k<=1000->∃ ds:List Nat,gW ds (List.replicate 12 97)/\cl f [scr,.int k,.lst (L (List.replicate 12 97))]=some (.lst (L ds))) :
  evF cl (df f) [scr,.int k,.int n,.int size]=some (.lst []):=by
 have cnt:aL 12 0 size<=100:=by
  unfold aL
  rw[if_pos (by decide)]
  split
  ·lia
  ·simp
 have rg:fu 12 (.int 0) (.int size)=some (L (List.range' 0 (aL 12 0 size) 12)):=by
  dsimp only[fu]
  rw[if_pos ⟨by decide,by decide,by decide,by unfold most;lia,by decide,by decide,by lia,by lia⟩]
  have:=kK 12 (aL 12 0 size) 0
  exact congrArg some this
 by_cases c:size=0
 ·subst c
  have r0:fu 12 (.int 0) (.int ((0:Nat):Int))=some []:=rfl
  exact cb rfl rfl (qf (gJ cF) rfl (eQ (wD aC (af rfl) r0) wY (cY (af rfl) rfl)))
 ·obtain⟨m,hm⟩:∃ m,aL 12 0 size=m+1:=by
   refine⟨aL 12 0 size-1,?_⟩
   have:0<aL 12 0 size:=by
    unfold aL
    rw[if_pos (by decide),if_pos (by omega)]
    omega
   omega
  rw[hm,List.range'_succ]at rg
  obtain⟨ds,hds,ed⟩:=h k (by omega)
  have hdl:ds.length=12:=by rw[hds.1];simp
  have cu:cutAt (L ds).length ((size:Int)-0)=min size 12:=by
   unfold cutAt
   rw[if_pos (by omega),bD,hdl,show((size:Int)-0).toNat=size by omega]
  obtain⟨d,r,hd⟩:∃ d r,ds.take (min size 12)=d::r:=by
   cases e:ds.take (min size 12)with
   |nil=>
    have:=congrArg List.length e
    rw[List.length_take,hdl]at this
    simp at this
    omega
   | cons d r=>exact⟨d,r,rfl⟩
  have sl:kT (.lst (L ds)) (.int ((size:Int)-0))=some (.lst (L (d::r))):=by
   show some (D.lst ((L ds).take (cutAt (L ds).length ((size:Int)-0))))=_
   rw[cu,p7,hd]
  have m97:aI .mul (.lst [.int 97]) (.int 12)=some (.lst (L (List.replicate 12 97))):=rfl
  have e0:aI .add (.int (k:Nat)) (.int 0)=some (.int (k:Nat)):=by rw[bT,Int.add_zero]
  have b2:ak cl [4] (ck f) [some scr,some (.int k),some (.int n),some (.int size),some (.lst []),some (.int 0),some (.lst (L ds)),some (.int (d:Nat)),none]=some (.rt (.lst []),[some scr,some (.int k),some (.int n),some (.int size),some (.lst []),some (.int 0),some (.lst (L ds)),some (.int (d:Nat)),none]) :=
   mB (cQ (bQ (af rfl) aC (by rw[k9,decide_eq_true (by omega)]))) (cY (gJ cF) rfl)
  have b1:ak cl [4] (eL f) [some scr,some (.int k),some (.int n),some (.int size),some (.lst []),some (.int 0),none,none,none]=some (.rt (.lst []),[some scr,some (.int k),some (.int n),some (.int size),some (.lst []),some (.int 0),some (.lst (L ds)),some (.int (d:Nat)),none]) :=
   bI (DI (af rfl) (aE (af rfl) (aE (af rfl) aC rfl) e0) (aE (gJ (aP aC cF)) aC m97) ed) (by unfold bw;rw[show aU (.lst (L ds))=true from dz ds];rfl)
    (sI (fq (lQ (af rfl) (aE (af rfl) (af rfl) eU) sl) rfl) (by
     exact zD (d:=.int (d:Nat)) rfl rfl b2))
  exact cb rfl rfl (qf (gJ cF) rfl (sI (wD aC (af rfl) rg) (by
   exact zD (d:=.int ((0:Nat):Int)) rfl rfl b1)))
end
end RM
set_option maxHeartbeats 1000000
namespace K22
open RL RT
noncomputable def l7(f_law_stacked f_law_hook:Nat):Fn :=
 ⟨2,3,[],[],(.cons (.ret (.call f_law_stacked (.cons (.var 0) (.cons (.compA (.call f_law_hook (.cons (.var 0) (.cons (.var 2) .nil))) [2] (.seq (.var 1))) .nil)))) .nil)⟩
noncomputable def lU(f_made f_law_kin:Nat):Fn :=
 ⟨2,4,[],[],(.cons (.asg 2 (.cst (.str ""))) (.cons (.tryc (.cons (.exc (.call f_made (.cons (.var 0) (.cons (.var 1) .nil)))) .nil) "RibbonError" 3 (.cons (.asg 2 (.call f_law_kin (.cons (.var 3) .nil))) .nil)) (.cons (.ret (.var 2)) .nil)))⟩
noncomputable def Dl(f_law_word f_law_same f_made f_law_made f_law_hooks f_law_digits:Nat):Ss :=
 (.cons (.unp [2,7,8,6,9] (.call f_law_digits (.cons (.var 0) (.cons (.bin .add (.cst (.int 40)) (.var 1)) (.cons (.lst (.cons (.cst (.int 10)) (.cons (.cst (.int 9)) (.cons (.cst (.int 61)) (.cons (.cst (.int 61)) (.cons (.bin .pow (.cst (.int 10)) (.cst (.int 29))) .nil)))))) .nil))))) (.cons (.asg 2 (.bin .add (.cst (.int 1)) (.var 2))) (.cons (.asg 3 (.call f_law_hooks (.cons (.var 0) (.cons (.bin .mul (.cst (.int 6)) (.var 1)) (.cons (.var 2) (.cons (.ix (.lst (.cons (.var 7) (.cons (.var 8) (.cons (.var 8) .nil)))) (.bin .mod (.var 9) (.cst (.int 3)))) .nil)))))) (.cons (.asg 4 (.bi .list (.var 3))) (.cons (.ife (.or (.not (.call f_law_same (.cons (.call f_made (.cons (.var 2) (.cons (.var 4) .nil))) (.cons (.call f_law_made (.cons (.var 2) (.cons (.var 3) .nil))) .nil)))) (.cmp .ne (.var 4) (.var 3))) (.cons (.ret (.cst (.bl false))) .nil) .nil) (.cons (.asg 5 (.ix (.lst (.cons (.bin .sub (.cst (.int 0)) (.cst (.int 1))) (.cons (.bin .sub (.var 2) (.cst (.int 1))) (.cons (.var 2) (.cons (.bin .add (.var 9) (.cst (.int 10))) (.cons (.bin .sub (.bin .sub (.cst (.int 0)) (.cst (.int 1))) (.var 9)) .nil)))))) (.bin .mod (.var 9) (.cst (.int 5))))) (.cons (.asg 6 (.bin .mod (.var 6) (.bin .add (.bi .len (.var 3)) (.cst (.int 1))))) (.cons (.ife (.cmp .ne (.call f_law_word (.cons (.var 2) (.cons (.bin .add (.bin .add (.slT (.slT (.var 3) (.cst (.int 59))) (.var 6)) (.lst (.cons (.var 5) .nil))) (.slF (.slT (.var 3) (.cst (.int 59))) (.var 6))) .nil))) (.cst (.str "BadHook"))) (.cons (.ret (.cst (.bl false))) .nil) .nil) .nil))))))))
noncomputable def zT(f_law_word f_law_same f_made f_law_made f_law_hooks f_law_digits:Nat):Fn :=
 ⟨1,10,[],[],(.cons (.asg 0 (.slT (.var 0) (.cst (.int 63)))) (.cons (.forr [1] (.rng1 (.cst (.int 3))) (Dl f_law_word f_law_same f_made f_law_made f_law_hooks f_law_digits)) (.cons (.ret (.cst (.bl true))) .nil)))⟩
noncomputable def T:List Fn:=[dm,cM 0,dC 1,oH,jF,jO 2,ij 7 5 9,dS 3 4,eD 0,dk 8 2,jq,j5,jw 11,eV 12,df 13,cS 15,dh,dI,eM 17,jg 18 16,fO 16,l7 19 20,lU 6 10,zT 22 15 6 21 14 13]
open RM
theorem Fv{α:Type}:∀ {os:List α},os.length=8->∃ a b c d e f g h,os=[a,b,c,d,e,f,g,h]
 | [a,b,c,d,e,f,g,h],_=>⟨a,b,c,d,e,f,g,h,rfl⟩
theorem EN{ds:List Nat}{a b c d e:Nat}(h:gW ds [a,b,c,d,e]):∃ x y z u v,ds=[x,y,z,u,v]/\x<a/\y<b/\z<c/\u<d/\v<e:=by
 obtain⟨h1,h2⟩:=h
 match ds,h1 with
 | [x,y,z,u,v],_=>exact⟨x,y,z,u,v,rfl,h2 0 x a rfl rfl,h2 1 y b rfl rfl,h2 2 z c rfl rfl,h2 3 u d rfl rfl,h2 4 v e rfl rfl⟩
theorem dg:Dg T 11 12 13:=⟨rfl,rfl,rfl⟩
theorem Bm{n:Nat}{row:List Nat}(h1:1<=n)(h2:n<=10)(hr:∀ j∈row,j+1<n):aA T 29 6 [.int (n:Nat),.lst (L row)]=some (prD (stk n (row.map (au n)))):=by
 have cp:∀ m,aA T (m+3) 2 [.int (n:Nat)]=some .non:=fun m=>vA (nu:=0) (pc:=1) rfl rfl rfl h1 h2
 have e1:aA T 28 9 [.int (n:Nat),.lst (L row)]=some .non:=(az (fn:=dk 8 2) rfl).trans (ot (cp 24) fun j hj=>rY (nu:=0) rfl rfl (hr j hj))
 have e2:aA T 28 5 [.int (n:Nat)]=some (.tup (L (ay n))):=(az (fn:=jO 2) rfl).trans (run_plain h2 (cp 24))
 have e:=(az (fn:=ij 7 5 9) (T:=T) (n:=28) (f:=6) rfl).trans (zh h2 hr e1 e2 fun f i F hi=>(az (fn:=dS 3 4) rfl).trans (ou F hi (fun xs=>(az (fn:=jF) rfl).trans (rJ xs)) fun xs a b ha hb=>(az (fn:=oH) rfl).trans (AF xs ha hb)))
 have q:hangs n row (ay n,0)=stk n (row.map (au n)):=nM h2 row (ay n,0) hr (j6 n)
 rw[q]at e
 exact e
theorem rC{n:Nat}{row:List Nat}(h1:1<=n)(h2:n<=10)(hl:row.length<=1000)(hr:∀ j∈row,j+1<n):aA T 29 21 [.int (n:Nat),.lst (L row)]=some (prD (stk n (row.map (au n)))):=by
 have V:∀ f∈row.map (au n),Val n f:=fun f hf=>by
  obtain⟨j,hj,rfl⟩:=List.mem_map.mp hf
  exact dZ h2 (hr j hj)
 have e:=oY (T:=T) (rg:=17) (hu:=18) (pl:=16) (st:=19) rfl rfl rfl rfl 25 h1 h2 V
 have m:=l4 (F:=fun σ1=>(ev (aA T 28) σ1 (.call 20 (.cons (.var 0) (.cons (.var 2) .nil)))).map some) (tg:=[2]) (σ:=[some (.int (n:Nat)),some (.lst (L row)),none]) (h:=fun i=>.int (i:Nat)) (g:=fun i=>.tup (L (au n i))) (fun _=>jT _) row (by
  intro i hi
  show(ev (aA T 28) [some (.int (n:Nat)),some (.lst (L row)),some (.int (i:Nat))] (.call 20 (.cons (.var 0) (.cons (.var 2) .nil)))).map some=_
  have lh:aA T 28 20 [.int (n:Nat),.int (i:Nat)]=some (.tup (L (au n i))):=(az (fn:=fO 16) rfl).trans (pR h2 (hr i hi) ((az (fn:=dh) rfl).trans (jf h2)))
  rw[gU (af rfl) (af rfl) lh]
  rfl)
 have em:(row.map fun i=>D.tup (L (au n i)))=fsD (row.map (au n)):=by unfold fsD;rw[List.map_map];rfl
 rw[em]at m
 exact(az (fn:=l7 19 20) rfl).trans (cb rfl rfl (cY (gU (af rfl) (mL (fq (af rfl) rfl) (by rw[bD];unfold most;omega) m) e) (by unfold cn;rw[wI];rfl)))
theorem zf{n:Nat}{z:Int}{pre:List Nat}{post:List D}(h1:1<=n)(h2:n<=10)(hp:∀ j∈pre,j+1<n)(hz:¬ (0<=z/\z<n-1))(hw:z.natAbs<2 ^ 200):aA T 29 22 [.int (n:Nat),.lst (L pre ++ .int z::post)]=some (.str "BadHook"):=by
 have r:Rc (aA T 28) 6 [.int (n:Nat),.lst (L pre ++ .int z::post)] "BadHook" := rM (nu:=0) (pc:=1) (cp:=2) (ish:=8) (cr:=9) (hh:=7) (pl:=5) (n:=23) (by decide) rfl rfl rfl rfl rfl rfl h1 h2 hp hz hw
 have k:aA T 28 10 [.exc "BadHook"]=some (.str "BadHook"):=(az (fn:=jq) rfl).trans (C2 (by decide))
 exact(az (fn:=lU 6 10) rfl).trans (cb rfl rfl (bI aC rfl (AM (zC (DW (af rfl) (af rfl) r)) rfl (bI (tJ (af rfl) k) rfl c8) (cY (af rfl) rfl))))
theorem drawn{n far w:Nat}(hw:w<5)(h1:1<=n)(hn:n<=10)(hf:far<10 ^ 29):∃ z:Int,ixV (.lst [.int (0-1),.int ((n:Nat)-1),.int (n:Nat),.int ((far:Nat)+10),.int (0-1-(far:Nat))]) (.int (w:Nat))=some (.int z)/\z.natAbs<2 ^ 200/\¬ (0<=z/\z<n-1):=by
 have b:∀ z:Int,z.natAbs<=100+far->z.natAbs<2 ^ 200:=fun z h=>Nat.lt_of_le_of_lt h (Nat.lt_trans (show 100+far<100+10 ^ 29 by omega) (by decide))
 match w,hw with
 | 0,_=>exact⟨_,rfl,b _ (by omega),by omega⟩
 | 1,_=>exact⟨_,rfl,b _ (by omega),by omega⟩
 | 2,_=>exact⟨_,rfl,b _ (by omega),by omega⟩
 | 3,_=>exact⟨_,rfl,b _ (by omega),by omega⟩
 | 4,_=>exact⟨_,rfl,b _ (by omega),by omega⟩
theorem plP{a:List Nat × Nat}(h:a.1.length<=1000):Pl 2 (prD a):=.tup _ _ (show 2<=1000 by decide) fun x hx=>by
 cases hx with
 | head=>exact Pl.L h
 | tail _ hx=>cases hx with
  | head=>exact .int _ _
  | tail _ hx=>cases hx
theorem qr(xs:List Nat)(k:Nat):kT (.lst (L xs)) (.int (k:Nat))=some (.lst (L (xs.take k))):=by
 show some (D.lst ((L xs).take (cutAt (L xs).length (k:Nat))))=_
 rw[p7,bD]
 congr 3
 unfold cutAt
 rw[if_pos (by omega),show((k:Nat):Int).toNat=k by omega]
 by_cases c:k<=xs.length
 ·rw[Nat.min_eq_left c]
 ·rw[Nat.min_eq_right (by omega),List.take_of_length_le (Nat.le_refl _),List.take_of_length_le (by omega)]
theorem zm(xs:List Nat)(k:Nat):uc (.lst (L xs)) (.int (k:Nat))=some (.lst (L (xs.drop k))):=by
 show some (D.lst ((L xs).drop (cutAt (L xs).length (k:Nat))))=_
 rw[bD,show(L xs).drop (cutAt xs.length (k:Nat))=L (xs.drop (cutAt xs.length (k:Nat))) by unfold L;rw[List.map_drop]]
 congr 3
 unfold cutAt
 rw[if_pos (by omega),show((k:Nat):Int).toNat=k by omega]
 by_cases c:k<=xs.length
 ·rw[Nat.min_eq_left c]
 ·rw[Nat.min_eq_right (by omega),List.drop_of_length_le (Nat.le_refl _),List.drop_of_length_le (by omega)]
theorem zl{ns:List Int}(hl:ns.length<=63){k n size:Nat}(h1:1<=n)(hk:k<=900)(hs:size<=60):∃ hs:List Nat,(∀ h∈hs,h+1<n)/\hs.length<=72/\aA T 29 14 [.lst (LI ns),.int (k:Nat),.int (n:Nat),.int (size:Nat)]=some (.lst (L hs)):=by
 have d:∀ k:Nat,k<=1000->∃ ds:List Nat,gW ds (List.replicate 12 97)/\aA T 28 13 [.lst (LI ns),.int k,.lst (L (List.replicate 12 97))]=some (.lst (L ds)):=fun k hk=>dg.digits hl 25 hk (by simp) (by simp)
 by_cases c:2<=n
 ·obtain⟨hs',a,b,e⟩:=uJ (cl:=aA T 28) (f:=13) (scr:=.lst (LI ns)) c (by omega) hk d (size:=size)
  refine⟨hs',a,?_,(az (fn:=df 13) rfl).trans e⟩
  have:aL 12 0 size<=6:=by
   unfold aL
   rw[if_pos (by decide)]
   split<;>omega
  omega
 ·exact⟨[],fun h hh=>(by cases hh),by decide,(az (fn:=df 13) rfl).trans (uU (by omega) (by omega) hk d)⟩
theorem main(ns:List Int)(hl:ns.length<=63):aA T 30 23 [.scr (ns.map D.int)]=some (.bl true):=by
 refine(az (fn:=zT 22 15 6 21 14 13) rfl).trans (yh (m:=8) (N:=3) hl (by decide) fun k os hk ho=>?_)
 obtain⟨o2,o3,o4,o5,o6,o7,o8,o9,rfl⟩:=Fv ho
 obtain⟨ds,hd,e1⟩:=dg.digits hl 26 (k:=40+k) (sizes:=[10,9,61,61,10 ^ 29]) (by omega) (by
  intro s hs
  simp only[List.mem_cons,List.not_mem_nil,or_false]at hs
  rcases hs with rfl | rfl | rfl | rfl | rfl<;>decide) (by decide)
 obtain⟨p,few,mo,at0,far,rfl,hp,hfew,hm,_,hf⟩:=EN hd
 have n1:1<=1+p:=by omega
 have n2:1+p<=10:=by omega
 have e0:aI .add (.int 1) (.int (p:Nat))=some (.int ((1+p:Nat):Int)):=rfl
 generalize 1+p=n at *
 obtain⟨q,hq,eq⟩:∃ q:Nat,q<=60/\ixV (.lst [.int (few:Nat),.int (mo:Nat),.int (mo:Nat)]) (.int ((far%3:Nat):Int))=some (.int (q:Nat)):=by
  have:far%3<3:=Nat.mod_lt _ (by decide)
  generalize far%3=w at *
  match w,this with
  | 0,_=>exact⟨few,by omega,rfl⟩
  | 1,_=>exact⟨mo,by omega,rfl⟩
  | 2,_=>exact⟨mo,by omega,rfl⟩
 have em:aI .mod (.int (far:Nat)) (.int 3)=some (.int ((far%3:Nat):Int)):=rfl
 have em5:aI .mod (.int (far:Nat)) (.int 5)=some (.int ((far%5:Nat):Int)):=rfl
 have e6:aI .mul (.int 6) (.int (k:Nat))=some (.int ((6*k:Nat):Int)):=by
  dsimp only[aI]
  rw[if_pos (by omega)]
  rfl
 obtain⟨hs,hr,hsl,e2⟩:=zl hl (k:=6*k) (n:=n) (size:=q) n1 (by omega) hq
 obtain⟨z,ez,bz,nz⟩:=drawn (w:=far%5) (Nat.mod_lt _ (by decide)) n1 n2 hf
 have ea:aI .mod (.int (at0:Nat)) (.int ((hs.length+1:Nat):Int))=some (.int ((at0%(hs.length+1):Nat):Int)):=by
  show(if(0:Int)<((hs.length+1:Nat):Int)then _ else none)=_
  rw[if_pos (by omega)];rfl
 generalize at0%(hs.length+1)=a at *
 have V:∀ f∈hs.map (au n),Val n f:=fun f hf=>by
  obtain⟨j,hj,rfl⟩:=List.mem_map.mp hf
  exact dZ n2 (hr j hj)
 have sm:=sameAll (T:=T) (sm:=15) rfl _ 28 _ (plP (a:=stk n (hs.map (au n))) (by rw[(m9 n2 V).frm.len];omega)) (by decide)
 have c59:=qr hs 59
 have wb:=zf (n:=n) (z:=z) (pre:=(hs.take 59).take a) (post:=L ((hs.take 59).drop a)) n1 n2 (fun j hj=>hr j (List.mem_of_mem_take (List.mem_of_mem_take hj))) nz bz
 have l1:((hs.take 59).take a).length<=100:=by rw[List.length_take,List.length_take];omega
 have l2:((hs.take 59).drop a).length<=100:=by rw[List.length_drop,List.length_take];omega
 have a1:aI .add (.lst (L ((hs.take 59).take a))) (.lst [.int z])=some (.lst (L ((hs.take 59).take a)++[.int z])):=by
  show(if(L ((hs.take 59).take a)).length+1<=most then _ else none)=_
  rw[if_pos (by rw[bD];unfold most;omega)]
 have a2:aI .add (.lst (L ((hs.take 59).take a)++[.int z])) (.lst (L ((hs.take 59).drop a)))=some (.lst (L ((hs.take 59).take a) ++ .int z::L ((hs.take 59).drop a))):=by
  show(if(L ((hs.take 59).take a)++[D.int z]).length+(L ((hs.take 59).drop a)).length<=most then _ else none)=_
  rw[if_pos (by rw[List.length_append,bD,bD,List.length_singleton];unfold most;omega),List.append_assoc]
  rfl
 have im:aU (.lst (L hs))=true:=dz hs
 refine⟨_,?_,wC (DI (af rfl) (aE aC (af rfl) rfl) (gJ (aP aC (aP aC (aP aC (aP aC (aP (aE aC aC EW) cF)))))) e1) rfl rfl rfl
  (bI (aE aC (af rfl) e0) rfl
  (bI (x_call (aP (af rfl) (aP (aE aC (af rfl) e6) (aP (af rfl) (aP (pN (gJ (aP (af rfl) (aP (af rfl) (aP (af rfl) cF)))) (aE (af rfl) aC em) eq) cF)))) e2) (by unfold bw;rw[im];rfl)
  (bI (e8 (af rfl) rfl) (by unfold bw;rw[im];rfl)
  (dN (cQ (yO (fD (gU (gU (af rfl) (af rfl) (Bm n1 n2 hr)) (gU (af rfl) (af rfl) (rC n1 n2 (by omega) hr)) sm)) (bQ (af rfl) (af rfl) (Ae (Pl.LL (n:=0) (by omega)) (by decide)))))
  (bI (pN (gJ (aP (aE aC aC eU) (aP (aE (af rfl) aC eU) (aP (af rfl) (aP (aE (af rfl) aC bT) (aP (aE (aE aC aC eU) (af rfl) eU) cF)))))) (aE (af rfl) aC em5) ez) rfl
  (bI (aE (af rfl) (aE (e8 (af rfl) rfl) aC (show aI .add (.int ((L hs).length:Nat)) (.int 1)=some (.int ((hs.length+1:Nat):Int)) by rw[bD];rfl)) ea) rfl
  (dN (cQ (bQ (gU (af rfl) (aE (aE (lQ (lQ (af rfl) aC c59) (af rfl) (qr _ a)) (gJ (aP (af rfl) cF)) a1) (Ff (lQ (af rfl) aC c59) (af rfl) (zm _ a)) a2) wb) aC (Ae (.str 0 _) (by decide))))
  c8)))))))⟩
 rfl
end K22
namespace L2
open PySem PySem.Spec PyProof.Rows
abbrev Key:=Sum Int Str
def kf:Key->Value->Bool
 | .inl k,v=>Value.isInt k v
 | .inr x,v=>Value.isStrOf x v
def F5(w:World):Key->Int
 | .inl k=>hashInt k
 | .inr x=>hashStr w x
theorem bM:∀ {k:Key} {v:Value},kf k v=true->(∃ i t,k=Sum.inl i/\v=Value.int i t)\/(∃ x t,k=Sum.inr x/\v=Value.str x t)
 | .inl i,v,h=>by
  obtain⟨t,e⟩:=Value.isInt_shape (k:=i) (v:=v) h
  exact .inl ⟨i,t,rfl,e⟩
 | .inr x,v,h=>by
  obtain⟨t,e⟩:=Value.isStrOf_shape (x:=x) (v:=v) h
  exact .inr ⟨x,t,rfl,e⟩
theorem wc(i:Int)(t:Tok):kf (.inl i) (.int i t)=true:=by simp[kf,Value.isInt]
theorem wy(x:Str)(t:Tok):kf (.inr x) (.str x t)=true:=by simp[kf,Value.isStrOf]
theorem B9(a b:Int):decide ((Sum.inl a:Key)=Sum.inl b)=(a == b):=by
 by_cases e:a=b
 ·subst e;simp
 ·have h:¬ (Sum.inl a:Key)=Sum.inl b:=fun q=>e (Sum.inl.inj q)
  rw[decide_eq_false h]
  exact(beq_eq_false_iff_ne.mpr e).symm
theorem BD(a b:Str):decide ((Sum.inr a:Key)=Sum.inr b)=decide (a=b):=by
 by_cases e:a=b
 ·subst e;simp
 ·have h:¬ (Sum.inr a:Key)=Sum.inr b:=fun q=>e (Sum.inr.inj q)
  rw[decide_eq_false h,decide_eq_false e]
theorem C1(a:Int)(b:Str):decide ((Sum.inl a:Key)=Sum.inr b)=false:=decide_eq_false (fun q=>nomatch q)
theorem Dq(a:Str)(b:Int):decide ((Sum.inr a:Key)=Sum.inl b)=false:=decide_eq_false (fun q=>nomatch q)
def bS(prog:Program)(w:World):PySem.KeyKind prog w Key where
 is:=kf
 hash:=F5 w
 inj:=fun v a b ha hb=>by
  rcases bM ha with⟨i,t,rfl,rfl⟩ | ⟨x,t,rfl,rfl⟩
  ·rcases bM hb with⟨j,u,rfl,e⟩ | ⟨y,u,rfl,e⟩
   ·injection e with e1 _;rw[e1]
   ·exact nomatch e
  ·rcases bM hb with⟨j,u,rfl,e⟩ | ⟨y,u,rfl,e⟩
   ·exact nomatch e
   ·injection e with e1 _;rw[e1]
 byValue:=fun k v h=>by
  rcases bM h with⟨i,t,rfl,rfl⟩ | ⟨x,t,rfl,rfl⟩<;>rfl
 pyHash:=fun hv h=>by
  rcases bM hv with⟨i,t,rfl,rfl⟩ | ⟨x,t,rfl,rfl⟩
  ·exact wpAny_pyHash_int h
  ·exact wpAny_pyHash_str h
 eqBool:=fun hu hv h=>by
  rcases bM hu with⟨i,t,rfl,rfl⟩ | ⟨x,t,rfl,rfl⟩
  ·rcases bM hv with⟨j,u,rfl,rfl⟩ | ⟨y,u,rfl,rfl⟩
   ·rw[B9]at h;exact wpAny_eqBool_int h
   ·rw[C1]at h;exact SeqAt.EqAt.int_str i t y u _ _ _ _ h
  ·rcases bM hv with⟨j,u,rfl,rfl⟩ | ⟨y,u,rfl,rfl⟩
   ·rw[Dq]at h;exact SeqAt.EqAt.str_int x t j u _ _ _ _ h
   ·rw[BD]at h;exact wpAny_eqBool_str h
 «strs»:=fun k x t v h=>by
  rcases bM h with⟨i,u,rfl,e⟩ | ⟨y,u,rfl,e⟩
  ·exact nomatch e
  ·injection e with e1 _
   subst e1
   cases v<;>rfl
theorem rE(prog:Program)(w:World)(i:Int)(t:Tok):(bS prog w).is (.inl i) (.int i t)=true:=wc i t
theorem rG(prog:Program)(w:World)(x:Str)(t:Tok):(bS prog w).is (.inr x) (.str x t)=true:=wy x t
inductive V where
 | non | bl (b:Bool) | int (i:Int) | str (x:Str) | byt (b:Array UInt8) | flt (b:UInt64) | ref (a:Addr) | ty (n:String)
 deriving DecidableEq
def RelV:V->Value->Prop
 | .non,u=>u=Value.none
 | .bl b,u=>u=Value.bool b
 | .int i,u=>∃ t,u=Value.int i t
 | .str x,u=>∃ t,u=Value.str x t
 | .byt b,u=>∃ t,u=Value.bytes b t
 | .flt b,u=>∃ t,u=Value.float b t
 | .ref a,u=>u=Value.ref a
 | .ty n,u=>u=Value.type n
abbrev Vals:List V->List Value->Prop:=Paired RelV
theorem Vals.length{xs:List V}{us:List Value}(r:Vals xs us):xs.length=us.length:=Paired.length r
theorem Vals.get:∀ {xs:List V} {us:List Value} {i:Nat} {x:V},Vals xs us->xs[i]?=some x->∃ u,us[i]?=some u/\RelV x u
 | _,_,_,_,.nil,e=>by simp at e
 | _,_,0,_,.cons r _,e=>by simp at e;subst e;exact⟨_,rfl,r⟩
 | _,_,i+1,x,.cons _ t,e=>by
  obtain⟨u,h1,h2⟩:=Vals.get (i:=i) (x:=x) t (by simpa using e)
  exact⟨u,by simpa using h1,h2⟩
theorem Vals.set{x:V}{u:Value}(r:RelV x u):∀ {xs:List V} {us:List Value} (i:Nat),Vals xs us->Vals (xs.set i x) (us.set i u)
 | _,_,_,.nil=>.nil
 | _,_,0,.cons _ t=>.cons r t
 | _,_,i+1,.cons q t=>.cons q (Vals.set r i t)
theorem Vals.append:∀ {xs ys:List V} {us ws:List Value},Vals xs us->Vals ys ws->Vals (xs++ys) (us++ws)
 | _,_,_,_,.nil,s=>s
 | _,_,_,_,.cons r t,s=>.cons r (Vals.append t s)
theorem Vals.take:∀ {xs:List V} {us:List Value} (n:Nat),Vals xs us->Vals (xs.take n) (us.take n)
 | _,_,0,_=>.nil
 | _,_,_+1,.nil=>.nil
 | _,_,n+1,.cons r t=>.cons r (Vals.take n t)
theorem Vals.drop:∀ {xs:List V} {us:List Value} (n:Nat),Vals xs us->Vals (xs.drop n) (us.drop n)
 | _,_,0,r=>r
 | _,_,_+1,.nil=>.nil
 | _,_,n+1,.cons _ t=>Vals.drop n t
def gB:Option V->Option Value->Prop
 | some v,some u=>RelV v u
 | none,none=>True
 | _,_=>False
def KV{κ:Type}:List (κ × V)->List (κ × Value)->Prop:=Paired fun(p:κ × V) (q:κ × Value)=>p.1=q.1/\RelV p.2 q.2
def kV:Key->V
 | .inl i=>.int i
 | .inr x=>.str x
inductive HO where
  | lst (xs:List V)
  | tup (xs:List V)
  | dK (kvs:List (Key × V)) | dT (kvs:List (List Key × V))
  | set (S:Int->Bool) (n:Nat)
  | ins (C dx:Addr) (fs:List (Str × V))
  | own (x:Addr)
  | xd (fs:List (Str × V))
  | met (f x:Addr)
  | rng (lo hi:Int)
  | frz (o:Obj) (u:HO)
  | tbl (ps:Array Value)
  | ext (φ:Heap->Prop)
abbrev Hp:=Addr->Option HO
def upd(H:Hp)(a:Addr)(o:HO):Hp:=fun b=>if b=a then some o else H b
theorem aR{H:Hp}{a:Addr}{o:HO}:upd H a o a=some o:=by unfold upd;rw[if_pos rfl]
theorem aJ{H:Hp}{a b:Addr}{o:HO}(h:b≠a):upd H a o b=H b:=by unfold upd;rw[if_neg h]
theorem oO{H:Hp}{a b:Addr}{o u:HO}(h:H a=some o)(h':H b=some u)(d:o≠u):a≠b:=by
 intro e;subst e;rw[h]at h';exact d (Option.some.inj h')
theorem aT{H:Hp}{a b:Addr}{o:HO}(h:H a=some o)(h':H b=none):a≠b:=by
 intro e;subst e;rw[h]at h';cases h'
section
variable(P:Program)(w:World)
def bf(H:Hp)(h:Heap)(a:Addr):HO->Prop
 | .lst xs=>xs.length<=sizeLine/\∃ (its:List Value) (n:Nat),Vals xs its/\h.get? a=some { cls:=.type "list",data:=.seq its.toArray n }
 | .tup xs=>xs.length<=sizeLine/\∃ its:List Value,Vals xs its/\IsTup h a its.toArray
 | .dK kvs=>kvs.length<=sizeLine/\(a == sysModules)=false/\∃ vs,KV kvs vs/\h.DictOf (bS P w) a vs
 | .dT kvs=>kvs.length<=sizeLine/\(a == sysModules)=false/\∃ xs:List (List Key × Addr × Value),
   Paired (fun(p:List Key × V) (q:List Key × Addr × Value)=>p.1=q.1/\H q.2.1=some (.tup (p.1.map kV))/\RelV p.2 q.2.2) kvs xs /\
   ∃ o es ep,h.get? a=some o/\o.ExactDict/\o.data=.dict es ep/\es.toList=xs.map (entryOfKey (tupleKind (bS P w)))/\(xs.map (·.1)).Nodup
 | .set S n=>h.SetOf (intKind P w) a S n
 | .ins C dx fs=>H dx=some (.own a)/\fs.length<=1000/\dx≠a/\h.get? a=some (PySem.W.instObj C dx) /\
   ∃ mA,h.Ns1 dx mA/\(∀ f,gB (fs.lookup f) (mA f))/\PySem.Within mA (fs.map (·.1))
 | .own _=>∃ o,h.get? a=some o
 | .xd fs=>∃ mA,h.Ns1 a mA/\∀ f,gB (fs.lookup f) (mA f)
 | .rng lo hi=>∃ t u v,h.get? a=some { cls:=.type "range",data:=.fields #[.int lo t,.int hi u,.int 1 v] }
 | .frz o u=>h.get? a=some o/\bf H h a u
 | .tbl ps=>h.get? a=some { cls:=.none,data:=.fields ps }
 | .met f x=>h.get? a=some (PySem.W.methodObj (.ref f) (.ref x))
 | .ext φ=>φ h/\(∃ o,h.get? a=some o)/\∀ h1 h2:Heap,φ h1->(∀ o,h1.get? a=some o->h2.get? a=some o)->φ h2
def HOk(H:Hp)(h:Heap):Prop:=∀ a o,H a=some o->bf P w H h a o
end
section
variable{P:Program}{w:World}{H H':Hp}{h h':Heap}{a:Addr}{o:HO}
theorem bf.lt(x:bf P w H h a o):a<h.objs.size:=by
 cases o with
 | lst xs=>obtain⟨_,_,_,_,e⟩:=x;exact Heap.lt_size e
 | tup xs=>obtain⟨_,_,_,p⟩:=x;exact p.lt
 | dK kvs=>obtain⟨_,_,_,_,o,_,_,e,_⟩:=x;exact Heap.lt_size e
 | dT kvs=>obtain⟨_,_,_,_,o,_,_,e,_⟩:=x;exact Heap.lt_size e
 | set S n=>obtain⟨o,_,_,_,e,_⟩:=x;exact Heap.lt_size e
 | ins C dx fs=>obtain⟨_,_,_,e,_⟩:=x;exact Heap.lt_size e
 | own y=>obtain⟨_,e⟩:=x;exact Heap.lt_size e
 | xd fs=>obtain⟨_,⟨_,_,_,e,_⟩,_⟩:=x;exact Heap.lt_size e
 | rng lo hi=>obtain⟨_,_,_,e⟩:=x;exact Heap.lt_size e
 | frz ob u=>obtain⟨e,_⟩:=x;exact Heap.lt_size e
 | tbl ps=>exact Heap.lt_size (show h.get? a=some _ from x)
 | met f y=>exact Heap.lt_size (show h.get? a=some _ from x)
 | ext φ=>obtain⟨_,⟨_,e⟩,_⟩:=x;exact Heap.lt_size e
theorem Paired.xY{α β:Type}{F G:α->β->Prop}:∀ {l₁:List α} {l₂:List β},Paired F l₁ l₂->(∀ a b,F a b->G a b)->Paired G l₁ l₂
 | _,_,.nil,_=>.nil
 | _,_,.cons r t,f=>.cons (f _ _ r) (Paired.xY t f)
theorem bf.je(x:bf P w H h a o)(k:∀ b u,(b=a\/H b=some (.own a))->h.get? b=some u->h'.get? b=some u)
 (ho:∀ b,H b=some (.own a)->H' b=some (.own a))(ht:∀ b xs,H b=some (.tup xs)->H' b=some (.tup xs)):bf P w H' h' a o:=by
 induction o with
 | lst xs=>obtain⟨z,its,n,r,e⟩:=x;exact⟨z,its,n,r,k _ _ (.inl rfl) e⟩
 | tup xs=>obtain⟨z,its,r,ob,e,c⟩:=x;exact⟨z,its,r,ob,k _ _ (.inl rfl) e,c⟩
 | dK kvs=>obtain⟨z,y,vs,r,ob,es,ep,e,c⟩:=x;exact⟨z,y,vs,r,ob,es,ep,k _ _ (.inl rfl) e,c⟩
 |dT kvs=>
  obtain⟨z,y,xs,r,ob,es,ep,e,c⟩:=x
  exact⟨z,y,xs,Paired.xY r fun p q z=>⟨z.1,ht _ _ z.2.1,z.2.2⟩,ob,es,ep,k _ _ (.inl rfl) e,c⟩
 | set S n=>obtain⟨ob,es,ep,t,e,c⟩:=x;exact⟨ob,es,ep,t,k _ _ (.inl rfl) e,c⟩
 |ins C dx fs=>
  obtain⟨d,z,ne,e,mA,⟨od,es,ep,e2,c⟩,r⟩:=x
  exact⟨ho _ d,z,ne,k _ _ (.inl rfl) e,mA,⟨od,es,ep,k _ _ (.inr d) e2,c⟩,r⟩
 | own y=>obtain⟨ob,e⟩:=x;exact⟨ob,k _ _ (.inl rfl) e⟩
 | xd fs=>obtain⟨mA,⟨od,es,ep,e,c⟩,r⟩:=x;exact⟨mA,⟨od,es,ep,k _ _ (.inl rfl) e,c⟩,r⟩
 | rng lo hi=>obtain⟨t,u,v,e⟩:=x;exact⟨t,u,v,k _ _ (.inl rfl) e⟩
 | frz ob u ih=>obtain⟨e,q⟩:=x;exact⟨k _ _ (.inl rfl) e,ih q⟩
 |tbl ps=>
  have e:h.get? a=some { cls:=.none,data:=.fields ps }:=x
  show h'.get? a=some { cls:=.none,data:=.fields ps }
  exact k a _ (.inl rfl) e
 |met f y=>
  have e:h.get? a=some (PySem.W.methodObj (.ref f) (.ref y)):=x
  show h'.get? a=some (PySem.W.methodObj (.ref f) (.ref y))
  exact k a _ (.inl rfl) e
 | ext φ=>obtain⟨p,⟨o,e⟩,st⟩:=x;exact⟨st _ _ p fun o q=>k _ _ (.inl rfl) q,⟨o,k _ _ (.inl rfl) e⟩,st⟩
theorem HOk.lt(x:HOk P w H h)(e:H a=some o):a<h.objs.size:=(x a o e).lt
theorem HOk.fresh(x:HOk P w H h)(e:h.objs.size<=a):H a=none:=by
 cases q:H a with
 | none=>rfl
 | some u=>exact absurd (Nat.lt_of_lt_of_le (x.lt q) e) (Nat.lt_irrefl _)
theorem HOk.kept(x:HOk P w H h)(k:∀ b u,h.get? b=some u->h'.get? b=some u):HOk P w H h':=fun a o e =>
 (x a o e).je (fun b u _ q=>k b u q) (fun _ q=>q) fun _ _ q=>q
theorem HOk.laid(x:HOk P w H h)(k:∀ b u,h.get? b=some u->h'.get? b=some u)(hp:h.objs.size<=a)(new:bf P w (upd H a o) h' a o):HOk P w (upd H a o) h':=fun b u e=>by
 have hn:=x.fresh hp
 by_cases hb:b=a
 ·subst hb;rw[aR]at e;cases e;exact new
 ·rw[aJ hb]at e
  exact(x b u e).je (fun c v _ q=>k c v q) (fun c q=>by rw[aJ (aT q hn)];exact q) fun c xs q=>by rw[aJ (aT q hn)];exact q
end
def Rd(H:Hp)(a:Addr)(u:HO):Prop:=H a=some u\/∃ o,H a=some (.frz o u)
theorem Rd.ok{P:Program}{w:World}{H:Hp}{h:Heap}{a:Addr}{u:HO}(r:Rd H a u)(x:HOk P w H h):bf P w H h a u:=by
 rcases r with r | ⟨o,r⟩
 ·exact x a u r
 ·obtain⟨_,q⟩:=x a _ r
  exact q
def Mut:Option HO->Prop
 | some (.lst _)=>True
 | some (.dK _)=>True
 | some (.dT _)=>True
 | some (.set _ _)=>True
 | some (.ins _ _ _)=>True
 | some (.ext _)=>True
 | _=>False
section
variable{P:Program}{w:World}{H:Hp}{h h':Heap}{x e:Addr}{o':HO}
theorem HOk.write(ok:HOk P w H h)(mu:Mut (H x))(he:e=x\/H e=some (.own x))(k:∀ b u,b≠e->h.get? b=some u->h'.get? b=some u)(heo:∃ u,h'.get? e=some u)
 (new:bf P w (upd H x o') h' x o'):HOk P w (upd H x o') h':=fun b u q=>by
 have nown:∀ c y,H c=some (.own y)->c≠x:=fun c y r z=>by subst z;rw[r]at mu;exact mu
 have ntup:∀ c xs,H c=some (.tup xs)->c≠x:=fun c xs r z=>by subst z;rw[r]at mu;exact mu
 by_cases hb:b=x
 ·subst hb;rw[aR]at q;cases q;exact new
 ·rw[aJ hb]at q
  by_cases hbe:b=e
  ·have q':H b=some (.own x):=by
    rcases he with z | z
    ·exact absurd (hbe.trans z) hb
    ·rw[hbe];exact z
   rw[q]at q';cases q'
   obtain⟨v,hv⟩:=heo
   exact⟨v,by rw[hbe];exact hv⟩
  ·refine(ok b u q).je (fun c v hc r=>k c v ?_ r) (fun c r=>by rw[aJ (nown c b r)];exact r) fun c xs r=>by rw[aJ (ntup c xs r)];exact r
   rcases hc with rfl | hc
   ·exact hbe
   ·rintro rfl
    rcases he with z | z
    ·exact nown c b hc z
    ·rw[hc]at z;cases z;exact hb rfl
end
structure Un(fs ex:List Addr)(H H':Hp)(h h':Heap):Prop where
 keep:∀ b o,h.get? b=some o->H b=none->b∉fs->b∉ex->h'.get? b=some o
 slot:∀ b o,h.get? b=some o->H b=none->b∈fs->b∉ex->∃ sl,h'.get? b=some { o with slots:=sl }
 free:∀ b o,h.get? b=some o->H b=none->b∉ex->H' b=none
 there:∀ b o,h.get? b=some o->b∉ex->∃ o',h'.get? b=some o'
 eB:∀ b xs,H b=some (.tup xs)->H' b=some (.tup xs)
 cJ:∀ b o u,H b=some (.frz o u)->H' b=some (.frz o u)
 eA:∀ b ps,H b=some (.tbl ps)->∃ more,H' b=some (.tbl (ps++more))
section
variable{fs fs' ex ex':List Addr}{H H1 H2:Hp}{h h1 h2 h':Heap}{a x e:Addr}{o:HO}
theorem Un.any(u:Un fs ex H H1 h h1){b:Addr}{ob:Obj}(q:h.get? b=some ob)(n:H b=none)(hx:b∉ex):∃ sl,h1.get? b=some { ob with slots:=sl }:=by
 by_cases hb:b∈fs
 ·exact u.slot b ob q n hb hx
 ·exact⟨ob.slots,u.keep b ob q n hb hx⟩
theorem Un.kept(k:∀ b u,h.get? b=some u->h'.get? b=some u):Un fs ex H H h h' :=
 ⟨fun b ob q _ _ _=>k b ob q,fun b ob q _ _ _=>⟨ob.slots,k b ob q⟩,fun _ _ _ n _=>n,fun b ob q _=>⟨ob,k b ob q⟩,fun _ _ q=>q,fun _ _ _ q=>q,fun _ ps q=>⟨#[],by rw[q];simp⟩⟩
theorem Un.refl:Un fs ex H H h h:=Un.kept fun _ _ q=>q
theorem Un.laid(k:∀ b u,h.get? b=some u->h'.get? b=some u)(hp:h.objs.size<=a)(hn:H a=none):Un fs ex H (upd H a o) h h' where
 keep:=fun b u q _ _ _=>k b u q
 slot:=fun b u q _ _ _=>⟨u.slots,k b u q⟩
 free:=fun b u q n _=>by rw[aJ (Nat.ne_of_lt (Nat.lt_of_lt_of_le (Heap.lt_size q) hp))];exact n
 there:=fun b u q _=>⟨u,k b u q⟩
 eB:=fun b xs q=>by rw[aJ (aT q hn)];exact q
 cJ:=fun b u xs q=>by rw[aJ (aT q hn)];exact q
 eA:=fun b ps q=>⟨#[],by rw[aJ (aT q hn),q];simp⟩
theorem Un.write(mu:Mut (H x))(he:e=x\/H e=some (.own x))(k:∀ b u,b≠e->h.get? b=some u->h'.get? b=some u)(heo:∃ u,h'.get? e=some u):Un fs ex H (upd H x o) h h':=by
 have hx:∀ b,H b=none->b≠x:=fun b n z=>by subst z;rw[n]at mu;exact mu
 have hb:∀ b,H b=none->b≠e:=fun b n z=>by
  subst z
  rcases he with r | r
  ·exact hx b n r
  ·rw[n]at r;cases r
 have hm:∀ b u,H b=some u->¬ Mut (some u)->b≠x:=fun b u q nm z=>by subst z;rw[q]at mu;exact nm mu
 refine⟨fun b u q n _ _=>k b u (hb b n) q,fun b u q n _ _=>⟨u.slots,k b u (hb b n) q⟩,fun b u q n _=>by rw[aJ (hx b n)];exact n,fun b u q _=>?_,
  fun b xs q=>by rw[aJ (hm b _ q fun z=>z)];exact q,fun b u xs q=>by rw[aJ (hm b _ q fun z=>z)];exact q,fun b ps q=>⟨#[],by rw[aJ (hm b _ q fun z=>z),q];simp⟩⟩
 by_cases hbe:b=e
 ·subst hbe;exact heo
 ·exact⟨u,k b u hbe q⟩
end
def trk(h:Heap)(H:Hp):List Addr:=(List.range h.objs.size).filter fun a=>(H a).isSome
def iP(h:Heap)(H:Hp):Heap:=PySem.W.hideAll h (trk h H)
theorem xo(h:Heap)(H:Hp):(iP h H).objs.size=h.objs.size:=PySem.W.hideAll_size _ _
theorem xS{h:Heap}{H:Hp}{b:Addr}{o:Obj}(e:h.get? b=some o)(n:H b=none):(iP h H).get? b=some o :=
 PySem.W.hideAll_get _ e fun hm=>by
  have q:(H b).isSome=true:=(List.mem_filter.mp hm).2
  rw[n]at q;simp at q
theorem B0{h:Heap}{H:Hp}{b:Addr}{o:Obj}(e:(iP h H).get? b=some o):h.get? b=some o/\H b=none:=by
 have e':h.get? b=some o:=PySem.W.of_hideAll (trk h H) e
 refine⟨e',?_⟩
 cases q:H b with
 | none=>rfl
 |some x=>
  have hm:b∈trk h H:=List.mem_filter.mpr ⟨List.mem_range.mpr (Heap.lt_size e'),by simp[q]⟩
  have z:(iP h H).get? b=none:=PySem.W.hideAll_none (trk h H) hm
  rw[z]at e;cases e
structure Mod(K:PySem.W.Frag)(mg:Str->Option Value)(base:Heap):Prop where
 kin:K.In base
 glob:base.Ns mainGlobals mg
 blt:∃ mb,base.Ns builtinsNs mb/\∀ x:Str,x ≠ "__name__" -> mb x=bootBuiltins x
 nolimit:base.NoLimit
structure Cx where
 prog:Program
 w:World
 K:PySem.W.Frag
 mg:Str->Option Value
 base:Heap
 A:Around
 N:List Str
 s₀:Shared
 H₀:Hp
 env:Env
 outer:List Env
 stack:List Env
 ex:List Addr
 fn:Str->Bool
 calm:Bool
 pn:List (Addr × Obj)
 xe:Value->Shared->Prop
def frs(l:List Env):List Addr:=l.filterMap (·.frame)
abbrev Cx.fs(X:Cx):List Addr:=frs X.outer
def Vis(sc:Scope)(x:Str):Prop:=sc.names.lookup x=some .local\/sc.names.lookup x=some .cell\/sc.names.lookup x=some .free
def Loc(sc:Scope)(x:Str):Prop:=sc.names.lookup x=some .local\/sc.names.lookup x=some .cell
def Look(env:Env)(h:Heap)(m:Str->Option Value)(x:Str)(u:Value):Prop :=
 (env.kindOf x=some .local/\m x=some u)\/((env.kindOf x=some .cell\/env.kindOf x=some .free)/\∃ c,env.cells.lookup x=some c/\h.IsCell c (some u))
def HX(X:Cx):Prop:=X.A.handled=none\/∃ h o u vs,X.A.handled=some (.ref h)/\X.H₀ h=some (.frz o u)/\o.data=.fields vs/\vs[2]?=some .none
structure Cx.Ok(X:Cx):Prop where
 mod:Mod X.K X.mg X.base
 kind:X.env.scope.kind=.function
 glob:X.env.globals=mainGlobals
 blt:X.env.builtins=builtinsNs
 above:X.s₀.heap.objs.size<=X.env.locals
 inj:∀ x y c,X.env.cells.lookup x=some c->X.env.cells.lookup y=some c->x=y
 has:∀ x,(X.env.kindOf x=some .cell\/X.env.kindOf x=some .free)->∃ c,X.env.cells.lookup x=some c
 cab:∀ x c,X.fn x=true->X.env.cells.lookup x=some c->X.s₀.heap.objs.size<=c
 hd:(X.calm=true->X.A.handled=none)/\HX X
 frames:X.A.frames=some X.stack
 stk:X.stack=X.outer\/(X.stack=X.env::X.outer/\X.env.frame=some X.env.locals)
 exf:∀ b∈X.ex,b≠X.env.locals/\∀ x c,X.env.cells.lookup x=some c->c≠b
 bs:∀ b o,X.base.get? b=some o->X.s₀.heap.get? b=some o/\X.H₀ b=none
 bsz:X.base.objs.size<=X.s₀.heap.objs.size
 iV:∀ b o,X.base.get? b=some o->b∉X.ex
 iH:∀ b∈X.ex,b∉X.fs
 d9:X.s₀.heap.FunFrames X.base X.outer
 frf:∀ b∈X.fs,X.H₀ b=none
structure Inv(X:Cx)(pins:List (Addr × Obj))(σ:List (Option V))(H:Hp)(s:Shared):Prop where
 ok:X.Ok
 os:s.os=X.s₀.os
 bare:AllBare s.gens
 base:Un X.fs X.ex X.H₀ H X.s₀.heap s.heap
 loc:∃ m,s.heap.Ns X.env.locals m/\∀ (i:Nat) (x:Str) (v:V),X.N[i]?=some x->σ[i]?=some (some v)->Vis X.env.scope x->∃ u,RelV v u/\Look X.env s.heap m x u
 cell:∀ x c,X.env.cells.lookup x=some c->∃ v,s.heap.IsCell c v
 free:H X.env.locals=none
 cA:∀ x c,X.env.cells.lookup x=some c->H c=none
 pin:∀ p∈X.pn++pins,s.heap.get? p.1=some p.2/\H p.1=none/\p.1≠X.env.locals/\p.1∉X.fs/\∀ v,p.2.data≠.cell v
 hok:HOk X.prog X.w H s.heap
 len:σ.length=X.N.length
section
variable{X:Cx}{pins:List (Addr × Obj)}{σ:List (Option V)}{H H':Hp}{s:Shared}{h':Heap}
theorem Cx.Ok.FA(ok:X.Ok){b:Addr}{o:Obj}(e:X.base.get? b=some o):b∉X.fs:=fun hb=>by
 have:=(ok.d9.mem hb).1
 rw[e]at this;cases this
theorem Inv.bs(I:Inv X pins σ H s):∀ b o,X.base.get? b=some o->s.heap.get? b=some o/\H b=none:=fun b o e =>
 ⟨I.base.keep b o (I.ok.bs b o e).1 (I.ok.bs b o e).2 (I.ok.FA e) (I.ok.iV b o e),I.base.free b o (I.ok.bs b o e).1 (I.ok.bs b o e).2 (I.ok.iV b o e)⟩
theorem Inv.bk(I:Inv X pins σ H s):∀ b o,X.base.get? b=some o->s.heap.get? b=some o:=fun b o e=>(I.bs b o e).1
theorem Inv.mod(I:Inv X pins σ H s):Mod X.K X.mg X.base:=I.ok.mod
theorem Inv.kIn(I:Inv X pins σ H s):X.K.In s.heap:=I.ok.mod.kin.keeps I.bk
theorem Inv.lt(I:Inv X pins σ H s):X.env.locals<s.heap.objs.size:=let ⟨_,hn,_⟩:=I.loc;hn.lt
theorem Inv.sz(I:Inv X pins σ H s):X.s₀.heap.objs.size<=s.heap.objs.size:=Nat.le_trans I.ok.above (Nat.le_of_lt I.lt)
theorem Inv.FL(I:Inv X pins σ H s){a:Addr}(h:s.heap.objs.size<=a):a∉X.fs:=fun hb=>by
 obtain⟨_,o,ho,_⟩:=I.ok.d9.mem hb
 exact absurd (Nat.lt_of_lt_of_le (Heap.lt_size ho) (Nat.le_trans I.sz h)) (Nat.lt_irrefl _)
theorem Inv.cne(I:Inv X pins σ H s):∀ x c,X.env.cells.lookup x=some c->c≠X.env.locals:=fun x c e z=>by
 obtain⟨v,o,ho,hd⟩:=I.cell x c e
 obtain⟨m,⟨o',es,ep,ho',hd',_⟩,_⟩:=I.loc
 rw[z,ho']at ho;cases ho;rw[hd']at hd;cases hd
theorem Inv.d9(I:Inv X pins σ H s):s.heap.FunFrames X.base X.outer:=by
 have all:∀ (l:List Env),(∀ b∈frs l,b∈X.fs)->X.s₀.heap.FunFrames X.base l->s.heap.FunFrames X.base l:=by
  intro l
  induction l with
  | nil=>intro _ _;trivial
  |cons env r ih=>
   intro hs hl
   obtain⟨hk,⟨L,o,hf,hn,ho,hd⟩,hr⟩:=hl
   have hL:L∈X.fs:=hs L (by unfold frs;rw[List.filterMap_cons,hf];exact List.mem_cons_self)
   obtain⟨sl,e⟩:=I.base.slot L o ho (I.ok.frf L hL) hL fun z=>I.ok.iH L z hL
   exact⟨hk,⟨L,_,hf,hn,e,hd⟩,ih (fun b hb=>hs b (by unfold frs;rw[List.filterMap_cons,hf];exact List.mem_cons_of_mem _ hb)) hr⟩
 exact all X.outer (fun _ hb=>hb) I.ok.d9
theorem Inv.stack(I:Inv X pins σ H s):s.heap.FunFrames X.base X.stack:=by
 rcases I.ok.stk with e | ⟨e,hf⟩
 ·rw[e];exact I.d9
 ·rw[e]
  obtain⟨m,hn,_⟩:=I.loc
  refine .cons (by rw[I.ok.kind];decide) hf hn ?_ I.d9
  exact Heap.get?_none_of_le (Nat.le_trans I.ok.bsz I.ok.above)
theorem Inv.pd(I:Inv X pins σ H s):∀ b∈frs X.stack,b∈X.env.locals::X.fs:=fun b hb=>by
 rcases I.ok.stk with e | ⟨e,hf⟩
 ·rw[e]at hb;exact List.mem_cons_of_mem _ hb
 ·rw[e]at hb
  unfold frs at hb
  rw[List.filterMap_cons,hf]at hb
  exact hb
theorem Inv.jI(I:Inv X pins σ H s):∀ b∈frs X.stack,H b=none:=fun b hb=>by
 rcases List.mem_cons.mp (I.pd b hb)with e | hb
 ·rw[e];exact I.free
 ·obtain⟨_,o,ho,_⟩:=I.ok.d9.mem hb
  exact I.base.free b o ho (I.ok.frf b hb) fun z=>I.ok.iH b z hb
theorem Inv.step{g':Array GenState}{t':Nat}{d':Drawn}{ch:List Addr}(I:Inv X pins σ H s)
 (hch:∀ b∈ch,(b∈X.ex\/X.s₀.heap.objs.size<=b)/\b≠X.env.locals/\(∀ x c,X.env.cells.lookup x=some c->c≠b)/\∀ p∈X.pn++pins,p.1≠b)
 (keep:∀ b o,b≠X.env.locals->b∉X.fs->b∉ch->s.heap.get? b=some o->H b=none->h'.get? b=some o)
 (slot:∀ b o,b≠X.env.locals->b∈X.fs->b∉ch->s.heap.get? b=some o->H b=none->∃ sl,h'.get? b=some { o with slots:=sl })(free:∀ b o,b∉ch->s.heap.get? b=some o->H b=none->H' b=none)
 (there:∀ b o,b∉ch->s.heap.get? b=some o->∃ o',h'.get? b=some o')
 (eB:∀ b xs,H b=some (.tup xs)->H' b=some (.tup xs))(cJ:∀ b o u,H b=some (.frz o u)->H' b=some (.frz o u))(eA:∀ b ps,H b=some (.tbl ps)->∃ more,H' b=some (.tbl (ps++more)))
 (ns:∀ m,s.heap.Ns X.env.locals m->h'.Ns X.env.locals m)(hok:HOk X.prog X.w H' h')(hg:AllBare g') :
  Inv X pins σ H' { s with heap:=h',gens:=g',drawn:=d',toks:=t' }:=by
 have neL:∀ b o,X.s₀.heap.get? b=some o->b≠X.env.locals:=fun b o e=>Nat.ne_of_lt (Nat.lt_of_lt_of_le (Heap.lt_size e) I.ok.above)
 have neC:∀ b o,X.s₀.heap.get? b=some o->b∉X.ex->b∉ch:=fun b o e hx hb=>by
  rcases(hch b hb).1 with z | z
  ·exact hx z
  ·exact absurd (Nat.lt_of_lt_of_le (Heap.lt_size e) z) (Nat.lt_irrefl _)
 have cellK:∀ x c,X.env.cells.lookup x=some c->∀ v,s.heap.IsCell c v->h'.IsCell c v:=fun x c e v ⟨o,ho,hd⟩=>by
  have nch:c∉ch:=fun z=>(hch c z).2.2.1 x c e rfl
  by_cases hc:c∈X.fs
  ·obtain⟨sl,q⟩:=slot c o (I.cne x c e) hc nch ho (I.cA x c e)
   exact⟨_,q,hd⟩
  ·exact⟨o,keep c o (I.cne x c e) hc nch ho (I.cA x c e),hd⟩
 refine⟨I.ok,I.os,hg,⟨fun b o e n hb hx=>?_,fun b o e n hb hx=>?_,fun b o e n hx=>?_,fun b o e hx=>?_,fun b xs e=>eB b xs (I.base.eB b xs e),fun b o xs e=>cJ b o xs (I.base.cJ b o xs e),fun b ps e=>?_⟩,?_,fun x c e=>?_,?_,fun x c e=>?_,fun p hp=>?_,hok,I.len⟩
 ·exact keep b o (neL b o e) hb (neC b o e hx) (I.base.keep b o e n hb hx) (I.base.free b o e n hx)
 ·obtain⟨sl,e1⟩:=I.base.slot b o e n hb hx
  obtain⟨sl',e2⟩:=slot b _ (neL b o e) hb (neC b o e hx) e1 (I.base.free b o e n hx)
  exact⟨sl',e2⟩
 ·obtain⟨o',e1⟩:=I.base.there b o e hx
  exact free b o' (neC b o e hx) e1 (I.base.free b o e n hx)
 ·obtain⟨o',e1⟩:=I.base.there b o e hx
  exact there b o' (neC b o e hx) e1
 ·obtain⟨m1,e1⟩:=I.base.eA b ps e
  obtain⟨m2,e2⟩:=eA b _ e1
  exact⟨m1++m2,by rw[e2,Array.append_assoc]⟩
 ·obtain⟨m,hn,hl⟩:=I.loc
  refine⟨m,ns m hn,fun i x v e1 e2 e3=>?_⟩
  obtain⟨u,r,l⟩:=hl i x v e1 e2 e3
  refine⟨u,r,?_⟩
  rcases l with l | ⟨k,c,e,z⟩
  ·exact .inl l
  ·exact .inr ⟨k,c,e,cellK x c e _ z⟩
 ·obtain⟨v,z⟩:=I.cell x c e
  exact⟨v,cellK x c e v z⟩
 ·obtain⟨m,⟨o,_,_,ho,_⟩,_⟩:=I.loc
  exact free _ o (fun z=>(hch _ z).2.1 rfl) ho I.free
 ·obtain⟨v,o,ho,hd⟩:=I.cell x c e
  exact free c o (fun z=>(hch c z).2.2.1 x c e rfl) ho (I.cA x c e)
 ·obtain⟨e,n,ne,nf,d⟩:=I.pin p hp
  have nch:p.1∉ch:=fun z=>(hch p.1 z).2.2.2 p hp rfl
  exact⟨keep p.1 p.2 ne nf nch e n,free p.1 p.2 nch e n,ne,nf,d⟩
theorem Inv.un{t':Nat}(I:Inv X pins σ H s)(u:Un X.fs [] H H' s.heap h')(hok:HOk X.prog X.w H' h'):Inv X pins σ H' { s with heap:=h',toks:=t' }:=by
 obtain⟨m,⟨o,es,ep,ho,r⟩,_⟩:=id I.loc
 obtain⟨sl,hL⟩:=u.any ho I.free (by simp)
 exact I.step (g':=s.gens) (d':=s.drawn) (ch:=[]) (fun _ z=>nomatch z) (fun b o _ hb _ e n=>u.keep b o e n hb (by simp)) (fun b o _ hb _ e n=>u.slot b o e n hb (by simp)) (fun b o _ e n=>u.free b o e n (by simp)) (fun b o _ e=>u.there b o e (by simp)) u.eB u.cJ u.eA (fun m' hm=>by
  obtain⟨o',es',ep',ho',r'⟩:=hm
  rw[ho]at ho';cases ho'
  exact⟨_,es',ep',hL,r'⟩) hok I.bare
theorem Inv.call{g':Array GenState}{t':Nat}{d':Drawn}{ch:List Addr}(I:Inv X pins σ H s)(u:Un (frs X.stack) ch H H' s.heap h')(hok:HOk X.prog X.w H' h')(hg:AllBare g')
 (hch:∀ b∈ch,(b∈X.ex\/X.s₀.heap.objs.size<=b)/\b≠X.env.locals/\(∀ x c,X.env.cells.lookup x=some c->c≠b)/\∀ p∈X.pn++pins,p.1≠b) :
  Inv X pins σ H' { s with heap:=h',gens:=g',drawn:=d',toks:=t' }:=by
 obtain⟨m,⟨o,es,ep,ho,r⟩,_⟩:=id I.loc
 obtain⟨sl,hL⟩:=u.any ho I.free fun z=>(hch _ z).2.1 rfl
 exact I.step (ch:=ch) hch (fun b o hL hb hc e n=>u.keep b o e n (fun z=>(List.mem_cons.mp (I.pd b z)).elim hL hb) hc) (fun b o _ _ hc e n=>u.any e n hc) (fun b o hc e n=>u.free b o e n hc) (fun b o hc e=>u.there b o e hc) u.eB u.cJ u.eA (fun m' hm=>by
  obtain⟨o',es',ep',ho',r'⟩:=hm
  rw[ho]at ho';cases ho'
  exact⟨_,es',ep',hL,r'⟩) hok hg
theorem Inv.turned{t':Nat}{it:Addr}(I:Inv X pins σ H s)(k:∀ b o,b≠it->s.heap.get? b=some o->h'.get? b=some o)(hn:H it=none)(hL:it≠X.env.locals)
 (h1:it∈X.ex\/X.s₀.heap.objs.size<=it)(h2:∀ x c,X.env.cells.lookup x=some c->c≠it)(h3:∀ p∈X.pn++pins,p.1≠it):Inv X pins σ H { s with heap:=h',toks:=t' }:=by
 have nit:∀ b u,H b=some u->b≠it:=fun b u e z=>by rw[z,hn]at e;cases e
 refine I.step (g':=s.gens) (d':=s.drawn) (ch:=[it]) (fun b hb=>?_) (fun b o _ _ hc e _=>k b o (fun z=>hc (by simp[z])) e) (fun b o _ _ hc e _=>⟨o.slots,k b o (fun z=>hc (by simp[z])) e⟩) (fun _ _ _ _ n=>n)
  (fun b o hc e=>⟨o,k b o (fun z=>hc (by simp[z])) e⟩) (fun _ _ e=>e) (fun _ _ _ e=>e) (fun b ps e=>⟨#[],by rw[e];simp⟩) (fun m hm=>?_) (fun b u e=>?_) I.bare
 ·have e:b=it:=by simpa using hb
  subst e
  exact⟨h1,hL,h2,h3⟩
 ·obtain⟨o,es,ep,ho,r⟩:=hm
  exact⟨o,es,ep,k _ o (Ne.symm hL) ho,r⟩
 ·refine(I.hok b u e).je (fun c v hc q=>k c v ?_ q) (fun _ q=>q) fun _ _ q=>q
  rcases hc with z | z
  ·rw[z];exact nit b u e
  ·exact nit c _ z
theorem Inv.tok(I:Inv X pins σ H s)(t:Nat):Inv X pins σ H { s with toks:=t }:=I.un (h':=s.heap) (t':=t) Un.refl I.hok
theorem Inv.kept{t':Nat}(I:Inv X pins σ H s)(k:∀ b u,s.heap.get? b=some u->h'.get? b=some u):Inv X pins σ H { s with heap:=h',toks:=t' }:=I.un (Un.kept k) (I.hok.kept k)
theorem Inv.laid{a:Addr}{o:HO}{t':Nat}(I:Inv X pins σ H s)(k:∀ b u,s.heap.get? b=some u->h'.get? b=some u)(hp:s.heap.objs.size<=a)(new:bf X.prog X.w (upd H a o) h' a o) :
  Inv X pins σ (upd H a o) { s with heap:=h',toks:=t' }:=I.un (Un.laid k hp (I.hok.fresh hp)) (I.hok.laid k hp new)
theorem Inv.write{x e:Addr}{o:HO}{t':Nat}(I:Inv X pins σ H s)(mu:Mut (H x))(he:e=x\/H e=some (.own x))(k:∀ b u,b≠e->s.heap.get? b=some u->h'.get? b=some u)(heo:∃ u,h'.get? e=some u)
 (new:bf X.prog X.w (upd H x o) h' x o):Inv X pins σ (upd H x o) { s with heap:=h',toks:=t' }:=I.un (Un.write mu he k heo) (I.hok.write mu he k heo new)
theorem Inv.weak{σ':List (Option V)}(I:Inv X pins σ H s)(hl:σ'.length=σ.length)(w:∀ (i:Nat) v,σ'[i]?=some (some v)->σ[i]?=some (some v)):Inv X pins σ' H s :=
 ⟨I.ok,I.os,I.bare,I.base,let ⟨m,hn,hl'⟩:=I.loc;⟨m,hn,fun i x v e1 e2 e3=>hl' i x v e1 (w i v e2) e3⟩,I.cell,I.free,I.cA,I.pin,I.hok,hl.trans I.len⟩
theorem Inv.sJ{pins':List (Addr × Obj)}(I:Inv X pins σ H s)(h:∀ p∈pins',s.heap.get? p.1=some p.2/\H p.1=none/\p.1≠X.env.locals/\p.1∉X.fs/\∀ v,p.2.data≠.cell v):Inv X pins' σ H s :=
 ⟨I.ok,I.os,I.bare,I.base,I.loc,I.cell,I.free,I.cA,fun p hp=>(List.mem_append.mp hp).elim (fun z=>I.pin p (List.mem_append_left _ z)) (h p),I.hok,I.len⟩
theorem kN{N:List Str}(hN:N.Nodup){i j:Nat}{x:Str}(a:N[i]?=some x)(b:N[j]?=some x):i=j:=by
 obtain⟨h1,e1⟩:=List.getElem?_eq_some_iff.mp a
 obtain⟨h2,e2⟩:=List.getElem?_eq_some_iff.mp b
 exact(List.getElem_inj hN).mp (e1.trans e2.symm)
theorem nR{M:Model}{A:Around}{E:Value->Shared->Prop}{i:Nat}{x:Str}{v:V}{u:Value}{Q:Unit->Shared->Prop}(I:Inv X pins σ H s)(hN:X.N.Nodup)(hi:X.N[i]?=some x)(hx:Loc X.env.scope x)(r:RelV v u)
 (h:∀ s',Inv X pins (σ.set i (some v)) H s'->(∃ a,Heap.SameBut a s.heap s'.heap/\(a=X.env.locals\/X.env.cells.lookup x=some a))->Q () s')(hf:X.fn x=true\/X.env.scope.names.lookup x=some .local:=by first | exact .inl rfl | exact .inr rfl | assumption):wpAny M A (storeName X.env x u) Q E s:=by
 obtain⟨m,hn,hl⟩:=id I.loc
 have hcls:(X.env.scope.kind == .class || (X.env.scope.kind == .module&&X.env.locals != X.env.globals))=false:=by rw[I.ok.kind];rfl
 have hiσ:i<σ.length:=by rw[I.len];exact(List.getElem?_eq_some_iff.mp hi).1
 have cne:=I.cne
 have tracked:∀ {a:Addr} {h':Heap},(∃ o,s.heap.get? a=some o/\H a=none)->Heap.SameBut a s.heap h'->HOk X.prog X.w H h':=fun {a h'} ha hs b ob e=>by
  obtain⟨_,_,hfree⟩:=ha
  refine(I.hok b ob e).je (fun c w' hc q=>(hs.2 c ?_).trans q) (fun _ q=>q) fun _ _ q=>q
  rintro rfl
  rcases hc with rfl | hc
  ·rw[hfree]at e;cases e
  ·rw[hfree]at hc;cases hc
 rcases hx with hk | hk
 ·refine wpAny_storeName_local hk hn (fun h' hn' hs=>?_) hcls
  obtain⟨oL,_,_,hoL,_⟩:=id hn
  refine h _ ⟨I.ok,I.os,I.bare,⟨fun b o e n hb hx=>?_,fun b o e n hb hx=>?_,I.base.free,fun b o e hx=>?_,I.base.eB,I.base.cJ,I.base.eA⟩,⟨_,hn',fun j y v' e1 e2 e3=>?_⟩,fun y c e=>?_,I.free,I.cA,fun p hp=>?_,tracked ⟨oL,hoL,I.free⟩ hs,by simpa using I.len⟩ ⟨_,hs,.inl rfl⟩
  ·exact(hs.2 b (Nat.ne_of_lt (Nat.lt_of_lt_of_le (Heap.lt_size e) I.ok.above))).trans (I.base.keep b o e n hb hx)
  ·obtain⟨sl,e1⟩:=I.base.slot b o e n hb hx
   exact⟨sl,(hs.2 b (Nat.ne_of_lt (Nat.lt_of_lt_of_le (Heap.lt_size e) I.ok.above))).trans e1⟩
  ·obtain⟨o',e1⟩:=I.base.there b o e hx
   exact⟨o',(hs.2 b (Nat.ne_of_lt (Nat.lt_of_lt_of_le (Heap.lt_size e) I.ok.above))).trans e1⟩
  ·by_cases hj:j=i
   ·subst hj
    rw[hi]at e1;cases e1
    rw[List.getElem?_set_self hiσ]at e2
    cases e2
    exact⟨u,r,.inl ⟨hk,by simp⟩⟩
   ·rw[List.getElem?_set_ne (Ne.symm hj)]at e2
    obtain⟨u',r',q⟩:=hl j y v' e1 e2 e3
    refine⟨u',r',?_⟩
    rcases q with⟨k,e⟩ | ⟨k,c,e,z⟩
    ·refine .inl ⟨k,?_⟩
     have:y≠x:=fun e=>hj (kN hN e1 (e▸hi))
     simp[this,e]
    ·exact .inr ⟨k,c,e,z.sameBut hs (cne y c e)⟩
  ·obtain⟨w',z⟩:=I.cell y c e
   exact⟨w',z.sameBut hs (cne y c e)⟩
  ·obtain⟨e,n,ne,nf,d⟩:=I.pin p hp
   exact⟨(hs.2 p.1 ne).trans e,n,ne,nf,d⟩
 ·have hfn:X.fn x=true:=by
   rcases hf with z | z
   ·exact z
   ·rw[z]at hk;cases hk
  obtain⟨c,hc⟩:=I.ok.has x (.inl hk)
  obtain⟨w',z⟩:=I.cell x c hc
  refine wpAny_storeName_cell I.ok.kind hk hc z (fun h' hc' hs=>?_)
  obtain⟨oc,hoc,hocd⟩:=id z
  refine h { s with heap:=h' } ⟨I.ok,I.os,I.bare,⟨fun b o e n hb hx=>?_,fun b o e n hb hx=>?_,I.base.free,fun b o e hx=>?_,I.base.eB,I.base.cJ,I.base.eA⟩,⟨m,hn.sameBut hs (Ne.symm (cne x c hc)),fun j y v' e1 e2 e3=>?_⟩,fun y c' e=>?_,I.free,I.cA,fun p hp=>?_,tracked ⟨oc,hoc,I.cA x c hc⟩ hs,by simpa using I.len⟩ ⟨c,hs,.inr hc⟩
  ·exact(hs.2 b (Nat.ne_of_lt (Nat.lt_of_lt_of_le (Heap.lt_size e) (I.ok.cab x c hfn hc)))).trans (I.base.keep b o e n hb hx)
  ·obtain⟨sl,e1⟩:=I.base.slot b o e n hb hx
   exact⟨sl,(hs.2 b (Nat.ne_of_lt (Nat.lt_of_lt_of_le (Heap.lt_size e) (I.ok.cab x c hfn hc)))).trans e1⟩
  ·obtain⟨o',e1⟩:=I.base.there b o e hx
   exact⟨o',(hs.2 b (Nat.ne_of_lt (Nat.lt_of_lt_of_le (Heap.lt_size e) (I.ok.cab x c hfn hc)))).trans e1⟩
  ·by_cases hj:j=i
   ·subst hj
    rw[hi]at e1;cases e1
    rw[List.getElem?_set_self hiσ]at e2
    cases e2
    exact⟨u,r,.inr ⟨.inl hk,c,hc,hc'⟩⟩
   ·rw[List.getElem?_set_ne (Ne.symm hj)]at e2
    obtain⟨u',r',q⟩:=hl j y v' e1 e2 e3
    refine⟨u',r',?_⟩
    rcases q with q | ⟨k,c',e,z'⟩
    ·exact .inl q
    ·refine .inr ⟨k,c',e,z'.sameBut hs ?_⟩
     rintro rfl
     exact hj (kN hN e1 (I.ok.inj _ _ _ e hc▸hi))
  ·by_cases hcc:c'=c
   ·subst hcc;exact⟨_,hc'⟩
   ·obtain⟨w2,z2⟩:=I.cell y c' e
    exact⟨w2,z2.sameBut hs hcc⟩
  ·obtain⟨e,n,ne,nf,d⟩:=I.pin p hp
   refine⟨(hs.2 p.1 ?_).trans e,n,ne,nf,d⟩
   intro q
   rw[q,hoc]at e
   have q':oc=p.2:=Option.some.inj e
   exact d w' (by rw[<-q'];exact hocd)
theorem fe{M:Model}{A:Around}{E:Value->Shared->Prop}{i:Nat}{x:Str}{v:V}{u:Value}{Q:Unit->Shared->Prop}(I:Inv X pins σ H s)(hN:X.N.Nodup)(hi:X.N[i]?=some x)(hx:Loc X.env.scope x)(r:RelV v u)
 (h:∀ s',Inv X pins (σ.set i (some v)) H s'->Q () s')(hf:X.fn x=true\/X.env.scope.names.lookup x=some .local:=by first | exact .inl rfl | exact .inr rfl | assumption):wpAny M A (storeName X.env x u) Q E s :=
 nR I hN hi hx r (fun s' I' _=>h s' I') hf
theorem Inv.tL{s':Shared}{ch:List Addr}(I:Inv X pins σ H s)(ho:s'.os=s.os)(u:Un (frs X.stack) ch H H' s.heap s'.heap)(hok:HOk X.prog X.w H' s'.heap)(hg:AllBare s'.gens)
 (hch:∀ b∈ch,(b∈X.ex\/X.s₀.heap.objs.size<=b)/\b≠X.env.locals/\(∀ x c,X.env.cells.lookup x=some c->c≠b)/\∀ p∈X.pn++pins,p.1≠b):Inv X pins σ H' s':=by
 obtain⟨h',g',d',t',o'⟩:=s'
 have e:o'=s.os:=ho
 subst e
 exact I.call (g':=g') (t':=t') (d':=d') u hok hg hch
end
abbrev XK:=Value->Option Addr->Hp->Prop
abbrev St:=List (Option V)
abbrev VK:=V->Hp->Prop
abbrev TE:=St->Hp->VK->Prop
abbrev TT:=St->Hp->(Bool->Hp->Prop)->Prop
abbrev TA:=St->Hp->(List V->Hp->Prop)->Prop
structure Ends where
 nx:St->Hp->Prop
 rt:VK
 bk:St->Hp->Prop:=fun _ _=>False
 ct:St->Hp->Prop:=fun _ _=>False
abbrev TS:=Ends->St->Hp->Prop
def EP(X:Cx)(pins:List (Addr × Obj))(σ:St)(Q:VK)(u:Value)(s':Shared):Prop:=∃ v H',Inv X pins σ H' s'/\RelV v u/\Q v H'
def TP(X:Cx)(pins:List (Addr × Obj))(σ:St)(Q:Bool->Hp->Prop)(b:Bool)(s':Shared):Prop:=∃ H',Inv X pins σ H' s'/\Q b H'
def AP(X:Cx)(pins:List (Addr × Obj))(σ:St)(Q:List V->Hp->Prop)(us:List Value)(s':Shared):Prop:=∃ vs H',Inv X pins σ H' s'/\Vals vs us/\Q vs H'
def SP(X:Cx)(pins:List (Addr × Obj))(D:Ends)(f:Flow)(s':Shared):Prop :=
 match f with
 | .next=>∃ σ' H',Inv X pins σ' H' s'/\D.nx σ' H'
 | .brk=>∃ σ' H',Inv X pins σ' H' s'/\D.bk σ' H'
 | .cont=>∃ σ' H',Inv X pins σ' H' s'/\D.ct σ' H'
 | .ret u=>∃ v σ' H',Inv X pins σ' H' s'/\RelV v u/\D.rt v H'
def PE(X:Cx)(e:Expr)(t:TE):Prop :=
 ∀ (pins:List (Addr × Obj)) (s:Shared) (σ:St) (H:Hp) (Q:VK),Inv X pins σ H s->t σ H Q->wpAny (model X.prog X.w) X.A (eval e X.env) (EP X pins σ Q) X.xe s
def PT(X:Cx)(e:Expr)(t:TT):Prop :=
 ∀ (pins:List (Addr × Obj)) (s:Shared) (σ:St) (H:Hp) (Q:Bool->Hp->Prop),Inv X pins σ H s->t σ H Q->wpAny (model X.prog X.w) X.A (isTrue e X.env (eval e X.env)) (TP X pins σ Q) X.xe s
def PW(X:Cx)(e:Expr)(t:TT):Prop :=
 ∀ (whole:Sem Value) (pins:List (Addr × Obj)) (s:Shared) (σ:St) (H:Hp) (Q:Bool->Hp->Prop),Inv X pins σ H s->t σ H Q->wpAny (model X.prog X.w) X.A (isTrue e X.env whole) (TP X pins σ Q) X.xe s
theorem PW.pt{X:Cx}{e:Expr}{t:TT}(h:PW X e t):PT X e t:=h _
def PA(X:Cx)(es:List Expr)(t:TA):Prop :=
 ∀ (pos:Pos) (pins:List (Addr × Obj)) (s:Shared) (σ:St) (H:Hp) (Q:List V->Hp->Prop),Inv X pins σ H s->t σ H Q->wpAny (model X.prog X.w) X.A (spliced (backTo pos (starEach es X.env))) (AP X pins σ Q) X.xe s
def PS(X:Cx)(st:Stmt)(t:TS):Prop :=
 ∀ (pins:List (Addr × Obj)) (s:Shared) (σ:St) (H:Hp) (D:Ends),Inv X pins σ H s->t D σ H->wpAny (model X.prog X.w) X.A (exec st X.env) (SP X pins D) X.xe s
def PSs(X:Cx)(st:List Stmt)(t:TS):Prop :=
 ∀ (pins:List (Addr × Obj)) (s:Shared) (σ:St) (H:Hp) (D:Ends),Inv X pins σ H s->t D σ H->wpAny (model X.prog X.w) X.A (execs st X.env) (SP X pins D) X.xe s
theorem thn{α:Type}{t:Sem α}{Q Q':α->Shared->Prop}{M:Model}{A:Around}{E:Value->Shared->Prop}{s:Shared}(h:wpAny M A t Q E s)(hQ:∀ a s,Q a s->Q' a s):wpAny M A t Q' E s:=wpAny_mono h hQ fun _ _ x=>x
section
variable{X:Cx}
def kX(i:Nat):TE:=fun σ H Q=>∃ v,σ[i]?=some (some v)/\Q v H
def tC(v:V):TE:=fun _ H Q=>Q v H
theorem ju{i:Nat}{x:Str}{pos:Pos}(hN:X.N[i]?=some x)(hv:Vis X.env.scope x)(hd:(x == ("__debug__" : Str))=false:=by decide)(hcd:(x == ("__classdict__" : Str))=false:=by decide):PE X (.Name x pos) (kX i):=by
 intro pins s σ H Q I h
 obtain⟨v,e,h⟩:=h
 obtain⟨m,hn,hl⟩:=I.loc
 obtain⟨u,r,l⟩:=hl i x v hN e hv
 have fin:EP X pins σ Q u s:=⟨v,H,I,r,h⟩
 rcases l with⟨hk,hm⟩ | ⟨hk,c,hc,hcell⟩
 ·exact wpAny_Name (wpAny_loadName_local I.ok.kind hk hn hm fin) hd
 ·rcases hk with hk | hk
  ·exact wpAny_Name (wpAny_loadName_cell I.ok.kind hk hc hcell fin) hd
  ·exact wpAny_Name (wpAny_loadName_free I.ok.kind hk hc hcell fin hcd) hd
theorem qM{i j pos}:PE X (.Constant (.int i) j pos) (tC (.int i)):=fun _ _ _ H _ I h=>wpAny_Constant_int ⟨.int i,H,I.tok _,⟨_,rfl⟩,h⟩
theorem E4{b j pos}:PE X (.Constant (.bool b) j pos) (tC (.bl b)):=fun _ _ _ H _ I h=>Constant_bool ⟨.bl b,H,I,rfl,h⟩
theorem qk{j pos}:PE X (.Constant .none j pos) (tC .non):=fun _ _ _ H _ I h=>Constant_none ⟨.non,H,I,rfl,h⟩
theorem qm{x j pos}:PE X (.Constant (.str x) j pos) (tC (.str x)):=fun _ _ _ H _ I h=>Calls.Constant_str ⟨.str x,H,I.tok _,⟨_,rfl⟩,h⟩
def Gl(X:Cx)(x:Str):Prop:=X.env.kindOf x=some .globalImplicit
theorem fY{E:Value->Shared->Prop}{pins:List (Addr × Obj)}{s:Shared}{σ:St}{H:Hp}{x:Str}{u:Value}{pos:Pos}{Q:Value->Shared->Prop}(I:Inv X pins σ H s)(hg:Gl X x)(hm:X.mg x=some u)(h:Q u s)
 (hd:(x == ("__debug__" : Str))=false:=by decide):wpAny (model X.prog X.w) X.A (eval (.Name x pos) X.env) Q E s :=
 Calls.Name_function_global I.ok.kind hg (Calls.loadGlobal_global (by rw[I.ok.glob];exact I.mod.glob.keeps I.bk) hm h) hd
theorem il{E:Value->Shared->Prop}{pins:List (Addr × Obj)}{s:Shared}{σ:St}{H:Hp}{x:Str}{u:Value}{pos:Pos}{Q:Value->Shared->Prop}(I:Inv X pins σ H s)(hg:Gl X x)(hm:X.mg x=none)(hv:bootBuiltins x=some u)(h:Q u s)
 (hn:x ≠ "__name__" := by decide)(hd:(x == ("__debug__" : Str))=false:=by decide):wpAny (model X.prog X.w) X.A (eval (.Name x pos) X.env) Q E s:=by
 obtain⟨mb,h1,h2⟩:=I.mod.blt
 exact Calls.Name_function_global I.ok.kind hg (Calls.loadGlobal_builtin (by rw[I.ok.glob];exact I.mod.glob.keeps I.bk) hm (by rw[I.ok.blt];exact h1.keeps I.bk) ((h2 x hn).trans hv) h) hd
theorem rP{x:Str}{v:V}{u:Value}{pos:Pos}(hg:Gl X x)(hm:X.mg x=some u)(r:RelV v u)(hd:(x == ("__debug__" : Str))=false:=by decide):PE X (.Name x pos) (tC v) :=
 fun _ _ _ H _ I h=>fY I hg hm ⟨v,H,I,r,h⟩ hd
theorem sV{x:Str}{v:V}{u:Value}{pos:Pos}(hg:Gl X x)(hm:X.mg x=none)(hv:bootBuiltins x=some u)(r:RelV v u)(hn:x ≠ "__name__" := by decide)(hd:(x == ("__debug__" : Str))=false:=by decide):PE X (.Name x pos) (tC v) :=
 fun _ _ _ H _ I h=>il I hg hm hv ⟨v,H,I,r,h⟩ hn hd
variable{a b:Expr}{ta tb:TE}{pos:Pos}
def PC(X:Cx)(op:CmpOp)(a b:Expr)(t:TE):Prop :=
 ∀ (pins:List (Addr × Obj)) (s:Shared) (σ:St) (H:Hp) (Q:VK),Inv X pins σ H s->t σ H Q ->
  wpAny (model X.prog X.w) X.A (eval a X.env) (fun v s₁=>wpAny (model X.prog X.w) X.A (eval b X.env) (fun u s₂=>wpAny (model X.prog X.w) X.A (compareOp op v u) (EP X pins σ Q) X.xe s₂) X.xe s₁) X.xe s
def tB(t:TE):TT:=fun σ H Q=>t σ H fun x H1=>∃ c,x=.bl c/\Q c H1
theorem DA{op:CmpOp}{t:TE}(h:PC X op a b t)(h1:behindInMarks op b=false:=by first | exact nobehind _ (by decide) (by decide) | rfl):PE X (.Compare a [op] [b] pos) t:=fun pins s σ H Q I hw=>wpAny_Compare1 (h pins s σ H Q I hw) h1
theorem BP{op:CmpOp}{t:TE}(h:PC X op a b t)(h1:behindInMarks op b=false:=by first | exact nobehind _ (by decide) (by decide) | rfl):PT X (.Compare a [op] [b] pos) (tB t):=by
 intro pins s σ H Q I hw
 refine wpAny_isTrue_Compare1 (thn (h pins s σ H _ I hw) fun v s1 h1=>thn h1 fun u s2 h2=>thn h2 fun c s3 ⟨x,H1,I1,r1,q1⟩=>?_) h1
 obtain⟨d,rfl,q⟩:=q1
 cases r1
 exact wpAny_truthy_bool ⟨H1,I1,q⟩
variable{tA tB':TT}{rest:List Expr}
def FQ(t u:TT):TT:=fun σ H Q=>t σ H fun c H1=>if c=true then u σ H1 Q else Q false H1
def tOr(t u:TT):TT:=fun σ H Q=>t σ H fun c H1=>if c=true then Q true H1 else u σ H1 Q
def F7(t:TT):TT:=fun σ H Q=>t σ H fun c H1=>Q (!c) H1
theorem A0(ha:PT X a tA):PW X (.BoolOp .And [a] pos) tA:=by
 intro wh pins s σ H Q I h
 refine isTrue_and (thn (ha pins s σ H Q I h) fun c s1 e=>?_)
 cases c with
 | true=>exact isTrue_and_nil e
 | false=>exact e
theorem Dw(ha:PT X a tA):PW X (.BoolOp .Or [a] pos) tA:=by
 intro wh pins s σ H Q I h
 refine isTrue_or (thn (ha pins s σ H Q I h) fun c s1 e=>?_)
 cases c with
 | false=>exact isTrue_or_nil e
 | true=>exact e
theorem BF(ha:PT X a tA)(hb:PW X (.BoolOp .And (b::rest) pos) tB'):PW X (.BoolOp .And (a::b::rest) pos) (FQ tA tB'):=by
 intro wh pins s σ H Q I h
 refine isTrue_and (thn (ha pins s σ H _ I h) fun c s1 ⟨H1,I1,q1⟩=>?_)
 cases c with
 | true=>exact hb wh pins s1 σ H1 Q I1 q1
 | false=>exact⟨H1,I1,q1⟩
theorem EZ(ha:PT X a tA)(hb:PW X (.BoolOp .Or (b::rest) pos) tB'):PW X (.BoolOp .Or (a::b::rest) pos) (tOr tA tB'):=by
 intro wh pins s σ H Q I h
 refine isTrue_or (thn (ha pins s σ H _ I h) fun c s1 ⟨H1,I1,q1⟩=>?_)
 cases c with
 | true=>exact⟨H1,I1,q1⟩
 | false=>exact hb wh pins s1 σ H1 Q I1 q1
theorem BO(ha:PT X a tA):PT X (.UnaryOp .Not a pos) (F7 tA):=by
 intro pins s σ H Q I h
 exact isTrue_not (ha pins s σ H (fun c H1=>Q (!c) H1) I h)
def E7(ta tb:TE):TE:=fun σ H Q=>ta σ H fun x H1=>∃ c,x=.bl c/\if c=true then tb σ H1 Q else Q (.bl false) H1
def FP(ta tb:TE):TE:=fun σ H Q=>ta σ H fun x H1=>∃ c,x=.bl c/\if c=true then Q (.bl true) H1 else tb σ H1 Q
theorem BQ{op}{t:TE}(h:PE X a t):PE X (.BoolOp op [a] pos) t:=fun pins s σ H Q I hw=>BoolOp_one (h pins s σ H Q I hw)
theorem DX(ha:PE X a ta)(hb:PE X (.BoolOp .And (b::rest) pos) tb):PE X (.BoolOp .And (a::b::rest) pos) (E7 ta tb):=by
 intro pins s σ H Q I h
 refine BoolOp_and (thn (ha pins s σ H _ I h) fun v s1 ⟨x,H1,I1,r1,q1⟩=>?_)
 obtain⟨c,rfl,q1⟩:=q1
 cases r1
 refine wpAny_truthy_bool ?_
 cases c with
 | true=>exact hb pins s1 σ H1 Q I1 q1
 | false=>exact⟨.bl false,H1,I1,rfl,q1⟩
theorem Fg(ha:PE X a ta)(hb:PE X (.BoolOp .Or (b::rest) pos) tb):PE X (.BoolOp .Or (a::b::rest) pos) (FP ta tb):=by
 intro pins s σ H Q I h
 refine BoolOp_or (thn (ha pins s σ H _ I h) fun v s1 ⟨x,H1,I1,r1,q1⟩=>?_)
 obtain⟨c,rfl,q1⟩:=q1
 cases r1
 refine wpAny_truthy_bool ?_
 cases c with
 | false=>exact hb pins s1 σ H1 Q I1 q1
 | true=>exact⟨.bl true,H1,I1,rfl,q1⟩
end
def SqL(K:PySem.W.Frag)(H:Hp)(a:Addr)(xs:List V):Prop :=
 Rd H a (.lst xs) \/
  ∃ (o:Obj) (its:Array Value) (n:Nat),K.lookup a=some o/\o.cls=.type "list" /\ o.dict=none/\o.data=.seq its n/\its.size<=sizeLine/\Vals xs its.toList
def SqT(K:PySem.W.Frag)(H:Hp)(a:Addr)(xs:List V):Prop :=
 Rd H a (.tup xs) \/
  ∃ (o:Obj) (its:Array Value) (n:Nat),K.lookup a=some o/\o.cls=.type "tuple" /\ o.data=.seq its n/\its.size<=sizeLine/\Vals xs its.toList
def FE:Value->Option V
 | .none=>some .non
 | .bool b=>some (.bl b)
 | .int i _=>some (.int i)
 | .str x _=>some (.str x)
 | .bytes b _=>some (.byt b)
 | .float b _=>some (.flt b)
 | .ref a=>some (.ref a)
 | .type n=>some (.ty n)
 | _=>none
theorem RelV.abs{x:V}{u:Value}(r:RelV x u):FE u=some x:=by
 cases x with
 | non=>cases r;rfl
 | bl _=>cases r;rfl
 | int _=>obtain⟨t,rfl⟩:=r;rfl
 | str _=>obtain⟨t,rfl⟩:=r;rfl
 | byt _=>obtain⟨t,rfl⟩:=r;rfl
 | flt _=>obtain⟨t,rfl⟩:=r;rfl
 | ref _=>cases r;rfl
 | ty _=>cases r;rfl
theorem RelV.inj{x y:V}{u:Value}(r:RelV x u)(q:RelV y u):x=y:=Option.some.inj (r.abs.symm.trans q.abs)
theorem Vals.inj:∀ {xs ys:List V} {us:List Value},Vals xs us->Vals ys us->xs=ys
 | _,_,_,.nil,.nil=>rfl
 | _,_,_,.cons r t,.cons r' t'=>by rw[r.inj r',Vals.inj t t']
section
variable{X:Cx}{pins:List (Addr × Obj)}{σ:St}{H:Hp}{s:Shared}{a:Addr}{xs ys:List V}
theorem SqL.of{K:PySem.W.Frag}(h:H a=some (.lst xs)):SqL K H a xs:=.inl (.inl h)
theorem SqT.of{K:PySem.W.Frag}(h:H a=some (.tup xs)):SqT K H a xs:=.inl (.inl h)
theorem Inv.list(I:Inv X pins σ H s)(h:SqL X.K H a xs):∃ its:List Value,Vals xs its/\PlainL s.heap a its.toArray/\xs.length<=sizeLine:=by
 rcases h with h | ⟨o,its,n,hk,hc,hd,hs,hz,r⟩
 ·obtain⟨z,its,n,r,e⟩:=h.ok I.hok
  exact⟨its,r,⟨_,n,e,rfl,rfl,rfl⟩,z⟩
 ·refine⟨its.toList,r,⟨o,n,I.kIn a o hk,hc,hd,by simpa using hs⟩,?_⟩
  have e:=r.length
  simp only[Array.length_toList]at e
  omega
theorem Inv.tuple(I:Inv X pins σ H s)(h:SqT X.K H a xs):∃ its:List Value,Vals xs its/\IsTup s.heap a its.toArray/\xs.length<=sizeLine:=by
 rcases h with h | ⟨o,its,n,hk,hc,hs,hz,r⟩
 ·obtain⟨z,its,r,p⟩:=h.ok I.hok
  exact⟨its,r,p,z⟩
 ·refine⟨its.toList,r,⟨o,I.kIn a o hk,hc,n,by simpa using hs⟩,?_⟩
  have e:=r.length
  simp only[Array.length_toList]at e
  omega
theorem Inv.zb(I:Inv X pins σ H s)(h:SqL X.K H a xs)(h':SqL X.K H a ys):xs=ys:=by
 obtain⟨its,r,⟨o,n,e,_,_,d⟩,_⟩:=I.list h
 obtain⟨its',r',⟨o',n',e',_,_,d'⟩,_⟩:=I.list h'
 rw[e]at e';cases e'
 rw[d]at d'
 injection d' with d1 _
 have:its=its':=by simpa using congrArg Array.toList d1
 subst this
 exact r.inj r'
theorem Inv.vh(I:Inv X pins σ H s)(h:SqT X.K H a xs)(h':SqT X.K H a ys):xs=ys:=by
 obtain⟨its,r,⟨o,e,_,n,d⟩,_⟩:=I.tuple h
 obtain⟨its',r',⟨o',e',_,n',d'⟩,_⟩:=I.tuple h'
 rw[e]at e';cases e'
 rw[d]at d'
 injection d' with d1 _
 have:its=its':=by simpa using congrArg Array.toList d1
 subst this
 exact r.inj r'
end
abbrev Cx.dR(X:Cx)(E:Value->Shared->Prop):Cx:={ X with xe:=E }
abbrev Cx.nox(X:Cx):Cx:=X.dR fun _ _=>False
theorem Cx.Ok.dR{X:Cx}(ok:X.Ok)(E:Value->Shared->Prop):(X.dR E).Ok :=
 ⟨ok.mod,ok.kind,ok.glob,ok.blt,ok.above,ok.inj,ok.has,ok.cab,ok.hd,ok.frames,ok.stk,ok.exf,ok.bs,ok.bsz,ok.iV,ok.iH,ok.d9,ok.frf⟩
theorem Cx.Ok.c6{X:Cx}{E:Value->Shared->Prop}(ok:(X.dR E).Ok):X.Ok :=
 ⟨ok.mod,ok.kind,ok.glob,ok.blt,ok.above,ok.inj,ok.has,ok.cab,ok.hd,ok.frames,ok.stk,ok.exf,ok.bs,ok.bsz,ok.iV,ok.iH,ok.d9,ok.frf⟩
section
variable{X:Cx}{pins:List (Addr × Obj)}{σ:St}{H:Hp}{s:Shared}{E:Value->Shared->Prop}
theorem Inv.dR(I:Inv X pins σ H s)(E:Value->Shared->Prop):Inv (X.dR E) pins σ H s:=⟨I.ok.dR E,I.os,I.bare,I.base,I.loc,I.cell,I.free,I.cA,I.pin,I.hok,I.len⟩
theorem Inv.c6(I:Inv (X.dR E) pins σ H s):Inv X pins σ H s:=⟨I.ok.c6,I.os,I.bare,I.base,I.loc,I.cell,I.free,I.cA,I.pin,I.hok,I.len⟩
theorem SP.c6{D:Ends}{f:Flow}{s':Shared}(h:SP (X.dR E) pins D f s'):SP X pins D f s':=by
 cases f with
 | next=>obtain⟨σ',H',I,q⟩:=h;exact⟨σ',H',I.c6,q⟩
 | brk=>obtain⟨σ',H',I,q⟩:=h;exact⟨σ',H',I.c6,q⟩
 | cont=>obtain⟨σ',H',I,q⟩:=h;exact⟨σ',H',I.c6,q⟩
 | ret u=>obtain⟨v,σ',H',I,r,q⟩:=h;exact⟨v,σ',H',I.c6,r,q⟩
theorem PE.nox{e:Expr}{t:TE}(h:PE X.nox e t):PE X e t:=fun pins s σ H Q I hw =>
 wpAny_mono (h pins s σ H Q (I.dR _) hw) (fun _ _ ⟨v,H',I',r,q⟩=>⟨v,H',I'.c6,r,q⟩) fun _ _ z=>False.elim z
theorem PT.nox{e:Expr}{t:TT}(h:PT X.nox e t):PT X e t:=fun pins s σ H Q I hw =>
 wpAny_mono (h pins s σ H Q (I.dR _) hw) (fun _ _ ⟨H',I',q⟩=>⟨H',I'.c6,q⟩) fun _ _ z=>False.elim z
theorem PSs.nox{st:List Stmt}{t:TS}(h:PSs X.nox st t):PSs X st t:=fun pins s σ H D I hw =>
 wpAny_mono (h pins s σ H D (I.dR _) hw) (fun _ _ q=>q.c6) fun _ _ z=>False.elim z
end
section
variable{X:Cx}{st:Stmt}{rest:List Stmt}{t u:TS}{e:Expr}{te:TE}{pos:Pos}
def Fc:TS:=fun D σ H=>D.nx σ H
def FK(t u:TS):TS:=fun D σ H=>t { D with nx:=u D } σ H
theorem Ar:PSs X [] Fc:=fun _ _ σ H _ I h=>wpAny_execs_nil ⟨σ,H,I,h⟩
theorem kH(h1:PS X st t)(h2:PSs X rest u):PSs X (st::rest) (FK t u):=by
 intro pins s σ H D I h
 refine wpAny_execs_cons (thn (h1 pins s σ H { D with nx:=u D } I h) fun f s1 q=>?_)
 cases f with
 |next=>
  obtain⟨σ',H',I',q⟩:=q
  exact h2 pins s1 σ' H' D I' q
 | ret v=>exact q
 | brk=>exact q
 | cont=>exact q
theorem Inv.quiet{pins:List (Addr × Obj)}{σ:St}{H:Hp}{s:Shared}(I:Inv X pins σ H s):interactive X.env=false:=by simp[interactive,I.ok.kind]
def oE(te:TE):TS:=fun D σ H=>te σ H fun _ H1=>D.nx σ H1
theorem jP(he:PE X e te)(hs:swapsWith e none pos.line X.env=pure false:=by rfl):PS X (.Expr e pos) (oE te):=by
 intro pins s σ H D I h
 exact wpAny_Expr_any (thn (he pins s σ H _ I h) fun v s1 ⟨x,H1,I1,r1,q1⟩=>⟨σ,H1,I1,q1⟩) I.quiet hs
def Ga(te:TE):TS:=fun D σ H=>te σ H D.rt
theorem rA(he:PE X e te):PS X (.Return (some e) pos) (Ga te):=by
 intro pins s σ H D I h
 exact wpAny_Return_some (thn (he pins s σ H _ I h) fun v s1 ⟨x,H1,I1,r1,q1⟩=>⟨x,σ,H1,I1,r1,q1⟩)
def FR(c:TT)(t u:TS):TS:=fun D σ H=>c σ H fun b H1=>if b=true then t D σ H1 else u D σ H1
theorem zy{c:Expr}{a b:List Stmt}{tc:TT}(hc:PT X c tc)(ha:PSs X a t)(hb:PSs X b u):PS X (.If c a b pos) (FR tc t u):=by
 intro pins s σ H D I h
 refine wpAny_If (thn (hc pins s σ H _ I h) fun d s1 ⟨H1,I1,q1⟩=>?_)
 cases d with
 | true=>exact ha pins s1 σ H1 D I1 q1
 | false=>exact hb pins s1 σ H1 D I1 q1
end
abbrev TG:=V->St->Hp->(St->Hp->Prop)->Prop
abbrev TGs:=List V->St->Hp->(St->Hp->Prop)->Prop
def PG(X:Cx)(target:Expr)(t:TG):Prop :=
 ∀ (pins:List (Addr × Obj)) (s:Shared) (σ:St) (H:Hp) (v:V) (u:Value) (Q:St->Hp->Prop),Inv X pins σ H s->RelV v u->t v σ H Q ->
  wpAny (model X.prog X.w) X.A (assign target X.env u) (fun _ s'=>∃ σ' H',Inv X pins σ' H' s'/\Q σ' H') X.xe s
def PGs(X:Cx)(ts:List Expr)(t:TGs):Prop :=
 ∀ (pins:List (Addr × Obj)) (s:Shared) (σ:St) (H:Hp) (vs:List V) (us:List Value) (Q:St->Hp->Prop),Inv X pins σ H s->Vals vs us->t vs σ H Q ->
  wpAny (model X.prog X.w) X.A (assignInOrder ((assignEach ts X.env).map (·.2)) us) (fun _ s'=>∃ σ' H',Inv X pins σ' H' s'/\Q σ' H') X.xe s
abbrev yT:=V->V->V->Hp->(Hp->Prop)->Prop
def DJ(X:Cx)(t:yT):Prop :=
 ∀ (pins:List (Addr × Obj)) (s:Shared) (σ:St) (H:Hp) (o i v:V) (ov iv u:Value) (Q:Hp->Prop),Inv X pins σ H s->RelV o ov->RelV i iv->RelV v u->t o i v H Q ->
  wpAny (model X.prog X.w) X.A (setItem ov iv u) (fun _ s'=>∃ H',Inv X pins σ H' s'/\Q H') X.xe s
abbrev TIp:=V->V->Hp->VK->Prop
def PIp(X:Cx)(op:Operator)(t:TIp):Prop :=
 ∀ (pins:List (Addr × Obj)) (s:Shared) (σ:St) (H:Hp) (x y:V) (v u:Value) (Q:VK),Inv X pins σ H s->RelV x v->RelV y u->t x y H Q ->
  wpAny (model X.prog X.w) X.A (inplaceOp op v u) (EP X pins σ Q) X.xe s
section
variable{X:Cx}{pos:Pos}
def oG(i:Nat):TG:=fun v σ H Q=>Q (σ.set i (some v)) H
theorem rX{i:Nat}{x:Str}(hN:X.N.Nodup)(hi:X.N[i]?=some x)(hx:Loc X.env.scope x)(hf:X.fn x=true\/X.env.scope.names.lookup x=some .local:=by first | exact .inl rfl | exact .inr rfl | assumption):PG X (.Name x pos) (oG i):=by
 intro pins s σ H v u Q I r h
 exact wpAny_assign_Name (fe I hN hi hx r (fun s' I'=>⟨_,H,I',h⟩) hf)
def E2:TGs:=fun vs σ H Q=>vs=[]/\Q σ H
def zI(t:TG)(u:TGs):TGs:=fun vs σ H Q=>∃ v r,vs=v::r/\t v σ H fun σ' H'=>u r σ' H' Q
theorem AX:PGs X [] E2:=by
 intro pins s σ H vs us Q I r h
 obtain⟨e,h⟩:=h
 subst e
 cases r
 exact assignInOrder_nil ⟨σ,H,I,h⟩
theorem yn{e:Expr}{es:List Expr}{t:TG}{u:TGs}(h1:PG X e t)(h2:PGs X es u)
 (hs:(assignEach (e::es) X.env).map (·.2)=assign e X.env::(assignEach es X.env).map (·.2):=by rfl):PGs X (e::es) (zI t u):=by
 intro pins s σ H vs us Q I r h
 obtain⟨v,vr,e1,h⟩:=h
 subst e1
 cases r with
 |cons r rr=>
  rw[hs]
  refine assignInOrder_cons (thn (h1 pins s σ H _ _ _ I r h) fun _ s1 ⟨σ1,H1,I1,q1⟩=>?_)
  exact h2 pins s1 σ1 H1 _ _ Q I1 rr q1
def mF(K:PySem.W.Frag)(n:Nat)(t:TGs):TG:=fun v σ H Q=>∃ a xs,v=.ref a/\SqT K H a xs/\xs.length=n/\t xs σ H Q
def yH(to ti:TE)(t:yT):TG:=fun v σ H Q=>to σ H fun o H1=>ti σ H1 fun i H2=>t o i v H2 fun H3=>Q σ H3
theorem BU{o i:Expr}{to ti:TE}{t:yT}(ho:PE X o to)(hi:PE X i ti)(hs:DJ X t)
 (ha:∀ v,assign (.Subscript o i pos) X.env v=(do
   let ov <- holding [v] (eval o X.env)
   let iv <- holding [v,ov] (eval i X.env)
   standAt pos
   holding [v,ov,iv] (setItem ov iv v)
   release [v,ov,iv] []):=by intro _;rfl):PG X (.Subscript o i pos) (yH to ti t):=by
 intro pins s σ H v u Q I r h
 rw[ha]
 refine wpAny_bind (wpAny_holding (thn (ho pins s σ H _ I h) fun ov s1 ⟨x,H1,I1,r1,q1⟩=>?_))
 refine wpAny_bind (wpAny_holding (thn (hi pins s1 σ H1 _ I1 q1) fun iv s2 ⟨y,H2,I2,r2,q2⟩=>?_))
 refine wpAny_bind (wpAny_standAt (wpAny_bind (wpAny_holding (thn (hs pins s2 σ H2 x y v ov iv u _ I2 r1 r2 r q2) fun _ s3 ⟨H3,I3,q3⟩=>?_))))
 exact wpAny_release ⟨σ,H3,I3,q3⟩
def qi(te:TE)(g:TG):TS:=fun D σ H=>te σ H fun x H1=>g x σ H1 D.nx
theorem ql{tg e:Expr}{te:TE}{g:TG}(he:PE X e te)(hg:PG X tg g)(hs:swapsWithSole [tg] e pos.line X.env=pure false:=by rfl)(hw:swappedStores [tg] e X.env=pure none:=by rfl)
 (h1:(assignEach [tg] X.env).map (·.2)=[assign tg X.env]:=by rfl):PS X (.Assign [tg] e pos) (qi te g):=by
 intro pins s σ H D I h
 refine wpAny_Assign_stores (thn (he pins s σ H _ I h) fun v s1 ⟨x,H1,I1,r1,q1⟩=>?_) hs hw
 rw[h1]
 exact thn (hg pins s1 σ H1 x v _ I1 r1 q1) fun _ s2 q=>q
theorem ve{i:Nat}{x:Str}{e:Expr}{te:TE}{pos':Pos}(hN:X.N.Nodup)(hi:X.N[i]?=some x)(hx:Loc X.env.scope x)(he:PE X e te)(hs:swapsWith e (some (.Name x pos')) pos.line X.env=pure false:=by rfl)(hf:X.fn x=true\/X.env.scope.names.lookup x=some .local:=by first | exact .inl rfl | exact .inr rfl | assumption) :
  PS X (.Assign [.Name x pos'] e pos) (qi te (oG i)):=by
 intro pins s σ H D I h
 refine wpAny_Assign_Name (thn (he pins s σ H _ I h) fun v s1 ⟨y,H1,I1,r1,q1⟩=>?_) hs
 exact fe I1 hN hi hx r1 (fun s2 I2=>⟨_,H1,I2,q1⟩) hf
def Eb(i j:Nat)(ta:TA):TS:=fun D σ H=>ta σ H fun vs H1=>∃ v w,vs=[v,w]/\D.nx ((σ.set i (some v)).set j (some w)) H1
theorem CZ{i j:Nat}{x y:Str}{a b:Expr}{ta:TA}{px py pt:Pos}{kt k2 pt2}(hc:X.calm=true)(hN:X.N.Nodup)(hi:X.N[i]?=some x)(hj:X.N[j]?=some y)(hij:i≠j)
 (hx:X.env.scope.names.lookup x=some .local)(hy:X.env.scope.names.lookup y=some .local)(ha:PA X [a,b] ta)
 (hw:swappedStores [.Tuple [.Name x px,.Name y py] kt pt] (.Tuple [a,b] k2 pt2) X.env=pure (some [x,y]))
 (hs:swapsWithSole [.Tuple [.Name x px,.Name y py] kt pt] (.Tuple [a,b] k2 pt2) pos.line X.env=pure false:=by rfl) :
  PS X (.Assign [.Tuple [.Name x px,.Name y py] kt pt] (.Tuple [a,b] k2 pt2) pos) (Eb i j ta):=by
 intro pins s σ H D I h
 rw[exec_Assign_arm]
 refine wpAny_bind (wpAny_standAt ?_)
 rw[hs]
 refine wpAny_bind (wpAny_pure ?_)
 rw[if_neg (by decide)]
 refine wpAny_bind (Tuple_ (thn (ha _ pins s σ H _ I h) fun us s1 ⟨vs,H1,I1,r1,q1⟩=>?_))
 obtain⟨v,w,e1,q1⟩:=q1
 subst e1
 obtain⟨u1,u2,rfl,rv,rw'⟩:∃ u1 u2,us=[u1,u2]/\RelV v u1/\RelV w u2:=by
  cases r1 with
  |cons p q=>
   cases q with
   |cons p' q'=>
    cases q'
    exact⟨_,_,rfl,p,p'⟩
 refine wpAny_newObj_type ?_ (by show 2<=sizeLine;decide)
 have I2:Inv X pins σ H1 { s1 with heap:=s1.heap.push { cls:=.type "tuple",data:=.seq [u1,u2].toArray } }:=I1.kept (t':=s1.toks) fun b o e=>Heap.get?_push_of_some _ e
 rw[hw]
 refine wpAny_bind (wpAny_pure ?_)
 show wpAny (model X.prog X.w) X.A (do rule "assign.swapped-stores";let items <- unpackItems (.ref s1.heap.objs.size) 2 none;assignInOrder [fun v=>bindName X.env y v,fun v=>bindName X.env x v] items.reverse;pure Flow.next) _ _ _
 refine wpAny_bind (wpAny_rule (wpAny_bind (unpackItems_tuple (items:=#[u1,u2]) (I.ok.hd.1 hc) (IsTup.new s1.heap _) fun h' hx'=>?_)))
 have I3:=I2.kept (h':=h') (t':=s1.toks) fun b o e=>hx' b o (Nat.ne_of_lt (Heap.lt_size e)) e
 show wpAny _ _ (assignInOrder [fun v=>bindName X.env y v,fun v=>bindName X.env x v] [u2,u1] >>= fun _=>pure Flow.next) _ _ _
 refine wpAny_bind (assignInOrder_cons (wpAny_bindName (fe I3 hN hj (.inl hy) rw' (fun s2 I4=>?_) (.inr hy))))
 refine assignInOrder_cons (wpAny_bindName (fe I4 hN hi (.inl hx) rv (fun s3 I5=>assignInOrder_nil (wpAny_pure ?_)) (.inr hx)))
 rw[List.set_comm _ _ (Ne.symm hij)]at I5
 exact⟨_,H1,I5,q1⟩
def Em(i:Nat)(te:TE)(ti:TIp):TS:=fun D σ H=>∃ x,σ[i]?=some (some x)/\te σ H fun y H1=>ti x y H1 fun z H2=>D.nx (σ.set i (some z)) H2
theorem Ct{i:Nat}{x:Str}{e:Expr}{te:TE}{op:Operator}{ti:TIp}{pos':Pos}(hN:X.N.Nodup)(hi:X.N[i]?=some x)(hx:Loc X.env.scope x)(he:PE X e te)(ho:PIp X op ti)(hf:X.fn x=true\/X.env.scope.names.lookup x=some .local:=by first | exact .inl rfl | exact .inr rfl | assumption) :
  PS X (.AugAssign (.Name x pos') op e pos) (Em i te ti):=by
 intro pins s σ H D I h
 obtain⟨v,e1,h⟩:=h
 obtain⟨m,hn,hl⟩:=I.loc
 have vis:Vis X.env.scope x:=by rcases hx with k | k;exact .inl k;exact .inr (.inl k)
 obtain⟨u,r,l⟩:=hl i x v hi e1 vis
 refine wpAny_AugAssign_Name ?_
 have go:wpAny (model X.prog X.w) X.A (eval e X.env) (fun w s₂=>wpAny (model X.prog X.w) X.A (inplaceOp op u w) (fun r s₃=>wpAny (model X.prog X.w) X.A (storeName X.env x r) (fun _=>SP X pins D .next) X.xe s₃) X.xe s₂) X.xe s:=by
  refine thn (he pins s σ H _ I h) fun w s1 ⟨y,H1,I1,r1,q1⟩=>?_
  refine thn (ho pins s1 σ H1 v y u w _ I1 r r1 q1) fun z s2 ⟨zv,H2,I2,r2,q2⟩=>?_
  exact fe I2 hN hi hx r2 (fun s3 I3=>⟨_,H2,I3,q2⟩) hf
 rcases l with⟨hk,hm⟩ | ⟨hk,c,hc,hcell⟩
 ·exact wpAny_loadName_local I.ok.kind hk hn hm go
 ·rcases hk with hk | hk
  ·exact wpAny_loadName_cell I.ok.kind hk hc hcell go
  ·rcases hx with k | k
   ·have:X.env.scope.names.lookup x=some .free:=hk
    rw[k]at this;cases this
   ·have:X.env.scope.names.lookup x=some .free:=hk
    rw[k]at this;cases this
def ipI(f:Int->Int->Int):TIp:=fun x y H Q=>∃ i j,x=.int i/\y=.int j/\Q (.int (f i j)) H
theorem Et:PIp X .Add (ipI fun i j=>i+j):=by
 intro pins s σ H x y v u Q I r1 r2 h
 obtain⟨i,j,e1,e2,q⟩:=h
 subst e1;subst e2
 obtain⟨t,rfl⟩:=r1
 obtain⟨t',rfl⟩:=r2
 exact iadd_int ⟨.int _,H,I.tok _,⟨_,rfl⟩,q⟩
end
section
variable{X:Cx}{pos:Pos}
end
structure It where
 go:Nat->Hp->Prop
 yld:Nat->Hp->V->Hp->Prop
 stop:Nat->Hp->Prop
def ja(X:Cx)(pins:List (Addr × Obj))(H:Hp)(b:Addr):Prop :=
 H b=none/\b≠X.env.locals/\b∉X.fs/\(b∈X.ex\/X.s₀.heap.objs.size<=b)/\(∀ x c,X.env.cells.lookup x=some c->c≠b)/\∀ p∈X.pn++pins,p.1≠b
theorem Inv.qB{X:Cx}{pins:List (Addr × Obj)}{σ:St}{H H':Hp}{s:Shared}{b:Addr}(I:Inv X pins σ H s)(hb:s.heap.objs.size<=b)(hn:H' b=none):ja X pins H' b:=by
 refine⟨hn,Nat.ne_of_gt (Nat.lt_of_lt_of_le I.lt hb),I.FL hb,.inr (Nat.le_trans I.sz hb),fun x c e z=>?_,fun p hp z=>?_⟩
 ·obtain⟨v,q⟩:=I.cell x c e
  exact absurd (Nat.lt_of_lt_of_le q.lt (by rw[z];exact hb)) (Nat.lt_irrefl _)
 ·exact absurd (Nat.lt_of_lt_of_le (Heap.lt_size (I.pin p hp).1) (by rw[z];exact hb)) (Nat.lt_irrefl _)
structure l5(CM:Cx->Prop)(P:Program)(w:World)(K:PySem.W.Frag)(tg:Expr)(J:It)(fp:List Addr)(it:Addr)(tn:Nat->Heap->Prop):Prop where
 mem:it∈fp
 obj:∀ i h,tn i h->∀ b∈fp,∃ o,h.get? b=some o/\∀ v,o.data≠.cell v
 keep:∀ i h h',tn i h->(∀ b∈fp,∀ o,h.get? b=some o->h'.get? b=some o)->tn i h'
 item:∀ (X:Cx),X.prog=P->X.w=w->X.K=K->CM X->∀ (i:Nat) (pins:List (Addr × Obj)) (s:Shared) (σ:St) (H:Hp) (E:Value->Shared->Prop),Inv X pins σ H s->(∀ b∈fp,ja X pins H b)->tn i s.heap->J.go i H ->
  wpAny (model P w) X.A (pyNext (.ref it)) (fun r s1=>∃ u,r=some u /\
   wpAny (model P w) X.A (letOwnedTupleGo tg (.ref it) u) (fun _ s2=>∃ x H',Inv X pins σ H' s2/\RelV x u/\J.yld i H x H'/\tn (i+1) s2.heap/\∀ b∈fp,H' b=none) E s1) E s
 done:∀ (X:Cx),X.prog=P->X.w=w->X.K=K->CM X->∀ (i:Nat) (pins:List (Addr × Obj)) (s:Shared) (σ:St) (H:Hp) (E:Value->Shared->Prop),Inv X pins σ H s->(∀ b∈fp,ja X pins H b)->tn i s.heap->J.stop i H ->
  wpAny (model P w) X.A (pyNext (.ref it)) (fun r s1=>r=none/\Inv X pins σ H s1) E s
 self:∀ (A:Around) (i:Nat) (s:Shared) (Q:Value->Shared->Prop) (E:Value->Shared->Prop),tn i s.heap->Q (.ref it) s->wpAny (model P w) A (pyIter (.ref it)) Q E s
abbrev Calm:Cx->Prop:=fun X=>X.calm=true
abbrev Turn:=l5 Calm
abbrev TI:=St->Hp->(It->Hp->Prop)->Prop
def CA(CM:Cx->Prop)(X:Cx)(pins:List (Addr × Obj))(σ:St)(tg:Expr)(R:It->Hp->Prop)(itv:Value)(s2:Shared):Prop :=
 ∃ (it:Addr) (fp:List Addr) (tn:Nat->Heap->Prop) (J:It) (H':Hp),itv=.ref it/\Inv X pins σ H' s2/\l5 CM X.prog X.w X.K tg J fp it tn/\tn 0 s2.heap/\(∀ b∈fp,ja X pins H' b)/\R J H'
abbrev PIE:=CA Calm
def PI'(CM:Cx->Prop)(X:Cx)(tg iter:Expr)(wi:TI):Prop :=
 ∀ (pins:List (Addr × Obj)) (s:Shared) (σ:St) (H:Hp) (R:It->Hp->Prop),Inv X pins σ H s->wi σ H R ->
  wpAny (model X.prog X.w) X.A (eval iter X.env) (fun v s1=>wpAny (model X.prog X.w) X.A (pyIter v) (CA CM X pins σ tg R) X.xe s1) X.xe s
abbrev PI:=PI' Calm
theorem oM{M:Model}{A:Around}{E:Value->Shared->Prop}{s:Shared}{tg:Expr}{it:Addr}{u:Value}{o:Obj}{n:String}{vs:Array Value}{Q:Unit->Shared->Prop}(ho:s.heap.get? it=some o)(hc:o.cls=.type n)(hd:o.data=.fields vs)
 (hn:["enumerate", "zip", "dict_itemiterator", "dict_reverseitemiterator", "odict_iterator", "itertools.zip_longest", "itertools.pairwise"].contains n=false)(hQ:Q () s):wpAny M A (letOwnedTupleGo tg (.ref it) u) Q E s:=by
 unfold letOwnedTupleGo
 cases tg<;>first
  | exact wpAny_pure hQ
  | (cases u<;>first
    | exact wpAny_pure hQ
    | (refine wpAny_bind (wpAny_load ho ?_)
       rw[hc,hd]
       show wpAny M A (if(["enumerate", "zip", "dict_itemiterator", "dict_reverseitemiterator", "odict_iterator", "itertools.zip_longest", "itertools.pairwise"].contains n&&vs[0]? == some (rawInt _))=true then _ else _) Q E s
       rw[if_neg (by intro h;rw[hn,Bool.false_and]at h;cases h)]
       exact wpAny_pure hQ))
def Itl(K:PySem.W.Frag)(a:Addr):It :=
 ⟨fun i H=>∃ xs x,SqL K H a xs/\xs[i]?=some x,fun i H x H'=>H'=H/\∀ xs,SqL K H a xs->xs[i]?=some x,fun i H=>∃ xs,SqL K H a xs/\xs.length<=i⟩
def Itt(K:PySem.W.Frag)(a:Addr):It :=
 ⟨fun i H=>∃ xs x,SqT K H a xs/\xs[i]?=some x,fun i H x H'=>H'=H/\∀ xs,SqT K H a xs->xs[i]?=some x,fun i H=>∃ xs,SqT K H a xs/\xs.length<=i⟩
def Itr(lo:Int)(n:Nat):It:=⟨fun i _=>i<n,fun i H x H'=>H'=H/\x=.int (lo+i),fun i _=>n<=i⟩
theorem wR{P:Program}{w:World}{K:PySem.W.Frag}{tg:Expr}(a it:Addr):Turn P w K tg (Itl K a) [it] it (fun i h=>h.IsListIter it a i) where
 mem:=by simp
 obj:=fun i h st b hb=>by
  have e:b=it:=by simpa using hb
  subst e
  obtain⟨o,e,c,d⟩:=st
  exact⟨o,e,fun v z=>by rw[d]at z;cases z⟩
 keep:=fun i h h' st k=>st.at fun o e=>k it (by simp) o e
 item:=by
  intro X hP hw hK hc i pins s σ H E I hf st hg
  subst hP hw hK
  obtain⟨xs,x,hq,hx⟩:=hg
  obtain⟨its,rv,p,hz⟩:=I.list hq
  obtain⟨u,hu,ru⟩:=rv.get hx
  obtain⟨f0,f1,f2,f3,f4,f5⟩:=hf it (by simp)
  refine wpAny_pyNext_list_item st p.isList (x:=u) (by simpa using hu) fun h' st' sb=>?_
  have I1:Inv X pins σ H { s with heap:=h' }:=I.turned (t':=s.toks) (fun b o hb e=>(sb.2 b hb).trans e) f0 f1 f3 f4 f5
  obtain⟨o,e,c,d⟩:=id st'
  exact⟨u,rfl,oM (s:={ s with heap:=h' }) e c d (by decide) ⟨x,H,I1,ru,⟨rfl,fun ys hy=>by rw[I.zb hy hq];exact hx⟩,st',fun b hb=>(hf b hb).1⟩⟩
 done:=by
  intro X hP hw hK hc i pins s σ H E I hf st hg
  subst hP hw hK
  obtain⟨xs,hq,hx⟩:=hg
  obtain⟨its,rv,p,hz⟩:=I.list hq
  obtain⟨f0,f1,f2,f3,f4,f5⟩:=hf it (by simp)
  have hl:=rv.length
  exact wpAny_pyNext_list_end (I.ok.hd.1 hc) st p.isList (by simp;omega) fun h' eb=>⟨rfl,I.turned (t':=s.toks) (fun b o hb e=>eb b o hb e) f0 f1 f3 f4 f5⟩
 self:=fun _ _ _ _ _ st h=>wpAny_pyIter_listiter st h
theorem uj{P:Program}{w:World}{K:PySem.W.Frag}{tg:Expr}(a it:Addr):Turn P w K tg (Itt K a) [it] it (fun i h=>h.IsTupleIter it a i) where
 mem:=by simp
 obj:=fun i h st b hb=>by
  have e:b=it:=by simpa using hb
  subst e
  obtain⟨o,e,c,d⟩:=st
  exact⟨o,e,fun v z=>by rw[d]at z;cases z⟩
 keep:=fun i h h' st k=>st.at fun o e=>k it (by simp) o e
 item:=by
  intro X hP hw hK hc i pins s σ H E I hf st hg
  subst hP hw hK
  obtain⟨xs,x,hq,hx⟩:=hg
  obtain⟨its,rv,p,hz⟩:=I.tuple hq
  obtain⟨u,hu,ru⟩:=rv.get hx
  obtain⟨f0,f1,f2,f3,f4,f5⟩:=hf it (by simp)
  refine wpAny_pyNext_tuple_item st (show s.heap.IsTuple a its.toArray from p) (x:=u) (by simpa using hu) fun h' st' sb=>?_
  have I1:Inv X pins σ H { s with heap:=h' }:=I.turned (t':=s.toks) (fun b o hb e=>(sb.2 b hb).trans e) f0 f1 f3 f4 f5
  obtain⟨o,e,c,d⟩:=id st'
  exact⟨u,rfl,oM (s:={ s with heap:=h' }) e c d (by decide) ⟨x,H,I1,ru,⟨rfl,fun ys hy=>by rw[I.vh hy hq];exact hx⟩,st',fun b hb=>(hf b hb).1⟩⟩
 done:=by
  intro X hP hw hK hc i pins s σ H E I hf st hg
  subst hP hw hK
  obtain⟨xs,hq,hx⟩:=hg
  obtain⟨its,rv,p,hz⟩:=I.tuple hq
  obtain⟨f0,f1,f2,f3,f4,f5⟩:=hf it (by simp)
  have hl:=rv.length
  exact wpAny_pyNext_tuple_end (I.ok.hd.1 hc) st (show s.heap.IsTuple a its.toArray from p) (by simp;omega) fun h' eb=>⟨rfl,I.turned (t':=s.toks) (fun b o hb e=>eb b o hb e) f0 f1 f3 f4 f5⟩
 self:=fun _ _ _ _ _ st h=>wpAny_pyIter_tupleiter st h
theorem uv{P:Program}{w:World}{K:PySem.W.Frag}{tg:Expr}(it:Addr)(lo:Int)(n:Nat):Turn P w K tg (Itr lo n) [it] it (fun i h=>IsRangeIter h it (lo+(i:Nat)*1) ((n:Int)-(i:Nat)) 1) where
 mem:=by simp
 obj:=fun i h st b hb=>by
  have e:b=it:=by simpa using hb
  subst e
  exact⟨_,st,fun v z=>by
   have z':Data.fields _=Data.cell v:=z
   cases z'⟩
 keep:=fun i h h' st k=>k it (by simp) _ st
 item:=by
  intro X hP hw hK hc i pins s σ H E I hf st hg
  subst hP hw hK
  obtain⟨f0,f1,f2,f3,f4,f5⟩:=hf it (by simp)
  have W:=Walks.range (prog:=X.prog) (w:=X.w) (I.ok.hd.1 hc) it lo 1 n
  refine W.item i s _ _ hg st fun v h' tk hv st' kk=>?_
  obtain⟨t,rfl⟩:=hv
  have I1:Inv X pins σ H { s with heap:=h',toks:=tk }:=I.turned (fun b o hb e=>kk b o (by simpa using hb) e) f0 f1 f3 f4 f5
  refine⟨_,rfl,oM (s:={ s with heap:=h',toks:=tk }) (n := "range_iterator") st' rfl rfl (by decide) ⟨.int (lo+i),H,I1,⟨t,?_⟩,⟨rfl,rfl⟩,st',fun b hb=>(hf b hb).1⟩⟩
  rw[Int.mul_one]
 done:=by
  intro X hP hw hK hc i pins s σ H E I hf st hg
  subst hP hw hK
  obtain⟨f0,f1,f2,f3,f4,f5⟩:=hf it (by simp)
  exact wpAny_pyNext_range_end (I.ok.hd.1 hc) st (by have:n<=i:=hg;omega) fun h' eb=>⟨rfl,I.turned (t':=s.toks) (fun b o hb e=>eb b o hb e) f0 f1 f3 f4 f5⟩
 self:=fun _ _ _ _ _ st h=>wpAny_pyIter_rangeiter st h
section
variable{X:Cx}{tg:Expr}
theorem pJ{pins:List (Addr × Obj)}{σ:St}{H:Hp}{s:Shared}{R:It->Hp->Prop}{E:Value->Shared->Prop}{lo hi:Int}{t u v:Tok}{tk:Nat}(I:Inv X pins σ H s)(h1:-(2 ^ 62)<=lo)(h2:lo<2 ^ 62)(h3:-(2 ^ 62)<=hi)(h4:hi<2 ^ 62)
 (q:R (Itr lo (hi-lo).toNat) H):wpAny (model X.prog X.w) X.A (pyIter (.ref s.heap.objs.size)) (PIE X pins σ tg R) E { s with heap:=s.heap.push { cls:=.type "range",data:=.fields #[.int lo t,.int hi u,.int 1 v] },toks:=tk }:=by
 refine wpAny_pyIter_range (IsRange.new ..) (small_one h1 h2 h3 h4) ?_
 have I1:Inv X pins σ H { s with heap:=s.heap.push { cls:=.type "range",data:=.fields #[.int lo t,.int hi u,.int 1 v] },toks:=tk }:=I.kept fun b o e=>Heap.get?_push_of_some _ e
 refine⟨(s.heap.push { cls:=.type "range",data:=.fields #[.int lo t,.int hi u,.int 1 v] }).objs.size,[(s.heap.push { cls:=.type "range",data:=.fields #[.int lo t,.int hi u,.int 1 v] }).objs.size],_,_,H,rfl,
  I1.kept (t':=tk) fun b o e=>Heap.get?_push_of_some _ e,uv _ lo (hi-lo).toNat,?_,fun b hb=>?_,q⟩
 ·have e1:lo+((0:Nat):Int)*1=lo:=by simp
  have e2:(((hi-lo).toNat:Nat):Int)-((0:Nat):Int)=Builtin.Range.rangeSize lo hi 1:=by rw[rangeSize_one];split<;>omega
  show IsRangeIter _ _ (lo+((0:Nat):Int)*1) ((((hi-lo).toNat:Nat):Int)-((0:Nat):Int)) 1
  rw[e1,e2]
  exact Heap.get?_push_size _ rfl
 ·have e:b=(s.heap.push { cls:=.type "range",data:=.fields #[.int lo t,.int hi u,.int 1 v] }).objs.size:=by simpa using hb
  subst e
  exact I1.qB (Nat.le_refl _) (I1.hok.fresh (Nat.le_refl _))
def EF(ta:TA):TI:=fun σ H R=>ta σ H fun vs H1=>∃ j:Int,vs=[.int j]/\-(2 ^ 62)<=j/\j<2 ^ 62/\R (Itr 0 j.toNat) H1
def Fl(ta:TA):TI:=fun σ H R=>ta σ H fun vs H1=>∃ i j:Int,vs=[.int i,.int j]/\(-(2 ^ 62)<=i/\i<2 ^ 62/\-(2 ^ 62)<=j/\j<2 ^ 62)/\R (Itr i (j-i).toNat) H1
theorem xw{a:Expr}{ta:TA}{p pos:Pos}(hg:Gl X "range")(hm:X.mg "range" = none)(ha:PA X [a] ta)(hs:starEach [a] X.env=[(false,eval a X.env)]:=by rfl):PI X tg (.Call (.Name "range" p) [a] [] pos) (EF ta):=by
 intro pins s σ H R I h
 refine Call_ (il I hg hm boot_range (PyProof.Rows.callWith_type1 (thn (ha pos pins s σ H _ I h) fun us s1 ⟨vs,H1,I1,r1,q1⟩=>?_) hs rfl))
 obtain⟨j,e,q1,q2,q⟩:=q1
 subst e
 cases r1 with
 |cons r rr=>
  cases rr
  obtain⟨t,rfl⟩:=r
  exact call_range_1 (pJ I1 (by omega) (by omega) q1 q2 (by simpa using q))
theorem wM{a b:Expr}{ta:TA}{p pos:Pos}(hg:Gl X "range")(hm:X.mg "range" = none)(ha:PA X [a,b] ta)(hs:starEach [a,b] X.env=[(false,eval a X.env),(false,eval b X.env)]:=by rfl)(hs2:starEach [b] X.env=[(false,eval b X.env)]:=by rfl) :
  PI X tg (.Call (.Name "range" p) [a,b] [] pos) (Fl ta):=by
 intro pins s σ H R I h
 refine Call_ (il I hg hm boot_range (PyProof.Rows.callWith_type1 (thn (ha pos pins s σ H _ I h) fun us s1 ⟨vs,H1,I1,r1,q1⟩=>?_) (by rw[hs,hs2]) (by rw[hs2];rfl)))
 obtain⟨i,j,e,⟨q1,q2,q3,q4⟩,q⟩:=q1
 subst e
 cases r1 with
 |cons r rr=>
  cases rr with
  |cons r' rr=>
   cases rr
   obtain⟨t,rfl⟩:=r
   obtain⟨t',rfl⟩:=r'
   exact call_range_2 (pJ I1 q1 q2 q3 q4 q)
def FJ(wi:TI)(g:TG)(tb:TS):TS:=fun D σ H=>wi σ H fun J H1=>∃ W:Nat->Nat->St->Hp->Prop,(∃ m,W 0 m σ H1)/\∀ i m σ H,W i m σ H ->
 (J.stop i H/\D.nx σ H)\/(J.go i H/\∃ N:St->Hp->Prop,(∀ σ' H',N σ' H'->∃ m',m'<m/\W (i+1) m' σ' H')/\∀ x H',J.yld i H x H'->g x σ H' fun σ2 H2=>tb { D with nx:=N,ct:=N,bk:=D.nx } σ2 H2)
def jk(fp:List Addr)(h:Heap):List (Addr × Obj):=fp.filterMap fun b=>(h.get? b).map fun o=>(b,o)
theorem fP{fp:List Addr}{h:Heap}{b:Addr}{o:Obj}(hb:b∈fp)(e:h.get? b=some o):(b,o)∈jk fp h:=List.mem_filterMap.mpr ⟨b,hb,by rw[e];rfl⟩
theorem vf{fp:List Addr}{h:Heap}{p:Addr × Obj}(hp:p∈jk fp h):p.1∈fp/\h.get? p.1=some p.2:=by
 obtain⟨b,hb,e⟩:=List.mem_filterMap.mp hp
 cases q:h.get? b with
 | none=>rw[q]at e;cases e
 |some o=>
  rw[q]at e
  have e':(b,o)=p:=Option.some.inj e
  subst e'
  exact⟨hb,q⟩
theorem Inv.pinned{pins:List (Addr × Obj)}{σ:St}{H:Hp}{s:Shared}{fp:List Addr}(I:Inv X pins σ H s)(hf:∀ b∈fp,ja X pins H b)(ho:∀ b∈fp,∃ o,s.heap.get? b=some o/\∀ v,o.data≠.cell v):Inv X (pins++jk fp s.heap) σ H s :=
 I.sJ fun p hp=>(List.mem_append.mp hp).elim (fun z=>I.pin p (List.mem_append_right _ z)) fun z=>by
  obtain⟨hb,e⟩:=vf z
  obtain⟨f0,f1,f2,_⟩:=hf p.1 hb
  obtain⟨o,e',d⟩:=ho p.1 hb
  rw[e]at e';cases e'
  exact⟨e,f0,f1,f2,d⟩
theorem Inv.i6{pins pl:List (Addr × Obj)}{σ:St}{H:Hp}{s:Shared}(I:Inv X (pins++pl) σ H s):Inv X pins σ H s:=I.sJ fun p hp=>I.pin p (List.mem_append_right _ (List.mem_append_left _ hp))
theorem x9{iter:Expr}{body:List Stmt}{wi:TI}{g:TG}{tb:TS}{pos:Pos}(hp:PassesOwn (model X.prog X.w) X.A X.env X.xe)(hc:X.calm=true)(hi:PI X tg iter wi)(hg:PG X tg g)(hb:PSs X body tb)
 (hs:∀ x,foldedSetIterable iter X.env x=pure x:=by intro _;rfl):PS X (.For tg iter body [] pos) (FJ wi g tb):=by
 intro pins s σ H D I h
 refine wpAny_For (thn (hi pins s σ H _ I h) fun v s1 h1=>thn h1 fun itv s2 h2=>?_) hs
 obtain⟨it,fp,tn,J,H2,e,I2,T,st2,f2,W,⟨m0,w0⟩,turn⟩:=h2
 subst e
 have stat:∀ {H':Hp},(∀ b∈fp,H' b=none)->∀ b∈fp,ja X pins H' b:=fun hn b hb=>⟨hn b hb,(f2 b hb).2⟩
 refine codeAny_forLoop_any (fun n s'=>∃ i σ' H',Inv X pins σ' H' s'/\tn i s'.heap/\(∀ b∈fp,H' b=none)/\W i n σ' H') ?_ m0 ⟨0,σ,H2,I2,st2,fun b hb=>(f2 b hb).1,w0⟩
 rintro n s3 ⟨i,σ3,H3,I3,st3,fr3,w3⟩
 rcases turn i n σ3 H3 w3 with⟨stop,qn⟩ | ⟨go,N,hN,step⟩
 ·refine wpAny_passesOwn hp (thn (T.done X rfl rfl rfl hc i pins s3 σ3 H3 X.xe I3 (stat fr3) st3 stop) fun r s4 ⟨hr,I4⟩=>?_)
  subst hr
  exact wpAny_execs_nil ⟨σ3,H3,I4,qn⟩
 ·refine wpAny_passesOwn hp (thn (T.item X rfl rfl rfl hc i pins s3 σ3 H3 X.xe I3 (stat fr3) st3 go) fun r s4 ⟨u,hr,h4⟩=>?_)
  subst hr
  refine wpAny_passesOwn hp (thn h4 fun _ s5 ⟨x,H5,I5,r5,y5,st5,fr5⟩=>?_)
  have I5':=I5.pinned (stat fr5) (T.obj _ _ st5)
  refine wpAny_passesOwn hp (thn (hg _ s5 σ3 H5 x u _ I5' r5 (step x H5 y5)) fun _ s6 ⟨σ6,H6,I6,q6⟩=>?_)
  refine wpAny_passesOwn hp (thn (hb _ s6 σ6 H6 _ I6 q6) fun f s7 q7=>?_)
  have again:∀ {σ7:St} {H7:Hp},Inv X (pins++jk fp s5.heap) σ7 H7 s7->N σ7 H7->∃ m,m<n/\∃ i σ' H',Inv X pins σ' H' s7/\tn i s7.heap/\(∀ b∈fp,H' b=none)/\W i m σ' H':=fun {σ7 H7} I7 n7=>by
   obtain⟨m',hm,w7⟩:=hN σ7 H7 n7
   refine⟨m',hm,i+1,σ7,H7,I7.i6,T.keep _ _ _ st5 fun b hb o e=>(I7.pin (b,o) (List.mem_append_right _ (List.mem_append_right _ (fP hb e)))).1,fun b hb=>?_,w7⟩
   obtain⟨o,e,d⟩:=T.obj _ _ st5 b hb
   exact(I7.pin (b,o) (List.mem_append_right _ (List.mem_append_right _ (fP hb e)))).2.1
  cases f with
  | next=>obtain⟨σ7,H7,I7,n7⟩:=q7;exact again I7 n7
  | cont=>obtain⟨σ7,H7,I7,n7⟩:=q7;exact again I7 n7
  | brk=>obtain⟨σ7,H7,I7,q7⟩:=q7;exact⟨σ7,H7,I7.i6,q7⟩
  | ret v=>obtain⟨x7,σ7,H7,I7,r7,q7⟩:=q7;exact⟨x7,σ7,H7,I7.i6,r7,q7⟩
end
abbrev R2:=V->V->Hp->VK->Prop
def OpR(X:Cx)(f:Value->Value->Sem Value)(r:R2):Prop :=
 ∀ (pins:List (Addr × Obj)) (s:Shared) (σ:St) (H:Hp) (x y:V) (v u:Value) (Q:VK),Inv X pins σ H s->RelV x v->RelV y u->r x y H Q ->
  wpAny (model X.prog X.w) X.A (f v u) (EP X pins σ Q) X.xe s
def UnR(X:Cx)(f:Value->Sem Value)(r:V->Hp->VK->Prop):Prop :=
 ∀ (pins:List (Addr × Obj)) (s:Shared) (σ:St) (H:Hp) (x:V) (v:Value) (Q:VK),Inv X pins σ H s->RelV x v->r x H Q ->
  wpAny (model X.prog X.w) X.A (f v) (EP X pins σ Q) X.xe s
def bA(X:Cx)(f:Value)(r:List V->Hp->VK->Prop):Prop :=
 ∀ (pins:List (Addr × Obj)) (s:Shared) (σ:St) (H:Hp) (xs:List V) (us:List Value) (Q:VK),Inv X pins σ H s->Vals xs us->r xs H Q ->
  wpAny (model X.prog X.w) X.A (call f us) (EP X pins σ Q) X.xe s
def FG(X:Cx)(r:V->Hp->(Bool->Hp->Prop)->Prop):Prop :=
 ∀ (pins:List (Addr × Obj)) (s:Shared) (σ:St) (H:Hp) (x:V) (v:Value) (Q:Bool->Hp->Prop),Inv X pins σ H s->RelV x v->r x H Q ->
  wpAny (model X.prog X.w) X.A (truthy v) (TP X pins σ Q) X.xe s
def tOp(r:R2)(ta tb:TE):TE:=fun σ H Q=>ta σ H fun x H1=>tb σ H1 fun y H2=>r x y H2 Q
def tUn(r:V->Hp->VK->Prop)(ta:TE):TE:=fun σ H Q=>ta σ H fun x H1=>r x H1 Q
def rI(C:Int->Int->Prop)(g:Int->Int->V):R2:=fun x y H Q=>∃ i j,x=.int i/\y=.int j/\C i j/\Q (g i j) H
def rI0(g:Int->Int->V):R2:=fun x y H Q=>∃ i j,x=.int i/\y=.int j/\Q (g i j) H
def rU(g:Int->V):V->Hp->VK->Prop:=fun x H Q=>∃ i,x=.int i/\Q (g i) H
section
variable{X:Cx}{a b c:Expr}{ta tb tc:TE}{pos:Pos}
theorem xV(ha:PE X a ta)(hb:PE X b tb){pins:List (Addr × Obj)}{s:Shared}{σ:St}{H:Hp}{R:V->V->Hp->Prop}(I:Inv X pins σ H s)
 (h:ta σ H fun x H1=>tb σ H1 fun y H2=>R x y H2){Q:Value->Shared->Prop}{f:Value->Value->Sem Value}
 (hf:∀ v u s2 x y H2,Inv X pins σ H2 s2->RelV x v->RelV y u->R x y H2->wpAny (model X.prog X.w) X.A (f v u) Q X.xe s2) :
  wpAny (model X.prog X.w) X.A (eval a X.env) (fun v s₁=>wpAny (model X.prog X.w) X.A (eval b X.env) (fun u s₂=>wpAny (model X.prog X.w) X.A (f v u) Q X.xe s₂) X.xe s₁) X.xe s:=by
 refine thn (ha pins s σ H _ I h) fun v s1 ⟨x,H1,I1,r1,q1⟩=>?_
 refine thn (hb pins s1 σ H1 _ I1 q1) fun u s2 ⟨y,H2,I2,r2,q2⟩=>?_
 exact hf v u s2 x y H2 I2 r1 r2 q2
theorem E5{op:Operator}{r:R2}(ho:OpR X (binaryOp op) r)(ha:PE X a ta)(hb:PE X b tb):PE X (.BinOp a op b pos) (tOp r ta tb):=by
 intro pins s σ H Q I h
 exact wpAny_BinOp (xV ha hb I h fun v u s2 x y H2 I2 rx ry q=>ho pins s2 σ H2 x y v u Q I2 rx ry q)
theorem zV{op:UnaryOp}{r:V->Hp->VK->Prop}(ho:UnR X (unaryOp op) r)(ha:PE X a ta):PE X (.UnaryOp op a pos) (tUn r ta):=by
 intro pins s σ H Q I h
 exact UnaryOp_ (thn (ha pins s σ H _ I h) fun v s1 ⟨x,H1,I1,r1,q1⟩=>ho pins s1 σ H1 x v Q I1 r1 q1)
theorem opI{f:Value->Value->Sem Value}{C:Int->Int->Prop}{g:Int->Int->Int}
 (rule:∀ (i j:Int) (t u:Tok) (s:Shared) (Q:Value->Shared->Prop) (E:Value->Shared->Prop),C i j->Q (.int (g i j) s.toks) { s with toks:=s.toks+1 }->wpAny (model X.prog X.w) X.A (f (.int i t) (.int j u)) Q E s) :
  OpR X f (rI C fun i j=>.int (g i j)):=by
 intro pins s σ H x y v u Q I rx ry h
 obtain⟨i,j,rfl,rfl,hc,q⟩:=h
 obtain⟨t,rfl⟩:=rx
 obtain⟨t',rfl⟩:=ry
 exact rule i j t t' s _ _ hc ⟨.int (g i j),H,I.tok _,⟨_,rfl⟩,q⟩
theorem Co{f:Value->Value->Sem Value}{g:Int->Int->Int}
 (rule:∀ (i j:Int) (t u:Tok) (s:Shared) (Q:Value->Shared->Prop) (E:Value->Shared->Prop),Q (.int (g i j) s.toks) { s with toks:=s.toks+1 }->wpAny (model X.prog X.w) X.A (f (.int i t) (.int j u)) Q E s) :
  OpR X f (rI0 fun i j=>.int (g i j)):=by
 intro pins s σ H x y v u Q I rx ry h
 obtain⟨i,j,rfl,rfl,q⟩:=h
 obtain⟨t,rfl⟩:=rx
 obtain⟨t',rfl⟩:=ry
 exact rule i j t t' s _ _ ⟨.int (g i j),H,I.tok _,⟨_,rfl⟩,q⟩
def CS(i j:Int):Prop:=0<=j/\j<=1000000/\i.natAbs<2 ^ 64
def uV(i j:Int):Prop:=(-(2 ^ 64)<i/\i<2 ^ 64)\/(-(2 ^ 64)<j/\j<2 ^ 64)
theorem uV.ok{i j:Int}(h:uV i j):IntMulOk i j:=by
 rcases h with⟨h1,h2⟩ | ⟨h1,h2⟩
 ·exact .of_left (intBits_le_64 h1 h2)
 ·exact .of_right (intBits_le_64 h1 h2)
theorem C9:OpR X (binaryOp .Add) (rI0 fun i j=>.int (i+j)):=Co fun _ _ _ _ _ _ _ q=>add_int q
theorem Ec:OpR X (binaryOp .Sub) (rI0 fun i j=>.int (i-j)):=Co fun _ _ _ _ _ _ _ q=>sub_int q
theorem BM:OpR X (binaryOp .Mult) (rI uV fun i j=>.int (i*j)):=opI fun _ _ _ _ _ _ _ hc q=>mul_int q hc.ok
theorem Ef:OpR X (binaryOp .Mod) (rI (fun _ j=>0<j) fun i j=>.int (i%j)):=opI fun i j _ _ _ _ _ hc q=>by
 have h1:(0:Int)<j:=hc
 exact mod_int' (by omega) (by rw[Int.fmod_eq_emod_of_nonneg i (by omega)];exact q)
theorem CQ:OpR X (binaryOp .Pow) (rI CS fun i j=>.int (i ^ j.toNat)):=opI fun _ _ _ _ _ _ _ hc q=>pow_int_small hc.1 hc.2.1 hc.2.2 q
theorem unI{f:Value->Sem Value}{g:Int->Int}
 (rule:∀ (i:Int) (t:Tok) (s:Shared) (Q:Value->Shared->Prop) (E:Value->Shared->Prop),Q (.int (g i) s.toks) { s with toks:=s.toks+1 }->wpAny (model X.prog X.w) X.A (f (.int i t)) Q E s) :
  UnR X f (rU fun i=>.int (g i)):=by
 intro pins s σ H x v Q I rx h
 obtain⟨i,rfl,q⟩:=h
 obtain⟨t,rfl⟩:=rx
 exact rule i t s _ _ ⟨.int (g i),H,I.tok _,⟨_,rfl⟩,q⟩
theorem vY:UnR X (unaryOp .USub) (rU fun i=>.int (-i)):=unI fun _ _ _ _ _ q=>neg_int q
end
section
variable{X:Cx}{a b c:Expr}{ta tb tc:TE}{pos:Pos}
theorem xa{pins:List (Addr × Obj)}{σ:St}{H:Hp}{s:Shared}{Q:VK}{k k':Bool}(I:Inv X pins σ H s)(q:Q (.bl k) H)(e:k=k'):EP X pins σ Q (.bool k') s:=by
 subst e
 exact⟨.bl k,H,I,rfl,q⟩
theorem B7:OpR X (compareOp .Is) (fun x y H Q=>y=.non/\Q (.bl (decide (x=.non))) H):=by
 intro pins s σ H x y v u Q I rx ry h
 obtain⟨rfl,q⟩:=h
 cases ry
 refine is_none_gen (xa I q ?_)
 cases x<;>first
  | (cases rx;rfl)
  | (obtain⟨t,rfl⟩:=rx;rfl)
theorem AQ:OpR X (compareOp .IsNot) (fun x y H Q=>y=.non/\Q (.bl (!decide (x=.non))) H):=by
 intro pins s σ H x y v u Q I rx ry h
 obtain⟨rfl,q⟩:=h
 cases ry
 refine isnot_none_gen (xa I q ?_)
 cases x<;>first
  | (cases rx;rfl)
  | (obtain⟨t,rfl⟩:=rx;rfl)
theorem OpR.or{f:Value->Value->Sem Value}{r r':R2}(h:OpR X f r)(h':OpR X f r'):OpR X f (fun x y H Q=>r x y H Q\/r' x y H Q):=by
 intro pins s σ H x y v u Q I rx ry q
 rcases q with q | q
 ·exact h pins s σ H x y v u Q I rx ry q
 ·exact h' pins s σ H x y v u Q I rx ry q
theorem wJ(b:Expr){op:CmpOp}(h:op≠.In:=by decide)(h2:op≠.NotIn:=by decide):behindInMarks op b=false:=by
 have e1:(op == CmpOp.In)=false:=by cases op<;>first | rfl | exact absurd rfl h
 have e2:(op == CmpOp.NotIn)=false:=by cases op<;>first | rfl | exact absurd rfl h2
 cases b<;>simp[behindInMarks,e1,e2]
theorem rS{op:CmpOp}{r:R2}(ho:OpR X (compareOp op) r)(ha:PE X a ta)(hb:PE X b tb)(hm:behindInMarks op b=false):PE X (.Compare a [op] [b] pos) (tOp r ta tb):=by
 intro pins s σ H Q I h
 exact wpAny_Compare1 (xV ha hb I h fun v u s2 x y H2 I2 rx ry q=>ho pins s2 σ H2 x y v u Q I2 rx ry q) hm
def zW(t:TE):TT:=fun σ H Q=>t σ H fun x H'=>∃ k,x=.bl k/\Q k H'
theorem rW{op:CmpOp}{r:R2}(ho:OpR X (compareOp op) r)(ha:PE X a ta)(hb:PE X b tb)(hm:behindInMarks op b=false):PT X (.Compare a [op] [b] pos) (zW (tOp r ta tb)):=by
 intro pins s σ H Q I h
 refine wpAny_isTrue_Compare1 (thn (ha pins s σ H _ I h) fun v s1 ⟨x,H1,I1,r1,q1⟩=>thn (hb pins s1 σ H1 _ I1 q1) fun u s2 ⟨y,H2,I2,r2,q2⟩ =>
  thn (ho pins s2 σ H2 x y v u _ I2 r1 r2 q2) fun c s3 ⟨z,H3,I3,r3,k,e,q3⟩=>?_) hm
 subst e
 cases r3
 exact wpAny_truthy_bool ⟨H3,I3,q3⟩
def pZ(r r':R2)(ta tb tc:TE):TE:=fun σ H Q=>ta σ H fun x H1=>tb σ H1 fun y H2=>r x y H2 fun z H3=>∃ k,z=.bl k /\
 (if k=true then tc σ H3 fun w' H4=>r' y w' H4 Q else Q (.bl false) H3)
theorem yt{op op':CmpOp}{r r':R2}(ho:OpR X (compareOp op) r)(ho':OpR X (compareOp op') r')(ha:PE X a ta)(hb:PE X b tb)(hc:PE X c tc)
 (hm:lastMarks [op,op'] [b,c]=false:=by with_unfolding_all rfl):PE X (.Compare a [op,op'] [b,c] pos) (pZ r r' ta tb tc):=by
 intro pins s σ H Q I h
 refine Compare_chain (thn (ha pins s σ H _ I h) fun v s1 ⟨x,H1,I1,r1,q1⟩=>chain_link (thn (hb pins s1 σ H1 _ I1 q1) fun u s2 ⟨y,H2,I2,r2,q2⟩ =>
  thn (ho pins s2 σ H2 x y v u _ I2 r1 r2 q2) fun d s3 ⟨z,H3,I3,r3,k,e,q3⟩=>?_)) hm
 subst e
 cases r3
 refine wpAny_truthy_bool ?_
 cases k with
 | false=>exact ite_ff ⟨.bl false,H3,I3,rfl,q3⟩
 | true=>exact ite_tt (chain_last (thn (hc pins s3 σ H3 _ I3 q3) fun w' s4 ⟨z',H4,I4,r4,q4⟩=>ho' pins s4 σ H4 y z' u w' Q I4 r2 r4 q4))
theorem yW{op op':CmpOp}{r r':R2}(ho:OpR X (compareOp op) r)(ho':OpR X (compareOp op') r')(ha:PE X a ta)(hb:PE X b tb)(hc:PE X c tc)
 (hm:lastMarks [op,op'] [b,c]=false:=by with_unfolding_all rfl):PT X (.Compare a [op,op'] [b,c] pos) (zW (pZ r r' ta tb tc)):=by
 intro pins s σ H Q I h
 refine isTrue_chain (thn (ha pins s σ H _ I h) fun v s1 ⟨x,H1,I1,r1,q1⟩=>test_link (thn (hb pins s1 σ H1 _ I1 q1) fun u s2 ⟨y,H2,I2,r2,q2⟩ =>
  thn (ho pins s2 σ H2 x y v u _ I2 r1 r2 q2) fun d s3 ⟨z,H3,I3,r3,k,e,q3⟩=>?_)) hm
 subst e
 cases r3
 refine wpAny_truthy_bool ?_
 cases k with
 |false=>
  obtain⟨k',e',q'⟩:=q3
  cases e'
  exact ite_ff ⟨H3,I3,q'⟩
 |true=>
  refine ite_tt (test_last (thn (hc pins s3 σ H3 _ I3 q3) fun w' s4 ⟨z',H4,I4,r4,q4⟩=>thn (ho' pins s4 σ H4 y z' u w' _ I4 r2 r4 q4) fun d' s5 ⟨z2,H5,I5,r5,k2,e2,q5⟩=>?_))
  subst e2
  cases r5
  exact wpAny_truthy_bool ⟨H5,I5,q5⟩
def uh(K:PySem.W.Frag)(x:V)(H:Hp)(k:Bool):Prop :=
 match x with
 | .non=>k=false
 | .bl b=>k=b
 | .int i=>k=(i != 0)
 | .str y=>y.length<=sizeLine/\k=((y.length:Int) != 0)
 | .byt y=>y.size<=sizeLine/\k=((y.size:Int) != 0)
 | .ref p=>(∃ xs,SqL K H p xs/\k=!xs.isEmpty)\/(∃ xs,SqT K H p xs/\k=!xs.isEmpty)\/∃ kvs,H p=some (.dK kvs)/\k=!kvs.isEmpty
 | _=>False
theorem uK{κ:Type}{kvs:List (κ × V)}{vs:List (κ × Value)}(r:KV kvs vs):(!vs.isEmpty)=!kvs.isEmpty:=by
 cases r<;>rfl
theorem l8{xs:List V}{its:List Value}(r:Vals xs its):(!its.toArray.isEmpty)=!xs.isEmpty:=by
 cases r<;>simp
theorem hJ:(sizeLine:Nat)<2 ^ 63:=by rw[sizeLine_eq];decide
theorem vE:FG X (fun x H Q=>∃ k,uh X.K x H k/\Q k H):=by
 intro pins s σ H x v Q I rx h
 obtain⟨k,e,q⟩:=h
 have hl:=hJ
 have hs:sizeLine=16777216:=sizeLine_eq
 cases x with
 |non=>
  cases rx
  have e':k=false:=e
  subst e'
  exact truthy_none ⟨H,I,q⟩
 |bl b=>
  cases rx
  have e':k=b:=e
  subst e'
  exact wpAny_truthy_bool ⟨H,I,q⟩
 |int i=>
  obtain⟨t,rfl⟩:=rx
  have e':k=(i != 0):=e
  subst e'
  exact PySem.P.truthy_int ⟨H,I,q⟩
 |str y=>
  obtain⟨t,rfl⟩:=rx
  obtain⟨hy,e'⟩:y.length<=sizeLine/\k=((y.length:Int) != 0):=e
  subst e'
  exact PySem.P.truthy_str (by omega) ⟨H,I.tok _,q⟩
 |byt y=>
  obtain⟨t,rfl⟩:=rx
  obtain⟨hy,e'⟩:y.size<=sizeLine/\k=((y.size:Int) != 0):=e
  subst e'
  exact PySem.W.truthy_bytes (by omega) ⟨H,I.tok _,q⟩
 |ref p=>
  cases rx
  have e':(∃ xs,SqL X.K H p xs/\k=!xs.isEmpty)\/(∃ xs,SqT X.K H p xs/\k=!xs.isEmpty)\/∃ kvs,H p=some (.dK kvs)/\k=!kvs.isEmpty:=e
  rcases e' with⟨xs,hx,e'⟩ | ⟨xs,hx,e'⟩ | ⟨kvs,hx,e'⟩
  ·subst e'
   obtain⟨its,r,pl,hz⟩:=I.list hx
   have hlen:=r.length
   exact wpAny_truthy_list pl.isList (by simp only[List.size_toArray];omega) ⟨H,I.tok _,by rw[l8 r];exact q⟩
  ·subst e'
   obtain⟨its,r,pl,hz⟩:=I.tuple hx
   have hlen:=r.length
   exact truthy_tuple pl (by simp only[List.size_toArray];omega) ⟨H,I.tok _,by rw[l8 r];exact q⟩
  ·subst e'
   obtain⟨hz,hS,vs,r,m⟩:kvs.length<=sizeLine/\(p == sysModules)=false/\∃ vs,KV kvs vs/\s.heap.DictOf (bS X.prog X.w) p vs:=I.hok p _ hx
   have hlen:kvs.length=vs.length:=Paired.length r
   exact wpAny_truthy_dict hS m (by omega) ⟨H,I.tok _,by rw[uK r];exact q⟩
 | _=>exact(show False from e).elim
theorem yE(ha:PE X a ta)(he:∀ whole,isTrue a X.env whole=(do let v <- whole;standAt a.pos;holding [v] (truthy v))) :
  PT X a (fun σ H Q=>ta σ H fun x H'=>∃ k,uh X.K x H' k/\Q k H'):=by
 intro pins s σ H Q I h
 exact isTrue_plain (thn (ha pins s σ H _ I h) fun v s1 ⟨x,H1,I1,r1,q1⟩=>vE pins s1 σ H1 x v Q I1 r1 q1) (he _)
theorem um:OpR X (binaryOp .Add) (fun x y H Q=>∃ i j,x=.str i/\y=.str j/\i.length+j.length<=sizeLine/\Q (.str (i++j)) H):=by
 intro pins s σ H x y v u Q I rx ry h
 obtain⟨i,j,rfl,rfl,hz,q⟩:=h
 obtain⟨t,rfl⟩:=rx
 obtain⟨t',rfl⟩:=ry
 exact add_str (fun t' tk=>⟨.str (i++j),H,I.tok _,⟨_,rfl⟩,q⟩) hz
theorem vals1{x:V}{us:List Value}(r:Vals [x] us):∃ u,us=[u]/\RelV x u:=by
 cases r with
 | cons r1 r2=>cases r2;exact⟨_,rfl,r1⟩
theorem vals2{x y:V}{us:List Value}(r:Vals [x,y] us):∃ u w',us=[u,w']/\RelV x u/\RelV y w':=by
 cases r with
 |cons r1 r2=>
  cases r2 with
  | cons r3 r4=>cases r4;exact⟨_,_,rfl,r1,r3⟩
theorem vI(hc:X.calm=true):bA X (.builtin "max") (fun xs H Q=>∃ i j,xs=[.int i,.int j]/\Q (.int (if j > i then j else i)) H):=by
 intro pins s σ H xs us Q I r h
 obtain⟨i,j,rfl,q⟩:=h
 obtain⟨u,w',rfl,⟨t,rfl⟩,⟨t',rfl⟩⟩:=vals2 r
 refine max_two_ints (I.ok.hd.1 hc) fun h' tk k=>⟨_,H,I.kept k,?_,q⟩
 by_cases hj:j > i
 ·rw[if_pos hj,if_pos hj];exact⟨_,rfl⟩
 ·rw[if_neg hj,if_neg hj];exact⟨_,rfl⟩
theorem uW(hc:X.calm=true):bA X (.builtin "min") (fun xs H Q=>∃ i j,xs=[.int i,.int j]/\Q (.int (if j<i then j else i)) H):=by
 intro pins s σ H xs us Q I r h
 obtain⟨i,j,rfl,q⟩:=h
 obtain⟨u,w',rfl,⟨t,rfl⟩,⟨t',rfl⟩⟩:=vals2 r
 refine min_two_ints (I.ok.hd.1 hc) fun h' tk k=>⟨_,H,I.kept k,?_,q⟩
 by_cases hj:j<i
 ·rw[if_pos hj,if_pos hj];exact⟨_,rfl⟩
 ·rw[if_neg hj,if_neg hj];exact⟨_,rfl⟩
theorem wL:bA X (.type "int") (fun xs H Q=>(∃ i,xs=[.int i]/\Q (.int i) H)\/∃ k,xs=[.bl k]/\Q (.int (if k then 1 else 0)) H):=by
 intro pins s σ H xs us Q I r h
 rcases h with⟨i,rfl,q⟩ | ⟨k,rfl,q⟩
 ·obtain⟨u,rfl,t,rfl⟩:=vals1 r
  exact call_int_int ⟨.int i,H,I,⟨_,rfl⟩,q⟩
 ·obtain⟨u,rfl,r1⟩:=vals1 r
  cases r1
  exact call_int_bool ⟨.int (if k then 1 else 0),H,I.tok _,⟨_,rfl⟩,q⟩
def BJ(K:PySem.W.Frag)(x:V)(H:Hp)(n:Nat):Prop :=
 match x with
 | .str y=>y.length<=sizeLine/\n=y.length
 | .byt y=>y.size<=sizeLine/\n=y.size
 | .ref p=>(∃ xs,SqL K H p xs/\n=xs.length)\/∃ xs,SqT K H p xs/\n=xs.length
 | _=>False
theorem yb:bA X (.builtin "len") (fun xs H Q=>∃ x n,xs=[x]/\BJ X.K x H n/\Q (.int n) H):=by
 intro pins s σ H xs us Q I r h
 obtain⟨x,n,rfl,e,q⟩:=h
 obtain⟨u,rfl,rx⟩:=vals1 r
 have hl:=hJ
 have hs:sizeLine=16777216:=sizeLine_eq
 cases x with
 |str y=>
  obtain⟨t,rfl⟩:=rx
  obtain⟨hy,e'⟩:y.length<=sizeLine/\n=y.length:=e
  subst e'
  exact len_str (by omega) ⟨.int _,H,I.tok _,⟨_,rfl⟩,q⟩
 |byt y=>
  obtain⟨t,rfl⟩:=rx
  obtain⟨hy,e'⟩:y.size<=sizeLine/\n=y.size:=e
  subst e'
  exact PySem.W.len_bytes (by omega) ⟨.int _,H,I.tok _,⟨_,rfl⟩,q⟩
 |ref p=>
  cases rx
  have e':(∃ xs,SqL X.K H p xs/\n=xs.length)\/∃ xs,SqT X.K H p xs/\n=xs.length:=e
  rcases e' with⟨xs,hx,e'⟩ | ⟨xs,hx,e'⟩
  ·subst e'
   obtain⟨its,r',pl,hz⟩:=I.list hx
   have hlen:=r'.length
   exact Calls.call_len_list pl.isList (by simp only[List.size_toArray];omega) ⟨.int xs.length,H,I.tok _,⟨_,by simp only[List.size_toArray];rw[hlen]⟩,q⟩
  ·subst e'
   obtain⟨its,r',pl,hz⟩:=I.tuple hx
   have hlen:=r'.length
   exact len_tuple pl (by simp only[List.size_toArray];omega) ⟨.int xs.length,H,I.tok _,⟨_,by simp only[List.size_toArray];rw[hlen]⟩,q⟩
 | _=>exact(show False from e).elim
end
structure yk(h:Heap)(x dx C:Addr)(mA:Str->Option Value):Prop where
 obj:h.get? x=some (PySem.W.instObj C dx)
 ns:h.Ns1 dx mA
 ne:dx≠x
theorem xm{h:Heap}{dx:Addr}{mA:Str->Option Value}(n:h.Ns1 dx mA):∃ od,h.get? dx=some od/\∀ name,PySem.W.lookIn name od=some (mA name):=by
 obtain⟨o,es,ep,ho,hd,hk,_,hm⟩:=n
 refine⟨o,ho,fun name=>?_⟩
 have e:=hm name
 unfold nsFind findBy at e
 rw[<-Array.find?_toList]at e
 unfold PySem.W.lookIn
 rw[hd]
 dsimp only
 split
 ·rename_i y q
  rw[q]at e
  exact congrArg some e
 ·rename_i q
  rw[q]at e
  have a:es.toList.any (·.refKey)=false:=by
   rw[List.any_eq_false]
   intro y hy
   obtain⟨z,t,hkey⟩:=hk y (Array.mem_toList_iff.mp hy)
   simp[DictEntry.refKey,hkey]
  have a':¬ es.toList.any (·.refKey)=true:=by rw[a];exact Bool.false_ne_true
  rw[if_neg a']
  exact congrArg some e
theorem yk.look{h:Heap}{x dx C:Addr}{mA:Str->Option Value}(I:yk h x dx C mA):∃ od,PySem.W.InstAt h x (PySem.W.instObj C dx) C (some od)/\∀ name,PySem.W.lookIn name od=some (mA name) :=
 let ⟨od,ho,hl⟩:=xm I.ns
 ⟨od,⟨I.obj,rfl,rfl,ho⟩,hl⟩
section
variable{prog:Program}{w:World}{A:Around}{E:Value->Shared->Prop}{s:Shared}{K:PySem.W.Frag}{x dx C f:Addr}{mA:Str->Option Value}{name:Str}{v:Value}
end
theorem gB.some_of{v:V}{o:Option Value}(r:gB (some v) o):∃ u,o=some u/\RelV v u:=by
 cases o with
 | none=>exact(show False from r).elim
 | some u=>exact⟨u,rfl,r⟩
section
variable{P:Program}{w:World}{H H':Hp}{h h':Heap}{a C dx:Addr}{fs fs':List (Str × V)}
theorem AL(hok:HOk P w H h)(e:H a=some (.ins C dx fs)):∃ mA,yk h a dx C mA/\(∀ f,gB (fs.lookup f) (mA f))/\PySem.Within mA (fs.map (·.1))/\fs.length<=1000/\H dx=some (.own a):=by
 obtain⟨d,z,ne,ob,mA,n,r,q⟩:=(show bf P w H h a (.ins C dx fs)from hok a _ e)
 exact⟨mA,⟨ob,n,ne⟩,r,q,z,d⟩
end
structure Cls(K:PySem.W.Frag)(C:Addr):Prop where
 pg:PySem.W.plainGet K C Str.empty=true
 hd:PySem.W.hasDictIn K C=true
 po:PySem.W.plainOver K C=true
 sa:PySem.W.findIn K (.ref C) "__setattr__" = some (some (.builtin "object.__setattr__"))
theorem Cls.get{K:PySem.W.Frag}{C:Addr}(c:Cls K C)(f:Str):PySem.W.plainGet K C f=true:=c.pg
section
variable{X:Cx}{pins:List (Addr × Obj)}{σ:St}{H:Hp}{s:Shared}{a C dx:Addr}{fs:List (Str × V)}{f:Str}{v:V}{A:Around}{E:Value->Shared->Prop}
end
section
variable{X:Cx}{o e value:Expr}{f:Str}{pos pos' tpos:Pos}{ta tv:TE}
end
section
variable{X:Cx}{pins:List (Addr × Obj)}{σ:St}{H:Hp}{s:Shared}{A:Around}{E:Value->Shared->Prop}{Q:Value->Shared->Prop}{c:Value}{b:Bool}
inductive eK (K:PySem.W.Frag) (H:Hp):V->Value->Prop where
 | non:eK K H .non (.type "NoneType")
 | bl (x:Bool):eK K H (.bl x) (.type "bool")
 | int (i:Int):eK K H (.int i) (.type "int")
 | str (x:Str):eK K H (.str x) (.type "str")
 | flt (x:UInt64):eK K H (.flt x) (.type "float")
 | lst {a:Addr} {xs:List V} (e:H a=some (.lst xs)):eK K H (.ref a) (.type "list")
 | frz {a:Addr} {o:Obj} {xs:List V} (e:H a=some (.frz o (.lst xs))):eK K H (.ref a) (.type "list")
 | tup {a:Addr} {xs:List V} (e:H a=some (.tup xs)):eK K H (.ref a) (.type "tuple")
 | dK {a:Addr} {kvs:List (Key × V)} (e:H a=some (.dK kvs)):eK K H (.ref a) (.type "dict")
 | dT {a:Addr} {kvs:List (List Key × V)} (e:H a=some (.dT kvs)):eK K H (.ref a) (.type "dict")
 | ins {a C dx:Addr} {fs:List (Str × V)} (e:H a=some (.ins C dx fs)) (cl:Cls K C) (ha:PySem.W.findIn K (.ref C) "__class__" = some (some (.builtin "object.__class__")))
   (hn:PySem.W.specialIn K (.builtin "object.__class__") "__get__" = some (some (.builtin "getset_descriptor.__get__"))) (htk:PySem.W.takesIn K (.builtin "object.__class__")=some true)
   (hm:PySem.W.mroIn K C (.type "object")=some true):eK K H (.ref a) (.ref C)
theorem xl{x:V}{u t:Value}(I:Inv X pins σ H s)(rx:RelV x u)(ty:eK X.K H x t)(e:PySem.W.kitOne X.K t c=some b)(h:∀ tk,Q (.bool b) { s with toks:=tk }) :
  wpAny (model X.prog X.w) A (call (.builtin "isinstance") [u,c]) Q E s:=by
 cases ty with
 | non=>cases(show u=Value.none from rx);exact PySem.W.kia_one PySem.W.kitx_none I.kIn True.intro e (fun z=>nomatch z) h
 | bl y=>cases(show u=Value.bool y from rx);exact PySem.W.kia_one PySem.W.kitx_bool I.kIn True.intro e (fun z=>nomatch z) h
 | int i=>obtain⟨t,q⟩:=(show ∃ t,u=Value.int i t from rx);cases q;exact PySem.W.kia_one PySem.W.kitx_int I.kIn True.intro e (fun z=>nomatch z) h
 | str y=>obtain⟨t,q⟩:=(show ∃ t,u=Value.str y t from rx);cases q;exact PySem.W.kia_one PySem.W.kitx_str I.kIn True.intro e (fun z=>nomatch z) h
 | flt y=>obtain⟨t,q⟩:=(show ∃ t,u=Value.float y t from rx);cases q;exact PySem.W.kia_one PySem.W.kitx_float I.kIn True.intro e (fun z=>nomatch z) h
 |@lst a xs ea=>
  cases(show u=Value.ref a from rx)
  obtain⟨_,_,n,_,h1⟩:=(show bf X.prog X.w H s.heap a (.lst xs)from I.hok a _ ea)
  exact PySem.W.kia_one PySem.W.kitx_list I.kIn ⟨_,h1,rfl⟩ e (fun z=>nomatch z) h
 |@frz a ob xs ea=>
  cases(show u=Value.ref a from rx)
  obtain⟨_,_,_,n,_,h1⟩:=(show bf X.prog X.w H s.heap a (.frz ob (.lst xs))from I.hok a _ ea)
  exact PySem.W.kia_one PySem.W.kitx_list I.kIn ⟨_,h1,rfl⟩ e (fun z=>nomatch z) h
 |@tup a xs ea=>
  cases(show u=Value.ref a from rx)
  obtain⟨_,_,_,p⟩:=(show bf X.prog X.w H s.heap a (.tup xs)from I.hok a _ ea)
  obtain⟨o,h1,h2,_⟩:=p
  exact PySem.W.kia_one PySem.W.kitx_tuple I.kIn ⟨o,h1,h2⟩ e (fun z=>nomatch z) h
 |@dK a kvs ea=>
  cases(show u=Value.ref a from rx)
  obtain⟨_,_,vs,_,p⟩:=(show bf X.prog X.w H s.heap a (.dK kvs)from I.hok a _ ea)
  obtain⟨o,es,ep,h1,h2,_⟩:=p
  exact PySem.W.kia_one PySem.W.kitx_dict I.kIn ⟨o,h1,h2.1⟩ e (fun z=>nomatch z) h
 |@dT a kvs ea=>
  cases(show u=Value.ref a from rx)
  obtain⟨_,_,xs,_,o,es,ep,h1,h2,_⟩:=(show bf X.prog X.w H s.heap a (.dT kvs)from I.hok a _ ea)
  exact PySem.W.kia_one PySem.W.kitx_dict I.kIn ⟨o,h1,h2.1⟩ e (fun z=>nomatch z) h
 |@ins a C dx fs ea cl ha hn htk hm=>
  cases(show u=Value.ref a from rx)
  obtain⟨mA,O,_⟩:=AL I.hok ea
  obtain⟨od,J,_⟩:=O.look
  exact PySem.W.kia_one (PySem.W.kitx_own (cl.get _) cl.hd ha hn htk hm) I.kIn J e (fun z=>nomatch z) h
end
structure cq(k:Nat)(A:Around):Prop where
 hd:A.handled=none
 dp:A.depth+3*k+5<recursionLimit
 un:A.units+16*k+200<cLine
theorem cq.deeper{k:Nat}{A:Around}(r:cq (k+1) A)(env:Env):cq k (A.deeper env) :=
 ⟨r.hd,by have:=r.dp;show A.depth+1+3*k+5<_;omega,by have:=r.un;show A.units+3+16*k+200<_;omega⟩
theorem cq.depth{k:Nat}{A:Around}(r:cq k A):A.depth<recursionLimit:=by have:=r.dp;omega
def kL:TA:=fun _ H Q=>Q [] H
def iZ(ta:TE)(tr:TA):TA:=fun σ H Q=>ta σ H fun x H1=>tr σ H1 fun xs H2=>Q (x::xs) H2
section
variable{X:Cx}{e:Expr}{es:List Expr}{te:TE}{t:TA}{pos:Pos}
theorem cI:PA X [] kL:=fun _ _ _ _ H Q I h=>Calls.spliced_nil ⟨[],H,I,.nil,h⟩
theorem bh(ha:PE X e te)(hr:PA X es t)(hs:starEach (e::es) X.env=(false,eval e X.env)::starEach es X.env:=by rfl):PA X (e::es) (iZ te t):=by
 intro pos pins s σ H Q I h
 rw[hs]
 show wpAny _ _ (spliced ((false,eval e X.env)::backTo pos (starEach es X.env))) _ _ s
 refine Calls.spliced_cons (thn (ha pins s σ H _ I h) fun u s1 ⟨x,H1,I1,r1,q1⟩=>?_)
 exact thn (hr pos pins s1 σ H1 _ I1 q1) fun us s2 ⟨xs,H2,I2,r2,q2⟩=>⟨x::xs,H2,I2,.cons r1 r2,q2⟩
def FD(t:TA):TE:=fun σ H Q=>t σ H fun xs H1=>xs.length<=sizeLine/\∀ p,H1 p=none->Q (.ref p) (upd H1 p (.tup xs))
def FC(t:TA):TE:=fun σ H Q=>t σ H fun xs H1=>xs.length<=sizeLine/\∀ p,H1 p=none->Q (.ref p) (upd H1 p (.lst xs))
theorem D8{x1}(h:PA X es t):PE X (.Tuple es x1 pos) (FD t):=by
 intro pins s σ H Q I hq
 refine wpAny_Tuple_spliced (thn (h pos pins s σ H _ I hq) fun us s1 ⟨xs,H1,I1,r,z,q⟩=>⟨by rw[<-r.length];exact z,?_⟩)
 have hf:H1 s1.heap.objs.size=none:=I1.hok.fresh (Nat.le_refl _)
 refine⟨.ref s1.heap.objs.size,upd H1 s1.heap.objs.size (.tup xs),I1.laid (t':=s1.toks) (fun b u e=>Heap.get?_push_of_some _ e) (Nat.le_refl _) ?_,rfl,q _ hf⟩
 exact⟨z,us,r,⟨_,Heap.get?_push_size _ rfl,rfl,_,rfl⟩⟩
theorem Cb(h:PA X es t):PE X (.List es pos) (FC t):=by
 intro pins s σ H Q I hq
 refine wpAny_List_spliced (thn (h pos pins s σ H _ I hq) fun us s1 ⟨xs,H1,I1,r,z,q⟩=>⟨by rw[<-r.length];exact z,?_⟩)
 have hf:H1 s1.heap.objs.size=none:=I1.hok.fresh (Nat.le_refl _)
 refine⟨.ref s1.heap.objs.size,upd H1 s1.heap.objs.size (.lst xs),I1.laid (t':=s1.toks) (fun b u e=>Heap.get?_push_of_some _ e) (Nat.le_refl _) ?_,rfl,q _ hf⟩
 exact⟨z,us,0,r,Heap.get?_push_size _ rfl⟩
end
abbrev Sp:=List V->Hp->VK->XK->Prop
abbrev CXT:=List Env->Hp->Shared->XK->Value->Shared->Prop
structure pb(P:Program)(w:World)(K:PySem.W.Frag)(mg:Str->Option Value)(base:Heap)(A:Around)(outer:List Env)(s:Shared)(H:Hp):Prop where
 frames:A.frames=some outer
 mod:Mod K mg base
 bs:∀ b o,base.get? b=some o->s.heap.get? b=some o/\H b=none
 bsz:base.objs.size<=s.heap.objs.size
 d9:s.heap.FunFrames base outer
 frf:∀ b∈frs outer,H b=none
 hok:HOk P w H s.heap
 bare:AllBare s.gens
def CE(outer:List Env)(P:Program)(w:World)(H:Hp)(s:Shared)(Q:VK)(u:Value)(s':Shared):Prop :=
 ∃ v H',s'.os=s.os/\AllBare s'.gens/\Un (frs outer) [] H H' s.heap s'.heap/\HOk P w H' s'.heap/\RelV v u/\Q v H'
def CR(CX:CXT)(outer:List Env)(P:Program)(w:World)(H:Hp)(s:Shared)(Q:VK)(E:XK)(r:Result)(s':Shared):Prop :=
 match r with
 | .ok (.ret u)=>CE outer P w H s Q u s'
 | .ok _=>False
 | .error e=>CX outer H s E e s'
structure dO(P:Program)(w:World)(K:PySem.W.Frag)(mg:Str->Option Value)(base:Heap)(CX:CXT)(k:Nat)(f:Addr)(fd:FuncData)(ps:List Str)(sp:Sp):Prop where
 len:∀ vs H Q E,sp vs H Q E->vs.length=ps.length
 run:∀ (A:Around) (outer:List Env) (s:Shared) (H:Hp) (args:Args) (us:List Value) (vs:List V) (Q:VK) (E:XK),cq k A->pb P w K mg base A outer s H->BindsTo s fd args (ps.zip us)->Vals vs us->sp vs H Q E ->
  codeAny (model P w) A (.call (.ref f) args) (CR CX outer P w H s Q E) s
section
variable{X:Cx}{pins:List (Addr × Obj)}{σ:St}{H:Hp}{s s':Shared}
theorem Inv.yP(I:Inv X pins σ H s):pb X.prog X.w X.K X.mg X.base X.A X.stack s H :=
 ⟨I.ok.frames,I.ok.mod,I.bs,Nat.le_trans I.ok.bsz I.sz,I.stack,I.jI,I.hok,I.bare⟩
theorem Inv.after{Q:VK}{u:Value}(I:Inv X pins σ H s)(h:CE X.stack X.prog X.w H s Q u s'):EP X pins σ Q u s':=by
 obtain⟨v,H',os,bare,un,hok,r,q⟩:=h
 obtain⟨hh,g,d,t,os'⟩:=s'
 obtain rfl:os'=s.os:=os
 exact⟨v,H',I.call (h':=hh) (g':=g) (d':=d) (t':=t) (ch:=[]) un hok bare (fun b z=>absurd z (by simp)),r,q⟩
end
def lO(sp:Sp)(dvs:List V)(E:XK)(t:TA):TE:=fun σ H Q=>t σ H fun vs H1=>sp (vs++dvs) H1 Q E
def Binds(K:PySem.W.Frag)(fd:FuncData)(ps:List Str)(ds:List Value):Prop :=
 ∀ (s:Shared) (us:List Value),K.In s.heap->(us++ds).length=ps.length->BindsTo s fd ⟨us,[]⟩ (ps.zip (us++ds))
theorem Binds.all{K:PySem.W.Frag}{fd:FuncData}{ps:List Str}(h:∀ us:List Value,us.length=ps.length->bindArgs fd ⟨us,[]⟩=pure (ps.zip us)):Binds K fd ps []:=fun s us _ hl=>by
 rw[List.append_nil]at hl ⊢
 exact .of_eq (h us hl)
def Passes(CX:CXT)(X:Cx)(E:XK):Prop:=∀ (pins:List (Addr × Obj)) (σ:St) (H:Hp) (s:Shared) (e:Value) (s':Shared),Inv X pins σ H s->CX X.stack H s E e s'->X.xe e s'
section
variable{X:Cx}{CX:CXT}{k:Nat}{f C:Addr}{fd:FuncData}{ps:List Str}{sp:Sp}{dvs:List V}{ds:List Value}{E:XK}{x m:Str}{p pos apos:Pos}{e o:Expr}{es:List Expr}{ta:TE}{t:TA}
theorem Dx{pins:List (Addr × Obj)}{σ:St}{H:Hp}{s:Shared}{Q:VK}{us:List Value}{vs:List V}(F:dO X.prog X.w X.K X.mg X.base CX k f fd ps sp)(hr:cq k X.A)(hb:Binds X.K fd ps ds)(hd:Vals dvs ds)(hx:Passes CX X E)
 (I:Inv X pins σ H s)(r:Vals vs us)(h:sp (vs++dvs) H Q E):wpAny (model X.prog X.w) X.A (call (.ref f) us) (EP X pins σ Q) X.xe s:=by
 have r2:Vals (vs++dvs) (us++ds):=r.append hd
 have hl:(us++ds).length=ps.length:=by rw[<-r2.length];exact F.len _ _ _ _ h
 refine wpAny_call (codeAny_mono (F.run X.A X.stack s H ⟨us,[]⟩ (us++ds) (vs++dvs) Q E hr I.yP (hb s us I.kIn hl) r2 h) fun r s' hq=>?_)
 cases r with
 | error e=>exact hx pins σ H s e s' I hq
 |ok fl=>
  cases fl with
  | ret u=>exact I.after hq
  | next=>exact False.elim hq
  | brk=>exact False.elim hq
  | cont=>exact False.elim hq
theorem sL(F:dO X.prog X.w X.K X.mg X.base CX k f fd ps sp)(hr:cq k X.A)(hg:Gl X x)(hm:X.mg x=some (.ref f))(hk:PySem.W.keepIn X.K (.ref f)=true)(hb:Binds X.K fd ps ds)(hd:Vals dvs ds)(hx:Passes CX X E)
 (ha:PA X (e::es) t)(hdb:(x == ("__debug__" : Str))=false:=by decide)(he:starEach (e::es) X.env=(false,eval e X.env)::starEach es X.env:=by rfl)(hpl:(backTo pos (starEach es X.env)).any (·.1)=false:=by rfl) :
  PE X (.Call (.Name x p) (e::es) [] pos) (lO sp dvs E t):=by
 intro pins s σ H Q I h
 refine wpAny_Call_Name_kw (fY I hg hm ?_ hdb)
 refine PySem.W.callWith_K (h₀:=X.base) I.ok.mod.kin hk (thn (ha pos pins s σ H _ I h) fun us s1 ⟨vs,H1,I1,r,q⟩=>⟨I1.kIn,?_⟩) he hpl
 exact Dx F hr hb hd hx I1 r q
end
section
variable{X:Cx}{CX:CXT}{k:Nat}{f C:Addr}{fd:FuncData}{ps ks:List Str}{sp:Sp}{E:XK}{x m:Str}{p pos apos kpos:Pos}{e o:Expr}{es:List Expr}{kws:List Keyword}{te ta:TE}{t tk:TA}{nm:Option Str}
variable{g:List Value->List Value->List Value}{gV:List V->List V->List V}
end
structure eZ(N P:List Str)(sc:Scope):Prop where
 kind:sc.kind=.function
 co:sc.isCoroutine=false
 gen:sc.isGenerator=false
 nd:N.Nodup
 pre:N.take P.length=P
 par:∀ x∈P,sc.names.lookup x=some .local\/sc.names.lookup x=some .cell
 CO:∀ y∈sc.names,y.2≠.free
theorem nO{kindOf:Str->Option NameKind}{x:Str}:∀ {binds:List (Str × Value)} {m:Str->Option Value},(∀ v,(x,v)∉binds)->bindL kindOf binds m x=m x
 | [],_,_=>rfl
 | (n,v)::r,m,h=>by
  unfold bindL
  rw[nO fun w hw=>h w (List.mem_cons_of_mem _ hw)]
  split
  ·have:x≠n:=by rintro rfl;exact h v List.mem_cons_self
   simp[this]
  ·rfl
theorem nF{kindOf:Str->Option NameKind}{x:Str}:∀ {binds:List (Str × Value)} {m:Str->Option Value},(∀ v,(x,v)∉binds)->bindC kindOf binds m x=m x
 | [],_,_=>rfl
 | (n,v)::r,m,h=>by
  unfold bindC
  rw[nF fun w hw=>h w (List.mem_cons_of_mem _ hw)]
  split
  ·rfl
  ·have:x≠n:=by rintro rfl;exact h v List.mem_cons_self
   simp[this]
theorem nj{kindOf:Str->Option NameKind}{x:Str}{v:Value}:∀ {P:List Str} {vs:List Value} {i:Nat} {m:Str->Option Value},P.Nodup->P[i]?=some x->vs[i]?=some v->kindOf x=some .local ->
  bindL kindOf (P.zip vs) m x=some v
 | [],_,_,_,_,h,_,_=>by simp at h
 | _::_,[],_,_,_,_,h,_=>by simp at h
 | p::P,w::vs,0,m,nd,h1,h2,hk=>by
  simp at h1 h2;subst h1;subst h2
  show bindL kindOf ((p,w)::P.zip vs) m p=_
  unfold bindL
  rw[nO fun v hv=>(List.nodup_cons.mp nd).1 (List.of_mem_zip hv).1,if_pos hk]
  simp
 | p::P,w::vs,i+1,m,nd,h1,h2,hk=>by
  show bindL kindOf ((p,w)::P.zip vs) m x=_
  unfold bindL
  exact nj (i:=i) (List.nodup_cons.mp nd).2 (by simpa using h1) (by simpa using h2) hk
theorem nN{kindOf:Str->Option NameKind}{x:Str}{v:Value}:∀ {P:List Str} {vs:List Value} {i:Nat} {m:Str->Option Value},P.Nodup->P[i]?=some x->vs[i]?=some v->kindOf x≠some .local ->
  bindC kindOf (P.zip vs) m x=some v
 | [],_,_,_,_,h,_,_=>by simp at h
 | _::_,[],_,_,_,_,h,_=>by simp at h
 | p::P,w::vs,0,m,nd,h1,h2,hk=>by
  simp at h1 h2;subst h1;subst h2
  show bindC kindOf ((p,w)::P.zip vs) m p=_
  unfold bindC
  rw[nF fun v hv=>(List.nodup_cons.mp nd).1 (List.of_mem_zip hv).1,if_neg hk]
  simp
 | p::P,w::vs,i+1,m,nd,h1,h2,hk=>by
  show bindC kindOf ((p,w)::P.zip vs) m x=_
  unfold bindC
  exact nN (i:=i) (List.nodup_cons.mp nd).2 (by simpa using h1) (by simpa using h2) hk
def start(N:List Str)(vs:List V):St:=vs.map some++List.replicate (N.length-vs.length) none
def gw(CX:CXT)(P:Program)(w:World)(K:PySem.W.Frag)(mg:Str->Option Value)(base:Heap)(N:List Str)(qual:Str)(scope:Scope)(f:Addr)(cd:Value)(A:Around)(outer:List Env)(s:Shared)(H:Hp)(E:XK):Cx where
 prog:=P
 w:=w
 K:=K
 mg:=mg
 base:=base
 A:=A.deeper (envOfC qual scope s.heap.objs.size f cd)
 N:=N
 s₀:=s
 H₀:=H
 env:=envOfC qual scope s.heap.objs.size f cd
 outer:=outer
 stack:=envOfC qual scope s.heap.objs.size f cd::outer
 ex:=[]
 calm:=true
 fn:=fun _=>true
 pn:=[]
 xe:=fun e s'=>wpAny (model P w) (A.deeper (envOfC qual scope s.heap.objs.size f cd)) (leaving (envOfC qual scope s.heap.objs.size f cd) e) (fun _ s''=>CX outer H s E e s'') (fun e' s''=>CX outer H s E e' s'') s'
theorem rh{sc:Scope}{n:Nat}{x:Str}(h:sc.names.lookup x=some .cell):∃ c,(cellsFrom n sc.names []).lookup x=some c:=by
 have q:=PySem.W.cellsFrom_some sc.names n [] (.inl h)
 exact Option.isSome_iff_exists.mp q
theorem nL{CX:CXT}{P:Program}{w:World}{K:PySem.W.Frag}{mg:Str->Option Value}{base:Heap}{N ps:List Str}{qual:Str}{scope:Scope}{f:Addr}{cd:Value}{A:Around}{outer:List Env}{s s1:Shared}{H:Hp}{E:XK}{us:List Value}{vs:List V}
 (S:eZ N ps scope)(hd:A.handled=none)(e0:pb P w K mg base A outer s H)(hl:vs.length=ps.length)(r:Vals vs us)
 (x:InCallC s s.heap.objs.size (bindL (envOfC qual scope s.heap.objs.size f cd).kindOf (ps.zip us) fun _=>none) (cellsFrom (s.heap.objs.size+1) scope.names []) (bindC (envOfC qual scope s.heap.objs.size f cd).kindOf (ps.zip us) fun _=>none) s1) :
  Inv (gw CX P w K mg base N qual scope f cd A outer s H E) [] (start N vs) H s1:=by
 have hpl:ps.length<=N.length:=by have:=congrArg List.length S.pre;rw[List.length_take]at this;omega
 obtain⟨h1,tk,rfl,hk⟩:=x.done
 have noA:∀ b:Addr,b∉(gw CX P w K mg base N qual scope f cd A outer s H E).ex:=fun b z=>absurd (show b∈([]:List Addr)from z) (by simp)
 refine⟨⟨e0.mod,S.kind,rfl,rfl,Nat.le_refl _,fun y z c h1 h2=>?_,fun y hy=>?_,fun y c _ h=>?_,⟨fun _=>hd,.inl hd⟩,Around.frames_deeper e0.frames,.inr ⟨rfl,rfl⟩,fun b z=>absurd z (noA b),e0.bs,e0.bsz,fun b _ _=>noA b,fun b z=>absurd z (noA b),e0.d9,e0.frf⟩,
  rfl,e0.bare,Un.kept hk,⟨_,x.toInCall.ns,fun i y v h1 h2 h3=>?_⟩,fun y c h=>⟨_,x.cell y c h⟩,e0.hok.fresh (Nat.le_refl _),fun y c h=>?_,fun p hp=>absurd (show p∈([]:List (Addr × Obj))from hp) (by simp),e0.hok.kept hk,?_⟩
 ·exact name_of_addr x.apart (PySem.mem_of_lookup h1) (PySem.mem_of_lookup h2)
 ·have hy:scope.names.lookup y=some .cell\/scope.names.lookup y=some .free:=hy
  rcases hy with hy | hy
  ·exact rh hy
  ·exact absurd rfl (S.CO _ (PySem.mem_of_lookup hy))
 ·exact Nat.le_of_lt (x.above y c (PySem.mem_of_lookup h))
 ·have hi:i<vs.length:=by
   unfold start at h2
   by_cases hi:i<vs.length
   ·exact hi
   ·rw[List.getElem?_append_right (by simpa using hi)]at h2
    rw[List.getElem?_replicate]at h2
    split at h2<;>cases h2
  have ha:vs[i]?=some v:=by
   unfold start at h2
   rw[List.getElem?_append_left (by simpa using hi),List.getElem?_map]at h2
   cases e:vs[i]? with
   | none=>rw[e]at h2;cases h2
   | some a=>rw[e]at h2;cases h2;rfl
  obtain⟨u,hu,rv⟩:=r.get ha
  have hp:ps[i]?=some y:=by
   rw[<-S.pre,List.getElem?_take_of_lt (by omega)];exact h1
  have ndP:ps.Nodup:=by rw[<-S.pre];exact S.nd.sublist (List.take_sublist _ _)
  refine⟨u,rv,?_⟩
  rcases S.par y (List.mem_of_getElem? hp)with k | k
  ·exact .inl ⟨k,nj ndP hp hu k⟩
  ·obtain⟨c,e⟩:=rh (n:=s.heap.objs.size+1) k
   refine .inr ⟨.inl k,c,e,?_⟩
   have q:=x.cell y c e
   rw[nN ndP hp hu (by show scope.names.lookup y≠_;rw[k];decide)]at q
   exact q
 ·exact e0.hok.fresh (Nat.le_of_lt (x.above y c (PySem.mem_of_lookup h)))
 ·unfold start
  show _=N.length
  rw[List.length_append,List.length_map,List.length_replicate]
  omega
theorem zH{CX:CXT}{P:Program}{w:World}{K:PySem.W.Frag}{mg:Str->Option Value}{base:Heap}{k:Nat}{f:Addr}{name qual:Str}{params:Arguments}{body:List Stmt}{scope:Scope}{dV kV doc pm cdv ct oc:Value}{an od:Option Addr}
 {osl:Array (Option Value)}{N ps:List Str}{sp:Sp}(lk:K.lookup f=some ⟨oc,od,.func (PySem.W.fnOf name qual params body scope dV kV doc pm an cdv ct),osl⟩)(hcd:PySem.W.codeIn K cdv qual=true)(S:eZ N ps scope)
 (len:∀ vs H Q E,sp vs H Q E->vs.length=ps.length)
 (hbody:∀ (A:Around) (outer:List Env) (s:Shared) (H:Hp) (vs:List V) (Q:VK) (E:XK),cq k (A.deeper (envOfC qual scope s.heap.objs.size f cdv))->sp vs H Q E ->
   ∃ t,PSs (gw CX P w K mg base N qual scope f cdv A outer s H E) body t/\t { nx:=fun _ H'=>Q .non H',rt:=Q } (start N vs) H) :
  dO P w K mg base CX (k+1) f (PySem.W.fnOf name qual params body scope dV kV doc pm an cdv ct) ps sp:=by
 refine⟨len,fun A outer s H args us vs Q E hr e0 hb r hsp=>?_⟩
 have hl:=len _ _ _ _ hsp
 have KX:K.In s.heap:=e0.mod.kin.keeps fun b o e=>(e0.bs b o e).1
 have lim:s.heap.NoLimit:=e0.mod.nolimit.keeps fun b o e=>(e0.bs b o e).1
 have hkind:∀ y∈ps.zip us,scope.names.lookup y.1=some .local\/(scope.names.lookup y.1=some .cell/\((cellsFrom (s.heap.objs.size+1) scope.names []).lookup y.1).isSome=true):=fun⟨n,v⟩ hy=>by
  rcases S.par n (List.of_mem_zip hy).1 with q | q
  ·exact .inl q
  ·exact .inr ⟨q,PySem.W.cellsFrom_some _ _ _ (.inl q)⟩
 refine codeAny_call_function hr.depth (KX _ _ lk) rfl S.co S.gen rfl (PySem.W.codeRec_of KX hcd) (hb _ _ _ _ ?_)
 refine wpAny_newFunctionEnv_cells S.kind hkind fun env he s1 x=>?_
 subst he
 refine⟨lim.keeps x.toInCall.keep,codeAny_func ?_⟩
 obtain⟨t,ht,hq⟩:=hbody A outer s H vs Q E (hr.deeper _) hsp
 have I:Inv (gw CX P w K mg base N qual scope f cdv A outer s H E) [] (start N vs) H s1:=nL S hr.hd e0 hl r x
 refine wpAny_mono (ht [] s1 (start N vs) H _ I hq) (fun fl s' hs=>?_) fun e s' hs=>hs
 have fin:∀ {σ':St} {H':Hp} {v:V} {u:Value},Inv (gw CX P w K mg base N qual scope f cdv A outer s H E) [] σ' H' s'->RelV v u->Q v H'->CE outer P w H s Q u s' :=
  fun {σ' H' v u} J rv q=>⟨v,H',J.os,J.bare,J.base,J.hok,rv,q⟩
 cases fl with
 |ret u=>
  obtain⟨v,σ',H',J,rv,q⟩:=hs
  exact fin J rv q
 |next=>
  obtain⟨σ',H',J,q⟩:=hs
  exact fin (v:=V.non) (u:=Value.none) J rfl q
 |brk=>
  obtain⟨_,_,_,q⟩:=hs
  exact False.elim q
 |cont=>
  obtain⟨_,_,_,q⟩:=hs
  exact False.elim q
section
variable{X:Cx}{x:Str}{p pos:Pos}{e:Expr}{es:List Expr}{t:TA}{id T:String}{r:List V->Hp->VK->Prop}
def tCB(r:List V->Hp->VK->Prop)(t:TA):TE:=fun σ H Q=>t σ H fun vs H1=>r vs H1 Q
theorem eu(hc:bA X (.builtin id) r)(hg:Gl X x)(hm:X.mg x=none)(hv:bootBuiltins x=some (.builtin id))(ha:PA X (e::es) t)(hn:x ≠ "__name__" := by decide)(hdb:(x == ("__debug__" : Str))=false:=by decide)
 (he:starEach (e::es) X.env=(false,eval e X.env)::starEach es X.env:=by rfl)(hpl:(backTo pos (starEach es X.env)).any (·.1)=false:=by rfl):PE X (.Call (.Name x p) (e::es) [] pos) (tCB r t):=by
 intro pins s σ H Q I h
 refine wpAny_Call_Name_kw (il I hg hm hv ?_ hn hdb)
 exact PyProof.Rows.callWith_builtin1 (thn (ha pos pins s σ H _ I h) fun us s1 ⟨vs,H1,I1,r1,q1⟩=>hc pins s1 σ H1 vs us Q I1 r1 q1) he hpl
theorem c7(hc:bA X (.type T) r)(hg:Gl X x)(hm:X.mg x=none)(hv:bootBuiltins x=some (.type T))(ha:PA X (e::es) t)(hn:x ≠ "__name__" := by decide)(hdb:(x == ("__debug__" : Str))=false:=by decide)
 (he:starEach (e::es) X.env=(false,eval e X.env)::starEach es X.env:=by rfl)(hpl:(backTo pos (starEach es X.env)).any (·.1)=false:=by rfl):PE X (.Call (.Name x p) (e::es) [] pos) (tCB r t):=by
 intro pins s σ H Q I h
 refine wpAny_Call_Name_kw (il I hg hm hv ?_ hn hdb)
 exact PyProof.Rows.callWith_type1 (thn (ha pos pins s σ H _ I h) fun us s1 ⟨vs,H1,I1,r1,q1⟩=>hc pins s1 σ H1 vs us Q I1 r1 q1) he hpl
end
end L2
namespace HT
open PySem PyProof.Rows
section
open PySem.SeqAt
open PySem.AutoSeq1 (wpAny_loadPart')
open PySem.MeetsSeq PySem.MeetsSeq2 PySem.MeetsSeq3
end
section
variable{prog:Program}{w:World}{A:Around}{E:Value->Shared->Prop}{s:Shared}
theorem A6{t b:Addr}{vs ws:List Value}{Q:Value->Shared->Prop}(ht:IsTup s.heap t vs.toArray)(hb:IsTup s.heap b ws.toArray)(hv:vs≠[])
 (h1:ws=[]->Q (.ref t) s)(h2:ws≠[]->Q (.ref s.heap.objs.size) { s with heap:=s.heap.push { cls:=.type "tuple",data:=.seq (vs++ws).toArray } })
 (hsz:vs.length+ws.length<=sizeLine):wpAny (model prog w) A (binaryOp .Add (.ref t) (.ref b)) Q E s:=by
 obtain⟨⟨cls,dd,data,sl⟩,ho,hc,n,hd⟩:=id ht
 obtain⟨⟨cls2,dd2,data2,sl2⟩,ho2,hc2,n2,hd2⟩:=id hb
 simp only at hc hd hc2 hd2
 subst hc hd hc2 hd2
 have e:vs.toArray++ws.toArray=(vs++ws).toArray:=by simp
 by_cases hw:ws=[]
 ·exact concat_meets ⟨_,ho,rfl⟩ ⟨_,ho2,rfl⟩ noFill_tuple_add seq_tuple_add PySem.F.slot_tuple_add PySem.F.entry_tuple_add (PySem.F.args_tuple_add_2 _ _)
   (tuple_addW1 t b vs.toArray ws.toArray n n2 dd dd2 sl sl2 (by simpa using hv) (by simp[hw])) ⟨ho,ho2,h1 hw⟩
 ·refine concat_meets ⟨_,ho,rfl⟩ ⟨_,ho2,rfl⟩ noFill_tuple_add seq_tuple_add PySem.F.slot_tuple_add PySem.F.entry_tuple_add (PySem.F.args_tuple_add_2 _ _)
   (tuple_addW2 t b vs.toArray ws.toArray n n2 dd dd2 sl sl2 (by simpa using hv) (by simpa using hw) (by rw[List.size_toArray,List.size_toArray];exact hsz)) ⟨ho,ho2,?_⟩
  rw[e]
  exact h2 hw
def sIx(n d:Nat):Option Int->Nat
 | none=>d
 | some v=>if v<0 then(v+(n:Int)).toNat else min v.toNat n
theorem r9(n d:Nat):sIx n d none=d:=rfl
theorem C7(n d:Nat)(hd:d<=n)(o:Option Int):sIx n d o<=n:=by
 cases o with
 | none=>exact hd
 |some v=>
  show(if v<0 then(v+(n:Int)).toNat else min v.toNat n)<=n
  by_cases hv:v<0
  ·rw[if_pos hv];omega
  ·rw[if_neg hv];exact Nat.min_le_right _ _
theorem fW(v:Int)(n d:Nat):(if v<0 then max (v+(n:Int)) 0 else min v (n:Int))=((sIx n d (some v):Nat):Int):=by
 show(if v<0 then max (v+(n:Int)) 0 else min v (n:Int))=(((if v<0 then(v+(n:Int)).toNat else min v.toNat n):Nat):Int)
 by_cases hv:v<0
 ·simp only[if_pos hv];omega
 ·simp only[if_neg hv];omega
theorem uy(lo hi:Option Int)(n:Nat):Builtin.Slice.sliceAdjust lo hi 1 (n:Int)=(((sIx n 0 lo:Nat):Int),((sIx n n hi:Nat):Int)):=by
 have h1:¬ ((1:Int)<0):=by omega
 unfold Builtin.Slice.sliceAdjust
 simp only[h1,if_false]
 refine Prod.ext ?_ ?_
 ·cases lo with
  | none=>rfl
  | some v=>exact fW v n 0
 ·cases hi with
  | none=>rfl
  | some v=>exact fW v n n
theorem uS(i j:Nat):Builtin.Slice.slicePlaces (i:Int) (j:Int) 1=j-i:=by
 unfold Builtin.Slice.slicePlaces
 have h1:(1:Int) > 0:=by omega
 simp only[h1,if_true,Int.ediv_one]
 split<;>omega
theorem eY{v:Value}{o:Option Int}{Q:Option Int->Shared->Prop}(p:IsPart v o)(h:Q o s):wpAny (model prog w) A (Builtin.Slice.slicePartIndex v) Q E s:=by
 cases p with
 | none=>exact slicePart_none h
 | int i t=>exact slicePart_int h
theorem kG{sl:Addr}{vl vu:Value}{lo hi:Option Int}{n:Nat}{Q:Int × Int × Nat->Shared->Prop}(hs:s.heap.IsSliceOf sl vl vu .none)(pl:IsPart vl lo)(pu:IsPart vu hi)
 (h:Q (((sIx n 0 lo:Nat):Int),1,sIx n n hi-sIx n 0 lo) s):wpAny (model prog w) A (Builtin.Slice.sliceApplied (.ref sl) (pure (n:Int))) Q E s:=by
 obtain⟨os,hos,hcs,hds⟩:=id hs
 unfold Builtin.Slice.sliceApplied Builtin.Slice.sliceFields
 refine wpAny_bind (wpAny_bind (wpAny_field hos hds (x:=vl) rfl (wpAny_bind (wpAny_field hos hds (x:=vu) rfl (wpAny_bind (wpAny_field hos hds (x:=.none) rfl (wpAny_pure ?_)))))))
 refine wpAny_bind (slicePart_none ?_)
 show wpAny _ _ (if((1:Int) == 0)=true then _ else _) _ _ s
 rw[if_neg (by decide)]
 refine wpAny_bind (eY pl (wpAny_bind (eY pu (wpAny_bind (wpAny_pure ?_)))))
 show wpAny _ _ (match Builtin.Slice.sliceAdjust lo hi 1 (n:Int)with | (lo,hi)=>pure (lo,(1:Int),Builtin.Slice.slicePlaces lo hi 1)) _ _ s
 rw[uy lo hi n]
 show wpAny _ _ (pure (((sIx n 0 lo:Nat):Int),(1:Int),Builtin.Slice.slicePlaces ((sIx n 0 lo:Nat):Int) ((sIx n n hi:Nat):Int) 1)) _ _ s
 rw[uS]
 exact wpAny_pure h
theorem xF(xs:Array Value)(i k:Nat):((List.range k).filterMap fun(m:Nat)=>xs[((i:Int)+(m:Int)*1).toNat]?).toArray=((xs.toList.drop i).take k).toArray:=by
 have e:(fun(m:Nat)=>xs[((i:Int)+(m:Int)*1).toNat]?)=fun m=>xs[i+m]?:=by
  funext m
  have:((i:Int)+(m:Int)*1).toNat=i+m:=by omega
  rw[this]
 rw[e]
 have:=pick_run xs i k
 rw[List.filterMap_map]at this
 have e2:((fun x=>xs[x]?) ∘ fun x=>i+x)=fun m=>xs[i+m]?:=rfl
 rw[e2]at this
 rw[this]
theorem kg{t sl:Addr}{items:Array Value}{vl vu:Value}{lo hi:Option Int}{Q:Value->Shared->Prop}(ht:IsTup s.heap t items)(hs:s.heap.IsSliceOf sl vl vu .none)(pl:IsPart vl lo)(pu:IsPart vu hi)
 (hw:¬ (sIx items.size 0 lo=0/\sIx items.size items.size hi=items.size))
 (h:Q (.ref s.heap.objs.size) { s with heap:=s.heap.push { cls:=.type "tuple",data:=.seq ((items.toList.drop (sIx items.size 0 lo)).take (sIx items.size items.size hi-sIx items.size 0 lo)).toArray } })
 (hsz:items.size<=sizeLine):wpAny (model prog w) A (getItem (.ref t) (.ref sl)) Q E s:=by
 have htake:sizeOk (.seq ((items.toList.drop (sIx items.size 0 lo)).take (sIx items.size items.size hi-sIx items.size 0 lo)).toArray):=by
  show((items.toList.drop (sIx items.size 0 lo)).take (sIx items.size items.size hi-sIx items.size 0 lo)).toArray.size<=sizeLine
  rw[List.size_toArray,List.length_take,List.length_drop,Array.length_toList]
  omega
 have hj:sIx items.size items.size hi<=items.size:=C7 _ _ (Nat.le_refl _) hi
 obtain⟨os,hos,hcs,hds⟩:=id hs
 have hTs:s.TypeIs (.ref sl) "slice" := ⟨os,hos,hcs⟩
 unfold getItem
 try with_reducible refine wpAny_holding ?_
 first | refine wpAny_bind (wpAny_pure ?_) | skip
 refine wpAny_bind (wpAny_sequenceKey ht.typeIs (by decide) ?_)
 refine wpAny_bind (wpAny_callSpecial?_slot (name:=Str.ofString "__getitem__") ht.typeIs PyProof.Rows.slot_tuple_getitem
  (wpAny_call_entry PyProof.Rows.slot_tuple_getitem ht.typeIs entry_tuple_getitem ?_ (args_tuple_getitem _ _)))
 show wpAny _ _ (Builtin.Tuple.tupleItemsOf (.ref t) >>= _) _ _ s
 refine wpAny_bind (tupleItemsOf_ ht ?_)
 refine wpAny_bind (wpAny_typeOf hTs ?_)
 rw[if_pos (by decide)]
 refine wpAny_bind (kG hs pl pu ?_)
 have hno:¬ ((((sIx items.size 0 lo:Nat):Int) == 0&&(1:Int) == 1&&(sIx items.size items.size hi-sIx items.size 0 lo) == items.size)=true):=by
  intro q
  rw[Bool.and_eq_true,Bool.and_eq_true]at q
  have q1:((sIx items.size 0 lo:Nat):Int)=0:=eq_of_beq q.1.1
  have q2:sIx items.size items.size hi-sIx items.size 0 lo=items.size:=eq_of_beq q.2
  exact hw ⟨by omega,by omega⟩
 show wpAny _ _ (if(((sIx items.size 0 lo:Nat):Int) == 0&&(1:Int) == 1&&(sIx items.size items.size hi-sIx items.size 0 lo) == items.size)=true then _ else _) _ _ s
 rw[if_neg hno,xF]
 first
  | exact wpAny_bind (m:=Builtin.Tuple.tupleExact _) (wpAny_newObj_type (wpAny_pure ⟨_,rfl,wpAny_pure h⟩) htake)
  | exact wpAny_bind (m:=Builtin.Tuple.tupleExact _) (wpAny_newObj_type (wpAny_bind (wpAny_pure (wpAny_pure ⟨_,rfl,wpAny_pure h⟩))) htake)
  | exact wpAny_bind (wpAny_bind (m:=Builtin.Tuple.tupleExact _) (wpAny_newObj_type (wpAny_pure (wpAny_pure ⟨_,rfl,wpAny_pure h⟩)) htake))
  | exact wpAny_bind (wpAny_bind (m:=Builtin.Tuple.tupleExact _) (wpAny_newObj_type (wpAny_pure ⟨_,rfl,wpAny_pure h⟩) htake))
end
end HT
namespace L2
open PySem PySem.Spec PyProof.Rows
abbrev TO:=St->Hp->(Option Int->Hp->Prop)->Prop
def PO(X:Cx)(e:Option Expr)(t:TO):Prop :=
 ∀ (pins:List (Addr × Obj)) (s:Shared) (σ:St) (H:Hp) (Q:Option Int->Hp->Prop),Inv X pins σ H s->t σ H Q ->
  wpAny (model X.prog X.w) X.A (evalPart e X.env) (fun u s'=>∃ o H',Inv X pins σ H' s'/\IsPart u o/\Q o H') X.xe s
def Aq:TO:=fun _ H Q=>Q none H
def Fi(t:TE):TO:=fun σ H Q=>t σ H fun x H1=>∃ i,x=.int i/\Q (some i) H1
theorem intsAre_of{ns:List Int}:∀ {us:List Value},Vals (ns.map V.int) us->IntsAre us ns:=by
 induction ns with
 | nil=>intro us r;rw[List.map_nil]at r;cases r;exact .nil
 |cons n ns ih=>
  intro us r
  rw[List.map_cons]at r
  cases r with
  |cons r1 r2=>
   obtain⟨t,e⟩:=r1
   subst e
   exact .cons n t (ih r2)
section
variable{X:Cx}{e:Expr}{te:TE}{lo hi:Option Expr}{tl th:TO}{pos p2:Pos}
theorem tm:PO X none Aq:=by
 intro pins s σ H Q I h
 rw[evalPart_none]
 exact wpAny_pure ⟨none,H,I,.none,h⟩
theorem sD(h:PE X e te):PO X (some e) (Fi te):=by
 intro pins s σ H Q I hw
 rw[evalPart_some]
 refine thn (h pins s σ H _ I hw) fun u s1 ⟨x,H1,I1,r1,q1⟩=>?_
 obtain⟨i,rfl,q⟩:=q1
 obtain⟨t,rfl⟩:=r1
 exact⟨some i,H1,I1,.int i t,q⟩
def SlR(X:Cx)(r:V->Option Int->Option Int->Hp->VK->Prop):Prop :=
 ∀ (pins:List (Addr × Obj)) (s:Shared) (σ:St) (H:Hp) (x:V) (v vl vu:Value) (lo hi:Option Int) (sl:Addr) (Q:VK),Inv X pins σ H s->RelV x v->s.heap.IsSliceOf sl vl vu .none->IsPart vl lo->IsPart vu hi->r x lo hi H Q ->
  ∃ T id,typeLookup (.type T) "__getitem__" = pure (some (.builtin id))/\s.TypeIs v T/\wpAny (model X.prog X.w) X.A (getItem v (.ref sl)) (EP X pins σ Q) X.xe s
theorem SlR.or{r r':V->Option Int->Option Int->Hp->VK->Prop}(h:SlR X r)(h':SlR X r'):SlR X (fun x lo hi H Q=>r x lo hi H Q\/r' x lo hi H Q):=by
 intro pins s σ H x v vl vu lo hi sl Q I rx hs pl pu q
 rcases q with q | q
 ·exact h pins s σ H x v vl vu lo hi sl Q I rx hs pl pu q
 ·exact h' pins s σ H x v vl vu lo hi sl Q I rx hs pl pu q
def tSl(r:V->Option Int->Option Int->Hp->VK->Prop)(te:TE)(tl th:TO):TE:=fun σ H Q=>te σ H fun x H1=>tl σ H1 fun l H2=>th σ H2 fun u H3=>r x l u H3 Q
theorem rq{r:V->Option Int->Option Int->Hp->VK->Prop}(hr:SlR X r)(he:PE X e te)(hl:PO X lo tl)(hu:PO X hi th):PE X (.Subscript e (.Slice lo hi none p2) pos) (tSl r te tl th):=by
 intro pins s σ H Q I h
 refine Subscript_ (thn (he pins s σ H _ I h) fun v s1 ⟨x,H1,I1,r1,q1⟩=>?_)
 refine wpAny_Slice (thn (hl pins s1 σ H1 _ I1 q1) fun vl s2 ⟨l,H2,I2,pl,q2⟩=>thn (hu pins s2 σ H2 _ I2 q2) fun vu s3 ⟨u,H3,I3,pu,q3⟩=>?_)
 rw[evalPart_none]
 refine wpAny_pure ?_
 have I4:Inv X pins σ H3 { s3 with heap:=s3.heap.push { cls:=.type "slice",data:=.fields #[vl,vu,.none] } }:=I3.kept (t':=s3.toks) fun b ob q=>Heap.get?_push_of_some _ q
 obtain⟨T,id,hT,ht,hg⟩:=hr pins { s3 with heap:=s3.heap.push { cls:=.type "slice",data:=.fields #[vl,vu,.none] } } σ H3 x v vl vu l u s3.heap.objs.size Q I4 r1 (Heap.IsSliceOf.new ..) pl pu q3
 show wpAny (model X.prog X.w) X.A (subscriptTail e (.Slice lo hi none p2) v (.ref s3.heap.objs.size)) (EP X pins σ Q) X.xe { s3 with heap:=s3.heap.push { cls:=.type "slice",data:=.fields #[vl,vu,.none] } }
 exact tail_any (ops:=[.ref s3.heap.objs.size,v]) ht hT hg (by with_unfolding_all rfl)
def gg(xs:List V)(lo hi:Option Int):List V:=(xs.drop (HT.sIx xs.length 0 lo)).take (HT.sIx xs.length xs.length hi-HT.sIx xs.length 0 lo)
theorem kj(xs:List V)(lo hi:Option Int):(gg xs lo hi).length<=xs.length:=by
 unfold gg
 rw[List.length_take,List.length_drop]
 omega
def FH(K:PySem.W.Frag):V->Option Int->Option Int->Hp->VK->Prop:=fun x lo hi H Q=>∃ a xs,x=.ref a/\SqT K H a xs /\
 ¬ (HT.sIx xs.length 0 lo=0/\HT.sIx xs.length xs.length hi=xs.length)/\∀ p,H p=none->Q (.ref p) (upd H p (.tup (gg xs lo hi)))
theorem vk:SlR X (FH X.K):=by
 intro pins s σ H x v vl vu lo hi sl Q I rx hs pl pu h
 obtain⟨a,xs,rfl,hx,hw,q⟩:=h
 cases rx
 obtain⟨its,r,ht,hz⟩:=I.tuple hx
 have hlen:its.toArray.size=xs.length:=by rw[List.size_toArray];exact r.length.symm
 refine⟨"tuple",_,PyProof.Rows.slot_tuple_getitem.lookup,ht.typeIs,?_⟩
 refine HT.kg ht hs pl pu (by rw[hlen];exact hw) ?_ (by rw[hlen];exact hz)
 rw[hlen]
 refine⟨.ref s.heap.objs.size,_,I.laid (t':=s.toks) (o:=.tup (gg xs lo hi)) (fun b ob q=>Heap.get?_push_of_some _ q) (Nat.le_refl _) ?_,rfl,q _ (I.hok.fresh (Nat.le_refl _))⟩
 exact⟨Nat.le_trans (kj xs lo hi) hz,_,(r.drop (HT.sIx xs.length 0 lo)).take (HT.sIx xs.length xs.length hi-HT.sIx xs.length 0 lo),IsTup.new _ _⟩
def E8(K:PySem.W.Frag):R2:=fun x y H Q=>∃ a b xs ys,x=.ref a/\y=.ref b/\SqT K H a xs/\SqT K H b ys/\xs≠[]/\xs.length+ys.length<=sizeLine /\
 (ys=[]->Q (.ref a) H)/\(ys≠[]->∀ p,H p=none->Q (.ref p) (upd H p (.tup (xs++ys))))
theorem Vals.m7{xs:List V}{us:List Value}(r:Vals xs us):us=[]↔xs=[]:=by
 cases r with
 | nil=>simp
 | cons _ _=>simp
theorem A8:OpR X (binaryOp .Add) (E8 X.K):=by
 intro pins s σ H x y v u Q I rx ry h
 obtain⟨a,b,xs,ys,rfl,rfl,ha,hb,hx,hz,q1,q2⟩:=h
 cases rx
 cases ry
 obtain⟨its,r1,p1,_⟩:=I.tuple ha
 obtain⟨its2,r2,p2,_⟩:=I.tuple hb
 refine HT.A6 p1 p2 (fun z=>hx (r1.m7.mp z)) (fun z=>⟨.ref a,H,I,rfl,q1 (r2.m7.mp z)⟩) (fun z=>?_) (by rw[<-r1.length,<-r2.length];exact hz)
 refine⟨.ref s.heap.objs.size,_,I.laid (t':=s.toks) (o:=.tup (xs++ys)) (fun b ob q=>Heap.get?_push_of_some _ q) (Nat.le_refl _) ?_,rfl,q2 (fun w=>z (r2.m7.mpr w)) _ (I.hok.fresh (Nat.le_refl _))⟩
 exact⟨by rw[List.length_append];exact hz,_,r1.append r2,IsTup.new _ _⟩
end
def ixN(n:Nat)(i:Int):Option Nat:=if 0<=i then(if i<n then some i.toNat else none)else if -(n:Int)<=i then some (i+n).toNat else none
def atI{α:Type}(xs:List α)(i:Int):Option α:=(ixN xs.length i).bind fun j=>xs[j]?
theorem sZ{n:Nat}{i:Int}{j:Nat}(h:ixN n i=some j):seqIndex? i n=some j/\j<n/\-(n:Int)<=i/\i<n:=by
 unfold ixN at h
 by_cases h0:0<=i
 ·rw[if_pos h0]at h
  by_cases h1:i<n
  ·rw[if_pos h1]at h
   have e:i.toNat=j:=Option.some.inj h
   exact⟨by rw[seqIndex_of h0 h1,e],by omega,by omega,h1⟩
  ·rw[if_neg h1]at h;cases h
 ·rw[if_neg h0]at h
  by_cases h1:-(n:Int)<=i
  ·rw[if_pos h1]at h
   have e:(i+n).toNat=j:=Option.some.inj h
   exact⟨by rw[seqIndex_neg (by omega) h1,e],by omega,h1,by omega⟩
  ·rw[if_neg h1]at h;cases h
theorem nc{α:Type}{xs:List α}{i:Int}{v:α}(h:atI xs i=some v):∃ j,seqIndex? i xs.length=some j/\xs[j]?=some v/\j<xs.length/\-(xs.length:Int)<=i/\i<xs.length:=by
 unfold atI at h
 cases e:ixN xs.length i with
 | none=>rw[e]at h;cases h
 |some j=>
  rw[e]at h
  obtain⟨h1,h2,h3,h4⟩:=sZ e
  exact⟨j,h1,h,h2,h3,h4⟩
def t5(b:Expr):Prop:=∀ o i,subscripted b false o i=operate [o,i] (getItem o i)
def IxR(X:Cx)(r:R2):Prop :=
 ∀ (value slice:Expr) (pins:List (Addr × Obj)) (s:Shared) (σ:St) (H:Hp) (x y:V) (v u:Value) (Q:VK),Inv X pins σ H s->RelV x v->RelV y u->r x y H Q ->
  subscripted slice false v u=operate [v,u] (getItem v u)->wpAny (model X.prog X.w) X.A (subscriptTail value slice v u) (EP X pins σ Q) X.xe s
def MtR(X:Cx)(id:String)(r:V->List V->Hp->VK->Prop):Prop :=
 ∀ (pins:List (Addr × Obj)) (s:Shared) (σ:St) (H:Hp) (x:V) (xs:List V) (v:Value) (us:List Value) (Q:VK),Inv X pins σ H s->RelV x v->Vals xs us->r x xs H Q ->
  wpAny (model X.prog X.w) X.A (call (.builtin id) (v::us)) (EP X pins σ Q) X.xe s
section
variable{X:Cx}{a b:Expr}{ta tb:TE}{pos:Pos}
theorem IxR.or{r r':R2}(h:IxR X r)(h':IxR X r'):IxR X (fun x y H Q=>r x y H Q\/r' x y H Q):=by
 intro value slice pins s σ H x y v u Q I rx ry q hs
 rcases q with q | q
 ·exact h value slice pins s σ H x y v u Q I rx ry q hs
 ·exact h' value slice pins s σ H x y v u Q I rx ry q hs
theorem zS{r:R2}(hr:IxR X r)(ha:PE X a ta)(hb:PE X b tb)(hs:t5 b):PE X (.Subscript a b pos) (tOp r ta tb):=by
 intro pins s σ H Q I h
 exact Subscript_ (xV ha hb I h fun v u s2 x y H2 I2 rx ry q=>hr a b pins s2 σ H2 x y v u Q I2 rx ry q (hs _ _))
def DM(K:PySem.W.Frag):R2:=fun x y H Q=>∃ p xs i v,x=.ref p/\y=.int i/\SqL K H p xs/\atI xs i=some v/\Q v H
def DZ(K:PySem.W.Frag):R2:=fun x y H Q=>∃ p xs i v,x=.ref p/\y=.int i/\SqT K H p xs/\atI xs i=some v/\Q v H
def Df:R2:=fun x y H Q=>∃ z i c,x=.str z/\y=.int i/\z.length<=sizeLine/\atI z.cps.toList i=some c/\Q (.str ⟨#[c]⟩) H
theorem Bd:IxR X (DM X.K):=by
 intro value slice pins s σ H x y v u Q I rx ry h hs
 obtain⟨p,xs,i,z,rfl,rfl,hq,he,q⟩:=h
 cases rx
 obtain⟨t,rfl⟩:=ry
 obtain⟨its,r,pl,hz⟩:=I.list hq
 obtain⟨j,h1,h2,h3,h4,h5⟩:=nc he
 obtain⟨w,ew,rw'⟩:=r.get h2
 have hl:=r.length
 have hn:=hJ
 have fin:EP X pins σ Q w s:=⟨z,H,I,rw',q⟩
 by_cases h0:0<=i
 ·have hj:i.toNat=j:=by
   rw[seqIndex_of h0 h5]at h1
   exact Option.some.inj h1
  exact item_listR pl.isList h0 (by omega) (by rw[hj];simpa using ew) fin hs
 ·have hj:(i+(its.toArray.size:Int)).toNat=j:=by
   rw[seqIndex_neg (by omega) h4]at h1
   rw[List.size_toArray,<-hl]
   exact Option.some.inj h1
  exact subscriptTail_builtinR (x:=w) pl.isList.typeIs slot_list_getitem.lookup
   (wpAny_getItem_list_neg (Q:=fun r s'=>r=w/\EP X pins σ Q r s') pl.isList (by omega) (by rw[List.size_toArray]<;>omega) (by omega) (by rw[hj];simpa using ew) ⟨rfl,fin⟩) hs
theorem iu:IxR X (DZ X.K):=by
 intro value slice pins s σ H x y v u Q I rx ry h hs
 obtain⟨p,xs,i,z,rfl,rfl,hq,he,q⟩:=h
 cases rx
 obtain⟨t,rfl⟩:=ry
 obtain⟨its,r,pl,hz⟩:=I.tuple hq
 obtain⟨j,h1,h2,h3,h4,h5⟩:=nc he
 obtain⟨w,ew,rw'⟩:=r.get h2
 have hl:=r.length
 have hn:=hJ
 have fin:EP X pins σ Q w s:=⟨z,H,I,rw',q⟩
 exact subscriptTail_builtinR (x:=w) pl.typeIs slot_tuple_getitem.lookup
  (getItem_tuple (j:=j) (Q:=fun r s'=>r=w/\EP X pins σ Q r s') pl (by omega) (by omega) (by rw[List.size_toArray,<-hl];exact h1) (by simpa using ew) ⟨rfl,fin⟩) hs
theorem Er:IxR X Df:=by
 intro value slice pins s σ H x y v u Q I rx ry h hs
 obtain⟨z,i,c,rfl,rfl,hz,he,q⟩:=h
 obtain⟨t,rfl⟩:=rx
 obtain⟨t',rfl⟩:=ry
 obtain⟨j,h1,h2,h3,h4,h5⟩:=nc he
 have hl:z.cps.toList.length=z.length:=by simp[Str.length]
 rw[hl]at h1 h4 h5
 have hn:=hJ
 exact tail_any (typeIs_str s z t) slot_str_getitem.lookup (getItem_str (c:=c) (by
  have e1:decide (i < -(2 ^ 63:Int))=false:=decide_eq_false (by omega)
  have e2:decide (i≥2 ^ 63)=false:=decide_eq_false (by omega)
  rw[e1,e2,Bool.or_false]) (by rw[h1];simpa using h2) ⟨.str ⟨#[c]⟩,H,I.tok _,⟨_,rfl⟩,q⟩) hs
def rIx(K:PySem.W.Frag):R2:=fun x y H Q=>DM K x y H Q\/DZ K x y H Q\/Df x y H Q
theorem wH:IxR X (rIx X.K):=Bd.or (iu.or Er)
theorem uR(its:List Value)(n j:Nat)(u:Value):Obj.mapSeq (·.setIfInBounds j u) { cls:=.type "list",data:=.seq its.toArray n }={ cls:=.type "list",data:=.seq (its.set j u).toArray n }:=by
 simp[Obj.mapSeq]
theorem Inv.lst{pins:List (Addr × Obj)}{σ:St}{H:Hp}{s:Shared}{p:Addr}{xs:List V}(I:Inv X pins σ H s)(h:H p=some (.lst xs)) :
  ∃ (its:List Value) (n:Nat),Vals xs its/\s.heap.get? p=some { cls:=.type "list",data:=.seq its.toArray n }/\xs.length<=sizeLine:=by
 obtain⟨z,its,n,r,e⟩:=I.hok p _ h
 exact⟨its,n,r,e,z⟩
theorem Inv.C8{pins:List (Addr × Obj)}{σ:St}{H:Hp}{s:Shared}{p:Addr}{xs ys:List V}{its its':List Value}{n n':Nat}{f:Obj->Obj}(I:Inv X pins σ H s)(h:H p=some (.lst xs))
 (ho:s.heap.get? p=some { cls:=.type "list",data:=.seq its.toArray n })(hf:f { cls:=.type "list",data:=.seq its.toArray n }={ cls:=.type "list",data:=.seq its'.toArray n' })(r:Vals ys its')(hz:ys.length<=sizeLine)(t:Nat) :
  Inv X pins σ (upd H p (.lst ys)) { s with heap:=s.heap.update p f,toks:=t }:=by
 have e:(s.heap.update p f).get? p=some { cls:=.type "list",data:=.seq its'.toArray n' }:=by
  rw[Heap.get?_update_self f ho (by rw[hf]<;>rfl),hf]
 refine I.write (x:=p) (e:=p) (by rw[h];trivial) (.inl rfl) (fun b u hb q=>(Heap.get?_update_other _ _ (Ne.symm hb)).trans q) ⟨_,e⟩ ?_
 exact⟨hz,its',n',r,e⟩
def tP:V->V->V->Hp->(Hp->Prop)->Prop:=fun o i v H Q=>∃ p xs k j,o=.ref p/\i=.int k/\H p=some (.lst xs)/\ixN xs.length k=some j/\Q (upd H p (.lst (xs.set j v)))
theorem set_list:DJ X tP:=by
 intro pins s σ H o i v ov iv u Q I ro ri rv h
 obtain⟨p,xs,k,j,rfl,rfl,hp,hj,q⟩:=h
 cases ro
 obtain⟨t,rfl⟩:=ri
 obtain⟨its,n,r,ho,hz⟩:=I.lst hp
 obtain⟨h1,h2,h3,h4⟩:=sZ hj
 have hl:=r.length
 have hn:=hJ
 have I':Inv X pins σ (upd H p (.lst (xs.set j v))) { s with heap:=s.heap.update p (Obj.mapSeq (·.setIfInBounds j u)) } :=
  I.C8 hp ho (uR its n j u) (r.set rv j) (by rw[List.length_set];exact hz) s.toks
 by_cases h0:0<=k
 ·have hk:k.toNat=j:=by
   rw[seqIndex_of h0 h4]at h1
   exact Option.some.inj h1
  exact PySem.W.ki_setAt ho h0 (by omega) (by rw[List.size_toArray,<-hl];exact h4) (by rw[hk];exact⟨_,I',q⟩)
 ·have hk:(k+(its.toArray.size:Int)).toNat=j:=by
   rw[seqIndex_neg (by omega) h3]at h1
   rw[List.size_toArray,<-hl]
   exact Option.some.inj h1
  exact PySem.W.ki_setBack ho (by omega) (by rw[List.size_toArray,<-hl];exact h3) (by omega) (by rw[hk];exact⟨_,I',q⟩)
theorem p8(lo hi:Option Int)(n:Nat):(sliceBounds lo hi none n).1=((HT.sIx n 0 lo:Nat):Int)/\(sliceBounds lo hi none n).2.1=((HT.sIx n n hi:Nat):Int)/\(sliceBounds lo hi none n).2.2=1:=by
 refine⟨?_,?_,rfl⟩
 ·cases lo with
  | none=>simp[sliceBounds,HT.sIx]
  |some i=>
   simp only[sliceBounds,HT.sIx,Option.getD_none,show(1:Int) > 0 by decide,if_true]
   by_cases h:i<0
   ·simp only[h,if_true]<;>omega
   ·simp only[h,if_false]<;>omega
 ·cases hi with
  | none=>simp[sliceBounds,HT.sIx]
  |some i=>
   simp only[sliceBounds,HT.sIx,Option.getD_none,show(1:Int) > 0 by decide,if_true]
   by_cases h:i<0
   ·simp only[h,if_true]<;>omega
   ·simp only[h,if_false]<;>omega
theorem om(its:List Value)(lo hi:Option Int):slicePick its.toArray lo hi none=((its.drop (HT.sIx its.length 0 lo)).take (HT.sIx its.length its.length hi-HT.sIx its.length 0 lo)).toArray:=by
 obtain⟨h1,h2,h3⟩:=p8 lo hi its.toArray.size
 unfold slicePick
 rw[h1,h2,h3]
 simp only[sliceRange_one,pick_run,List.size_toArray]<;>rfl
def FZ(K:PySem.W.Frag):V->Option Int->Option Int->Hp->VK->Prop:=fun x lo hi H Q=>∃ a xs,x=.ref a/\SqL K H a xs/\∀ p,H p=none->Q (.ref p) (upd H p (.lst (gg xs lo hi)))
theorem sG:SlR X (FZ X.K):=by
 intro pins s σ H x v vl vu lo hi sl Q I rx hs pl pu h
 obtain⟨a,xs,rfl,hx,q⟩:=h
 cases rx
 obtain⟨its,r,ht,hz⟩:=I.list hx
 have hlen:=r.length
 refine⟨"list",_,slot_list_getitem.lookup,ht.isList.typeIs,?_⟩
 refine wpAny_getItem_list_slice ht.isList hs pl pu .none (by simp) ?_ (by rw[List.size_toArray]<;>omega)
 rw[om,<-hlen]
 refine⟨.ref s.heap.objs.size,_,I.laid (t':=s.toks) (o:=.lst (gg xs lo hi)) (fun b ob q=>Heap.get?_push_of_some _ q) (Nat.le_refl _) ?_,rfl,q _ (I.hok.fresh (Nat.le_refl _))⟩
 exact⟨Nat.le_trans (kj xs lo hi) hz,_,0,(r.drop (HT.sIx xs.length 0 lo)).take (HT.sIx xs.length xs.length hi-HT.sIx xs.length 0 lo),Heap.get?_push_size _ rfl⟩
theorem bA.or{f:Value}{r r':List V->Hp->VK->Prop}(h:bA X f r)(h':bA X f r'):bA X f (fun xs H Q=>r xs H Q\/r' xs H Q):=by
 intro pins s σ H xs us Q I rs q
 rcases q with q | q
 ·exact h pins s σ H xs us Q I rs q
 ·exact h' pins s σ H xs us Q I rs q
theorem qH:bA X (.type "list") (fun xs H Q=>∃ p ys,xs=[.ref p]/\(SqL X.K H p ys\/SqT X.K H p ys)/\∀ l,H l=none->Q (.ref l) (upd H l (.lst ys))):=by
 intro pins s σ H xs us Q I r h
 obtain⟨p,ys,rfl,hq,q⟩:=h
 obtain⟨u,rfl,rx⟩:=vals1 r
 cases rx
 have fin:∀ (its:List Value),Vals ys its->ys.length<=sizeLine->∀ (h':Heap) (c':Nat),(∀ b o',s.heap.get? b=some o'->h'.get? b=some o') ->
   h'.get? s.heap.objs.size=some { cls:=.type "list",dict:=none,data:=.seq its.toArray c',slots:=#[] }->EP X pins σ Q (.ref s.heap.objs.size) { s with heap:=h' }:=fun its r' hz h' c' kp e =>
  ⟨.ref s.heap.objs.size,_,I.laid (t':=s.toks) kp (Nat.le_refl _) (show bf X.prog X.w _ h' _ (.lst ys)from⟨hz,its,c',r',e⟩),rfl,q _ (I.hok.fresh (Nat.le_refl _))⟩
 rcases hq with hq | hq
 ·obtain⟨its,r',pl,hz⟩:=I.list hq
  have hlen:=r'.length
  obtain⟨o,ho,hc,n,hd⟩:=pl.isList
  exact call_list_seq p (.inl rfl) ho hc hd (fun h' c' kp e=>fin its r' hz h' c' kp e) (by simp only[List.size_toArray]<;>omega)
 ·obtain⟨its,r',pl,hz⟩:=I.tuple hq
  have hlen:=r'.length
  obtain⟨o,ho,hc,n,hd⟩:=pl
  exact call_list_seq p (.inr rfl) ho hc hd (fun h' c' kp e=>fin its r' hz h' c' kp e) (by simp only[List.size_toArray]<;>omega)
theorem oA:bA X (.type "tuple") (fun xs H Q=>∃ p ys,xs=[.ref p]/\((SqL X.K H p ys/\∀ l,H l=none->Q (.ref l) (upd H l (.tup ys)))\/(SqT X.K H p ys/\Q (.ref p) H))):=by
 intro pins s σ H xs us Q I r h
 obtain⟨p,ys,rfl,h⟩:=h
 obtain⟨u,rfl,rx⟩:=vals1 r
 cases rx
 rcases h with⟨hq,q⟩ | ⟨hq,q⟩
 ·obtain⟨its,r',pl,hz⟩:=I.list hq
  have hlen:=r'.length
  refine call_tuple_list pl.isList (fun h' kp=>?_) (by simp only[List.size_toArray]<;>omega)
  have I1:Inv X pins σ H { s with heap:=h' }:=I.kept (t':=s.toks) kp
  have I2:Inv X pins σ (upd H h'.objs.size (.tup ys)) { s with heap:=h'.push { cls:=.type "tuple",data:=.seq its.toArray } } :=
   I1.laid (t':=s.toks) (fun b o e=>Heap.get?_push_of_some _ e) (Nat.le_refl _) (show bf X.prog X.w _ _ _ (.tup ys)from⟨hz,its,r',IsTup.new _ _⟩)
  exact⟨.ref h'.objs.size,_,I2,rfl,q _ (I1.hok.fresh (Nat.le_refl _))⟩
 ·obtain⟨its,r',pl,hz⟩:=I.tuple hq
  exact call_tuple_same pl ⟨.ref p,H,I,rfl,q⟩
def tyV(K:PySem.W.Frag)(T:String)(x:V)(H:Hp):Prop:=match x with
 | .str _=>T = "str"
 | .int _=>T = "int"
 | .ref p=>(T = "list" /\ ∃ xs,SqL K H p xs)\/(T = "tuple" /\ ∃ o,K.lookup p=some o/\o.cls=.type "tuple" /\ o.dict=none) \/
   (T = "dict" /\ ((∃ kvs,H p=some (.dK kvs))\/∃ kvs,H p=some (.dT kvs)))\/(T = "set" /\ ∃ S n,H p=some (.set S n))
 | _=>False
theorem BK{pins:List (Addr × Obj)}{σ:St}{H:Hp}{s:Shared}{T:String}{x:V}{v:Value}(I:Inv X pins σ H s)(r:RelV x v)(ty:tyV X.K T x H) :
  s.TypeIs v T/\∀ a,v=.ref a->∃ ob,s.heap.get? a=some ob/\ob.dict=none:=by
 cases x with
 |str z=>
  obtain⟨t,rfl⟩:=r
  cases(show T = "str" from ty)
  exact⟨typeIs_str s z t,fun _ e=>nomatch e⟩
 |int i=>
  obtain⟨t,rfl⟩:=r
  cases(show T = "int" from ty)
  exact⟨typeIs_int s i t,fun _ e=>nomatch e⟩
 |ref p=>
  cases r
  rcases ty with⟨rfl,xs,hq⟩ | ⟨rfl,o,hk,hc,hd⟩ | ⟨rfl,hk⟩ | ⟨rfl,S,n,hk⟩
  ·obtain⟨its,_,pl,_⟩:=I.list hq
   refine⟨pl.isList.typeIs,fun a e=>?_⟩
   cases e
   obtain⟨o,n,e,c,hd,_⟩:=pl
   exact⟨o,e,hd⟩
  ·refine⟨⟨o,I.kIn p o hk,hc⟩,fun a e=>?_⟩
   cases e
   exact⟨o,I.kIn _ o hk,hd⟩
  ·have z:∃ o,s.heap.get? p=some o/\o.ExactDict:=by
    rcases hk with⟨kvs,hk⟩ | ⟨kvs,hk⟩
    ·obtain⟨_,_,_,_,o,_,_,e,ex,_⟩:=I.hok p _ hk
     exact⟨o,e,ex⟩
    ·obtain⟨_,_,_,_,o,_,_,e,ex,_⟩:=I.hok p _ hk
     exact⟨o,e,ex⟩
   obtain⟨o,e,ex⟩:=z
   refine⟨⟨o,e,ex.1⟩,fun a e2=>?_⟩
   cases e2
   exact⟨o,e,ex.2.1⟩
  ·obtain⟨o,_,_,_,e,ex,_⟩:=I.hok p _ hk
   refine⟨⟨o,e,ex.1⟩,fun a e2=>?_⟩
   cases e2
   exact⟨o,e,ex.2.1⟩
 | _=>exact False.elim ty
def tBM(K:PySem.W.Frag)(T:String)(r:V->List V->Hp->VK->Prop)(to:TE)(t:TA):TE:=fun σ H Q=>to σ H fun x H1=>tyV K T x H1/\t σ H1 fun xs H2=>r x xs H2 Q
variable{o e:Expr}{es:List Expr}{to:TE}{t:TA}{name:Str}{apos cpos:Pos}{T id:String}{r:V->List V->Hp->VK->Prop}
theorem zA(pa:PlainAttrs T)(slot:Slot T name id)(hty:typeOf (.builtin id)=pure (.type "method_descriptor"))(hm:MtR X id r)(ho:PE X o to)(ha:PA X (e::es) t)
 (hbase:attributeBase o name X.env (eval o X.env)=eval o X.env:=by rfl)
 (hfew:((backTo cpos (starEach (e::es) X.env)).all (fun x=>!x.1)&&(backToKw cpos (keywordEach [] X.env)).all (fun x=>x.1.isSome)
   && decide ((e::es).length+([]:List Keyword).length+(if([]:List Keyword).isEmpty then 0 else 1)<30))=true:=by rfl)
 (hline:(apos.endLine == cpos.line)=true:=by rfl)(hs:starEach (e::es) X.env=(false,eval e X.env)::starEach es X.env:=by rfl)(hplain:(backTo cpos (starEach es X.env)).any (·.1)=false:=by rfl) :
  PE X (.Call (.Attribute o name apos) (e::es) [] cpos) (tBM X.K T r to t):=by
 intro pins s σ H Q I h
 refine wpAny_Call_method_late hbase hfew hline rfl (thn (ho pins s σ H _ I h) fun v s1 ⟨x,H1,I1,r1,ty,q1⟩=>?_)
 obtain⟨h1,h2⟩:=BK I1 r1 ty
 refine⟨T,id,pa,slot,hty,h1,h2,?_⟩
 have hA:=ha cpos pins s1 σ H1 _ I1 q1
 rw[hs]at hA ⊢
 refine Calls.callWith_builtin (by show(false || (backTo cpos (starEach es X.env)).any (·.1))=false;rw[hplain]<;>rfl) (Calls.evalArgs_plain ?_)
 exact thn hA fun us s2 ⟨vs,H2,I2,r2,q2⟩=>hm pins s2 σ H2 x vs v us Q I2 r1 r2 q2
end
def MtM(X:Cx)(id:String)(r:V->List V->Hp->VK->Prop):Prop :=
 ∀ (pins:List (Addr × Obj)) (s:Shared) (σ:St) (H:Hp) (x:V) (xs:List V) (v:Value) (us:List Value) (Q:VK),Inv X pins σ H s->RelV x v->Vals xs us->r x xs H Q ->
  wpAny (model X.prog X.w) X.A (call (.builtin id) (v::us)) (EP X pins σ Q) X.xe s
theorem Vals.one:∀ {x:V} {us:List Value},Vals [x] us->∃ u,us=[u]/\RelV x u
 | _,_,.cons r .nil=>⟨_,rfl,r⟩
theorem Vals.reverse{xs:List V}{us:List Value}(h:Vals xs us):Vals xs.reverse us.reverse:=by
 induction h with
 | nil=>exact .nil
 | cons r t ih=>rw[List.reverse_cons,List.reverse_cons];exact Vals.append ih (.cons r .nil)
theorem Vals.rep{xs:List V}{us:List Value}(h:Vals xs us):∀ k:Nat,Vals (List.replicate k xs).flatten (List.replicate k us).flatten
 | 0=>.nil
 | k+1=>by
  rw[List.replicate_succ,List.replicate_succ,List.flatten_cons,List.flatten_cons]
  exact Vals.append h (Vals.rep h k)
theorem foldl_rep(its:List Value):∀ (k:Nat) (acc:List Value),
  List.foldl (fun x1 x2=>x1++x2) acc.toArray (List.replicate k its.toArray)=(acc++(List.replicate k its).flatten).toArray
 | 0,acc=>by simp
 | k+1,acc=>by
  have e:acc.toArray++its.toArray=(acc++its).toArray:=by simp
  have e2:(acc++its)++(List.replicate k its).flatten=acc++(List.replicate (k+1) its).flatten:=by
   rw[List.replicate_succ,List.flatten_cons,List.append_assoc]
  rw[<-e2,<-foldl_rep its k (acc++its),<-e,List.replicate_succ,List.foldl_cons]
section
variable{X:Cx}{pins:List (Addr × Obj)}{σ:St}{H:Hp}{s:Shared}{l b:Addr}{xs ys zs:List V}
theorem Inv.FN{its its':List Value}{n:Nat}{f:Array Value->Array Value}{t':Nat}(I:Inv X pins σ H s)(hH:H l=some (.lst xs))
 (e:s.heap.get? l=some { cls:=.type "list",data:=.seq its.toArray n })(hf:f its.toArray=its'.toArray)(hv:Vals ys its')(hz:ys.length<=sizeLine) :
  Inv X pins σ (upd H l (.lst ys)) { s with heap:=s.heap.update l (Obj.mapSeq f),toks:=t' }:=by
 have q:=PySem.IsL.update e f
 rw[hf]at q
 refine I.write (x:=l) (e:=l) (by rw[hH];exact trivial) (.inl rfl) (fun b' u hb hu=>(Heap.get?_update_other s.heap (Obj.mapSeq f) (Ne.symm hb)).trans hu) ⟨_,q⟩ ?_
 exact⟨hz,its',_,hv,q⟩
theorem Inv.CW{its:List Value}{t':Nat}(I:Inv X pins σ H s)(hv:Vals ys its)(hz:ys.length<=sizeLine) :
  Inv X pins σ (upd H s.heap.objs.size (.lst ys)) { s with heap:=s.heap.push { cls:=.type "list",data:=.seq its.toArray },toks:=t' } :=
 I.laid (fun _ _ q=>Heap.get?_push_of_some _ q) (Nat.le_refl _) ⟨hz,its,0,hv,Heap.get?_push_size _ rfl⟩
theorem Inv.fresh(I:Inv X pins σ H s):H s.heap.objs.size=none:=I.hok.fresh (Nat.le_refl _)
theorem Inv.tR(I:Inv X pins σ H s)(hH:H l=some (.lst xs)):xs.length<=sizeLine/\∃ (its:List Value) (n:Nat),Vals xs its/\xs.length=its.length/\s.heap.get? l=some { cls:=.type "list",data:=.seq its.toArray n }:=by
 obtain⟨z,its,n,r,e⟩:=I.hok l _ hH
 exact⟨z,its,n,r,r.length,e⟩
theorem xN{n:Nat}(h:n<=sizeLine):Builtin.List.listTooLong n=false:=by
 unfold Builtin.List.listTooLong
 exact decide_eq_false (by omega)
end
section
variable{X:Cx}
def tq:V->List V->Hp->VK->Prop:=fun x vs H Q=>∃ l xs y,x=.ref l/\vs=[y]/\H l=some (.lst xs)/\xs.length<sizeLine/\Q .non (upd H l (.lst (xs++[y])))
theorem nW:MtM X "list.append" tq:=by
 intro pins s σ H x vs v us Q I rx rv h
 obtain⟨l,xs,y,rfl,rfl,hH,hz,q⟩:=h
 cases rx
 obtain⟨u,rfl,ru⟩:=rv.one
 obtain⟨z,its,n,r,hl,e⟩:=I.tR hH
 refine call_meets F.slot_list_append ⟨_,e,rfl⟩ F.entry_list_append (F.args_list_append_2 _ _) (PySem.list_append l its.toArray n u (by rw[List.size_toArray];omega)) ⟨e,?_⟩
 refine⟨.non,_,I.FN (its':=its++[u]) hH e (by simp) (r.append (.cons ru .nil)) ?_,rfl,q⟩
 rw[List.length_append,List.length_singleton]
 omega
def F1:R2:=fun x y H Q=>∃ l b xs zs,x=.ref l/\y=.ref b/\H l=some (.lst xs)/\H b=some (.lst zs)/\xs.length+zs.length<=sizeLine/\∀ p,H p=none->Q (.ref p) (upd H p (.lst (xs++zs)))
theorem CY:OpR X (binaryOp .Add) F1:=by
 intro pins s σ H x y v u Q I rx ry h
 obtain⟨l,b,xs,zs,rfl,rfl,hH,hB,hz,q⟩:=h
 cases rx
 cases ry
 obtain⟨z,its,n,r,hl,e⟩:=I.tR hH
 obtain⟨z2,its2,n2,r2,hl2,e2⟩:=I.tR hB
 refine PySem.P.add_list e e2 ?_ (by rw[List.size_toArray,List.size_toArray];omega)
 have ea:its.toArray++its2.toArray=(its++its2).toArray:=by simp
 rw[ea]
 exact⟨.ref _,_,I.CW (t':=s.toks) (r.append r2) (by rw[List.length_append];omega),rfl,q _ I.fresh⟩
def FX:R2:=fun x y H Q=>∃ l k xs,x=.ref l/\y=.int k/\H l=some (.lst xs)/\-(2 ^ 63)<=k/\k<2 ^ 63/\xs.length*k.toNat<=sizeLine /\
 ∀ p,H p=none->Q (.ref p) (upd H p (.lst (List.replicate k.toNat xs).flatten))
theorem len_rep{α:Type}(xs:List α)(k:Nat):(List.replicate k xs).flatten.length=k*xs.length:=by
 induction k with
 | zero=>simp
 | succ k ih=>rw[List.replicate_succ,List.flatten_cons,List.length_append,ih,Nat.succ_mul,Nat.add_comm]
theorem En:OpR X (binaryOp .Mult) FX:=by
 intro pins s σ H x y v u Q I rx ry h
 obtain⟨l,k,xs,rfl,rfl,hH,h1,h2,hz,q⟩:=h
 cases rx
 obtain⟨t,rfl⟩:=ry
 obtain⟨z,its,n,r,hl,e⟩:=I.tR hH
 have hlen:its.toArray.size*k.toNat<=sizeLine:=by rw[List.size_toArray,<-hl];exact hz
 have hcap:¬ its.toArray.size*k.toNat > (2 ^ 63-1) / 8:=by
  have:(sizeLine:Nat)<=(2 ^ 63-1) / 8:=by decide
  omega
 have hfit:¬ (!Builtin.List.listFitsIndex k)=true:=by
  rw[fitsIndex_both h1 h2]
  exact Bool.false_ne_true
 have hlong:¬ Builtin.List.listTooLong (its.toArray.size*k.toNat)=true:=by
  rw[xN hlen]
  exact Bool.false_ne_true
 have hnew:List.foldl (fun x1 x2=>x1++x2) #[] (List.replicate (if its.toArray.isEmpty=true then 0 else k.toNat) its.toArray)=(List.replicate k.toNat its).flatten.toArray:=by
  have f0:∀ m:Nat,List.foldl (fun x1 x2=>x1++x2) #[] (List.replicate m its.toArray)=(List.replicate m its).flatten.toArray:=fun m=>by
   have:=foldl_rep its m []
   rw[List.nil_append]at this
   exact this
  rw[f0]
  cases its with
  | nil=>simp
  | cons a r'=>rw[if_neg (by simp)]
 refine wpAny_binaryOp_repeat_ref (T := "list") (U := "int") (by decide) ⟨_,e,rfl⟩ (fun s'=>typeIs_int s' k t) noFill_list_mul F.fills_int_mul F.slot_int_rmul repeat_list F.slot_int_index.lookup
  (call_meets F.slot_int_rmul (typeIs_int s k t) F.entry_int_rmul (F.args_int_rmul_2 _ _) (int___rmul___int_list k t l its.toArray n)
   ⟨e,rfl,⟨_,e,rfl⟩,call_meets F.slot_list_mul ⟨_,e,rfl⟩ F.entry_list_mul (F.args_list_mul_2 _ _) (AutoListH.list___mul___list_int_3 l its.toArray n k t hfit hcap hlong) ⟨e,?_⟩⟩)
 rw[hnew]
 exact⟨.ref _,_,I.CW (t':=s.toks) (r.rep k.toNat) (by rw[len_rep,Nat.mul_comm];exact hz),rfl,q _ I.fresh⟩
end
section
variable{prog:Program}{w:World}{A:Around}{E:Value->Shared->Prop}{s:Shared}
set_option maxRecDepth 100000 in
end
section
variable{X:Cx}
end
section
variable{κ:Type} [DecidableEq κ]
def eT(kvs:List (κ × V))(k:κ):Option V:=(kvs.find? fun kv=>decide (kv.1=k)).map (·.2)
def putK(kvs:List (κ × V))(k:κ)(v:V):List (κ × V) :=
 if(kvs.any fun kv=>decide (kv.1=k))=true then kvs.map (fun kv=>if kv.1=k then(kv.1,v)else kv)else kvs++[(k,v)]
theorem iI{p:κ × V}{r:List (κ × V)}{k:κ}(e:p.1=k):eT (p::r) k=some p.2:=by simp[eT,List.find?_cons,e]
theorem jd{p:κ × V}{r:List (κ × V)}{k:κ}(e:¬ p.1=k):eT (p::r) k=eT r k:=by simp[eT,List.find?_cons,e]
theorem qY(k:κ):∀ kvs:List (κ × V),(kvs.any fun kv=>decide (kv.1=k))=(eT kvs k).isSome
 | []=>rfl
 | p::r=>by
  rw[List.any_cons]
  by_cases e:p.1=k
  ·simp only[iI e,decide_eq_true e,Bool.true_or,Option.isSome_some]
  ·rw[jd e,decide_eq_false e,Bool.false_or];exact qY k r
theorem ko(kvs:List (κ × V))(k:κ)(v:V):(putK kvs k v).length<=kvs.length+1:=by
 unfold putK
 split
 ·rw[List.length_map];omega
 ·rw[List.length_append,List.length_cons,List.length_nil];omega
theorem gB.fB{o:Option V}{u:Option Value}(r:gB o u):o.isSome=u.isSome:=by
 cases o with
 | none=>cases u with
  | none=>rfl
  | some _=>exact(show False from r).elim
 | some _=>cases u with
  | none=>exact(show False from r).elim
  | some _=>rfl
theorem KV.val{kvs:List (κ × V)}{vs:List (κ × Value)}(r:KV kvs vs)(k:κ):gB (eT kvs k) (valueAt vs k):=by
 unfold KV at r
 induction r with
 | nil=>exact True.intro
 |@cons p q ps qs h t ih=>
  obtain⟨h1,h2⟩:=h
  by_cases e:p.1=k
  ·have e':q.1=k:=h1.symm.trans e
   have b:valueAt (q::qs) k=some q.2:=by simp[valueAt,List.find?_cons,e']
   rw[iI e,b];exact h2
  ·have e':¬ q.1=k:=fun z=>e (h1.trans z)
   have b:valueAt (q::qs) k=valueAt qs k:=by simp[valueAt,List.find?_cons,e']
   rw[jd e,b];exact ih
theorem KV.any{kvs:List (κ × V)}{vs:List (κ × Value)}(r:KV kvs vs)(k:κ):(kvs.any fun kv=>decide (kv.1=k))=vs.any fun kv=>decide (kv.1=k):=by
 unfold KV at r
 induction r with
 | nil=>rfl
 | cons h t ih=>rw[List.any_cons,List.any_cons,ih,h.1]
theorem KV.xT{kvs:List (κ × V)}{vs:List (κ × Value)}(r:KV kvs vs)(k:κ){y:V}{u:Value}(ry:RelV y u) :
  KV (kvs.map fun kv=>if kv.1=k then(kv.1,y)else kv) (vs.map fun kv=>if kv.1=k then(kv.1,u)else kv):=by
 unfold KV at r ⊢
 induction r with
 | nil=>exact .nil
 |@cons p q ps qs h t ih=>
  rw[List.map_cons,List.map_cons]
  refine .cons ?_ ih
  obtain⟨h1,h2⟩:=h
  by_cases e:p.1=k
  ·rw[if_pos e,if_pos (h1.symm.trans e)];exact⟨h1,ry⟩
  ·rw[if_neg e,if_neg (fun z=>e (h1.trans z))];exact⟨h1,h2⟩
theorem KV.put{kvs:List (κ × V)}{vs:List (κ × Value)}(r:KV kvs vs)(k:κ){y:V}{u:Value}(ry:RelV y u):KV (putK kvs k y) (stored vs k u):=by
 unfold putK stored
 rw[r.any k]
 by_cases e:(vs.any fun kv=>decide (kv.1=k))=true
 ·rw[if_pos e,if_pos e];exact r.xT k ry
 ·rw[if_neg e,if_neg e];exact Paired.snoc r ⟨rfl,ry⟩
theorem KV.length{kvs:List (κ × V)}{vs:List (κ × Value)}(r:KV kvs vs):kvs.length=vs.length:=Paired.length r
end
theorem lX{P:Program}{w:World}{k:Key}{u:Value}(r:RelV (kV k) u):(bS P w).is k u=true:=by
 cases k with
 | inl i=>obtain⟨t,e⟩:=(show ∃ t,u=Value.int i t from r);subst e;exact rE P w i t
 | inr x=>obtain⟨t,e⟩:=(show ∃ t,u=Value.str x t from r);subst e;exact rG P w x t
theorem nV{P:Program}{w:World}:∀ {ks:List Key} {us:List Value},Vals (ks.map kV) us->ItemsAre (bS P w) ks us
 | [],_,r=>by rw[List.map_nil]at r;cases r;exact .nil
 | k::ks,_,r=>by
  rw[List.map_cons]at r
  cases r with
  | cons h t=>exact .cons (lX h) (nV t)
abbrev KT(H:Hp):List (List Key × V)->List (List Key × Addr × Value)->Prop:=Paired fun p q=>p.1=q.1/\H q.2.1=some (.tup (p.1.map kV))/\RelV p.2 q.2.2
theorem KT.val{H:Hp}{kvs:List (List Key × V)}{xs:List (List Key × Addr × Value)}(r:KT H kvs xs)(k:List Key):gB (eT kvs k) ((atKey xs k).map (·.2)):=by
 induction r with
 | nil=>exact True.intro
 |@cons p q ps qs h t ih=>
  obtain⟨h1,_,h2⟩:=h
  by_cases e:p.1=k
  ·have e':q.1=k:=h1.symm.trans e
   have b:atKey (q::qs) k=some q.2:=by simp[atKey,List.find?_cons,e']
   rw[iI e,b];exact h2
  ·have e':¬ q.1=k:=fun z=>e (h1.trans z)
   have b:atKey (q::qs) k=atKey qs k:=by simp[atKey,List.find?_cons,e']
   rw[jd e,b];exact ih
theorem KT.xT{H:Hp}{kvs:List (List Key × V)}{xs:List (List Key × Addr × Value)}(r:KT H kvs xs)(k:List Key){y:V}{u:Value}(ry:RelV y u) :
  KT H (kvs.map fun kv=>if kv.1=k then(kv.1,y)else kv) (xs.map (putAt k u)):=by
 induction r with
 | nil=>exact .nil
 |@cons p q ps qs h t ih=>
  rw[List.map_cons,List.map_cons]
  refine .cons ?_ ih
  obtain⟨h1,h2,h3⟩:=h
  unfold putAt
  by_cases e:p.1=k
  ·rw[if_pos e,if_pos (h1.symm.trans e)];exact⟨h1,h2,ry⟩
  ·rw[if_neg e,if_neg (fun z=>e (h1.trans z))];exact⟨h1,h2,h3⟩
theorem KT.put{H:Hp}{kvs:List (List Key × V)}{xs:List (List Key × Addr × Value)}(r:KT H kvs xs)(k:List Key){b:Addr}{y:V}{u:Value}(hb:H b=some (.tup (k.map kV)))(ry:RelV y u) :
  KT H (putK kvs k y) (storedH xs k b u):=by
 have e:(kvs.any fun kv=>decide (kv.1=k))=(atKey xs k).isSome:=by
  rw[qY,(r.val k).fB,Option.isSome_map]
 unfold putK storedH
 rw[e]
 by_cases q:(atKey xs k).isSome=true
 ·rw[if_pos q,if_pos q];exact r.xT k ry
 ·rw[if_neg q,if_neg q];exact Paired.snoc r ⟨rfl,hb,ry⟩
theorem KT.keeps{H H':Hp}{kvs:List (List Key × V)}{xs:List (List Key × Addr × Value)}(r:KT H kvs xs)(ht:∀ b ys,H b=some (.tup ys)->H' b=some (.tup ys)):KT H' kvs xs :=
 Paired.xY r fun _ _ z=>⟨z.1,ht _ _ z.2.1,z.2.2⟩
section
variable{P:Program}{w:World}{H:Hp}{h:Heap}{a:Addr}
theorem zP{u:HO}(ok:HOk P w H h)(e:Rd H a u):bf P w H h a u:=e.ok ok
theorem jL{kvs:List (Key × V)}(ok:HOk P w H h)(e:Rd H a (.dK kvs)):kvs.length<=sizeLine/\(a == sysModules)=false/\∃ vs,KV kvs vs/\h.DictOf (bS P w) a vs :=
 show bf P w H h a (.dK kvs)from zP ok e
theorem Fb{kvs:List (Key × V)}(ok:HOk P w H h)(e:H a=some (.dK kvs)):kvs.length<=sizeLine/\(a == sysModules)=false/\∃ vs,KV kvs vs/\h.DictOf (bS P w) a vs:=jL ok (.inl e)
theorem j9{ks:List Key}(ok:HOk P w H h)(e:H a=some (.tup (ks.map kV))):(tupleKind (bS P w)).is h ks a:=by
 obtain⟨_,its,r,o,h1,h2,n,h3⟩:=(show bf P w H h a (.tup (ks.map kV))from ok a _ e)
 exact⟨o,its.toArray,n,h1,h2,h3,by simpa using nV r⟩
theorem lC{kvs:List (List Key × V)}(ok:HOk P w H h)(e:Rd H a (.dT kvs)):kvs.length<=sizeLine/\(a == sysModules)=false /\
  ∃ xs,KT H kvs xs/\h.DictOfH (tupleKind (bS P w)) a xs:=by
 obtain⟨z,y,xs,r,o,es,ep,h1,h2,h3,h4,h5⟩:=(show bf P w H h a (.dT kvs)from zP ok e)
 refine⟨z,y,xs,r,o,es,ep,h1,h2,h3,h4,fun x hx=>?_,h5⟩
 have all:∀ {l:List (List Key × V)} {m:List (List Key × Addr × Value)},KT H l m->∀ x∈m,(tupleKind (bS P w)).is h x.1 x.2.1:=by
  intro l m q
  induction q with
  | nil=>intro x hx;exact nomatch hx
  |@cons p q ps qs hq t ih=>
   intro x hx
   rcases List.mem_cons.mp hx with e | hx
   ·subst e
    exact j9 ok (by rw[<-hq.1];exact hq.2.1)
   ·exact ih x hx
 exact all r x hx
theorem zQ{kvs:List (List Key × V)}(ok:HOk P w H h)(e:H a=some (.dT kvs)):kvs.length<=sizeLine/\(a == sysModules)=false /\
  ∃ xs,KT H kvs xs/\h.DictOfH (tupleKind (bS P w)) a xs:=lC ok (.inl e)
end
def eI(H:Hp)(a:Addr)(y:V)(r:Option V):Prop :=
 (∃ kvs k,Rd H a (.dK kvs)/\y=kV k/\r=eT kvs k)\/∃ kvs k b,Rd H a (.dT kvs)/\y=.ref b/\H b=some (.tup (k.map kV))/\r=eT kvs k
def jA(H:Hp)(a:Addr)(y v:V)(H':Hp):Prop :=
 (∃ kvs k,H a=some (.dK kvs)/\y=kV k/\kvs.length<sizeLine/\H'=upd H a (.dK (putK kvs k v))) \/
 ∃ kvs k b,H a=some (.dT kvs)/\y=.ref b/\H b=some (.tup (k.map kV))/\kvs.length<sizeLine/\H'=upd H a (.dT (putK kvs k v))
theorem eI.k{H:Hp}{a:Addr}{kvs:List (Key × V)}{k:Key}(e:H a=some (.dK kvs)):eI H a (kV k) (eT kvs k):=.inl ⟨kvs,k,.inl e,rfl,rfl⟩
theorem eI.t{H:Hp}{a b:Addr}{kvs:List (List Key × V)}{k:List Key}(e:H a=some (.dT kvs))(eb:H b=some (.tup (k.map kV))):eI H a (.ref b) (eT kvs k):=.inr ⟨kvs,k,b,.inl e,rfl,eb,rfl⟩
theorem jA.k{H:Hp}{a:Addr}{kvs:List (Key × V)}{k:Key}{v:V}(e:H a=some (.dK kvs))(hl:kvs.length<sizeLine):jA H a (kV k) v (upd H a (.dK (putK kvs k v))):=.inl ⟨kvs,k,e,rfl,hl,rfl⟩
theorem jA.t{H:Hp}{a b:Addr}{kvs:List (List Key × V)}{k:List Key}{v:V}(e:H a=some (.dT kvs))(eb:H b=some (.tup (k.map kV)))(hl:kvs.length<sizeLine) :
  jA H a (.ref b) v (upd H a (.dT (putK kvs k v))):=.inr ⟨kvs,k,b,e,rfl,eb,hl,rfl⟩
section
variable{X:Cx}{pins:List (Addr × Obj)}{σ:St}{H:Hp}{s:Shared}{a:Addr}{y v:V}{u r:Value}{o:Option V}{A:Around}{E:Value->Shared->Prop}
theorem Inv.big(I:Inv X pins σ H s):sysModules<s.heap.objs.size:=by
 have h:mainGlobals<s.heap.objs.size:=(I.mod.glob.keeps I.bk).lt
 exact Nat.lt_trans (by decide) h
theorem wX{Q:Value->Shared->Prop}(hu:A.units+1<cLine)(I:Inv X pins σ H s)(g:eI H a y (some v))(ry:RelV y u)(h:∀ w' s',Inv X pins σ H s'->RelV v w'->Q w' s') :
  wpAny (model X.prog X.w) A (getItem (.ref a) u) Q E s:=by
 rcases g with⟨kvs,k,e,ey,l⟩ | ⟨kvs,k,b,e,ey,eb,l⟩
 ·subst ey
  obtain⟨z,hd,vs,rel,dd⟩:=jL I.hok e
  obtain⟨w',hw,rw'⟩:=gB.some_of (v:=v) (o:=valueAt vs k) (by rw[l];exact rel.val k)
  exact wpAny_getItem_of (lX ry) dd.mapOf hw (h w' _ (I.tok _) rw')
 ·subst ey
  cases(show u=Value.ref b from ry)
  obtain⟨z,hd,xs,rel,dd⟩:=lC I.hok e
  obtain⟨w',hw,rw'⟩:=gB.some_of (v:=v) (o:=(atKey xs k).map (·.2)) (by rw[l];exact rel.val k)
  obtain⟨p,hp,hp2⟩:=Option.map_eq_some_iff.mp hw
  refine wpAny_getItem_heap (tupleKind_room_in1 hu) (j9 I.hok eb) dd hp ?_
  rw[hp2]
  exact h w' _ (I.tok _) rw'
theorem F8{Q:Value->Shared->Prop}(hu:A.units+1<cLine)(I:Inv X pins σ H s)(g:eI H a y o)(ry:RelV y u)(h:∀ s',Inv X pins σ H s'->Q (.bool o.isSome) s') :
  wpAny (model X.prog X.w) A (compareOp .In u (.ref a)) Q E s:=by
 rcases g with⟨kvs,k,e,ey,l⟩ | ⟨kvs,k,b,e,ey,eb,l⟩
 ·subst ey
  obtain⟨z,hd,vs,rel,dd⟩:=jL I.hok e
  refine wpAny_in_of (lX ry) hd dd.mapOf ?_
  rw[<-(rel.val k).fB,<-l]
  exact h _ (I.tok _)
 ·subst ey
  cases(show u=Value.ref b from ry)
  obtain⟨z,hd,xs,rel,dd⟩:=lC I.hok e
  refine wpAny_in_heap (tupleKind_room_in1 hu) (j9 I.hok eb) hd dd ?_
  have q:=(rel.val k).fB
  rw[Option.isSome_map]at q
  rw[<-q,<-l]
  exact h _ (I.tok _)
theorem A3{Q:Value->Shared->Prop}(hu:A.units+1<cLine)(I:Inv X pins σ H s)(g:eI H a y o)(ry:RelV y u)(h:∀ s',Inv X pins σ H s'->Q (.bool (!o.isSome)) s') :
  wpAny (model X.prog X.w) A (compareOp .NotIn u (.ref a)) Q E s:=by
 rcases g with⟨kvs,k,e,ey,l⟩ | ⟨kvs,k,b,e,ey,eb,l⟩
 ·subst ey
  obtain⟨z,hd,vs,rel,dd⟩:=jL I.hok e
  refine wpAny_notIn_of (lX ry) hd dd.mapOf ?_
  rw[<-(rel.val k).fB,<-l]
  exact h _ (I.tok _)
 ·subst ey
  cases(show u=Value.ref b from ry)
  obtain⟨z,hd,xs,rel,dd⟩:=lC I.hok e
  refine wpAny_notIn_heap (tupleKind_room_in1 hu) (j9 I.hok eb) hd dd ?_
  have q:=(rel.val k).fB
  rw[Option.isSome_map]at q
  rw[<-q,<-l]
  exact h _ (I.tok _)
theorem sk{h':Heap}{t':Nat}{ob:HO}(I:Inv X pins σ H s)(mu:Mut (H a))(hs:Heap.SameBut a s.heap h')(he:∃ q,h'.get? a=some q)(new:bf X.prog X.w (upd H a ob) h' a ob) :
  Inv X pins σ (upd H a ob) { s with heap:=h',toks:=t' } :=
 I.write (x:=a) (e:=a) mu (.inl rfl) (fun b q hb z=>(hs.2 b hb).trans z) he new
theorem C6{P:Program}{w:World}{H':Hp}{h':Heap}{kvs:List (Key × V)}{vs:List (Key × Value)}(z:kvs.length<=sizeLine)(hd:(a == sysModules)=false)(rel:KV kvs vs)(dd:h'.DictOf (bS P w) a vs) :
  bf P w H' h' a (.dK kvs):=⟨z,hd,vs,rel,dd⟩
theorem vi{H':Hp}{Q:Unit->Shared->Prop}(hu:A.units+1<cLine)(I:Inv X pins σ H s)(g:jA H a y v H')(ry:RelV y u)(rv:RelV v r)(h:∀ s',Inv X pins σ H' s'->Q () s') :
  wpAny (model X.prog X.w) A (setItem (.ref a) u r) Q E s:=by
 rcases g with⟨kvs,k,e,ey,l,eH⟩ | ⟨kvs,k,b,e,ey,eb,l,eH⟩
 ·subst ey eH
  obtain⟨z,hd,vs,rel,dd⟩:=Fb I.hok e
  have hz:vs.length<=sizeLine:=by rw[<-rel.length];exact z
  have hl:(putK kvs k v).length<=sizeLine:=by have:=ko kvs k v;omega
  refine wpAny_setItem_pairs (hsz:=hz) (lX ry) dd fun h' dd' hs=>h _ ?_
  have he:∃ q,h'.get? a=some q:=let ⟨q,_,_,hq,_⟩:=dd';⟨q,hq⟩
  exact sk I (by rw[e];exact True.intro) hs he (C6 hl hd (rel.put k rv) dd')
 ·subst ey eH
  cases(show u=Value.ref b from ry)
  obtain⟨z,hd,xs,rel,dd⟩:=zQ I.hok e
  have hz:xs.length<=sizeLine:=by rw[<-Paired.length rel];exact z
  have hl:(putK kvs k v).length<=sizeLine:=by have:=ko kvs k v;omega
  refine wpAny_setItem_heap (hsz:=hz) (tupleKind_room_in1 hu) (j9 I.hok eb) dd fun h' dd' hs=>h _ ?_
  obtain⟨q,es,ep,hq,h2,h3,h4,_,h5⟩:=dd'
  refine sk I (by rw[e];exact True.intro) hs ⟨q,hq⟩ ⟨hl,hd,_,(rel.put k eb rv).keeps fun c ys ec=>?_,q,es,ep,hq,h2,h3,h4,h5⟩
  rw[aJ (oO ec e (fun z=>nomatch z))]
  exact ec
end
section
variable{X:Cx}{pins:List (Addr × Obj)}{σ:St}{H:Hp}{s:Shared}{a:Addr}{kvs:List (Key × V)}{k:Key}{u:Value}{A:Around}{E:Value->Shared->Prop}
theorem EJ{Q:Value->Shared->Prop}(I:Inv X pins σ H s)(e:Rd H a (.dK kvs))(h:∀ t s',Inv X pins σ H s'->Q (.int kvs.length t) s'):wpAny (model X.prog X.w) A (call (.builtin "len") [.ref a]) Q E s:=by
 obtain⟨z,hd,vs,rel,dd⟩:=jL I.hok e
 refine call_len_dict hd dd (by rw[<-rel.length];rw[sizeLine_eq]at z;omega) ?_
 rw[<-rel.length]
 exact h _ _ (I.tok _)
end
def uO(i:Expr):Prop:=∀ ov iv,subscripted i false ov iv=operate [ov,iv] (getItem ov iv)
theorem Av{prog:Program}{w:World}{A:Around}{E:Value->Shared->Prop}{s:Shared}{env:Env}{value slice:Expr}{pos:Pos}{T id:String}{Q:Value->Shared->Prop}
 (hl:typeLookup (.type T) "__getitem__" = pure (some (.builtin id)))(hs:uO slice)
 (h:wpAny (model prog w) A (eval value env) (fun o s₁=>wpAny (model prog w) A (eval slice env) (fun i s₂=>s₂.TypeIs o T/\wpAny (model prog w) A (getItem o i) Q E s₂) E s₁) E s) :
  wpAny (model prog w) A (eval (.Subscript value slice pos) env) Q E s:=by
 refine Subscript_ (wpAny_mono h (fun o s₁ h₁=>wpAny_mono h₁ (fun i s₂ h₂=>?_) fun _ _ x=>x) fun _ _ x=>x)
 obtain⟨hT,h₂⟩:=h₂
 unfold subscriptTail
 refine wpAny_bind ?_
 rw[getitemInPython_of_ne hT.not_modules]
 refine wpAny_bind (wpAny_specialOf hT hl ?_)
 have fin:wpAny (model prog w) A (subscripted slice false o i) (fun r s₃=>wpAny (model prog w) A (letTemporaryGo value o r >>= fun _=>pure r) Q E s₃) E s₂:=by
  rw[hs o i]
  exact wpAny_operating (wpAny_mono h₂ (fun r s₃ h₃=>wpAny_bind (wpAny_letTemporaryGo (wpAny_pure h₃))) fun _ _ x=>x)
 first
  | exact wpAny_pure (wpAny_bind fin)
  | exact wpAny_bind (wpAny_pure (wpAny_bind fin))
  | exact wpAny_bind fin
theorem rN{X:Cx}{pins:List (Addr × Obj)}{σ:St}{H:Hp}{s:Shared}{a:Addr}{y:V}{o:Option V}(I:Inv X pins σ H s)(g:eI H a y o):s.TypeIs (.ref a) "dict" := by
 rcases g with⟨kvs,k,e,_,_⟩ | ⟨kvs,k,b,e,_,_,_⟩
 ·obtain⟨_,_,vs,_,dd⟩:=jL I.hok e
  exact dd.typeIs
 ·obtain⟨_,_,xs,_,dd⟩:=lC I.hok e
  exact dd.typeIs
def EA(td ty:TE):TE:=fun σ H Q=>td σ H fun x H1=>ty σ H1 fun y H2=>∃ a v,x=.ref a/\eI H2 a y (some v)/\Q v H2
def DU(ty td:TE):TE:=fun σ H Q=>ty σ H fun y H1=>td σ H1 fun x H2=>∃ a o,x=.ref a/\eI H2 a y o/\Q (.bl o.isSome) H2
def sP(ty td:TE):TE:=fun σ H Q=>ty σ H fun y H1=>td σ H1 fun x H2=>∃ a o,x=.ref a/\eI H2 a y o/\Q (.bl (!o.isSome)) H2
def ue(td ty tv:TE):TS:=fun D σ H=>tv σ H fun v H1=>td σ H1 fun x H2=>ty σ H2 fun y H3=>∃ a H4,x=.ref a/\jA H3 a y v H4/\D.nx σ H4
section
variable{X:Cx}{o i e value:Expr}{pos pos' tpos:Pos}{td ty tv:TE}
theorem An(hu:X.A.units+1<cLine)(ho:PE X o td)(hi:PE X i ty)(hs:uO i):PE X (.Subscript o i pos) (EA td ty):=by
 intro pins s σ H Q I h
 refine Av PySem.F.slot_dict_getitem.lookup hs (thn (ho pins s σ H _ I h) fun u s1 ⟨x,H1,I1,rx,q1⟩=>thn (hi pins s1 σ H1 _ I1 q1) fun iv s2 ⟨y,H2,I2,ry,a,v,ex,g,q2⟩=>?_)
 subst ex
 obtain rfl:u=Value.ref a:=rx
 exact⟨rN I2 g,wX hu I2 g ry fun w' s3 I3 rw'=>⟨v,H2,I3,rw',q2⟩⟩
theorem Dd(hu:X.A.units+1<cLine)(hi:PE X i ty)(ho:PE X o td):PC X .In i o (DU ty td):=by
 intro pins s σ H Q I h
 refine thn (hi pins s σ H _ I h) fun iv s1 ⟨y,H1,I1,ry,q1⟩=>thn (ho pins s1 σ H1 _ I1 q1) fun u s2 ⟨x,H2,I2,rx,a,ov,ex,g,q2⟩=>?_
 subst ex
 obtain rfl:u=Value.ref a:=rx
 exact F8 hu I2 g ry fun s3 I3=>⟨.bl ov.isSome,H2,I3,rfl,q2⟩
theorem vt(hu:X.A.units+1<cLine)(hi:PE X i ty)(ho:PE X o td):PC X .NotIn i o (sP ty td):=by
 intro pins s σ H Q I h
 refine thn (hi pins s σ H _ I h) fun iv s1 ⟨y,H1,I1,ry,q1⟩=>thn (ho pins s1 σ H1 _ I1 q1) fun u s2 ⟨x,H2,I2,rx,a,ov,ex,g,q2⟩=>?_
 subst ex
 obtain rfl:u=Value.ref a:=rx
 exact A3 hu I2 g ry fun s3 I3=>⟨.bl (!ov.isSome),H2,I3,rfl,q2⟩
theorem AU(hu:X.A.units+1<cLine)(ho:PE X o td)(hi:PE X i ty)(hv:PE X value tv)(hs:swapsWith value (some (.Subscript o i pos')) pos.line X.env=pure false) :
  PS X (.Assign [.Subscript o i pos'] value pos) (ue td ty tv):=by
 intro pins s σ H D I h
 refine wpAny_Assign_Subscript (thn (hv pins s σ H _ I h) fun r s1 ⟨v,H1,I1,rv,q1⟩=>thn (ho pins s1 σ H1 _ I1 q1) fun u s2 ⟨x,H2,I2,rx,q2⟩=>thn (hi pins s2 σ H2 _ I2 q2) fun iv s3 ⟨y,H3,I3,ry,a,H4,ex,g,q3⟩=>?_) hs
 subst ex
 obtain rfl:u=Value.ref a:=rx
 exact vi hu I3 g ry rv fun s4 I4=>⟨σ,H4,I4,q3⟩
end
theorem xE{P:Program}{w:World}{H:Hp}(h:Heap)(hb:sysModules<h.objs.size):bf P w H (h.push { cls:=.type "dict",data:=.dict #[] }) h.objs.size (.dK []) :=
 ⟨Nat.zero_le _,beq_eq_false_iff_ne.mpr (Ne.symm (Nat.ne_of_lt hb)),[],.nil,Heap.DictOf.new h⟩
theorem yF{P:Program}{w:World}{H:Hp}(h:Heap)(hb:sysModules<h.objs.size):bf P w H (h.push { cls:=.type "dict",data:=.dict #[] }) h.objs.size (.dT []) :=
 ⟨Nat.zero_le _,beq_eq_false_iff_ne.mpr (Ne.symm (Nat.ne_of_lt hb)),[],.nil,_,#[],0,Heap.get?_push_size _ rfl,⟨rfl,rfl,rfl⟩,rfl,rfl,List.nodup_nil⟩
def DE:TE:=fun _ H Q=>∀ p,H p=none->Q (.ref p) (upd H p (.dK []))
def Cy:TE:=fun _ H Q=>∀ p,H p=none->Q (.ref p) (upd H p (.dT []))
section
variable{X:Cx}{pos:Pos}
theorem yo:PE X (.Dict [] [] pos) DE:=fun pins s σ H Q I h =>
 wpAny_Dict_empty ⟨.ref s.heap.objs.size,_,I.laid (a:=s.heap.objs.size) (o:=.dK []) (t':=s.toks) (fun _ _ q=>Heap.get?_push_of_some _ q) (Nat.le_refl _) (xE s.heap I.big),rfl,h _ (I.hok.fresh (Nat.le_refl _))⟩
theorem ym:PE X (.Dict [] [] pos) Cy:=fun pins s σ H Q I h =>
 wpAny_Dict_empty ⟨.ref s.heap.objs.size,_,I.laid (a:=s.heap.objs.size) (o:=.dT []) (t':=s.toks) (fun _ _ q=>Heap.get?_push_of_some _ q) (Nat.le_refl _) (yF s.heap I.big),rfl,h _ (I.hok.fresh (Nat.le_refl _))⟩
end
section
variable{X:Cx}{pins:List (Addr × Obj)}{σ:St}{H:Hp}{s:Shared}{a:Addr}{y d:V}{u r:Value}{o:Option V}{A:Around}{E:Value->Shared->Prop}
end
section
variable{X:Cx}{o e f:Expr}{apos cpos:Pos}{td ty tx:TE}
end
section
variable{X:Cx}{pins:List (Addr × Obj)}{σ:St}{H:Hp}{s:Shared}{a:Addr}{kvs:List (Key × V)}{A:Around}{E:Value->Shared->Prop}
end
section
variable{X:Cx}{pins:List (Addr × Obj)}{σ:St}{H:Hp}{s:Shared}{a:Addr}{y:V}{u:Value}{A:Around}{E:Value->Shared->Prop}
end
end L2
namespace Att
open PySem PySem.W PySem.Calls PyProof.Rows
theorem lR{P:Params}{h:Heap}:∀ (ns:List Int) (vs:List Value),WellAll P h vs (ns.map WData.int)->IntsAre vs ns:=by
 intro ns
 induction ns with
 |nil=>
  intro vs w
  rw[List.map_nil]at w
  cases w
  exact .nil
 |cons n ns ih=>
  intro vs w
  rw[List.map_cons]at w
  cases w with
  |cons a b=>
   cases a
   exact .cons _ _ (ih _ b)
theorem wA{l:OpenLaw}{n:Nat}(hn:l.most=some n){P:Params}{h:Heap}{args:List WData}{vals:List Value}
 (hpre:l.row.toRowW.claim.pre args=true)(hwl:WellAll P h vals args) :
  ∃ a vs ns,vals=[Value.ref a]/\args=[WData.list (ns.map WData.int)]/\h.get? a=some { cls:=.type "list",data:=.seq vs.toArray }/\IntsAre vs ns/\ns.length<=n:=by
 have hsh:WShape.hasAll [] args [.list .int]=true:=(pre_splitW hpre).1
 have hc:l.pre.holds [] { args:=args }=true:=(pre_splitW hpre).2
 obtain⟨d,r,rfl,h1,h2⟩:=hasAllW_cons hsh
 obtain rfl:=hasAllW_nil h2
 obtain⟨xs,rfl,h3⟩:=hasW_list h1
 obtain⟨ns,rfl⟩:=items_int h3
 have hlen:ns.length<=n:=by
  unfold OpenLaw.pre at hc
  have h4:(WTm.not (.lt (.lit (.int (n:Int))) (.len (.arg 0)))).holds [] { args:=[.list (ns.map .int)] }=true:=by
   have h4:=(holds_andW hc).1
   rw[hn]at h4
   exact h4
  have h5:=condW_of h4 (w_not (w_lt w_lit (w_len_list (w_arg rfl))))
  rw[List.length_map]at h5
  refine Nat.le_of_not_lt fun q=>?_
  have q':(n:Int)<((ns.length:Nat):Int):=by omega
  first
   | (rw[decide_eq_true q']at h5;exact absurd h5 (by decide))
   | (simp at h5;omega)
 cases hwl with
 |cons w1 w2=>
  cases w2
  cases w1 with
  | list ho hall=>exact⟨_,_,ns,rfl,rfl,ho,lR ns _ hall,hlen⟩
theorem wx(l:OpenLaw)(args:List WData):l.row.toRowW.claim.post args (.bool true) args=true :=
 postW_of (r:=l.row.toRowW) (X:=(true == true))
  (show WShape.has [] (.bool true) .bool=true by first | rfl | decide | simp[WShape.has,WShape.arms,WShape.armsAll])
  (show(WTm.eq .res (.lit (.bool true))).value [] { args:=args,res:=some (.bool true),after:=args }=some (.bool (true == true))from w_eq_bool (w_res rfl) w_lit) rfl
theorem rL{l:OpenLaw}{n:Nat}{q:Program}{loose:List Str}{XP:(Str->Option Value)->Heap->Prop}{YP:World->Heap->Prop}{d:DefRec}
 (hn:l.most=some n)(hdf:d.params.defaults=[])
 (call:∀ (w:World) (s₀ s₁:Shared) (mg mb:Str->Option Value) (fa:Addr) (o:Obj) (pm cd doc:Value) (a:Addr) (vs:List Value) (ns:List Int),
   Ground q loose [] XP w s₀ mg mb s₁.heap->YP w s₁.heap ->
   s₁.heap.get? fa=some o->o.data=.func (docDef d.name d.params d.body d.scope pm cd doc)->s₁.heap.CodeRec cd d.name->mg d.name=some (.ref fa) ->
   s₁.heap.get? a=some { cls:=.type "list",data:=.seq vs.toArray }->IntsAre vs ns->ns.length<=n->s₁.gens=#[] ->
   codeAny (model l.prog w) callerA (.call (.ref fa) ⟨[.ref a],[]⟩) (fun r s'=>r=.ok (.ret (.bool true))/\OldK s₁.heap s'.heap/\s'.os=s₁.os/\AllBare s'.gens) s₁) :
  WalkO q loose XP YP l.row.toRowW d [] (fun f vs=>PySem.call f vs):=by
 intro w s₀ s₁ mg mb G Y fa o pm cd doc dV kV ho hd hcd hD hmg hg args vals as hpre hlay hrd hwl hlo
 obtain rfl:dV=.none:=Dflts.none hD hdf
 obtain rfl:kV=.none:=Dflts.noKw hD
 obtain⟨a,vs,ns,rfl,rfl,hobj,hints,hlen⟩:=wA hn hpre hwl
 refine enter_call (codeAny_mono (call w s₀ s₁ mg mb fa o pm cd doc a vs ns G Y ho (fd_plain hd) hcd hmg hobj hints hlen hg) fun r s' hq=>?_)
 obtain⟨rfl,h2,h3,h4⟩:=hq
 exact⟨.inl ⟨.bool true,.bool true,[],rfl,fun _=>rfl,.bool true,wx l _,fun _=>⟨List.Pairwise.nil,fun _ hm=>(nomatch hm)⟩⟩,h2,h3,h4⟩
section
variable{prog:Program}{w:World}{A:Around}{E:Value->Shared->Prop}{s:Shared}{K:Frag}
end
end Att
namespace L2
open PySem PySem.Spec PyProof.Rows
theorem nI:∀ {vs:List Value} {ns:List Int},IntsAre vs ns->Vals (ns.map V.int) vs
 | _,_,.nil=>.nil
 | _,_,.cons n t h=>.cons ⟨t,rfl⟩ (nI h)
def qh(H:Hp):Prop:=∀ b,H b=none\/∃ o xs,H b=some (.frz o (.lst xs))
theorem yY{P:Program}{w:World}{K:PySem.W.Frag}{mg mb:Str->Option Value}{CX:CXT}{k:Nat}{fa a:Addr}{fd:FuncData}{x:Str}{sp:Sp}{s₁:Shared}{vs:List Value}{ns:List Int}
 (KX:K.In s₁.heap)(hns:s₁.heap.Ns mainGlobals mg)(hb:s₁.heap.Ns builtinsNs mb)(hbb:∀ x:Str,x ≠ "__name__" -> mb x=bootBuiltins x)(hlim:s₁.heap.NoLimit)(hg:s₁.gens=#[])
 (ha:s₁.heap.get? a=some { cls:=.type "list",data:=.seq vs.toArray })(hi:IntsAre vs ns)(hl:ns.length<=sizeLine)(hr:cq k callerA)
 (F:∀ base:Heap,K.In base->base.Ns mainGlobals mg->dO P w K mg base CX k fa fd [x] sp)(hbind:∀ (s:Shared) (u:Value),BindsTo s fd ⟨[u],[]⟩ [(x,u)])
 (hsp:∀ H:Hp,qh H->SqL K H a (ns.map V.int)->sp [.ref a] H (fun v _=>v=.bl true) fun _ _ _=>False)
 (hCX:∀ H e s',CX [] H s₁ (fun _ _ _=>False) e s'->False) :
  codeAny (model P w) callerA (.call (.ref fa) ⟨[.ref a],[]⟩) (fun r s'=>r=.ok (.ret (.bool true))/\OldK s₁.heap s'.heap/\s'.os=s₁.os/\AllBare s'.gens) s₁:=by
 have rv:=nI hi
 have lenV:=hi.length
 have core:∀ H:Hp,qh H->SqL K H a (ns.map V.int)->HOk P w H s₁.heap->(∀ b,H b≠none->b=a)->(H a≠none->K.lookup a=none) ->
   codeAny (model P w) callerA (.call (.ref fa) ⟨[.ref a],[]⟩) (fun r s'=>r=.ok (.ret (.bool true))/\OldK s₁.heap s'.heap/\s'.os=s₁.os/\AllBare s'.gens) s₁:=by
  intro H hO hS hok hA hK
  have base_of:∀ {b:Addr} {o:Obj},s₁.heap.get? b=some o->H b=none->(iP s₁.heap H).get? b=some o:=fun e n=>xS e n
  have noA:∀ {b:Addr} {o:Obj} {es:Array DictEntry} {ep:Nat},s₁.heap.get? b=some o->o.data=.dict es ep->H b=none:=fun {b o es ep} e d=>by
   cases q:H b with
   | none=>rfl
   |some u=>
    have e':b=a:=hA b (by rw[q];simp)
    subst e'
    rw[ha]at e;cases e
    have d':Data.seq vs.toArray _=Data.dict es ep:=d
    cases d'
  have nsK:∀ {b:Addr} {m:Str->Option Value},s₁.heap.Ns b m->(iP s₁.heap H).Ns b m:=fun {b m} ⟨o,es,ep,e,d,r⟩=>⟨o,es,ep,base_of e (noA e d),d,r⟩
  have hKb:K.In (iP s₁.heap H):=fun b o e=>base_of (KX b o e) (by
   cases q:H b with
   | none=>rfl
   |some u=>
    have e':b=a:=hA b (by rw[q];simp)
    subst e'
    rw[hK (by rw[q];simp)]at e;cases e)
  have hM:Mod K mg (iP s₁.heap H):=⟨hKb,nsK hns,⟨mb,nsK hb,hbb⟩,let ⟨mc,h1,h2⟩:=hlim;⟨mc,nsK h1,h2⟩⟩
  have e0:pb P w K mg (iP s₁.heap H) callerA [] s₁ H:=⟨rfl,hM,fun b o e=>B0 e,Nat.le_of_eq (xo _ _),trivial,fun b hb=>absurd (show b∈([]:List Addr)from hb) (by simp),hok,.of_eq hg⟩
  refine codeAny_mono ((F _ hKb (nsK hns)).run callerA [] s₁ H ⟨[.ref a],[]⟩ [.ref a] [.ref a] _ _ hr e0 (hbind s₁ (.ref a)) (.cons rfl .nil) (hsp H hO hS)) fun r s' h=>?_
  cases r with
  | error e=>exact(hCX H e s' h).elim
  |ok fl=>
   cases fl with
   | next=>exact False.elim h
   | brk=>exact False.elim h
   | cont=>exact False.elim h
   |ret u=>
    obtain⟨v,H',os,bare,un,hok',r',q⟩:=h
    have q':v=.bl true:=q
    subst q'
    obtain rfl:u=Value.bool true:=r'
    refine⟨rfl,OldK.of_keep fun b o e=>?_,os,bare⟩
    cases q:H b with
    | none=>exact un.keep b o e q (by intro z;exact absurd (show b∈([]:List Addr)from z) (by simp)) (by simp)
    |some u=>
     rcases hO b with z | ⟨ob,xs,z⟩
     ·rw[q]at z;cases z
     ·have z2:=un.cJ b ob _ z
      obtain⟨e1,_⟩:=hok b _ z
      obtain⟨e2,_⟩:=hok' b _ z2
      rw[e]at e1;cases e1
      exact e2
 cases hk:K.lookup a with
 |some o=>
  have e:=KX a o hk
  rw[ha]at e
  cases e
  refine core (fun _=>none) (fun _=>.inl rfl) (.inr ⟨_,vs.toArray,_,hk,rfl,rfl,rfl,by rw[List.size_toArray,lenV];exact hl,by simpa using rv⟩) (fun b u z=>by have z':(none:Option HO)=some u:=z;cases z') (fun b z=>absurd rfl z) fun z=>absurd rfl z
 |none=>
  refine core (fun b=>if b=a then some (.frz { cls:=.type "list",data:=.seq vs.toArray } (.lst (ns.map V.int)))else none) (fun b=>?_) (.inl (.inr ⟨{ cls:=.type "list",data:=.seq vs.toArray },if_pos rfl⟩)) (fun b u z=>?_) (fun b z=>?_) fun _=>hk
  ·by_cases hb:b=a
   ·exact .inr ⟨_,_,if_pos hb⟩
   ·exact .inl (if_neg hb)
  ·by_cases hb:b=a
   ·have z':=(if_pos hb).symm.trans z
    cases z'
    subst hb
    exact⟨ha,by rw[List.length_map];exact hl,vs,_,rv,ha⟩
   ·have z':=(if_neg hb).symm.trans z
    cases z'
  ·by_cases hb:b=a
   ·exact hb
   ·exact absurd (if_neg hb) z
abbrev KOf{K:PySem.W.Frag}{h:Heap}(_:K.In h):PySem.W.Frag:=K
theorem sE{l:PySem.W.OpenLaw}{n k:Nat}{q:Program}{loose:List Str}{XP:(Str->Option Value)->Heap->Prop}{YP:World->Heap->Prop}{d:DefRec}{K:Params->PySem.W.Frag}{CX:World->CXT}{sp:World->Sp}{x:Str}
 (hn:l.most=some n)(hn2:n<=sizeLine)(hdf:d.params.defaults=[])(hr:cq k callerA)
 (hY:∀ (w:World) (h:Heap),YP w h->(K w.params).In h)
 (F:∀ (w:World) (mg:Str->Option Value) (fa:Addr) (h:Heap),(K w.params).In h->h.Ns mainGlobals mg->mg d.name=some (.ref fa) ->
   ∃ fd:FuncData,(∀ (s:Shared) (u:Value),BindsTo s fd ⟨[u],[]⟩ [(x,u)]) /\
    ∀ base:Heap,(K w.params).In base->base.Ns mainGlobals mg->dO l.prog w (K w.params) mg base (CX w) k fa fd [x] (sp w))
 (hsp:∀ (w:World) (H:Hp) (a:Addr) (ns:List Int),ns.length<=n->qh H->SqL (K w.params) H a (ns.map V.int)->sp w [.ref a] H (fun v _=>v=.bl true) fun _ _ _=>False)
 (hCX:∀ (w:World) (H:Hp) (s:Shared) (e:Value) (s':Shared),CX w [] H s (fun _ _ _=>False) e s'->False) :
  PySem.W.WalkO q loose XP YP l.row.toRowW d [] (fun f vs=>PySem.call f vs):=by
 refine Att.rL hn hdf fun w s₀ s₁ mg mb fa o pm cd doc a vs ns G Y ho hd hcd hmg hobj hints hlen hg=>?_
 have KX:=hY w _ Y
 obtain⟨fd,hb,hF⟩:=F w mg fa _ KX G.T.g hmg
 exact yY KX G.T.g G.T.b G.T.builtins G.T.nolimit hg hobj hints (Nat.le_trans hlen hn2) hr hF hb (fun H hO hS=>hsp w H a ns hlen hO hS) fun H e s'=>hCX w H s₁ e s'
theorem xD{l:PySem.W.OpenLaw}{n k:Nat}{q:Program}{loose:List Str}{XP:(Str->Option Value)->Heap->Prop}{YP:World->Heap->Prop}{d:DefRec}{K:Params->PySem.W.Frag}{CX:CXT}{sp:PySem.W.Frag->Sp}{x:Str}
 (hn:l.most=some n)(hn2:n<=sizeLine)(hdf:d.params.defaults=[])(hr:cq k callerA)
 (hY:∀ (w:World) (h:Heap),YP w h->(K w.params).In h)
 (F:∀ (w:World) (mg:Str->Option Value) (fa:Addr) (h:Heap),(K w.params).In h->h.Ns mainGlobals mg->mg d.name=some (.ref fa) ->
   ∃ fd:FuncData,(∀ (s:Shared) (u:Value),BindsTo s fd ⟨[u],[]⟩ [(x,u)]) /\
    ∀ base:Heap,(K w.params).In base->base.Ns mainGlobals mg->dO l.prog w (K w.params) mg base CX k fa fd [x] (sp (K w.params)))
 (hsp:∀ (K:PySem.W.Frag) (H:Hp) (a:Addr) (ns:List Int),ns.length<=n->qh H->SqL K H a (ns.map V.int)->sp K [.ref a] H (fun v _=>v=.bl true) fun _ _ _=>False)
 (hCX:∀ (H:Hp) (s:Shared) (e:Value) (s':Shared),CX [] H s (fun _ _ _=>False) e s'->False) :
  PySem.W.WalkO q loose XP YP l.row.toRowW d [] (fun f vs=>PySem.call f vs) :=
 sE (K:=K) (CX:=fun _=>CX) (sp:=fun w=>sp (K w.params)) hn hn2 hdf hr hY F (fun w H a ns h1 h2 h3=>hsp (K w.params) H a ns h1 h2 h3) fun _ H s e s'=>hCX H s e s'
def hW(s:Stmt):Arguments:=match s with
 | .FunctionDef _ a _ _ _ _ _ _ _ _=>a
 | _=>{ posonlyargs:=[],args:=[],vararg:=none,kwonlyargs:=[],kw_defaults:=[],kwarg:=none,defaults:=[] }
def cz(s:Stmt):List Stmt:=match s with
 | .FunctionDef _ _ b _ _ _ _ _ _ _=>b
 | _=>[]
def aK(s:Stmt):Scope:=match s with
 | .FunctionDef _ _ _ _ _ _ sc _ _ _=>sc
 | _=>{ kind:=.function,names:=[],isGenerator:=false,isCoroutine:=false }
abbrev CX0:CXT:=fun _ _ _ _ _ _=>False
abbrev E0:XK:=fun _ _ _=>False
theorem zN{X:Cx}:Passes CX0 X E0:=fun _ _ _ _ _ _ _ h=>h.elim
structure Fun(K:PySem.W.Frag)(x qual:Str)(st:Stmt)(f:Addr)(fd:FuncData):Prop where
 ex:∃ (oc:Value) (od:Option Addr) (kV doc pm:Value) (an:Option Addr) (cdv ct:Value) (osl:Array (Option Value)),
  fd=PySem.W.fnOf x qual (hW st) (cz st) (aK st) .none kV doc pm an cdv ct/\K.lookup f=some ⟨oc,od,.func fd,osl⟩/\PySem.W.codeIn K cdv qual=true
 kp:PySem.W.keepIn K (.ref f)=true
section
variable{P:Program}{w:World}{K:PySem.W.Frag}{mg:Str->Option Value}{base:Heap}
theorem Fun.ok{x qual:Str}{st:Stmt}{f:Addr}{fd:FuncData}{N ps:List Str}{k:Nat}{sp:Sp}(F:Fun K x qual st f fd)(S:eZ N ps (aK st))(len:∀ vs H Q E,sp vs H Q E->vs.length=ps.length)
 (hbody:∀ (cdv:Value) (A:Around) (outer:List Env) (s:Shared) (H:Hp) (vs:List V) (Q:VK) (E:XK),cq k (A.deeper (envOfC qual (aK st) s.heap.objs.size f cdv))->sp vs H Q E ->
   ∃ t,PSs (gw CX0 P w K mg base N qual (aK st) f cdv A outer s H E).nox (cz st) t/\t { nx:=fun _ H'=>Q .non H',rt:=Q } (start N vs) H):dO P w K mg base CX0 (k+1) f fd ps sp:=by
 obtain⟨oc,od,kV,doc,pm,an,cdv,ct,osl,rfl,lk,hcd⟩:=F.ex
 refine zH lk hcd S len fun A outer s H vs Q E hr hsp=>?_
 obtain⟨t,h,q⟩:=hbody cdv A outer s H vs Q E hr hsp
 exact⟨t,h.nox,q⟩
theorem Fun.binds{x qual:Str}{st:Stmt}{f:Addr}{fd:FuncData}{ps:List Str}(F:Fun K x qual st f fd)
 (h:∀ (kV doc pm:Value) (an:Option Addr) (cdv ct:Value) (us:List Value),us.length=ps.length->bindArgs (PySem.W.fnOf x qual (hW st) (cz st) (aK st) .none kV doc pm an cdv ct) ⟨us,[]⟩=pure (ps.zip us)):Binds K fd ps []:=by
 obtain⟨oc,od,kV,doc,pm,an,cdv,ct,osl,rfl,lk,hcd⟩:=F.ex
 exact .all (h kV doc pm an cdv ct)
theorem CF{x qual:Str}{st:Stmt}{f:Addr}{oc:Value}{od an:Option Addr}{osl:Array (Option Value)}{kV doc pm cdv ct:Value}(l:K.lookup f=some ⟨oc,od,.func (PySem.W.fnOf x qual (hW st) (cz st) (aK st) .none kV doc pm an cdv ct),osl⟩)
 (c:PySem.W.codeIn K cdv qual=true)(k:PySem.W.keepIn K (.ref f)=true):Fun K x qual st f (PySem.W.fnOf x qual (hW st) (cz st) (aK st) .none kV doc pm an cdv ct):=⟨⟨oc,od,kV,doc,pm,an,cdv,ct,osl,rfl,l,c⟩,k⟩
end
theorem nC{n:Nat}(h:n<=1000):n<sizeLine:=Nat.lt_of_le_of_lt h (by decide)
section
variable{X:Cx}
end
theorem gm{A B:Prop}(h:B):if false=true then A else B:=by
 rw[if_neg Bool.false_ne_true]
 exact h
theorem fJ{A B:Prop}(h:A):if true=true then A else B:=by
 rw[if_pos rfl]
 exact h
def aq(H H':Hp):Prop:=∀ b o,H b=some o->H' b=some o
theorem aq.refl(H:Hp):aq H H:=fun _ _ h=>h
theorem aq.trans{H H1 H2:Hp}(a:aq H H1)(b:aq H1 H2):aq H H2:=fun c o h=>b c o (a c o h)
theorem aq.free{H H':Hp}(e:aq H H'){l:Addr}(h:H' l=Option.none):H l=Option.none:=by
 cases q:H l with
 | none=>rfl
 |some o=>
  rw[e l o q]at h
  cases h
section
variable{X:Cx}
theorem x3:bA X (.builtin "len") (fun xs H Q=>∃ a kvs,xs=[V.ref a]/\H a=some (.dK kvs)/\Q (.int kvs.length) H):=by
 intro pins s σ H xs us Q I r h
 obtain⟨a,kvs,rfl,ha,q⟩:=h
 obtain⟨u,rfl,ru⟩:=vals1 r
 cases ru
 exact EJ I (.inl ha) fun t s' I'=>⟨.int kvs.length,H,I',⟨t,rfl⟩,q⟩
end
section
variable{κ:Type} [DecidableEq κ]
end
end L2
namespace RS
open PySem PySem.Spec PyProof.Rows L2
abbrev VE:List Value:=[.type "ValueError",.type "Exception",.type "BaseException",.type "object"]
noncomputable def cU:List Str:=["RibbonError", "BadPegs", "BadFrame", "BadHalf", "BadHook", "BadName", "NoNumber", "NoFrame", "NoStack", "NoPlace", "Taken", "Full", "NothingThere", "BadTrade", "Hangs", "BadPage"]
noncomputable def qu(f:Option PySem.Builtin.ObjectAttr.Found):Bool:=match f with
 | some (.bind (.builtin a) (.builtin b))=>a == "getset_descriptor.__get__" && b == "object.__class__"
 | _=>false
noncomputable def fm(K:PySem.W.Frag)(x:Str)(C:Addr):Bool :=
 PySem.W.excIn K C VE "ValueError.__new__" && PySem.W.findIn K (.ref C) "__getattribute__" == some (some (.builtin "BaseException.__getattribute__"))&&PySem.W.findIn K (.ref C) "__getattr__" == some none&&qu (PySem.W.findObj K C none "__class__") &&
 PySem.W.mroIn K C (.type "object") == some true&&PySem.W.subIn K (.ref C) (.type "BaseException") == some true&&(PySem.W.clsIn K C).isSome&&PySem.W.kitOne K (.ref C) (.type "ValueError") == some true &&
 cU.all fun c=>match PySem.W.nsIn K mainGlobals c with
  | some (some (.ref D))=>PySem.W.kitOne K (.ref C) (.ref D) == some (RL.cG x c)&&PySem.W.subIn K (.ref C) (.ref D) == some (RL.cG x c)
  | _=>true
structure Cls(K:PySem.W.Frag)(x:Str)(C:Addr):Prop where
 ns:PySem.W.nsIn K mainGlobals x=some (some (.ref C))
 ok:fm K x C=true
section
variable{K:PySem.W.Frag}{x c:Str}{C D:Addr}
theorem Cls.exc(h:Cls K x C):PySem.W.excIn K C VE "ValueError.__new__" = true:=by
 have:=h.ok
 simp only[fm,Bool.and_eq_true]at this
 exact this.1.1.1.1.1.1.1.1
theorem Cls.ref(h:Cls K x C)(hc:c∈cU)(hD:PySem.W.nsIn K mainGlobals c=some (some (.ref D))):PySem.W.kitOne K (.ref C) (.ref D)=some (RL.cG x c)/\PySem.W.subIn K (.ref C) (.ref D)=some (RL.cG x c):=by
 have:=h.ok
 simp only[fm,Bool.and_eq_true]at this
 have q:=List.all_eq_true.mp this.2 c hc
 rw[hD]at q
 simp only[Bool.and_eq_true,beq_iff_eq]at q
 exact q
theorem Cls.val(h:Cls K x C):PySem.W.kitOne K (.ref C) (.type "ValueError")=some true:=by
 have:=h.ok
 simp only[fm,Bool.and_eq_true,beq_iff_eq]at this
 exact this.1.2
end
structure bJ(K:PySem.W.Frag)(x:Str)(C:Addr)(c:Str):Prop where
 ex:∃ D b,PySem.W.nsIn K mainGlobals c=some (some (.ref D))/\PySem.W.kitOne K (.ref C) (.ref D)=some b/\PySem.W.subIn K (.ref C) (.ref D)=some b/\RL.cG x c=b
theorem oS{K:PySem.W.Frag}{x c:Str}{C D:Addr}{b:Bool}(n:PySem.W.nsIn K mainGlobals c=some (some (.ref D)))(k:PySem.W.kitOne K (.ref C) (.ref D)=some b)(s:PySem.W.subIn K (.ref C) (.ref D)=some b)(e:RL.cG x c=b):bJ K x C c:=⟨D,b,n,k,s,e⟩
structure DB(K:PySem.W.Frag)(x:Str)(C:Addr):Prop where
 a1:PySem.W.excIn K C VE "ValueError.__new__" = true
 a2:PySem.W.findIn K (.ref C) "__getattribute__" = some (some (.builtin "BaseException.__getattribute__"))
 a3:PySem.W.findIn K (.ref C) "__getattr__" = some none
 a4:PySem.W.findIn K (.ref C) "__class__" = some (some (.builtin "object.__class__"))
 a5:PySem.W.specialIn K (.builtin "object.__class__") "__get__" = some (some (.builtin "getset_descriptor.__get__"))
 a6:PySem.W.takesIn K (.builtin "object.__class__")=some true
 a7:PySem.W.mroIn K C (.type "object")=some true
 a8:PySem.W.subIn K (.ref C) (.type "BaseException")=some true
 a9:PySem.W.kitOne K (.ref C) (.type "ValueError")=some true
 b1:bJ K x C "RibbonError"
 b2:bJ K x C "BadPegs"
 b3:bJ K x C "BadFrame"
 b4:bJ K x C "BadHalf"
 b5:bJ K x C "BadHook"
 b6:bJ K x C "BadName"
 b7:bJ K x C "NoNumber"
 b8:bJ K x C "NoFrame"
 b9:bJ K x C "NoStack"
 b10:bJ K x C "NoPlace"
 b11:bJ K x C "Taken"
 b12:bJ K x C "Full"
 b13:bJ K x C "NothingThere"
 b14:bJ K x C "BadTrade"
 b15:bJ K x C "Hangs"
 b16:bJ K x C "BadPage"
theorem rf{K:PySem.W.Frag}{x:Str}{C:Addr}(h:DB K x C):fm K x C=true:=by
 obtain⟨cd,ec,_⟩:=Option.bind_eq_some_iff.mp h.a7
 have fo:qu (PySem.W.findObj K C none "__class__")=true:=by
  unfold PySem.W.findObj
  rw[ec,Option.bind_some,h.a4,Option.bind_some]
  dsimp only
  rw[h.a5,Option.bind_some]
  dsimp only
  rw[h.a6,Option.bind_some]
  rfl
 have one:∀ {c:Str},bJ K x C c->(match PySem.W.nsIn K mainGlobals c with
  | some (some (.ref D))=>PySem.W.kitOne K (.ref C) (.ref D) == some (RL.cG x c)&&PySem.W.subIn K (.ref C) (.ref D) == some (RL.cG x c)
  | _=>true)=true:=fun⟨D,b,e1,e2,e3,e4⟩=>by
  rw[e1]
  dsimp only
  rw[e2,e3,e4,beq_self_eq_true]
  rfl
 unfold fm
 rw[h.a1,h.a2,h.a3,fo,h.a7,h.a8,ec,h.a9]
 simp only[beq_self_eq_true,Option.isSome_some,Bool.and_self,Bool.true_and]
 rw[List.all_eq_true]
 intro c hc
 simp only[cU,List.mem_cons,List.mem_nil_iff,or_false]at hc
 rcases hc with rfl | rfl | rfl | rfl | rfl | rfl | rfl | rfl | rfl | rfl | rfl | rfl | rfl | rfl | rfl | rfl
 ·exact one h.b1
 ·exact one h.b2
 ·exact one h.b3
 ·exact one h.b4
 ·exact one h.b5
 ·exact one h.b6
 ·exact one h.b7
 ·exact one h.b8
 ·exact one h.b9
 ·exact one h.b10
 ·exact one h.b11
 ·exact one h.b12
 ·exact one h.b13
 ·exact one h.b14
 ·exact one h.b15
 ·exact one h.b16
noncomputable def nP:Addr->Prop:=fun _=>False
noncomputable def jD(K:PySem.W.Frag)(H:Hp)(a:Addr)(xs:List V):Prop:=(∃ o,H a=some (.frz o (.lst xs)))\/SqL K (fun _=>none) a xs
theorem jD.seq{K:PySem.W.Frag}{H:Hp}{a:Addr}{xs:List V}(h:jD K H a xs):SqL K H a xs:=by
 rcases h with⟨o,h⟩ | (h | ⟨o,h⟩) | h
 ·exact .inl (.inr ⟨o,h⟩)
 ·cases h
 ·cases h
 ·exact .inr h
theorem jD.same{K:PySem.W.Frag}{H H':Hp}{a:Addr}{xs:List V}(e:aq H H')(h:jD K H a xs):jD K H' a xs:=by
 rcases h with⟨o,h⟩ | h
 ·exact .inl ⟨o,e _ _ h⟩
 ·exact .inr h
noncomputable def ExV(K:PySem.W.Frag)(H:Hp)(c:Str)(v:V):Prop:=∃ a o u D vs,v=.ref a/\H a=some (.frz o u)/\(o.cls=.ref D/\o.dict=none)/\o.data=.fields vs/\vs[2]?=some .none/\Cls K c D
theorem ExV.keep{K:PySem.W.Frag}{H H':Hp}{c:Str}{v:V}(h:ExV K H c v)(k:∀ b o u,H b=some (.frz o u)->H' b=some (.frz o u)):ExV K H' c v :=
 let ⟨a,o,u,D,vs,h1,h2,r⟩:=h;⟨a,o,u,D,vs,h1,k _ _ _ h2,r⟩
mutual
noncomputable def Rep(P:Addr->Prop)(K:PySem.W.Frag)(H:Hp):RL.D->V->Prop
 | .non,v=>v=.non
 | .bl b,v=>v=.bl b
 | .int i,v=>v=.int i
 | .str x,v=>v=.str x
 | .tup ds,v=>∃ a xs,v=.ref a/\H a=some (.tup xs)/\ae P K H ds xs
 | .lst ds,v=>∃ a xs,v=.ref a/\¬ P a/\H a=some (.lst xs)/\ae P K H ds xs
 | .dK ks ds,v=>∃ a xs,v=.ref a/\¬ P a/\H a=some (.dK (ks.zip xs))/\ks.length=ds.length/\ae P K H ds xs
 | .dT ks ds,v=>∃ a xs,v=.ref a/\¬ P a/\H a=some (.dT (ks.zip xs))/\ks.length=ds.length/\ae P K H ds xs
 | .scr ds,v=>∃ a xs,v=.ref a/\jD K H a xs/\ae P K H ds xs
 | .exc c,v=>ExV K H c v
noncomputable def ae(P:Addr->Prop)(K:PySem.W.Frag)(H:Hp):List RL.D->List V->Prop
 | [],xs=>xs=[]
 | d::r,xs=>∃ x t,xs=x::t/\Rep P K H d x/\ae P K H r t
end
mutual
theorem Rep.same{P:Addr->Prop}{K:PySem.W.Frag}{H H':Hp}(e:aq H H'):∀ {d:RL.D} {v:V},Rep P K H d v->Rep P K H' d v
 | .non,v,h=>by simpa[Rep]using h
 | .bl _,v,h=>by simpa[Rep]using h
 | .int _,v,h=>by simpa[Rep]using h
 | .str _,v,h=>by simpa[Rep]using h
 | .tup ds,v,h=>by
  rw[Rep]at h ⊢
  obtain⟨a,xs,e1,e2,e3⟩:=h
  exact⟨a,xs,e1,e _ _ e2,ae.same e e3⟩
 | .lst ds,v,h=>by
  rw[Rep]at h ⊢
  obtain⟨a,xs,e1,e0,e2,e3⟩:=h
  exact⟨a,xs,e1,e0,e _ _ e2,ae.same e e3⟩
 | .dK ks ds,v,h=>by
  rw[Rep]at h ⊢
  obtain⟨a,xs,e1,e0,e2,el,e3⟩:=h
  exact⟨a,xs,e1,e0,e _ _ e2,el,ae.same e e3⟩
 | .dT ks ds,v,h=>by
  rw[Rep]at h ⊢
  obtain⟨a,xs,e1,e0,e2,el,e3⟩:=h
  exact⟨a,xs,e1,e0,e _ _ e2,el,ae.same e e3⟩
 | .scr ds,v,h=>by
  rw[Rep]at h ⊢
  obtain⟨a,xs,e1,e2,e3⟩:=h
  exact⟨a,xs,e1,jD.same e e2,ae.same e e3⟩
 | .exc c,v,h=>by rw[Rep]at h ⊢;exact h.keep fun _ _ _ q=>e _ _ q
theorem ae.same{P:Addr->Prop}{K:PySem.W.Frag}{H H':Hp}(e:aq H H'):∀ {ds:List RL.D} {xs:List V},ae P K H ds xs->ae P K H' ds xs
 | [],xs,h=>by rw[ae]at h ⊢;exact h
 | d::r,xs,h=>by
  rw[ae]at h ⊢
  obtain⟨x,t,e1,e2,e3⟩:=h
  exact⟨x,t,e1,Rep.same e e2,ae.same e e3⟩
end
mutual
theorem Rep.weak{P P':Addr->Prop}{K:PySem.W.Frag}{H:Hp}(e:∀ a,P' a->P a):∀ {d:RL.D} {v:V},Rep P K H d v->Rep P' K H d v
 | .non,v,h=>by simpa[Rep]using h
 | .bl _,v,h=>by simpa[Rep]using h
 | .int _,v,h=>by simpa[Rep]using h
 | .str _,v,h=>by simpa[Rep]using h
 | .tup ds,v,h=>by
  rw[Rep]at h ⊢
  obtain⟨a,xs,e1,e2,e3⟩:=h
  exact⟨a,xs,e1,e2,ae.weak e e3⟩
 | .lst ds,v,h=>by
  rw[Rep]at h ⊢
  obtain⟨a,xs,e1,e0,e2,e3⟩:=h
  exact⟨a,xs,e1,fun z=>e0 (e a z),e2,ae.weak e e3⟩
 | .dK ks ds,v,h=>by
  rw[Rep]at h ⊢
  obtain⟨a,xs,e1,e0,e2,el,e3⟩:=h
  exact⟨a,xs,e1,fun z=>e0 (e a z),e2,el,ae.weak e e3⟩
 | .dT ks ds,v,h=>by
  rw[Rep]at h ⊢
  obtain⟨a,xs,e1,e0,e2,el,e3⟩:=h
  exact⟨a,xs,e1,fun z=>e0 (e a z),e2,el,ae.weak e e3⟩
 | .scr ds,v,h=>by
  rw[Rep]at h ⊢
  obtain⟨a,xs,e1,e2,e3⟩:=h
  exact⟨a,xs,e1,e2,ae.weak e e3⟩
 | .exc c,v,h=>by rw[Rep]at h ⊢;exact h
theorem ae.weak{P P':Addr->Prop}{K:PySem.W.Frag}{H:Hp}(e:∀ a,P' a->P a):∀ {ds:List RL.D} {xs:List V},ae P K H ds xs->ae P' K H ds xs
 | [],xs,h=>by rw[ae]at h ⊢;exact h
 | d::r,xs,h=>by
  rw[ae]at h ⊢
  obtain⟨x,t,e1,e2,e3⟩:=h
  exact⟨x,t,e1,Rep.weak e e2,ae.weak e e3⟩
end
theorem Rep.none{P:Addr->Prop}{K:PySem.W.Frag}{H:Hp}{d:RL.D}{v:V}(h:Rep P K H d v):Rep nP K H d v:=h.weak fun _ z=>z.elim
mutual
theorem Rep.imm{P P':Addr->Prop}{K:PySem.W.Frag}{H:Hp}:∀ {d:RL.D} {v:V},d.imm=true->Rep P K H d v->Rep P' K H d v
 | .non,v,_,h=>by simpa[Rep]using h
 | .bl _,v,_,h=>by simpa[Rep]using h
 | .int _,v,_,h=>by simpa[Rep]using h
 | .str _,v,_,h=>by simpa[Rep]using h
 | .tup ds,v,i,h=>by
  rw[Rep]at h ⊢
  rw[RL.D.imm]at i
  obtain⟨a,xs,e1,e2,e3⟩:=h
  exact⟨a,xs,e1,e2,ae.imm i e3⟩
 | .lst ds,v,i,h=>by rw[RL.D.imm]at i;cases i
 | .dK ks ds,v,i,h=>by rw[RL.D.imm]at i;cases i
 | .dT ks ds,v,i,h=>by rw[RL.D.imm]at i;cases i
 | .scr ds,v,i,h=>by
  rw[Rep]at h ⊢
  rw[RL.D.imm]at i
  obtain⟨a,xs,e1,e2,e3⟩:=h
  exact⟨a,xs,e1,e2,ae.imm i e3⟩
 | .exc c,v,i,h=>by rw[Rep]at h ⊢;exact h
theorem ae.imm{P P':Addr->Prop}{K:PySem.W.Frag}{H:Hp}:∀ {ds:List RL.D} {xs:List V},RL.aw ds=true->ae P K H ds xs->ae P' K H ds xs
 | [],xs,_,h=>by rw[ae]at h ⊢;exact h
 | d::r,xs,i,h=>by
  rw[ae]at h ⊢
  rw[RL.aw,Bool.and_eq_true]at i
  obtain⟨x,t,e1,e2,e3⟩:=h
  exact⟨x,t,e1,Rep.imm i.1 e2,ae.imm i.2 e3⟩
end
noncomputable def du(o:HO):Prop:=(∃ xs,o=.lst xs)\/(∃ kvs,o=.dK kvs)\/(∃ kvs,o=.dT kvs)
mutual
theorem Rep.upd{P:Addr->Prop}{K:PySem.W.Frag}{H:Hp}{a:Addr}{o o':HO}(ha:H a=some o)(m:du o)(p:P a):∀ {d:RL.D} {v:V},Rep P K H d v->Rep P K (upd H a o') d v
 | .non,v,h=>by simpa[Rep]using h
 | .bl _,v,h=>by simpa[Rep]using h
 | .int _,v,h=>by simpa[Rep]using h
 | .str _,v,h=>by simpa[Rep]using h
 | .tup ds,v,h=>by
  rw[Rep]at h ⊢
  obtain⟨b,xs,e1,e2,e3⟩:=h
  have n:b≠a:=oO e2 ha (by rcases m with⟨z,rfl⟩ | ⟨z,rfl⟩ | ⟨z,rfl⟩<;>(intro q;cases q))
  exact⟨b,xs,e1,by rw[L2.aJ n];exact e2,ae.upd ha m p e3⟩
 | .lst ds,v,h=>by
  rw[Rep]at h ⊢
  obtain⟨b,xs,e1,e0,e2,e3⟩:=h
  have n:b≠a:=fun z=>e0 (z▸p)
  exact⟨b,xs,e1,e0,by rw[L2.aJ n];exact e2,ae.upd ha m p e3⟩
 | .dK ks ds,v,h=>by
  rw[Rep]at h ⊢
  obtain⟨b,xs,e1,e0,e2,el,e3⟩:=h
  have n:b≠a:=fun z=>e0 (z▸p)
  exact⟨b,xs,e1,e0,by rw[L2.aJ n];exact e2,el,ae.upd ha m p e3⟩
 | .dT ks ds,v,h=>by
  rw[Rep]at h ⊢
  obtain⟨b,xs,e1,e0,e2,el,e3⟩:=h
  have n:b≠a:=fun z=>e0 (z▸p)
  exact⟨b,xs,e1,e0,by rw[L2.aJ n];exact e2,el,ae.upd ha m p e3⟩
 | .scr ds,v,h=>by
  rw[Rep]at h ⊢
  obtain⟨b,xs,e1,e2,e3⟩:=h
  refine⟨b,xs,e1,?_,ae.upd ha m p e3⟩
  rcases e2 with⟨q,e2⟩ | e2
  ·have n:b≠a:=oO e2 ha (by rcases m with⟨z,rfl⟩ | ⟨z,rfl⟩ | ⟨z,rfl⟩<;>(intro q;cases q))
   exact .inl ⟨q,by rw[L2.aJ n];exact e2⟩
  ·exact .inr e2
 | .exc c,v,h=>by
  rw[Rep]at h ⊢
  refine h.keep fun b ob u q=>?_
  have n:b≠a:=oO q ha (by rcases m with⟨z,rfl⟩ | ⟨z,rfl⟩ | ⟨z,rfl⟩<;>(intro q;cases q))
  rw[L2.aJ n]
  exact q
theorem ae.upd{P:Addr->Prop}{K:PySem.W.Frag}{H:Hp}{a:Addr}{o o':HO}(ha:H a=some o)(m:du o)(p:P a):∀ {ds:List RL.D} {xs:List V},ae P K H ds xs->ae P K (upd H a o') ds xs
 | [],xs,h=>by rw[ae]at h ⊢;exact h
 | d::r,xs,h=>by
  rw[ae]at h ⊢
  obtain⟨x,t,e1,e2,e3⟩:=h
  exact⟨x,t,e1,Rep.upd ha m p e2,ae.upd ha m p e3⟩
end
section lists
variable{P:Addr->Prop}{K:PySem.W.Frag}{H:Hp}
theorem ae.nil:ae P K H [] []:=by rw[ae]
theorem ae.cons{d:RL.D}{ds:List RL.D}{x:V}{xs:List V}(h:Rep P K H d x)(t:ae P K H ds xs):ae P K H (d::ds) (x::xs):=by rw[ae];exact⟨x,xs,rfl,h,t⟩
theorem ae.length:∀ {ds:List RL.D} {xs:List V},ae P K H ds xs->ds.length=xs.length
 | [],xs,h=>by rw[ae]at h;rw[h];rfl
 | d::r,xs,h=>by
  rw[ae]at h
  obtain⟨x,t,rfl,_,e3⟩:=h
  rw[List.length_cons,List.length_cons,ae.length e3]
theorem ae.append:∀ {ds es:List RL.D} {xs ys:List V},ae P K H ds xs->ae P K H es ys->ae P K H (ds++es) (xs++ys)
 | [],_,xs,_,h,k=>by rw[ae]at h;rw[h];exact k
 | d::r,_,xs,_,h,k=>by
  rw[ae]at h
  obtain⟨x,t,rfl,e2,e3⟩:=h
  exact ae.cons e2 (ae.append e3 k)
theorem ae.get:∀ {ds:List RL.D} {xs:List V} {i:Nat} {d:RL.D},ae P K H ds xs->ds[i]?=some d->∃ x,xs[i]?=some x/\Rep P K H d x
 | [],_,i,d,_,e=>by simp at e
 | d::r,xs,0,d',h,e=>by
  rw[ae]at h
  obtain⟨x,t,rfl,e2,_⟩:=h
  simp at e;subst e
  exact⟨x,rfl,e2⟩
 | d::r,xs,i+1,d',h,e=>by
  rw[ae]at h
  obtain⟨x,t,rfl,_,e3⟩:=h
  obtain⟨y,h1,h2⟩:=ae.get (i:=i) e3 (by simpa using e)
  exact⟨y,by simpa using h1,h2⟩
theorem ae.set:∀ {ds:List RL.D} {xs:List V} (i:Nat) {d:RL.D} {x:V},ae P K H ds xs->Rep P K H d x->ae P K H (ds.set i d) (xs.set i x)
 | [],xs,_,_,_,h,_=>by rw[ae]at h;rw[h];exact ae.nil
 | d::r,xs,0,_,_,h,k=>by
  rw[ae]at h
  obtain⟨x,t,rfl,_,e3⟩:=h
  exact ae.cons k e3
 | d::r,xs,i+1,_,_,h,k=>by
  rw[ae]at h
  obtain⟨x,t,rfl,e2,e3⟩:=h
  exact ae.cons e2 (ae.set i e3 k)
theorem ae.take:∀ {ds:List RL.D} {xs:List V} (n:Nat),ae P K H ds xs->ae P K H (ds.take n) (xs.take n)
 | _,_,0,_=>by simpa using ae.nil
 | [],xs,n+1,h=>by rw[ae]at h;rw[h];simpa using ae.nil
 | d::r,xs,n+1,h=>by
  rw[ae]at h
  obtain⟨x,t,rfl,e2,e3⟩:=h
  exact ae.cons e2 (ae.take n e3)
theorem ae.drop:∀ {ds:List RL.D} {xs:List V} (n:Nat),ae P K H ds xs->ae P K H (ds.drop n) (xs.drop n)
 | _,_,0,h=>h
 | [],xs,n+1,h=>by rw[ae]at h;rw[h];simpa using ae.nil
 | d::r,xs,n+1,h=>by
  rw[ae]at h
  obtain⟨x,t,rfl,_,e3⟩:=h
  exact ae.drop n e3
theorem ae.rev{ds:List RL.D}{xs:List V}(h:ae P K H ds xs):ae P K H ds.reverse xs.reverse:=by
 induction ds generalizing xs with
 | nil=>rw[ae]at h;rw[h];exact ae.nil
 |cons d r ih=>
  rw[ae]at h
  obtain⟨x,t,rfl,e2,e3⟩:=h
  rw[List.reverse_cons,List.reverse_cons]
  exact ae.append (ih e3) (ae.cons e2 ae.nil)
theorem ae.rep{ds:List RL.D}{xs:List V}(h:ae P K H ds xs):∀ n:Nat,ae P K H (List.replicate n ds).flatten (List.replicate n xs).flatten
 | 0=>ae.nil
 | n+1=>by
  rw[List.replicate_succ,List.replicate_succ,List.flatten_cons,List.flatten_cons]
  exact ae.append h (ae.rep h n)
end lists
noncomputable def RV0(K:PySem.W.Frag)(σD:RL.St)(σ:L2.St)(H:Hp):Prop:=σD.length<=σ.length/\∀ (i:Nat) (d:RL.D),σD[i]?=some (some d)->∃ v,σ[i]?=some (some v)/\Rep nP K H d v
theorem RV0.same{K:PySem.W.Frag}{σD:RL.St}{σ:L2.St}{H H':Hp}(h:RV0 K σD σ H)(e:aq H H'):RV0 K σD σ H':=⟨h.1,fun i d q=>by
 obtain⟨v,h1,h2⟩:=h.2 i d q
 exact⟨v,h1,h2.same e⟩⟩
noncomputable def kE:RL.D->Bool
 | .lst _=>true
 | .dK _ _=>true
 | .dT _ _=>true
 | _=>false
structure Res(K:PySem.W.Frag)(σD:RL.St)(σ:L2.St)(H:Hp)(e:RL.E)(d:RL.D)(v:V)(H':Hp):Prop where
 same:aq H H'
 rep:Rep nP K H' d v
 fresh:RL.aF e=true->kE d=true->∀ a,v=.ref a->H a=none
 av:∀ M,RL.avE M e=true->∀ P:Addr->Prop,(∀ a,P a->H a≠none)->(∀ (j:Nat) (dj:RL.D) (vj:V),M.contains j=false->σD[j]?=some (some dj)->σ[j]?=some (some vj)->Rep P K H dj vj)->Rep P K H' d v
noncomputable def tE(K:PySem.W.Frag)(cl:RL.Cl)(e:RL.E):TE:=fun σ H Q=>∃ σD d,RV0 K σD σ H/\RL.ev cl σD e=some d/\∀ v H',Res K σD σ H e d v H'->Q v H'
noncomputable def SE(X:Cx)(cl:RL.Cl)(e:Expr)(e':RL.E):Prop:=PE X e (tE X.K cl e')
theorem PE.weak{X:Cx}{e:Expr}{t t':TE}(h:PE X e t)(w:∀ σ H Q,t' σ H Q->t σ H Q):PE X e t':=fun pins s σ H Q I q=>h pins s σ H Q I (w σ H Q q)
noncomputable def tEs(K:PySem.W.Frag)(cl:RL.Cl)(es:RL.Es):TA:=fun σ H Q=>∃ σD ds,RV0 K σD σ H/\RL.evs cl σD es=some ds/\∀ vs H',aq H H'->ae nP K H' ds vs->Q vs H'
noncomputable def SEs(X:Cx)(cl:RL.Cl)(es:List Expr)(es':RL.Es):Prop:=PA X es (tEs X.K cl es')
section rules
variable{X:Cx}{cl:RL.Cl}{a b c:Expr}{a' b' c':RL.E}{pos:Pos}
theorem two{σD:RL.St}{σ:L2.St}{H:Hp}{x y:RL.D}{R:V->V->Hp->Prop}(rv:RV0 X.K σD σ H)(ea:RL.ev cl σD a'=some x)(eb:RL.ev cl σD b'=some y)
 (k:∀ v u H1 H2,aq H H1->aq H1 H2->Rep nP X.K H2 x v->Rep nP X.K H2 y u->Res X.K σD σ H a' x v H1->Res X.K σD σ H1 b' y u H2->R v u H2) :
  tE X.K cl a' σ H fun v H1=>tE X.K cl b' σ H1 fun u H2=>R v u H2 :=
 ⟨σD,x,rv,ea,fun v H1 r1=>⟨σD,y,rv.same r1.same,eb,fun u H2 r2=>k v u H1 H2 r1.same r2.same (r1.rep.same r2.same) r2.rep r1 r2⟩⟩
theorem bind_some{α β:Type}{o:Option α}{f:α->Option β}{y:β}(h:o.bind f=some y):∃ x,o=some x/\f x=some y:=by
 cases o with
 | none=>cases h
 | some x=>exact⟨x,rfl,h⟩
theorem map_some{α β:Type}{o:Option α}{f:α->β}{y:β}(h:o.map f=some y):∃ x,o=some x/\f x=y:=by
 cases o with
 | none=>cases h
 | some x=>exact⟨x,rfl,Option.some.inj h⟩
theorem bV:RL.most<=sizeLine:=by decide
theorem aq.bY{H:Hp}{p:Addr}{o:HO}(hn:H p=none):aq H (upd H p o):=fun b u e=>by rw[aJ (aT e hn)];exact e
theorem Ey{i:Nat}{x:Str}(hN:X.N[i]?=some x)(hv:Vis X.env.scope x)(hd:(x == ("__debug__" : Str))=false)(hcd:(x == ("__classdict__" : Str))=false):SE X cl (.Name x pos) (.var i):=by
 refine PE.weak (ju hN hv hd hcd) fun σ H Q h=>?_
 obtain⟨σD,d,rv,e,k⟩:=h
 have e':σD[i]?=some (some d):=by
  rw[RL.ev]at e
  obtain⟨o,h1,h2⟩:=bind_some e
  cases o with
  | none=>cases h2
  | some z=>cases h2;exact h1
 obtain⟨v,h1,h2⟩:=rv.2 i d e'
 refine⟨v,h1,k v H ⟨aq.refl H,h2,fun z=>(by cases z),fun M z P hP av=>?_⟩⟩
 rw[RL.avE]at z
 exact av i d v (by simpa using z) e' h1
theorem lT{j:Nat}{k:Const}{d:RL.D}{v:V}(h:PE X (.Constant k j pos) (tC v))(r:∀ P H,Rep P X.K H d v)(hm:kE d=false):SE X cl (.Constant k j pos) (.cst d):=by
 refine PE.weak h fun σ H Q q=>?_
 obtain⟨σD,d',rv,e,k⟩:=q
 rw[RL.ev]at e
 cases e
 exact k v H ⟨aq.refl H,r _ _,fun z=>(by cases z),fun M z=>nomatch (show false=true from z)⟩
theorem DC{x:Str}{i:Int}{u:Value}(h:PE X (.Name x pos) (tC (.int i))):SE X cl (.Name x pos) (.glb x i):=by
 refine PE.weak h fun σ H Q q=>?_
 obtain⟨σD,d',rv,e,k⟩:=q
 rw[RL.ev]at e
 cases e
 exact k _ H ⟨aq.refl H,(by rw[Rep]),fun z=>(by cases z),fun M z=>nomatch (show false=true from z)⟩
end rules
section rules
variable{X:Cx}{cl:RL.Cl}{a b c:Expr}{a' b' c':RL.E}{pos:Pos}
theorem cC{σD:RL.St}{σ:L2.St}{H H':Hp}{e:RL.E}{d:RL.D}{v:V}(sm:aq H H')(r:Rep nP X.K H' d v)(im:d.imm=true):Res X.K σD σ H e d v H' where
 same:=sm
 rep:=r
 fresh:=fun _ m=>by
  cases d with
  | lst _=>cases im
  | dK _ _=>cases im
  | dT _ _=>cases im
  | _=>cases m
 av:=fun M _ P _ _=>r.imm im
theorem xQ:OpR X (binaryOp .FloorDiv) (rI (fun _ j=>0<j/\j<2 ^ 200) fun i j=>.int (i / j)):=opI fun i j _ _ _ _ _ hc q=>by
 refine floordiv_int (by lia) ?_ (.inl (PyProof.noPylong_of_log2 ?_))
 ·rw[Int.fdiv_eq_ediv_of_nonneg _ (by lia)]
  exact q
 ·have h0:j.natAbs≠0:=by lia
  have h1:j.natAbs<2 ^ 200:=by
   have:=hc.2
   omega
  have h2:j.natAbs.log2<200:=(Nat.log2_lt h0).mpr h1
  lia
theorem dF{σD:RL.St}{σ:L2.St}{H H1:Hp}{e:RL.E}{ds:List RL.D}{xs:List V}{p:Addr}(sm:aq H H1)(hn:H1 p=none)(r:ae nP X.K H1 ds xs)(hav:∀ M,RL.avE M e=false):Res X.K σD σ H e (.lst ds) (.ref p) (upd H1 p (.lst xs)) where
 same:=sm.trans (aq.bY hn)
 rep:=by
  rw[Rep]
  exact⟨p,xs,rfl,fun z=>z,aR,r.same (aq.bY hn)⟩
 fresh:=fun _ _ a z=>by
  cases z
  exact sm.free hn
 av:=fun M z=>by rw[hav M]at z;cases z
theorem fg{σD:RL.St}{σ:L2.St}{H H1:Hp}{e:RL.E}{ds:List RL.D}{xs:List V}{p:Addr}(sm:aq H H1)(hn:H1 p=none)(r:ae nP X.K H1 ds xs)(hav:∀ M,RL.avE M e=false):Res X.K σD σ H e (.tup ds) (.ref p) (upd H1 p (.tup xs)) where
 same:=sm.trans (aq.bY hn)
 rep:=by
  rw[Rep]
  exact⟨p,xs,rfl,aR,r.same (aq.bY hn)⟩
 fresh:=fun _ m=>by cases m
 av:=fun M z=>by rw[hav M]at z;cases z
noncomputable def pM:RL.Bop->Operator
 | .add=>.Add
 | .sub=>.Sub
 | .mul=>.Mult
 | .fdiv=>.FloorDiv
 | .mod=>.Mod
 | .pow=>.Pow
theorem aX{P:Addr->Prop}{K:PySem.W.Frag}{H:Hp}{i:Int}:Rep P K H (.int i) (.int i):=by rw[Rep]
theorem qd{P:Addr->Prop}{K:PySem.W.Frag}{H:Hp}{i:Bool}:Rep P K H (.bl i) (.bl i):=by rw[Rep]
theorem iy{P:Addr->Prop}{K:PySem.W.Frag}{H:Hp}{i:Str}:Rep P K H (.str i) (.str i):=by rw[Rep]
theorem ag{P:Addr->Prop}{K:PySem.W.Frag}{H:Hp}{i:Int}{v:V}(h:Rep P K H (.int i) v):v=.int i:=by rw[Rep]at h;exact h
theorem aW{P:Addr->Prop}{K:PySem.W.Frag}{H:Hp}{i:Bool}{v:V}(h:Rep P K H (.bl i) v):v=.bl i:=by rw[Rep]at h;exact h
theorem aS{P:Addr->Prop}{K:PySem.W.Frag}{H:Hp}{i:Str}{v:V}(h:Rep P K H (.str i) v):v=.str i:=by rw[Rep]at h;exact h
noncomputable def l3(X:Cx)(o:RL.Bop)(r:R2):Prop :=
 ∀ (σD:RL.St) (σ:L2.St) (H H2:Hp) (e:RL.E) (x y d:RL.D) (v u:V) (Q:VK),aq H H2->Rep nP X.K H2 x v->Rep nP X.K H2 y u->RL.aI o x y=some d->(∀ M,RL.avE M e=false) ->
  (∀ w H',Res X.K σD σ H e d w H'->Q w H')->r v u H2 Q
theorem fZ{o:RL.Bop}{r:R2}(ho:OpR X (binaryOp (pM o)) r)(ok:l3 X o r)(ha:SE X cl a a')(hb:SE X cl b b'):SE X cl (.BinOp a (pM o) b pos) (.bin o a' b'):=by
 refine PE.weak (E5 ho ha hb) fun σ H Q h=>?_
 obtain⟨σD,d,rv,e,k⟩:=h
 rw[RL.ev]at e
 obtain⟨x,ea,e⟩:=bind_some e
 obtain⟨y,eb,e⟩:=bind_some e
 refine two rv ea eb fun v u H1 H2 s1 s2 rx ry _ _=>?_
 exact ok σD σ H H2 _ x y d v u Q (s1.trans s2) rx ry e (fun _=>rfl) k
end rules
section rules
variable{X:Cx}{cl:RL.Cl}{a b c:Expr}{a' b' c':RL.E}{pos:Pos}
theorem cE{α:Type}{c:Prop} [Decidable c]{a d:α}(h:(if c then some a else none)=some d):c/\d=a:=by
 by_cases hc:c
 ·rw[if_pos hc]at h
  exact⟨hc,(Option.some.inj h).symm⟩
 ·rw[if_neg hc]at h
  cases h
theorem noN{α:Type}{o:Option α}{d:α}{p:Prop}(e:o=none)(h:o=some d):p:=by rw[e]at h;cases h
theorem ye{x y d:RL.D}(h:RL.aI .add x y=some d):(∃ i j,x=.int i/\y=.int j/\d=.int (i+j))\/(∃ i j:Str,x=.str i/\y=.str j/\i.length+j.length<=RL.most/\d=.str (i++j)) \/
  (∃ i j,x=.lst i/\y=.lst j/\i.length+j.length<=RL.most/\d=.lst (i++j)) \/
  (∃ i j,x=.tup i/\y=.tup j/\(i.length+j.length<=RL.most/\0<i.length)/\d=.tup (i++j)):=by
 cases x with
 | int i=>cases y with
  | int j=>cases h;exact .inl ⟨i,j,rfl,rfl,rfl⟩
  | _=>exact noN rfl h
 | str i=>cases y with
  |str j=>
   obtain⟨hc,e⟩:=cE h
   exact .inr (.inl ⟨i,j,rfl,rfl,hc,e⟩)
  | _=>exact noN rfl h
 | lst i=>cases y with
  |lst j=>
   obtain⟨hc,e⟩:=cE h
   exact .inr (.inr (.inl ⟨i,j,rfl,rfl,hc,e⟩))
  | _=>exact noN rfl h
 | tup i=>cases y with
  |tup j=>
   obtain⟨hc,e⟩:=cE h
   exact .inr (.inr (.inr ⟨i,j,rfl,rfl,hc,e⟩))
  | _=>exact noN rfl h
 | _=>exact noN rfl h
theorem ya{x y d:RL.D}(h:RL.aI .mul x y=some d):(∃ i j,x=.int i/\y=.int j/\uV i j/\d=.int (i*j)) \/
  (∃ i j,x=.lst i/\y=.int j/\(0<=j/\j<=RL.most/\i.length*j.toNat<=RL.most)/\d=.lst (List.replicate j.toNat i).flatten):=by
 cases x with
 | int i=>cases y with
  |int j=>
   obtain⟨hc,e⟩:=cE h
   exact .inl ⟨i,j,rfl,rfl,hc,e⟩
  | _=>exact noN rfl h
 | lst i=>cases y with
  |int j=>
   obtain⟨hc,e⟩:=cE h
   exact .inr ⟨i,j,rfl,rfl,hc,e⟩
  | _=>exact noN rfl h
 | _=>exact noN rfl h
theorem gH{o:RL.Bop}{x y d:RL.D}(h:RL.aI o x y=some d)(ho:o≠.add)(hm:o≠.mul):∃ i j,x=.int i/\y=.int j/\RL.aI o (.int i) (.int j)=some d:=by
 have no:∀ {a b:RL.D},RL.aI .sub a b=none->RL.aI .fdiv a b=none->RL.aI .mod a b=none->RL.aI .pow a b=none->RL.aI o a b=some d->False:=fun e1 e2 e3 e4 h=>by
  cases o with
  | add=>exact ho rfl
  | mul=>exact hm rfl
  | sub=>rw[e1]at h;cases h
  | fdiv=>rw[e2]at h;cases h
  | mod=>rw[e3]at h;cases h
  | pow=>rw[e4]at h;cases h
 cases x with
 | int i=>cases y with
  | int j=>exact⟨i,j,rfl,rfl,h⟩
  | _=>exact(no rfl rfl rfl rfl h).elim
 | _=>exact(no rfl rfl rfl rfl h).elim
theorem yL{x y d:RL.D}(h:RL.aI .sub x y=some d):∃ i j,x=.int i/\y=.int j/\d=.int (i-j):=by
 obtain⟨i,j,e1,e2,h⟩:=gH h (by decide) (by decide)
 cases h
 exact⟨i,j,e1,e2,rfl⟩
theorem vx{x y d:RL.D}(h:RL.aI .fdiv x y=some d):∃ i j,x=.int i/\y=.int j/\(0<j/\j<2 ^ 200)/\d=.int (i / j):=by
 obtain⟨i,j,e1,e2,h⟩:=gH h (by decide) (by decide)
 obtain⟨hc,e⟩:=cE h
 exact⟨i,j,e1,e2,hc,e⟩
theorem zi{x y d:RL.D}(h:RL.aI .mod x y=some d):∃ i j,x=.int i/\y=.int j/\0<j/\d=.int (i%j):=by
 obtain⟨i,j,e1,e2,h⟩:=gH h (by decide) (by decide)
 obtain⟨hc,e⟩:=cE h
 exact⟨i,j,e1,e2,hc,e⟩
theorem yj{x y d:RL.D}(h:RL.aI .pow x y=some d):∃ i j,x=.int i/\y=.int j/\(0<=j/\j<=1000/\i.natAbs<2 ^ 64)/\d=.int (i ^ j.toNat):=by
 obtain⟨i,j,e1,e2,h⟩:=gH h (by decide) (by decide)
 obtain⟨hc,e⟩:=cE h
 exact⟨i,j,e1,e2,hc,e⟩
theorem aG{P:Addr->Prop}{K:PySem.W.Frag}{H:Hp}{ds:List RL.D}{v:V}(h:Rep P K H (.lst ds) v):∃ a xs,v=.ref a/\¬ P a/\H a=some (.lst xs)/\ae P K H ds xs:=by rw[Rep]at h;exact h
theorem bj{P:Addr->Prop}{K:PySem.W.Frag}{H:Hp}{ds:List RL.D}{v:V}(h:Rep P K H (.tup ds) v):∃ a xs,v=.ref a/\H a=some (.tup xs)/\ae P K H ds xs:=by rw[Rep]at h;exact h
theorem Cr:l3 X .sub (rI0 fun i j=>.int (i-j)):=by
 intro σD σ H H2 e x y d v u Q sm rx ry h hav k
 obtain⟨i,j,rfl,rfl,rfl⟩:=yL h
 exact⟨i,j,ag rx,ag ry,k _ _ (cC sm aX rfl)⟩
theorem Ax:l3 X .fdiv (rI (fun _ j=>0<j/\j<2 ^ 200) fun i j=>.int (i / j)):=by
 intro σD σ H H2 e x y d v u Q sm rx ry h hav k
 obtain⟨i,j,rfl,rfl,hc,rfl⟩:=vx h
 exact⟨i,j,ag rx,ag ry,hc,k _ _ (cC sm aX rfl)⟩
theorem Cm:l3 X .mod (rI (fun _ j=>0<j) fun i j=>.int (i%j)):=by
 intro σD σ H H2 e x y d v u Q sm rx ry h hav k
 obtain⟨i,j,rfl,rfl,hc,rfl⟩:=zi h
 exact⟨i,j,ag rx,ag ry,hc,k _ _ (cC sm aX rfl)⟩
theorem Ee:l3 X .pow (rI CS fun i j=>.int (i ^ j.toNat)):=by
 intro σD σ H H2 e x y d v u Q sm rx ry h hav k
 obtain⟨i,j,rfl,rfl,hc,rfl⟩:=yj h
 exact⟨i,j,ag rx,ag ry,⟨hc.1,Int.le_trans hc.2.1 (by decide),hc.2.2⟩,k _ _ (cC sm aX rfl)⟩
theorem Eo(ha:SE X cl a a')(hb:SE X cl b b'):SE X cl (.BinOp a .Add b pos) (.bin .add a' b'):=by
 refine fZ (o:=.add) (C9.or (um.or (CY.or A8))) ?_ ha hb
 intro σD σ H H2 e x y d v u Q sm rx ry h hav k
 rcases ye h with⟨i,j,rfl,rfl,rfl⟩ | ⟨i,j,rfl,rfl,hc,rfl⟩ | ⟨i,j,rfl,rfl,hc,rfl⟩ | ⟨i,j,rfl,rfl,⟨hc,ha⟩,rfl⟩
 ·exact .inl ⟨i,j,ag rx,ag ry,k _ _ (cC sm aX rfl)⟩
 ·exact .inr (.inl ⟨i,j,aS rx,aS ry,Nat.le_trans hc bV,k _ _ (cC sm iy rfl)⟩)
 ·obtain⟨p,xs,e1,_,e2,e3⟩:=aG rx
  obtain⟨q,ys,f1,_,f2,f3⟩:=aG ry
  refine .inr (.inr (.inl ⟨p,q,xs,ys,e1,f1,e2,f2,?_,fun l hl=>k _ _ (dF sm hl (e3.append f3) hav)⟩))
  rw[<-e3.length,<-f3.length]
  exact Nat.le_trans hc bV
 ·obtain⟨p,xs,e1,e2,e3⟩:=bj rx
  obtain⟨q,ys,f1,f2,f3⟩:=bj ry
  refine .inr (.inr (.inr ⟨p,q,xs,ys,e1,f1,SqT.of e2,SqT.of f2,fun z=>?_,?_,fun z=>?_,fun _ l hl=>k _ _ (fg sm hl (e3.append f3) hav)⟩))
  ·rw[e3.length,z]at ha
   exact absurd ha (by decide)
  ·rw[<-e3.length,<-f3.length]
   exact Nat.le_trans hc bV
  ·have hj:j=[]:=by
    have:=f3.length
    rw[z]at this
    exact List.length_eq_zero_iff.mp this
   subst hj
   rw[List.append_nil]at k
   exact k _ _ ⟨sm,e1▸rx,fun _ m=>(by cases m),fun M z=>by rw[hav M]at z;cases z⟩
theorem BX(ha:SE X cl a a')(hb:SE X cl b b'):SE X cl (.BinOp a .Mult b pos) (.bin .mul a' b'):=by
 refine fZ (o:=.mul) (BM.or En) ?_ ha hb
 intro σD σ H H2 e x y d v u Q sm rx ry h hav k
 rcases ya h with⟨i,j,rfl,rfl,hc,rfl⟩ | ⟨i,j,rfl,rfl,hc,rfl⟩
 ·exact .inl ⟨i,j,ag rx,ag ry,hc,k _ _ (cC sm aX rfl)⟩
 ·obtain⟨p,xs,e1,_,e2,e3⟩:=aG rx
  refine .inr ⟨p,j,xs,e1,ag ry,e2,?_,?_,?_,fun l hl=>k _ _ (dF sm hl (e3.rep _) hav)⟩
  ·exact Int.le_trans (by decide) hc.1
  ·exact Int.lt_of_le_of_lt hc.2.1 (by decide)
  ·rw[<-e3.length]
   exact Nat.le_trans hc.2.2 bV
theorem Eg{o:RL.Bop}(ha:SE X cl a a')(hb:SE X cl b b'):SE X cl (.BinOp a (pM o) b pos) (.bin o a' b'):=by
 cases o with
 | add=>exact Eo ha hb
 | mul=>exact BX ha hb
 | sub=>exact fZ (o:=.sub) Ec Cr ha hb
 | fdiv=>exact fZ (o:=.fdiv) xQ Ax ha hb
 | mod=>exact fZ (o:=.mod) Ef Cm ha hb
 | pow=>exact fZ (o:=.pow) CQ Ee ha hb
theorem dM{σD:RL.St}{σ:L2.St}{H H':Hp}{e:RL.E}{k:Bool}(sm:aq H H'):Res X.K σD σ H e (.bl k) (.bl k) H':=cC sm qd rfl
theorem CT{rest:List Expr}(ha:SE X cl a a')(hb:SE X cl (.BoolOp .And (b::rest) pos) b'):SE X cl (.BoolOp .And (a::b::rest) pos) (.and a' b'):=by
 refine PE.weak (DX ha hb) fun σ H Q h=>?_
 obtain⟨σD,d,rv,e,k⟩:=h
 rw[RL.ev]at e
 obtain⟨x,ea,e⟩:=bind_some e
 refine⟨σD,x,rv,ea,fun v H1 r1=>?_⟩
 cases x with
 |bl t=>
  refine⟨t,aW r1.rep,?_⟩
  cases t with
  |true=>
   refine fJ ?_
   refine⟨σD,d,rv.same r1.same,e,fun w H2 r2=>k w H2 ?_⟩
   exact⟨r1.same.trans r2.same,r2.rep,fun z=>(by cases z),fun M z=>nomatch (show false=true from z)⟩
  |false=>
   refine gm ?_
   cases e
   exact k _ _ (dM r1.same)
 | _=>cases e
theorem Fh{rest:List Expr}(ha:SE X cl a a')(hb:SE X cl (.BoolOp .Or (b::rest) pos) b'):SE X cl (.BoolOp .Or (a::b::rest) pos) (.or a' b'):=by
 refine PE.weak (Fg ha hb) fun σ H Q h=>?_
 obtain⟨σD,d,rv,e,k⟩:=h
 rw[RL.ev]at e
 obtain⟨x,ea,e⟩:=bind_some e
 refine⟨σD,x,rv,ea,fun v H1 r1=>?_⟩
 cases x with
 |bl t=>
  refine⟨t,aW r1.rep,?_⟩
  cases t with
  |false=>
   refine gm ?_
   refine⟨σD,d,rv.same r1.same,e,fun w H2 r2=>k w H2 ?_⟩
   exact⟨r1.same.trans r2.same,r2.rep,fun z=>(by cases z),fun M z=>nomatch (show false=true from z)⟩
  |true=>
   refine fJ ?_
   cases e
   exact k _ _ (dM r1.same)
 | _=>cases e
theorem x6{op}(ha:SE X cl a a'):SE X cl (.BoolOp op [a] pos) a':=BQ ha
noncomputable def tT(K:PySem.W.Frag)(cl:RL.Cl)(e:RL.E):TT:=fun σ H Q=>∃ σD k,RV0 K σD σ H/\(RL.ev cl σD e).bind RL.truth=some k/\∀ H',aq H H'->Q k H'
noncomputable def ST(X:Cx)(cl:RL.Cl)(e:Expr)(e':RL.E):Prop:=PT X e (tT X.K cl e')
noncomputable def SW(X:Cx)(cl:RL.Cl)(e:Expr)(e':RL.E):Prop:=PW X e (tT X.K cl e')
theorem PT.weak{e:Expr}{t t':TT}(h:PT X e t)(w:∀ σ H Q,t' σ H Q->t σ H Q):PT X e t':=fun pins s σ H Q I q=>h pins s σ H Q I (w σ H Q q)
theorem PW.weak{e:Expr}{t t':TT}(h:PW X e t)(w:∀ σ H Q,t' σ H Q->t σ H Q):PW X e t':=fun wh pins s σ H Q I q=>h wh pins s σ H Q I (w σ H Q q)
theorem ae.isEmpty{P:Addr->Prop}{K:PySem.W.Frag}{H:Hp}{ds:List RL.D}{xs:List V}(h:ae P K H ds xs):ds.isEmpty=xs.isEmpty:=by
 cases ds with
 | nil=>rw[ae]at h;rw[h];rfl
 |cons d r=>
  rw[ae]at h
  obtain⟨x,t,rfl,_⟩:=h
  rfl
theorem De{K:PySem.W.Frag}{H:Hp}{d:RL.D}{v:V}{k:Bool}(r:Rep nP K H d v)(h:RL.truth d=some k):uh K v H k:=by
 cases d<;>simp only[RL.truth]at h<;>first | (cases h;done) | skip
 case bl t=>cases h;rw[aW r];exact rfl
 case int t =>
  cases h
  rw[ag r]
  simp[uh]
 case tup ds =>
  obtain⟨a,xs,rfl,e,rs⟩:=bj r
  cases h
  exact .inr (.inl ⟨xs,SqT.of e,by rw[rs.isEmpty]⟩)
 case lst ds =>
  obtain⟨a,xs,rfl,_,e,rs⟩:=aG r
  cases h
  exact .inl ⟨xs,SqL.of e,by rw[rs.isEmpty]⟩
theorem yQ(ha:SE X cl a a')(he:∀ whole,isTrue a X.env whole=(do let v <- whole;standAt a.pos;holding [v] (truthy v))):ST X cl a a':=by
 refine PT.weak (yE ha he) fun σ H Q h=>?_
 obtain⟨σD,k,rv,e,q⟩:=h
 obtain⟨d,e1,e2⟩:=bind_some e
 exact⟨σD,d,rv,e1,fun v H1 r1=>⟨k,De r1.rep e2,q H1 r1.same⟩⟩
theorem wa{op:BoolOp}(ha:ST X cl a a'):SW X cl (.BoolOp op [a] pos) a':=by
 cases op with
 | And=>exact A0 ha
 | Or=>exact Dw ha
theorem vZ{σD:RL.St}{k:Bool}(h:(RL.ev cl σD (.and a' b')).bind RL.truth=some k):∃ t,(RL.ev cl σD a').bind RL.truth=some t/\(if t=true then(RL.ev cl σD b').bind RL.truth=some k else k=false):=by
 rw[RL.ev]at h
 cases ea:RL.ev cl σD a' with
 | none=>rw[ea]at h;cases h
 |some x=>
  rw[ea]at h
  cases x with
  |bl t=>
   cases t with
   | true=>exact⟨true,rfl,fJ h⟩
   | false=>exact⟨false,rfl,gm (by cases h;rfl)⟩
  | _=>exact noN rfl h
theorem zo{σD:RL.St}{k:Bool}(h:(RL.ev cl σD (.or a' b')).bind RL.truth=some k):∃ t,(RL.ev cl σD a').bind RL.truth=some t/\(if t=true then k=true else(RL.ev cl σD b').bind RL.truth=some k):=by
 rw[RL.ev]at h
 cases ea:RL.ev cl σD a' with
 | none=>rw[ea]at h;cases h
 |some x=>
  rw[ea]at h
  cases x with
  |bl t=>
   cases t with
   | true=>exact⟨true,rfl,fJ (by cases h;rfl)⟩
   | false=>exact⟨false,rfl,gm h⟩
  | _=>exact noN rfl h
theorem Dz{rest:List Expr}(ha:ST X cl a a')(hb:SW X cl (.BoolOp .And (b::rest) pos) b'):SW X cl (.BoolOp .And (a::b::rest) pos) (.and a' b'):=by
 refine PW.weak (BF ha hb) fun σ H Q h=>?_
 obtain⟨σD,k,rv,e,q⟩:=h
 obtain⟨t,e1,e2⟩:=vZ e
 refine⟨σD,t,rv,e1,fun H1 s1=>?_⟩
 cases t with
 | true=>exact fJ ⟨σD,k,rv.same s1,e2,fun H2 s2=>q H2 (s1.trans s2)⟩
 |false=>
  have e2:k=false:=e2
  subst e2
  exact gm (q H1 s1)
theorem EB{rest:List Expr}(ha:ST X cl a a')(hb:SW X cl (.BoolOp .Or (b::rest) pos) b'):SW X cl (.BoolOp .Or (a::b::rest) pos) (.or a' b'):=by
 refine PW.weak (EZ ha hb) fun σ H Q h=>?_
 obtain⟨σD,k,rv,e,q⟩:=h
 obtain⟨t,e1,e2⟩:=zo e
 refine⟨σD,t,rv,e1,fun H1 s1=>?_⟩
 cases t with
 |true=>
  have e2:k=true:=e2
  subst e2
  exact fJ (q H1 s1)
 | false=>exact gm ⟨σD,k,rv.same s1,e2,fun H2 s2=>q H2 (s1.trans s2)⟩
theorem Cq(ha:ST X cl a a'):ST X cl (.UnaryOp .Not a pos) (.not a'):=by
 refine PT.weak (BO ha) fun σ H Q h=>?_
 obtain⟨σD,k,rv,e,q⟩:=h
 rw[RL.ev]at e
 obtain⟨d,e1,e2⟩:=bind_some e
 obtain⟨t,e3,e4⟩:=map_some e1
 subst e4
 cases e2
 exact⟨σD,t,rv,e3,fun H1 s1=>q H1 s1⟩
end rules
section rules
variable{X:Cx}{cl:RL.Cl}{a b c:Expr}{a' b' c':RL.E}{pos:Pos}
theorem Eu(ha:SE X cl a a'):SE X cl (.UnaryOp .Not a pos) (.not a'):=by
 intro pins s σ H Q I h
 obtain⟨σD,d,rv,e,k⟩:=h
 rw[RL.ev]at e
 obtain⟨t,e1,e2⟩:=map_some e
 obtain⟨x,e3,e4⟩:=bind_some e1
 subst e2
 refine UnaryOp_ (thn (ha pins s σ H (fun v H1=>aq H H1/\Rep nP X.K H1 x v) I ⟨σD,x,rv,e3,fun v H1 r1=>⟨r1.same,r1.rep⟩⟩) fun v s1 ⟨y,H1,I1,r1,sm,rp⟩=>?_)
 refine not_of (thn (vE pins s1 σ H1 y v (fun k H2=>k=t/\H2=H1) I1 r1 ⟨t,De rp e4,rfl,rfl⟩) fun k2 s2 ⟨H2,I2,q1,q2⟩=>?_)
 subst q1
 subst q2
 exact⟨.bl (!k2),H2,I2,rfl,k _ _ (dM sm)⟩
noncomputable def noStar:Expr->Bool
 | .Starred _ _=>false
 | _=>true
theorem ao{e:Expr}(es:List Expr)(h:noStar e=true):starEach (e::es) X.env=(false,eval e X.env)::starEach es X.env:=by
 cases e<;>first | rfl | (cases h)
theorem cj:∀ {es:List Expr} {pos:Pos},es.all noStar=true->(backTo pos (starEach es X.env)).any (·.1)=false
 | [],_,_=>rfl
 | e::es,pos,h=>by
  rw[List.all_cons,Bool.and_eq_true]at h
  rw[ao es h.1]
  show(false || (backTo pos (starEach es X.env)).any (·.1))=false
  rw[cj h.2]
  rfl
theorem c5:SEs X cl [] .nil:=by
 intro pos pins s σ H Q I h
 obtain⟨σD,ds,rv,e,k⟩:=h
 rw[RL.evs]at e
 cases e
 exact cI pos pins s σ H Q I (k [] H (aq.refl H) ae.nil)
theorem br{e:Expr}{es:List Expr}{e':RL.E}{es':RL.Es}(he:SE X cl e e')(hr:SEs X cl es es')(hn:noStar e=true):SEs X cl (e::es) (.cons e' es'):=by
 intro pos pins s σ H Q I h
 refine bh he hr (ao es hn) pos pins s σ H Q I ?_
 obtain⟨σD,ds,rv,e,k⟩:=h
 rw[RL.evs]at e
 obtain⟨d,e1,e2⟩:=bind_some e
 obtain⟨r,e3,e4⟩:=map_some e2
 subst e4
 refine⟨σD,d,rv,e1,fun v H1 r1=>⟨σD,r,rv.same r1.same,e3,fun vs H2 s2 r2=>k (v::vs) H2 (r1.same.trans s2) (ae.cons (r1.rep.same s2) r2)⟩⟩
noncomputable def dY:RL.Es->Nat
 | .nil=>0
 | .cons _ r=>dY r+1
theorem kQ{σD:RL.St}:∀ {es:RL.Es} {ds:List RL.D},RL.evs cl σD es=some ds->ds.length=dY es
 | .nil,ds,h=>by rw[RL.evs]at h;cases h;rfl
 | .cons e r,ds,h=>by
  rw[RL.evs]at h
  obtain⟨d,e1,e2⟩:=bind_some h
  obtain⟨t,e3,e4⟩:=map_some e2
  subst e4
  rw[List.length_cons,kQ e3,dY]
theorem BR{es:List Expr}{es':RL.Es}{x1}(h:SEs X cl es es')(hl:dY es'<=1000):SE X cl (.Tuple es x1 pos) (.tup es'):=by
 refine PE.weak (D8 h) fun σ H Q q=>?_
 obtain⟨σD,d,rv,e,k⟩:=q
 rw[RL.ev]at e
 obtain⟨ds,e1,e2⟩:=map_some e
 subst e2
 refine⟨σD,ds,rv,e1,fun vs H1 s1 r1=>⟨?_,fun p hp=>k _ _ (fg s1 hp r1 fun _=>rfl)⟩⟩
 rw[<-r1.length,kQ e1]
 exact Nat.le_of_lt (nC hl)
theorem Cd{es:List Expr}{es':RL.Es}(h:SEs X cl es es')(hl:dY es'<=1000):SE X cl (.List es pos) (.lst es'):=by
 refine PE.weak (Cb h) fun σ H Q q=>?_
 obtain⟨σD,d,rv,e,k⟩:=q
 rw[RL.ev]at e
 obtain⟨ds,e1,e2⟩:=map_some e
 subst e2
 refine⟨σD,ds,rv,e1,fun vs H1 s1 r1=>⟨?_,fun p hp=>k _ _ (dF s1 hp r1 fun _=>rfl)⟩⟩
 rw[<-r1.length,kQ e1]
 exact Nat.le_of_lt (nC hl)
theorem mq{α:Type}{xs:List α}{i:Int}{x:α}(h:RL.cN xs i=some x):atI xs i=some x:=by
 unfold RL.cN at h
 unfold atI ixN
 by_cases h0:0<=i
 ·rw[if_pos h0]at h
  rw[if_pos h0]
  obtain⟨h1,_⟩:=List.getElem?_eq_some_iff.mp h
  rw[if_pos (by lia)]
  exact h
 ·rw[if_neg h0]at h
  rw[if_neg h0]
  by_cases h1:-(xs.length:Int)<=i
  ·rw[if_pos h1]at h
   rw[if_pos h1]
   exact h
  ·rw[if_neg h1]at h
   cases h
theorem gD{P:Addr->Prop}{K:PySem.W.Frag}{H:Hp}{ds:List RL.D}{xs:List V}{i:Int}{d:RL.D}(r:ae P K H ds xs)(h:RL.cN ds i=some d):∃ x,RL.cN xs i=some x/\Rep P K H d x:=by
 unfold RL.cN at h ⊢
 rw[<-r.length]
 by_cases h0:0<=i
 ·rw[if_pos h0]at h ⊢
  exact r.get h
 ·rw[if_neg h0]at h ⊢
  by_cases h1:-(ds.length:Int)<=i
  ·rw[if_pos h1]at h ⊢
   exact r.get h
  ·rw[if_neg h1]at h
   cases h
noncomputable def kA:Expr->Bool
 | .Slice _ _ _ _=>false
 | _=>true
theorem sN{b:Expr}(h:kA b=true):t5 b:=by
 intro o i
 cases b<;>first | rfl | (cases h)
theorem xr{x y d:RL.D}(h:RL.ixV x y=some d):(∃ xs i,x=.lst xs/\y=.int i/\RL.cN xs i=some d)\/(∃ xs i,x=.tup xs/\y=.int i/\RL.cN xs i=some d) \/
  (∃ (z:Str) (i:Int) (c:Nat),x=.str z/\y=.int i/\z.length<=RL.most/\RL.cN z.cps.toList i=some c/\d=.str ⟨#[c]⟩):=by
 have no:∀ {o:Option RL.D},o=none->o=some d->False:=fun e h=>by rw[e]at h;cases h
 cases x with
 | lst xs=>cases y with
  | int i=>exact .inl ⟨xs,i,rfl,rfl,h⟩
  | _=>exact(no rfl h).elim
 | tup xs=>cases y with
  | int i=>exact .inr (.inl ⟨xs,i,rfl,rfl,h⟩)
  | _=>exact(no rfl h).elim
 | str z=>cases y with
  |int i=>
   by_cases hc:z.length<=RL.most
   ·obtain⟨c,e1,e2⟩:=map_some (show(RL.cN z.cps.toList i).map (fun c=>RL.D.str ⟨#[c]⟩)=some d from(if_pos hc).symm.trans h)
    exact .inr (.inr ⟨z,i,c,rfl,rfl,hc,e1,e2.symm⟩)
   ·exact(no (if_neg hc) h).elim
  | _=>exact(no rfl h).elim
 | _=>exact(no rfl h).elim
theorem EI(ha:SE X cl a a')(hb:SE X cl b b')(hs:kA b=true):SE X cl (.Subscript a b pos) (.ix a' b'):=by
 refine PE.weak (zS wH ha hb (sN hs)) fun σ H Q h=>?_
 obtain⟨σD,d,rv,e,k⟩:=h
 rw[RL.ev]at e
 obtain⟨x,ea,e⟩:=bind_some e
 obtain⟨y,eb,e⟩:=bind_some e
 refine two rv ea eb fun v u H1 H2 s1 s2 rx ry ra rb=>?_
 have fin:∀ (w:V),Rep nP X.K H2 d w->(∀ P:Addr->Prop,Rep P X.K H2 x v->Rep P X.K H2 d w)->Res X.K σD σ H (.ix a' b') d w H2:=fun w h1 h2=>{
  same:=s1.trans s2
  rep:=h1
  fresh:=fun z=>by cases z
  av:=fun M z P hP av=>h2 P ((ra.av M z P hP av).same s2) }
 rcases xr e with⟨xs,i,rfl,rfl,hd⟩ | ⟨xs,i,rfl,rfl,hd⟩ | ⟨z,i,c,rfl,rfl,hz,hd,rfl⟩
 ·obtain⟨p,ys,rfl,_,e2,e3⟩:=aG rx
  obtain⟨w,h1,h2⟩:=gD e3 hd
  refine .inl ⟨p,ys,i,w,rfl,ag ry,SqL.of e2,mq h1,k _ _ (fin w h2 fun P rp=>?_)⟩
  obtain⟨p',ys',q1,_,q2,q3⟩:=aG rp
  cases q1
  rw[e2]at q2
  cases q2
  obtain⟨w',h3,h4⟩:=gD q3 hd
  rw[h1]at h3
  cases h3
  exact h4
 ·obtain⟨p,ys,rfl,e2,e3⟩:=bj rx
  obtain⟨w,h1,h2⟩:=gD e3 hd
  refine .inr (.inl ⟨p,ys,i,w,rfl,ag ry,SqT.of e2,mq h1,k _ _ (fin w h2 fun P rp=>?_)⟩)
  obtain⟨p',ys',q1,q2,q3⟩:=bj rp
  cases q1
  rw[e2]at q2
  cases q2
  obtain⟨w',h3,h4⟩:=gD q3 hd
  rw[h1]at h3
  cases h3
  exact h4
 ·exact .inr (.inr ⟨z,i,c,aS rx,ag ry,Nat.le_trans hz bV,mq hd,k _ _ (fin _ iy fun P _=>iy)⟩)
end rules
section rules
variable{X:Cx}{cl:RL.Cl}{a b c:Expr}{a' b' c':RL.E}{pos:Pos}
theorem gf{f:RL.D->RL.D->Option Bool}:∀ {as bs:List RL.D} {k:Bool},RL.eqs f as bs=some k ->
  ∃ e:Nat->Bool,k=(List.range (min as.length bs.length)).all e/\∀ j x y,as[j]?=some x->bs[j]?=some y->f x y=some (e j)
 | [],bs,k,h=>by
  have h:some true=some k:=by simpa[RL.eqs]using h
  cases h
  exact⟨fun _=>true,by simp,fun j x y h1=>by simp at h1⟩
 | a::r,[],k,h=>by
  have h:some true=some k:=by simpa[RL.eqs]using h
  cases h
  exact⟨fun _=>true,by simp,fun j x y h1 h2=>by simp at h2⟩
 | a::r,b::s,k,h=>by
  rw[RL.eqs]at h
  obtain⟨e0,h1,h2⟩:=bind_some h
  obtain⟨k',h3,h4⟩:=map_some h2
  obtain⟨e,h5,h6⟩:=gf h3
  refine⟨fun j=>match j with | 0=>e0 | j+1=>e j,?_,fun j x y hx hy=>?_⟩
  ·rw[<-h4,h5,List.length_cons,List.length_cons,Nat.succ_min_succ,List.range_succ_eq_map,List.all_cons,List.all_map]
   rfl
  ·cases j with
   |zero=>
    simp at hx hy
    subst hx hy
    exact h1
   | succ j=>exact h6 j x y (by simpa using hx) (by simpa using hy)
theorem fA{n:Nat}{x y:RL.D}{k:Bool}(h:RL.eqD n x y=some k):(∃ i j,x=.bl i/\y=.bl j/\(i == j)=k)\/(∃ i j,x=.int i/\y=.int j/\(i == j)=k)\/(∃ i j,x=.str i/\y=.str j/\(i == j)=k) \/
  (∃ m i j,n=m+1/\x=.tup i/\y=.tup j/\Option.map (fun k=>k&&i.length == j.length) (RL.eqs (RL.eqD m) i j)=some k)\/(∃ m i j,n=m+1/\x=.lst i/\y=.lst j/\Option.map (fun k=>k&&i.length == j.length) (RL.eqs (RL.eqD m) i j)=some k):=by
 cases n with
 | zero=>cases x with
  | bl i=>cases y with
   | bl j=>exact .inl ⟨i,j,rfl,rfl,Option.some.inj h⟩
   | _=>exact noN rfl h
  | int i=>cases y with
   | int j=>exact .inr (.inl ⟨i,j,rfl,rfl,Option.some.inj h⟩)
   | _=>exact noN rfl h
  | str i=>cases y with
   | str j=>exact .inr (.inr (.inl ⟨i,j,rfl,rfl,Option.some.inj h⟩))
   | _=>exact noN rfl h
  | _=>exact noN rfl h
 | succ m=>cases x with
  | bl i=>cases y with
   | bl j=>exact .inl ⟨i,j,rfl,rfl,Option.some.inj h⟩
   | _=>exact noN rfl h
  | int i=>cases y with
   | int j=>exact .inr (.inl ⟨i,j,rfl,rfl,Option.some.inj h⟩)
   | _=>exact noN rfl h
  | str i=>cases y with
   | str j=>exact .inr (.inr (.inl ⟨i,j,rfl,rfl,Option.some.inj h⟩))
   | _=>exact noN rfl h
  | tup i=>cases y with
   | tup j=>exact .inr (.inr (.inr (.inl ⟨m,i,j,rfl,rfl,rfl,h⟩)))
   | _=>exact noN rfl h
  | lst i=>cases y with
   | lst j=>exact .inr (.inr (.inr (.inr ⟨m,i,j,rfl,rfl,rfl,h⟩)))
   | _=>exact noN rfl h
  | _=>exact noN rfl h
theorem nU{K:PySem.W.Frag}{H:Hp}:∀ (n:Nat) (x y:RL.D) (v:V) (k:Bool),Rep nP K H x v->Rep nP K H y v->RL.eqD n x y=some k->k=true:=by
 intro n
 induction n with
 |zero=>
  intro x y v k rx ry h
  rcases fA h with⟨i,j,rfl,rfl,rfl⟩ | ⟨i,j,rfl,rfl,rfl⟩ | ⟨i,j,rfl,rfl,rfl⟩ | ⟨m,i,j,hn,hx,hy,h⟩ | ⟨m,i,j,hn,hx,hy,h⟩
  ·have:=aW rx;rw[aW ry]at this;cases this;simp
  ·have:=ag rx;rw[ag ry]at this;cases this;simp
  ·have:=aS rx;rw[aS ry]at this;cases this;simp
  ·cases hn
  ·cases hn
 |succ n ih=>
  intro x y v k rx ry h
  have seq:∀ (i j:List RL.D) (xs:List V) (k:Bool),ae nP K H i xs->ae nP K H j xs->Option.map (fun k=>k&&i.length == j.length) (RL.eqs (RL.eqD n) i j)=some k->k=true:=by
   intro i j xs k e3 f3 h
   obtain⟨k',h1,h2⟩:=map_some h
   obtain⟨e,h3,h4⟩:=gf h1
   have hl:i.length=j.length:=e3.length.trans f3.length.symm
   have hk:k'=true:=by
    rw[h3,List.all_eq_true]
    intro m hm
    rw[List.mem_range]at hm
    obtain⟨w,w1,w2⟩:=e3.get (i:=m) (d:=i[m]'(by lia)) (by simp)
    obtain⟨w',w1',w2'⟩:=f3.get (i:=m) (d:=j[m]'(by lia)) (by simp)
    rw[w1]at w1'
    cases w1'
    exact ih _ _ w (e m) w2 w2' (h4 m _ _ (by simp) (by simp))
   rw[<-h2,hk,hl]
   simp
  rcases fA h with⟨i,j,rfl,rfl,rfl⟩ | ⟨i,j,rfl,rfl,rfl⟩ | ⟨i,j,rfl,rfl,rfl⟩ | ⟨m,i,j,hn,hx,hy,h⟩ | ⟨m,i,j,hn,hx,hy,h⟩
  ·have:=aW rx;rw[aW ry]at this;cases this;simp
  ·have:=ag rx;rw[ag ry]at this;cases this;simp
  ·have:=aS rx;rw[aS ry]at this;cases this;simp
  ·cases hn;subst hx;subst hy
   obtain⟨p,xs,rfl,e2,e3⟩:=bj rx
   obtain⟨q,ys,q1,f2,f3⟩:=bj ry
   cases q1
   rw[e2]at f2
   cases f2
   exact seq i j xs k e3 f3 h
  ·cases hn;subst hx;subst hy
   obtain⟨p,xs,rfl,_,e2,e3⟩:=aG rx
   obtain⟨q,ys,q1,_,f2,f3⟩:=aG ry
   cases q1
   rw[e2]at f2
   cases f2
   exact seq i j xs k e3 f3 h
open SeqAt in
theorem deep{pins:List (Addr × Obj)}{σ:L2.St}{H:Hp}{s:Shared}(I:Inv X pins σ H s):∀ (n:Nat) (A:Around) (x y:RL.D) (v u:V) (va ua:Value) (k:Bool),A.units+n<cLine->Rep nP X.K H x v->Rep nP X.K H y u->RelV v va->RelV u ua ->
  RL.eqD n x y=some k->RcAt A s va ua k/\EqAt A s va ua k:=by
 intro n
 induction n with
 |zero=>
  intro A x y v u va ua k hu rx ry qx qy h
  rcases fA h with⟨i,j,rfl,rfl,rfl⟩ | ⟨i,j,rfl,rfl,rfl⟩ | ⟨i,j,rfl,rfl,rfl⟩ | ⟨m,i,j,hn,hx,hy,h⟩ | ⟨m,i,j,hn,hx,hy,h⟩
  ·rw[aW rx]at qx;rw[aW ry]at qy;cases qx;cases qy;exact⟨RcAt.bool_bool i j,EqAt.bool_bool i j⟩
  ·rw[ag rx]at qx;rw[ag ry]at qy;obtain⟨t,rfl⟩:=qx;obtain⟨t',rfl⟩:=qy;exact⟨RcAt.int_int i t j t',EqAt.int_int i t j t'⟩
  ·rw[aS rx]at qx;rw[aS ry]at qy;obtain⟨t,rfl⟩:=qx;obtain⟨t',rfl⟩:=qy;exact⟨RcAt.str_str i t j t',EqAt.str_str i t j t'⟩
  ·cases hn
  ·cases hn
 |succ n ih=>
  intro A x y v u va ua k hu rx ry qx qy h
  rcases fA h with⟨i,j,rfl,rfl,rfl⟩ | ⟨i,j,rfl,rfl,rfl⟩ | ⟨i,j,rfl,rfl,rfl⟩ | ⟨m,i,j,hn,hx,hy,h⟩ | ⟨m,i,j,hn,hx,hy,h⟩
  ·rw[aW rx]at qx;rw[aW ry]at qy;cases qx;cases qy;exact⟨RcAt.bool_bool i j,EqAt.bool_bool i j⟩
  ·rw[ag rx]at qx;rw[ag ry]at qy;obtain⟨t,rfl⟩:=qx;obtain⟨t',rfl⟩:=qy;exact⟨RcAt.int_int i t j t',EqAt.int_int i t j t'⟩
  ·rw[aS rx]at qx;rw[aS ry]at qy;obtain⟨t,rfl⟩:=qx;obtain⟨t',rfl⟩:=qy;exact⟨RcAt.str_str i t j t',EqAt.str_str i t j t'⟩
  ·cases hn;subst hx;subst hy
   obtain⟨p,xs,rfl,e2,e3⟩:=bj rx
   obtain⟨q,ys,rfl,f2,f3⟩:=bj ry
   cases qx;cases qy
   obtain⟨its,r1,t1,z1⟩:=I.tuple (SqT.of e2)
   obtain⟨jts,r2,t2,z2⟩:=I.tuple (SqT.of f2)
   obtain⟨k',h1,h2⟩:=map_some h
   obtain⟨e,h3,h4⟩:=gf h1
   have l1:i.length=its.length:=e3.length.trans r1.length
   have l2:j.length=jts.length:=f3.length.trans r2.length
   have he:∀ m (g1:m<its.toArray.size) (g2:m<jts.toArray.size),EqAt A.in1 s its.toArray[m] jts.toArray[m] (e m):=fun m g1 g2=>by
    rw[List.size_toArray]at g1 g2
    obtain⟨w,w1,w2⟩:=e3.get (i:=m) (d:=i[m]'(by lia)) (by simp)
    obtain⟨w',w1',w2'⟩:=f3.get (i:=m) (d:=j[m]'(by lia)) (by simp)
    obtain⟨uu,b1,b2⟩:=r1.get w1
    obtain⟨uu',b1',b2'⟩:=r2.get w1'
    have c1:its.toArray[m]=uu:=by simpa using(List.getElem?_eq_some_iff.mp b1).2
    have c2:jts.toArray[m]=uu':=by simpa using(List.getElem?_eq_some_iff.mp b1').2
    rw[c1,c2]
    exact(ih A.in1 _ _ w w' uu uu' (e m) (by show A.units+1+n<cLine;lia) w2 w2' b2 b2' (h4 m _ _ (by simp) (by simp))).2
   have main:RcAt A s (.ref p) (.ref q) k:=by
    have z:=RcAt.tuples (e:=e) t1 t2 (by lia) he
    rw[List.size_toArray,List.size_toArray,<-l1,<-l2,<-h3,h2]at z
    exact z
   refine⟨main,?_⟩
   by_cases z:p=q
   ·subst z
    rw[nU (n+1) _ _ _ k rx ry h]
    exact EqAt.same _
   ·exact EqAt.of_refs z main
  ·cases hn;subst hx;subst hy
   obtain⟨p,xs,rfl,_,e2,e3⟩:=aG rx
   obtain⟨q,ys,rfl,_,f2,f3⟩:=aG ry
   cases qx;cases qy
   obtain⟨its,r1,t1,z1⟩:=I.list (SqL.of e2)
   obtain⟨jts,r2,t2,z2⟩:=I.list (SqL.of f2)
   obtain⟨k',h1,h2⟩:=map_some h
   obtain⟨e,h3,h4⟩:=gf h1
   have l1:i.length=its.length:=e3.length.trans r1.length
   have l2:j.length=jts.length:=f3.length.trans r2.length
   have he:∀ m (g1:m<its.toArray.size) (g2:m<jts.toArray.size),EqAt A.in1 s its.toArray[m] jts.toArray[m] (e m):=fun m g1 g2=>by
    rw[List.size_toArray]at g1 g2
    obtain⟨w,w1,w2⟩:=e3.get (i:=m) (d:=i[m]'(by lia)) (by simp)
    obtain⟨w',w1',w2'⟩:=f3.get (i:=m) (d:=j[m]'(by lia)) (by simp)
    obtain⟨uu,b1,b2⟩:=r1.get w1
    obtain⟨uu',b1',b2'⟩:=r2.get w1'
    have c1:its.toArray[m]=uu:=by simpa using(List.getElem?_eq_some_iff.mp b1).2
    have c2:jts.toArray[m]=uu':=by simpa using(List.getElem?_eq_some_iff.mp b1').2
    rw[c1,c2]
    exact(ih A.in1 _ _ w w' uu uu' (e m) (by show A.units+1+n<cLine;lia) w2 w2' b2 b2' (h4 m _ _ (by simp) (by simp))).2
   have main:RcAt A s (.ref p) (.ref q) k:=by
    by_cases hl:its.length=jts.length
    ·have z:=RcAt.lists (e:=e) t1.isList t2.isList (by rw[List.size_toArray,List.size_toArray];exact hl) (by lia) he
     rw[List.size_toArray]at z
     have hk:k=(List.range its.length).all e:=by
      rw[<-h2,h3,l1,l2,hl]
      simp
     rw[hk]
     exact z
    ·have hk:k=false:=by
      rw[<-h2,l1,l2]
      simp[hl]
     rw[hk]
     exact RcAt.lists_lengths t1.isList t2.isList (by rw[List.size_toArray,List.size_toArray];simpa using hl) (by lia)
   refine⟨main,?_⟩
   by_cases z:p=q
   ·subst z
    rw[nU (n+1) _ _ _ k rx ry h]
    exact EqAt.same _
   ·exact EqAt.of_refs z main
end rules
section rules
variable{X:Cx}{cl:RL.Cl}{a b c:Expr}{a' b' c':RL.E}{pos:Pos}
open SeqAt in
theorem DP{pins:List (Addr × Obj)}{σ:L2.St}{H:Hp}{s:Shared}(I:Inv X pins σ H s)(n:Nat)(A:Around)(x y:RL.D)(v u:V)(va ua:Value)(k:Bool)(hu:A.units+n<cLine)(rx:Rep nP X.K H x v)(ry:Rep nP X.K H y u)(qx:RelV v va)(qy:RelV u ua)
 (h:RL.eqD n x y=some k):RcNeAt A s va ua (!k):=by
 rcases fA h with⟨i,j,rfl,rfl,rfl⟩ | ⟨i,j,rfl,rfl,rfl⟩ | ⟨i,j,rfl,rfl,rfl⟩ | ⟨nn,i,j,hn,hx,hy,h⟩ | ⟨nn,i,j,hn,hx,hy,h⟩
 ·rw[aW rx]at qx;rw[aW ry]at qy;cases qx;cases qy;exact RcNeAt.bool_bool i j
 ·rw[ag rx]at qx;rw[ag ry]at qy;obtain⟨t,rfl⟩:=qx;obtain⟨t',rfl⟩:=qy;exact RcNeAt.int_int i t j t'
 ·rw[aS rx]at qx;rw[aS ry]at qy;obtain⟨t,rfl⟩:=qx;obtain⟨t',rfl⟩:=qy;exact RcNeAt.str_str i t j t'
 ·subst hn;subst hx;subst hy
  obtain⟨p,xs,rfl,e2,e3⟩:=bj rx
  obtain⟨q,ys,rfl,f2,f3⟩:=bj ry
  cases qx;cases qy
  obtain⟨its,r1,t1,z1⟩:=I.tuple (SqT.of e2)
  obtain⟨jts,r2,t2,z2⟩:=I.tuple (SqT.of f2)
  obtain⟨k',h1,h2⟩:=map_some h
  obtain⟨e,h3,h4⟩:=gf h1
  have l1:i.length=its.length:=e3.length.trans r1.length
  have l2:j.length=jts.length:=f3.length.trans r2.length
  have he:∀ m (g1:m<its.toArray.size) (g2:m<jts.toArray.size),EqAt A.in1 s its.toArray[m] jts.toArray[m] (e m):=fun m g1 g2=>by
   rw[List.size_toArray]at g1 g2
   obtain⟨w,w1,w2⟩:=e3.get (i:=m) (d:=i[m]'(by lia)) (by simp)
   obtain⟨w',w1',w2'⟩:=f3.get (i:=m) (d:=j[m]'(by lia)) (by simp)
   obtain⟨uu,b1,b2⟩:=r1.get w1
   obtain⟨uu',b1',b2'⟩:=r2.get w1'
   have c1:its.toArray[m]=uu:=by simpa using(List.getElem?_eq_some_iff.mp b1).2
   have c2:jts.toArray[m]=uu':=by simpa using(List.getElem?_eq_some_iff.mp b1').2
   rw[c1,c2]
   exact(deep I nn A.in1 _ _ w w' uu uu' (e m) (by show A.units+1+nn<cLine;lia) w2 w2' b2 b2' (h4 m _ _ (by simp) (by simp))).2
  have z:=RcNeAt.tuples (e:=e) t1 t2 (by lia) he
  rw[List.size_toArray,List.size_toArray,<-l1,<-l2,<-h3,h2]at z
  exact z
 ·subst hn;subst hx;subst hy
  obtain⟨p,xs,rfl,_,e2,e3⟩:=aG rx
  obtain⟨q,ys,rfl,_,f2,f3⟩:=aG ry
  cases qx;cases qy
  obtain⟨its,r1,t1,z1⟩:=I.list (SqL.of e2)
  obtain⟨jts,r2,t2,z2⟩:=I.list (SqL.of f2)
  obtain⟨k',h1,h2⟩:=map_some h
  obtain⟨e,h3,h4⟩:=gf h1
  have l1:i.length=its.length:=e3.length.trans r1.length
  have l2:j.length=jts.length:=f3.length.trans r2.length
  have he:∀ m (g1:m<its.toArray.size) (g2:m<jts.toArray.size),EqAt A.in1 s its.toArray[m] jts.toArray[m] (e m):=fun m g1 g2=>by
   rw[List.size_toArray]at g1 g2
   obtain⟨w,w1,w2⟩:=e3.get (i:=m) (d:=i[m]'(by lia)) (by simp)
   obtain⟨w',w1',w2'⟩:=f3.get (i:=m) (d:=j[m]'(by lia)) (by simp)
   obtain⟨uu,b1,b2⟩:=r1.get w1
   obtain⟨uu',b1',b2'⟩:=r2.get w1'
   have c1:its.toArray[m]=uu:=by simpa using(List.getElem?_eq_some_iff.mp b1).2
   have c2:jts.toArray[m]=uu':=by simpa using(List.getElem?_eq_some_iff.mp b1').2
   rw[c1,c2]
   exact(deep I nn A.in1 _ _ w w' uu uu' (e m) (by show A.units+1+nn<cLine;lia) w2 w2' b2 b2' (h4 m _ _ (by simp) (by simp))).2
  by_cases hl:its.length=jts.length
  ·have z:=RcNeAt.lists (e:=e) t1.isList t2.isList (by rw[List.size_toArray,List.size_toArray];exact hl) (by lia) he
   rw[List.size_toArray]at z
   have hk:k=(List.range its.length).all e:=by
    rw[<-h2,h3,l1,l2,hl]
    simp
   rw[hk]
   exact z
  ·have hk:k=false:=by
    rw[<-h2,l1,l2]
    simp[hl]
   rw[hk]
   exact RcNeAt.lists_lengths t1.isList t2.isList (by rw[List.size_toArray,List.size_toArray];simpa using hl) (by lia)
noncomputable def d5:RL.Cop->CmpOp
 | .lt=>.Lt
 | .le=>.LtE
 | .gt=>.Gt
 | .ge=>.GtE
 | .eq=>.Eq
 | .ne=>.NotEq
noncomputable def uF(K:PySem.W.Frag)(c:RL.Cop):R2:=fun v u H Q=>∃ x y k,Rep nP K H x v/\Rep nP K H y u/\RL.bu c x y=some k/\Q (.bl k) H
theorem iT{c:RL.Cop}(hc:c≠.eq)(hc2:c≠.ne){x y:RL.D}{k:Bool}(h:RL.bu c x y=some k):∃ i j,x=.int i/\y=.int j:=by
 have no:∀ {a b:RL.D},RL.bu .lt a b=none->RL.bu .le a b=none->RL.bu .gt a b=none->RL.bu .ge a b=none->RL.bu c a b=some k->False:=fun e1 e2 e3 e4 h=>by
  cases c with
  | eq=>exact hc rfl
  | ne=>exact hc2 rfl
  | lt=>rw[e1]at h;cases h
  | le=>rw[e2]at h;cases h
  | gt=>rw[e3]at h;cases h
  | ge=>rw[e4]at h;cases h
 cases x with
 | int i=>cases y with
  | int j=>exact⟨_,_,rfl,rfl⟩
  | _=>exact(no rfl rfl rfl rfl h).elim
 | _=>exact(no rfl rfl rfl rfl h).elim
theorem ie{c:RL.Cop}(hu:X.A.units+100<cLine):OpR X (compareOp (d5 c)) (uF X.K c):=by
 intro pins s σ H x y v u Q I rx ry h
 obtain⟨dx,dy,k,ex,ey,e,q⟩:=h
 have fin:EP X pins σ Q (.bool k) s:=⟨.bl k,H,I,rfl,q⟩
 cases c with
 |eq=>
  have e:RL.eqD 8 dx dy=some k:=e
  exact(deep I 8 X.A dx dy x y v u k (by lia) ex ey rx ry e).1 X.prog X.w X.xe _ fin
 |ne=>
  obtain⟨k',e1,e2⟩:=map_some (show(RL.eqD 8 dx dy).map not=some k from e)
  subst e2
  exact DP I 8 X.A dx dy x y v u k' (by lia) ex ey rx ry e1 X.prog X.w X.xe _ fin
 |lt=>
  obtain⟨i,j,rfl,rfl⟩:=iT (by decide) (by decide) e
  cases e
  rw[ag ex]at rx;rw[ag ey]at ry
  obtain⟨t,rfl⟩:=rx;obtain⟨t',rfl⟩:=ry
  exact lt_int fin
 |le=>
  obtain⟨i,j,rfl,rfl⟩:=iT (by decide) (by decide) e
  cases e
  rw[ag ex]at rx;rw[ag ey]at ry
  obtain⟨t,rfl⟩:=rx;obtain⟨t',rfl⟩:=ry
  exact le_int fin
 |gt=>
  obtain⟨i,j,rfl,rfl⟩:=iT (by decide) (by decide) e
  cases e
  rw[ag ex]at rx;rw[ag ey]at ry
  obtain⟨t,rfl⟩:=rx;obtain⟨t',rfl⟩:=ry
  exact gt_int fin
 |ge=>
  obtain⟨i,j,rfl,rfl⟩:=iT (by decide) (by decide) e
  cases e
  rw[ag ex]at rx;rw[ag ey]at ry
  obtain⟨t,rfl⟩:=rx;obtain⟨t',rfl⟩:=ry
  exact ge_int fin
theorem iE{c:RL.Cop}(b:Expr):behindInMarks (d5 c) b=false:=by cases c<;>exact wJ b
theorem vQ{c:RL.Cop}{σ:L2.St}{H:Hp}{Q:VK}(h:∃ σD d,RV0 X.K σD σ H/\RL.ev cl σD (.cmp c a' b')=some d/\∀ H',aq H H'->∃ k,d=.bl k/\Q (.bl k) H'):tOp (uF X.K c) (tE X.K cl a') (tE X.K cl b') σ H Q:=by
 obtain⟨σD,d,rv,e,k⟩:=h
 rw[RL.ev]at e
 obtain⟨x,ea,e⟩:=bind_some e
 obtain⟨y,eb,e⟩:=bind_some e
 obtain⟨t,e1,e2⟩:=map_some e
 refine two rv ea eb fun v u H1 H2 s1 s2 rx ry _ _=>?_
 obtain⟨k',h1,h2⟩:=k H2 (s1.trans s2)
 rw[h1]at e2
 cases e2
 exact⟨x,y,t,rx,ry,e1,h2⟩
theorem oh{c:RL.Cop}{σD:RL.St}{d:RL.D}(e:RL.ev cl σD (.cmp c a' b')=some d):∃ k,d=.bl k:=by
 rw[RL.ev]at e
 obtain⟨x,ea,e⟩:=bind_some e
 obtain⟨y,eb,e⟩:=bind_some e
 obtain⟨t,e1,e2⟩:=map_some e
 exact⟨t,e2.symm⟩
theorem CU{c:RL.Cop}(hu:X.A.units+100<cLine)(ha:SE X cl a a')(hb:SE X cl b b'):SE X cl (.Compare a [d5 c] [b] pos) (.cmp c a' b'):=by
 refine PE.weak (rS (ie hu) ha hb (iE b)) fun σ H Q h=>?_
 obtain⟨σD,d,rv,e,k⟩:=h
 obtain⟨t,rfl⟩:=oh e
 exact vQ ⟨σD,_,rv,e,fun H' sm=>⟨t,rfl,k _ _ (dM sm)⟩⟩
theorem Cc{c:RL.Cop}(hu:X.A.units+100<cLine)(ha:SE X cl a a')(hb:SE X cl b b'):ST X cl (.Compare a [d5 c] [b] pos) (.cmp c a' b'):=by
 refine PT.weak (rW (ie hu) ha hb (iE b)) fun σ H Q h=>?_
 obtain⟨σD,k,rv,e,q⟩:=h
 obtain⟨d,e1,e2⟩:=bind_some e
 obtain⟨t,rfl⟩:=oh e1
 cases e2
 exact vQ ⟨σD,_,rv,e1,fun H' sm=>⟨k,rfl,k,rfl,q H' sm⟩⟩
theorem Aa{c c':RL.Cop}(b e:Expr):lastMarks [d5 c,d5 c'] [b,e]=false:=by
 show behindInMarks (d5 c') e=false
 exact iE e
variable{e:Expr}{e':RL.E}
theorem kq{c c':RL.Cop}{σD:RL.St}{d:RL.D}(h:RL.ev cl σD (.chain c c' a' b' e')=some d):∃ k,d=.bl k:=by
 rw[RL.ev]at h
 obtain⟨x,ea,h⟩:=bind_some h
 obtain⟨y,eb,h⟩:=bind_some h
 obtain⟨t,e1,h⟩:=bind_some h
 cases t with
 |true=>
  obtain⟨z,ec,h⟩:=bind_some (show(RL.ev cl σD e').bind _=some d from h)
  obtain⟨t,e1,e2⟩:=map_some h
  exact⟨t,e2.symm⟩
 | false=>exact⟨false,(Option.some.inj (show some (RL.D.bl false)=some d from h)).symm⟩
theorem pf{c c':RL.Cop}{σ:L2.St}{H:Hp}{Q:VK}(h:∃ σD k,RV0 X.K σD σ H/\RL.ev cl σD (.chain c c' a' b' e')=some (.bl k)/\∀ H',aq H H'->Q (.bl k) H') :
  pZ (uF X.K c) (uF X.K c') (tE X.K cl a') (tE X.K cl b') (tE X.K cl e') σ H Q:=by
 obtain⟨σD,k,rv,h,q⟩:=h
 rw[RL.ev]at h
 obtain⟨x,ea,h⟩:=bind_some h
 obtain⟨y,eb,h⟩:=bind_some h
 obtain⟨t,e1,h⟩:=bind_some h
 refine two rv ea eb fun v u H1 H2 s1 s2 rx ry _ _=>?_
 refine⟨x,y,t,rx,ry,e1,t,rfl,?_⟩
 have sm:=s1.trans s2
 cases t with
 |true=>
  rw[if_pos rfl]at h
  obtain⟨z,ec,h⟩:=bind_some h
  obtain⟨t,e3,e2⟩:=map_some h
  cases e2
  exact fJ ⟨σD,z,rv.same sm,ec,fun w H3 r3=>⟨y,z,k,ry.same r3.same,r3.rep,e3,q H3 (sm.trans r3.same)⟩⟩
 |false=>
  rw[if_neg (by decide)]at h
  cases h
  exact gm (q H2 sm)
theorem yg{c c':RL.Cop}(hu:X.A.units+100<cLine)(ha:SE X cl a a')(hb:SE X cl b b')(he:SE X cl e e'):SE X cl (.Compare a [d5 c,d5 c'] [b,e] pos) (.chain c c' a' b' e'):=by
 refine PE.weak (yt (ie hu) (ie hu) ha hb he (Aa b e)) fun σ H Q h=>?_
 obtain⟨σD,d,rv,h,k⟩:=h
 obtain⟨t,rfl⟩:=kq h
 exact pf ⟨σD,t,rv,h,fun H' sm=>k _ _ (dM sm)⟩
theorem yf{c c':RL.Cop}(hu:X.A.units+100<cLine)(ha:SE X cl a a')(hb:SE X cl b b')(he:SE X cl e e'):ST X cl (.Compare a [d5 c,d5 c'] [b,e] pos) (.chain c c' a' b' e'):=by
 refine PT.weak (yW (ie hu) (ie hu) ha hb he (Aa b e)) fun σ H Q h=>?_
 obtain⟨σD,k,rv,h,q⟩:=h
 obtain⟨d,e1,e2⟩:=bind_some h
 obtain⟨t,rfl⟩:=kq e1
 cases e2
 exact pf ⟨σD,k,rv,e1,fun H' sm=>⟨k,rfl,q H' sm⟩⟩
end rules
section rules
variable{X:Cx}{cl:RL.Cl}{a b c:Expr}{a' b' c':RL.E}{pos:Pos}
theorem ny{neg:Bool}(b:Expr):behindInMarks (if neg then .IsNot else .Is) b=false:=by cases neg<;>exact wJ b
theorem sM{neg:Bool}:OpR X (compareOp (if neg then .IsNot else .Is)) (fun x y H Q=>y=.non/\Q (.bl (if neg then !decide (x=.non)else decide (x=.non))) H):=by
 cases neg with
 | true=>exact AQ
 | false=>exact B7
theorem vz{neg:Bool}{σD:RL.St}{d:RL.D}(h:RL.ev cl σD (.isN neg a')=some d):∃ x,RL.ev cl σD a'=some x/\∀ v (H:Hp),Rep nP X.K H x v->d=.bl (if neg then !decide (v=.non)else decide (v=.non)):=by
 rw[RL.ev]at h
 obtain⟨x,ea,h⟩:=bind_some h
 refine⟨x,ea,fun v H r=>?_⟩
 cases x with
 | non=>cases h;rw[Rep]at r;subst r;cases neg<;>rfl
 | bl k=>cases h;rw[aW r];cases neg<;>rfl
 | int k=>cases h;rw[ag r];cases neg<;>rfl
 | str k=>cases h;rw[aS r];cases neg<;>rfl
 | tup k=>cases h;obtain⟨p,xs,rfl,_⟩:=bj r;cases neg<;>rfl
 | lst k=>cases h;obtain⟨p,xs,rfl,_⟩:=aG r;cases neg<;>rfl
 | scr k=>cases h;rw[Rep]at r;obtain⟨p,xs,rfl,_⟩:=r;cases neg<;>rfl
 | exc k=>cases h;rw[Rep]at r;obtain⟨p,_,_,_,_,rfl,_⟩:=r;cases neg<;>rfl
 | dK _ _=>cases h
 | dT _ _=>cases h
theorem BG{neg:Bool}{j:Nat}{p:Pos}(ha:SE X cl a a'):SE X cl (.Compare a [if neg then .IsNot else .Is] [.Constant .none j p] pos) (.isN neg a'):=by
 refine PE.weak (rS sM ha qk (ny _)) fun σ H Q h=>?_
 obtain⟨σD,d,rv,e,q⟩:=h
 obtain⟨x,ea,hx⟩:=vz (X:=X) e
 refine⟨σD,_,rv,ea,fun v H1 r1=>⟨rfl,?_⟩⟩
 have hd:=hx v H1 r1.rep
 subst hd
 exact q _ _ (dM r1.same)
theorem Dy{neg:Bool}{j:Nat}{p:Pos}(ha:SE X cl a a'):ST X cl (.Compare a [if neg then .IsNot else .Is] [.Constant .none j p] pos) (.isN neg a'):=by
 refine PT.weak (rW sM ha qk (ny _)) fun σ H Q h=>?_
 obtain⟨σD,k,rv,e,q⟩:=h
 obtain⟨d,e1,e2⟩:=bind_some e
 obtain⟨x,ea,hx⟩:=vz (X:=X) e1
 refine⟨σD,_,rv,ea,fun v H1 r1=>⟨rfl,?_⟩⟩
 have hd:=hx v H1 r1.rep
 subst hd
 cases e2
 exact⟨_,rfl,q _ r1.same⟩
theorem gr{P:Addr->Prop}{K:PySem.W.Frag}{H:Hp}{d:RL.D}{ds:List RL.D}{v:V}(h:RL.items d=some ds)(r:Rep P K H d v):∃ p xs,v=.ref p/\((H p=some (.lst xs)/\d=.lst ds)\/(H p=some (.tup xs)/\d=.tup ds))/\ae P K H ds xs:=by
 cases d<;>simp only[RL.items]at h<;>first | (cases h;done) | skip
 case lst ys=>cases h;obtain⟨p,xs,e1,_,e2,e3⟩:=aG r;exact⟨p,xs,e1,.inl ⟨e2,rfl⟩,e3⟩
 case tup ys=>cases h;obtain⟨p,xs,e1,e2,e3⟩:=bj r;exact⟨p,xs,e1,.inr ⟨e2,rfl⟩,e3⟩
noncomputable def uL:Expr->Bool
 | .Set _ _ _=>false
 | _=>true
theorem nr{op:CmpOp}{b:Expr}(h:uL b=true):behindInMarks op b=false:=by
 cases b<;>first | rfl | (cases h)
noncomputable def spF(K:PySem.W.Frag)(cl:RL.Cl)(f:Nat):Sp:=fun vs H Q _=>∃ ds d,ae nP K H ds vs/\cl f ds=some d/\∀ v H',aq H H'->Rep (fun p=>H p≠none) K H' d v->Q v H'
theorem AO{es:List Expr}{e:Expr}{es':RL.Es}{e':RL.E}{f:Nat}{x:Str}{p:Pos}{k:Nat}{fa:Addr}{fd:FuncData}{ps:List Str}(F:dO X.prog X.w X.K X.mg X.base CX0 k fa fd ps (spF X.K cl f))(hr:cq k X.A)(hg:Gl X x)
 (hm:X.mg x=some (.ref fa))(hk:PySem.W.keepIn X.K (.ref fa)=true)(hb:Binds X.K fd ps [])(he:SEs X cl (e::es) (.cons e' es'))(hdb:(x == ("__debug__" : Str))=false)(hn:noStar e=true)(hns:es.all noStar=true) :
  SE X cl (.Call (.Name x p) (e::es) [] pos) (.call f (.cons e' es')):=by
 refine PE.weak (sL F hr hg hm hk hb .nil zN he hdb (ao es hn) (cj hns)) fun σ H Q h=>?_
 obtain⟨σD,d,rv,ev,q⟩:=h
 rw[RL.ev]at ev
 obtain⟨ds,e1,e2⟩:=bind_some ev
 refine⟨σD,ds,rv,e1,fun vs H1 s1 r1=>?_⟩
 show spF X.K cl f (vs++[]) H1 Q E0
 rw[List.append_nil]
 refine⟨ds,d,r1,e2,fun v H2 s2 r2=>q v H2 ⟨s1.trans s2,r2.none,fun _ m a z=>?_,fun M _ P hP _=>?_⟩⟩
 ·subst z
  have hh:H1 a=none:=by
   cases d with
   | lst ds=>obtain⟨p,xs,e1,e2,_⟩:=aG r2;cases e1;exact Classical.byContradiction e2
   | dK ks ds=>rw[Rep]at r2;obtain⟨p,xs,e1,e2,_⟩:=r2;cases e1;exact Classical.byContradiction e2
   | dT ks ds=>rw[Rep]at r2;obtain⟨p,xs,e1,e2,_⟩:=r2;cases e1;exact Classical.byContradiction e2
   | _=>cases m
  exact s1.free hh
 ·refine r2.weak fun a z=>?_
  obtain⟨o,ho⟩:=Option.ne_none_iff_exists'.mp (hP a z)
  rw[s1 _ _ ho]
  exact fun q=>nomatch q
end rules
noncomputable def Off(P:Addr->Prop)(H H':Hp):Prop:=∀ b o,¬ P b->H b=some o->H' b=some o
theorem Off.same{H H':Hp}(h:aq H H'){P:Addr->Prop}:Off P H H':=fun b o _ e=>h b o e
mutual
theorem Rep.off{P:Addr->Prop}{K:PySem.W.Frag}{H H':Hp}(hm:∀ b o,P b->H b=some o->du o)(k:Off P H H'):∀ {d:RL.D} {v:V},Rep P K H d v->Rep P K H' d v
 | .non,v,h=>by simpa[Rep]using h
 | .bl _,v,h=>by simpa[Rep]using h
 | .int _,v,h=>by simpa[Rep]using h
 | .str _,v,h=>by simpa[Rep]using h
 | .tup ds,v,h=>by
  rw[Rep]at h ⊢
  obtain⟨b,xs,e1,e2,e3⟩:=h
  have n:¬ P b:=fun p=>by rcases hm b _ p e2 with⟨z,q⟩ | ⟨z,q⟩ | ⟨z,q⟩<;>cases q
  exact⟨b,xs,e1,k _ _ n e2,ae.off hm k e3⟩
 | .lst ds,v,h=>by
  rw[Rep]at h ⊢
  obtain⟨b,xs,e1,e0,e2,e3⟩:=h
  exact⟨b,xs,e1,e0,k _ _ e0 e2,ae.off hm k e3⟩
 | .dK ks ds,v,h=>by
  rw[Rep]at h ⊢
  obtain⟨b,xs,e1,e0,e2,el,e3⟩:=h
  exact⟨b,xs,e1,e0,k _ _ e0 e2,el,ae.off hm k e3⟩
 | .dT ks ds,v,h=>by
  rw[Rep]at h ⊢
  obtain⟨b,xs,e1,e0,e2,el,e3⟩:=h
  exact⟨b,xs,e1,e0,k _ _ e0 e2,el,ae.off hm k e3⟩
 | .scr ds,v,h=>by
  rw[Rep]at h ⊢
  obtain⟨b,xs,e1,e2,e3⟩:=h
  refine⟨b,xs,e1,?_,ae.off hm k e3⟩
  rcases e2 with⟨q,e2⟩ | e2
  ·have n:¬ P b:=fun p=>by rcases hm b _ p e2 with⟨z,q⟩ | ⟨z,q⟩ | ⟨z,q⟩<;>cases q
   exact .inl ⟨q,k _ _ n e2⟩
  ·exact .inr e2
 | .exc c,v,h=>by
  rw[Rep]at h ⊢
  exact h.keep fun b ob u q=>k _ _ (fun p=>by rcases hm b _ p q with⟨z,y⟩ | ⟨z,y⟩ | ⟨z,y⟩<;>cases y) q
theorem ae.off{P:Addr->Prop}{K:PySem.W.Frag}{H H':Hp}(hm:∀ b o,P b->H b=some o->du o)(k:Off P H H'):∀ {ds:List RL.D} {xs:List V},ae P K H ds xs->ae P K H' ds xs
 | [],xs,h=>by rw[ae]at h ⊢;exact h
 | d::r,xs,h=>by
  rw[ae]at h ⊢
  obtain⟨x,t,e1,e2,e3⟩:=h
  exact⟨x,t,e1,Rep.off hm k e2,ae.off hm k e3⟩
end
structure iX(K:PySem.W.Frag)(J:L2.It)(ds:List RL.D)(P:Addr->Prop)(H:Hp):Prop where
 go:∀ H' i,Off P H H'->i<ds.length->J.go i H'
 stop:∀ H',Off P H H'->J.stop ds.length H'
 yld:∀ H' i d x H2,Off P H H'->ds[i]?=some d->J.yld i H' x H2->aq H' H2/\(d.imm=true\/aq H H'->Rep nP K H2 d x)
noncomputable def Ad(K:PySem.W.Frag)(σD:RL.St)(σ:L2.St)(H:Hp)(it:RL.It)(J:L2.It)(ds:List RL.D)(H1:Hp):Prop :=
 iX K J ds nP H1/\∀ (M:List Nat) (P:Addr->Prop),RL.qV M it=true->(∀ b,P b->∃ o,H b=some o/\du o)->(∀ (j:Nat) (dj:RL.D) (vj:V),M.contains j=false->σD[j]?=some (some dj)->σ[j]?=some (some vj)->Rep P K H dj vj)->iX K J ds P H1
noncomputable def tI(K:PySem.W.Frag)(cl:RL.Cl)(it:RL.It):TI:=fun σ H R=>∃ σD ds,RV0 K σD σ H/\RL.bp cl σD it=some ds/\∀ J H1,aq H H1->Ad K σD σ H it J ds H1->R J H1
noncomputable def SI(X:Cx)(cl:RL.Cl)(tg iter:Expr)(it:RL.It):Prop:=PI X tg iter (tI X.K cl it)
theorem PI.weak{X:Cx}{tg iter:Expr}{t t':TI}(h:PI X tg iter t)(w:∀ σ H R,t' σ H R->t σ H R):PI X tg iter t':=fun pins s σ H R I q=>h pins s σ H R I (w σ H R q)
theorem i7{K:PySem.W.Frag}{P:Addr->Prop}{H H':Hp}{d:RL.D}{v:V}(hm:∀ b o,P b->H b=some o->du o)(k:Off P H H')(r:Rep nP K H d v)(i:d.imm=true):Rep nP K H' d v :=
 ((r.imm i).off hm k).imm i
theorem sy{K:PySem.W.Frag}{H:Hp}{a:Addr}{ds:List RL.D}{xs:List V}{P:Addr->Prop}(h:H a=some (.lst xs))(r:ae nP K H ds xs)(hp:¬ P a)(hm:∀ b o,P b->H b=some o->du o):iX K (Itl K a) ds P H where
 go:=fun H' i k hi=>by
  obtain⟨x,e,_⟩:=r.get (i:=i) (d:=ds[i]) (by simp[hi])
  exact⟨xs,x,SqL.of (k _ _ hp h),e⟩
 stop:=fun H' k=>⟨xs,SqL.of (k _ _ hp h),by rw[r.length];exact Nat.le_refl _⟩
 yld:=fun H' i d x H2 k e y=>by
  obtain⟨z,y⟩:=y
  subst z
  have hx:=y xs (SqL.of (k _ _ hp h))
  obtain⟨x',e1,e2⟩:=r.get e
  rw[hx]at e1
  cases e1
  refine⟨aq.refl _,fun q=>?_⟩
  rcases q with q | q
  ·exact i7 hm k e2 q
  ·exact e2.same q
theorem wu{K:PySem.W.Frag}{H:Hp}{a:Addr}{ds:List RL.D}{xs:List V}{P:Addr->Prop}(h:H a=some (.tup xs))(r:ae nP K H ds xs)(hm:∀ b o,P b->H b=some o->du o):iX K (Itt K a) ds P H:=by
 have hp:¬ P a:=fun p=>by rcases hm a _ p h with⟨z,q⟩ | ⟨z,q⟩ | ⟨z,q⟩<;>cases q
 exact {
  go:=fun H' i k hi=>by
   obtain⟨x,e,_⟩:=r.get (i:=i) (d:=ds[i]) (by simp[hi])
   exact⟨xs,x,SqT.of (k _ _ hp h),e⟩
  stop:=fun H' k=>⟨xs,SqT.of (k _ _ hp h),by rw[r.length];exact Nat.le_refl _⟩
  yld:=fun H' i d x H2 k e y=>by
   obtain⟨z,y⟩:=y
   subst z
   have hx:=y xs (SqT.of (k _ _ hp h))
   obtain⟨x',e1,e2⟩:=r.get e
   rw[hx]at e1
   cases e1
   refine⟨aq.refl _,fun q=>?_⟩
   rcases q with q | q
   ·exact i7 hm k e2 q
   ·exact e2.same q }
theorem lJ:∀ (n:Nat) (lo:Int) (i:Nat) (d:RL.D),(RL.c9 lo n)[i]?=some d->d=.int (lo+i)
 | 0,lo,i,d,h=>by simp[RL.c9]at h
 | n+1,lo,0,d,h=>by simp[RL.c9]at h;simp[h]
 | n+1,lo,i+1,d,h=>by
  rw[RL.c9,List.getElem?_cons_succ]at h
  rw[lJ n (lo+1) i d h]
  congr 1
  lia
theorem iJ:∀ (n:Nat) (lo:Int),(RL.c9 lo n).length=n
 | 0,_=>rfl
 | n+1,lo=>by rw[RL.c9,List.length_cons,iJ n]
theorem lV{K:PySem.W.Frag}{H:Hp}{lo:Int}{n:Nat}{P:Addr->Prop}:iX K (Itr lo n) (RL.c9 lo n) P H where
 go:=fun H' i k hi=>by rw[iJ]at hi;exact hi
 stop:=fun H' k=>by rw[iJ];exact Nat.le_refl _
 yld:=fun H' i d x H2 k e y=>by
  obtain⟨z,y⟩:=y
  subst z
  refine⟨aq.refl _,fun _=>?_⟩
  rw[lJ n lo i d e,y]
  exact aX
section rules
variable{X:Cx}{cl:RL.Cl}{tg a b l:Expr}{a' b' e':RL.E}{pos p:Pos}
theorem EU{t t':TE}{l:Expr}(hl:PE X l t):PI X tg l (fun σ H R=>t σ H fun x H1=>(∃ a,x=.ref a/\(∃ xs,SqL X.K H1 a xs)/\R (Itl X.K a) H1)\/(∃ a,x=.ref a/\(∃ xs,SqT X.K H1 a xs)/\R (Itt X.K a) H1)):=by
 intro pins s σ H R I h
 refine thn (hl pins s σ H _ I h) fun v s1 ⟨x,H1,I1,r1,q1⟩=>?_
 rcases q1 with⟨a,e,⟨xs,hq⟩,q⟩ | ⟨a,e,⟨xs,hq⟩,q⟩
 ·subst e
  cases r1
  obtain⟨its,rv,p,hz⟩:=I1.list hq
  refine wpAny_pyIter_list p.isList ⟨s1.heap.objs.size,[s1.heap.objs.size],_,_,H1,rfl,I1.kept (t':=s1.toks) fun b o e=>Heap.get?_push_of_some _ e,wR a _,⟨_,Heap.get?_push_size _ rfl,rfl,rfl⟩,fun b hb=>?_,q⟩
  rw[show b=s1.heap.objs.size by simpa using hb]
  exact I1.qB (Nat.le_refl _) (I1.hok.fresh (Nat.le_refl _))
 ·subst e
  cases r1
  obtain⟨its,rv,p,hz⟩:=I1.tuple hq
  refine wpAny_pyIter_tuple (show s1.heap.IsTuple a its.toArray from p) ⟨s1.heap.objs.size,[s1.heap.objs.size],_,_,H1,rfl,I1.kept (t':=s1.toks) fun b o e=>Heap.get?_push_of_some _ e,uj a _,⟨_,Heap.get?_push_size _ rfl,rfl,rfl⟩,fun b hb=>?_,q⟩
  rw[show b=s1.heap.objs.size by simpa using hb]
  exact I1.qB (Nat.le_refl _) (I1.hok.fresh (Nat.le_refl _))
theorem pQ{σD:RL.St}{σ:L2.St}{H H1:Hp}{d:RL.D}{v:V}{M:List Nat}{P:Addr->Prop}(r1:Res X.K σD σ H e' d v H1)(z:(RL.avE M e' || RL.aF e')=true)(hP:∀ b,P b->∃ o,H b=some o/\du o)
 (av:∀ (j:Nat) (dj:RL.D) (vj:V),M.contains j=false->σD[j]?=some (some dj)->σ[j]?=some (some vj)->Rep P X.K H dj vj):∀ ds a,d=.lst ds->v=.ref a->¬ P a:=by
 intro ds a hd hv
 subst hd hv
 rw[Bool.or_eq_true]at z
 rcases z with z | z
 ·obtain⟨p,xs,e1,e2,_⟩:=aG (r1.av M z P (fun b q=>by obtain⟨o,ho,_⟩:=hP b q;rw[ho];exact fun z=>nomatch z) av)
  cases e1
  exact e2
 ·intro q
  obtain⟨o,ho,_⟩:=hP a q
  rw[r1.fresh z rfl a rfl]at ho
  cases ho
theorem kW{P:Addr->Prop}{H H1:Hp}(s:aq H H1)(hP:∀ b,P b->∃ o,H b=some o/\du o):∀ b o,P b->H1 b=some o->du o:=fun b o q e=>by
 obtain⟨o',ho,m⟩:=hP b q
 rw[s _ _ ho]at e
 cases e
 exact m
theorem oV{H1:Hp}:∀ b o,nP b->H1 b=some o->du o:=fun b o q=>q.elim
theorem D4(hl:SE X cl l e')(hs:True):PI X tg l (fun σ H R=>∃ σD d ds,RV0 X.K σD σ H/\RL.ev cl σD e'=some d/\RL.items d=some ds/\∀ J H1,aq H H1->Ad X.K σD σ H (.seq e') J ds H1->R J H1):=by
 refine PI.weak (EU (t':=tE X.K cl e') hl) fun σ H R h=>?_
 obtain⟨σD,d,ds,rv,e,ei,k⟩:=h
 refine⟨σD,d,rv,e,fun v H1 r1=>?_⟩
 obtain⟨p,xs,rfl,hp,rs⟩:=gr ei r1.rep
 rcases hp with⟨hp,rfl⟩ | ⟨hp,rfl⟩
 ·refine .inl ⟨p,rfl,⟨xs,SqL.of hp⟩,k _ _ r1.same ⟨sy hp rs (fun z=>z) oV,fun M P z hP av=>sy hp rs (pQ r1 z hP av _ _ rfl rfl) (kW r1.same hP)⟩⟩
 ·exact .inr ⟨p,rfl,⟨xs,SqT.of hp⟩,k _ _ r1.same ⟨wu hp rs oV,fun M P z hP av=>wu hp rs (kW r1.same hP)⟩⟩
theorem lN{x y:RL.D}{ds:List RL.D}(h:RL.dU x y=some ds):∃ i j:Int,x=.int i/\y=.int j/\(-(2 ^ 62)<=i/\i<2 ^ 62/\-(2 ^ 62)<=j/\j<2 ^ 62)/\(j-i).toNat<=RL.most/\ds=RL.c9 i (j-i).toNat:=by
 have no:∀ {o:Option (List RL.D)},o=none->o=some ds->False:=fun e h=>by rw[e]at h;cases h
 cases x with
 | int i=>cases y with
  |int j=>
   obtain⟨hc,e⟩:=cE h
   have lo:-(2 ^ 62:Int)<=-(2 ^ 60):=by decide
   have hi:(2 ^ 60:Int)<2 ^ 62:=by decide
   exact⟨i,j,rfl,rfl,⟨Int.le_trans lo hc.2.1,Int.lt_trans hc.2.2.1 hi,Int.le_trans lo hc.2.2.2.1,Int.lt_trans hc.2.2.2.2 hi⟩,hc.1,e⟩
  | _=>exact(no rfl h).elim
 | _=>exact(no rfl h).elim
theorem Bp(hg:Gl X "range")(hm:X.mg "range" = none)(ha:SE X cl a a')(hn:noStar a=true):SI X cl tg (.Call (.Name "range" p) [a] [] pos) (.rng1 a'):=by
 refine PI.weak (xw hg hm (br (cl:=cl) ha c5 hn) (ao [] hn)) fun σ H R h=>?_
 obtain⟨σD,ds,rv,e,k⟩:=h
 rw[RL.bp]at e
 obtain⟨x,ea,e⟩:=bind_some e
 obtain⟨i,j,e1,rfl,hb,_,rfl⟩:=lN e
 cases e1
 refine⟨σD,[.int j],rv,by rw[RL.evs,ea];rfl,fun vs H1 s1 r1=>?_⟩
 rw[ae]at r1
 obtain⟨v,t,rfl,r2,r3⟩:=r1
 rw[ae]at r3
 subst r3
 refine⟨j,by rw[ag r2],hb.2.2.1,hb.2.2.2,?_⟩
 have hz:(j-0).toNat=j.toNat:=by simp
 rw[hz]at k
 exact k _ _ s1 ⟨lV,fun _ _ _ _ _=>lV⟩
theorem Am(hg:Gl X "range")(hm:X.mg "range" = none)(ha:SE X cl a a')(hb:SE X cl b b')(hn:noStar a=true)(hn2:noStar b=true):SI X cl tg (.Call (.Name "range" p) [a,b] [] pos) (.rng2 a' b'):=by
 refine PI.weak (wM hg hm (br (cl:=cl) ha (br hb c5 hn2) hn) (by rw[ao _ hn,ao _ hn2];rfl) (ao [] hn2)) fun σ H R h=>?_
 obtain⟨σD,ds,rv,e,k⟩:=h
 rw[RL.bp]at e
 obtain⟨x,ea,e⟩:=bind_some e
 obtain⟨y,eb,e⟩:=bind_some e
 obtain⟨i,j,rfl,rfl,hb,_,rfl⟩:=lN e
 refine⟨σD,[.int i,.int j],rv,by rw[RL.evs,ea,RL.evs,eb];rfl,fun vs H1 s1 r1=>?_⟩
 rw[ae]at r1
 obtain⟨v,t,rfl,r2,r3⟩:=r1
 rw[ae]at r3
 obtain⟨u,t,rfl,r4,r5⟩:=r3
 rw[ae]at r5
 subst r5
 exact⟨i,j,by rw[ag r2,ag r4],hb,k _ _ s1 ⟨lV,fun _ _ _ _ _=>lV⟩⟩
end rules
end RS
namespace L2
open PySem PySem.Spec PyProof.Rows
noncomputable def gC(ifs:List Expr)(env:Env):Sem Bool:=forIn ifs true fun c r=>if r=true then do let ok <- isTrue c env (eval c env);pure (ForInStep.yield ok)else pure (ForInStep.yield r)
section
variable{M:Model}{A:Around}{Q:Fin->Shared->Prop}{E:Value->Shared->Prop}{s:Shared}
theorem CV{α:Type}{m:Sem α}{P:α->Shared->Prop}{E:Value->Shared->Prop}{s:Shared}(h:wpAny M A m P (fun _ _=>False) s):wpAny M A m P E s :=
 wpAny_mono h (fun _ _ q=>q) fun _ _ z=>z.elim
theorem di{α β:Type}{m:Sem α}{k:α->Sem β}{P:β->Shared->Prop}{E:Value->Shared->Prop}{s:Shared}(h:wpAny M A m (fun a s1=>wpAny M A (k a) P E s1) (fun _ _=>False) s):wpAny M A (m >>= k) P E s:=wpAny_bind (CV h)
end
section
variable{prog:Program}{w:World}{A:Around}{elt tg iter:Expr}{ifs:List Expr}{scope:Scope}{pos:Pos}{it acc:Value}{env:Env}
noncomputable def oj(prog:Program)(w:World)(A:Around)(elt tg:Expr)(ifs:List Expr)(it acc:Value)(env:Env)(stop next:Shared->Prop)(s:Shared):Prop :=
 wpAny (model prog w) A (pyNext it) (fun r s1=>match r with
  | none=>stop s1
  | some v=>wpAny (model prog w) A (letOwnedTupleGo tg it v) (fun _ s2=>wpAny (model prog w) A (assign tg env v) (fun _ s3=>wpAny (model prog w) A (gC ifs env) (fun ok s4 =>
     if ok=true then wpAny (model prog w) A (eval elt env) (fun x s5=>wpAny (model prog w) A (call (.builtin "list.append") [acc,x]) (fun _ s6=>next s6) (fun _ _=>False) s5) (fun _ _=>False) s4
     else next s4) (fun _ _=>False) s3) (fun _ _=>False) s2) (fun _ _=>False) s1) (fun _ _=>False) s
theorem yZ{stop next:Shared->Prop}{E:Value->Shared->Prop}{s:Shared}(h:oj prog w A elt tg ifs it acc env stop next s) :
  wpAny (model prog w) A (compTurn (.ListComp elt [⟨tg,iter,ifs,0⟩] scope pos) 0 it acc env) (fun fin s'=>match fin with
   | .done f=>f=.next/\stop s'
   | .again c=>c=.compLoop (.ListComp elt [⟨tg,iter,ifs,0⟩] scope pos) 0 it acc env/\next s') E s:=by
 rw[compTurn_list]
 apply wpAny_bind
 apply wpAny_standAt
 apply di
 refine thn h fun r s1 h1=>?_
 cases r with
 |none=>
  apply wpAny_pure
  exact⟨rfl,h1⟩
 |some v=>
  apply di
  refine thn h1 fun _ s2 h2=>?_
  apply di
  refine thn h2 fun _ s3 h3=>?_
  apply di
  refine thn h3 fun ok s4 h4=>?_
  cases ok
  ·apply wpAny_pure
   exact⟨rfl,h4⟩
  ·apply wpAny_bind
   apply di
   refine thn h4 fun x s5 h5=>?_
   apply di
   refine thn h5 fun _ s6 h6=>?_
   apply wpAny_pure
   apply wpAny_pure
   exact⟨rfl,h6⟩
theorem we{R:Result->Shared->Prop}{s:Shared}(I:Nat->Shared->Prop)(turn:∀ n s,I n s->oj prog w A elt tg ifs it acc env (R (.ok .next)) (fun s'=>∃ m,m<n/\I m s') s)
 (n:Nat)(h:I n s):codeAny (model prog w) A (.compLoop (.ListComp elt [⟨tg,iter,ifs,0⟩] scope pos) 0 it acc env) R s :=
 codeAny_loop (M:=model prog w) rfl I (fun n s hI=>wpAny_noted (thn (yZ (turn n s hI)) fun fin s' q=>by
  cases fin with
  |done f=>
   obtain⟨rfl,q⟩:=q
   exact q
  | again c=>exact q)) n h
end
theorem jU:∀ (names:List (Str × NameKind)) (n:Nat) (acc:List (Str × Addr)) (x:Str) (c:Addr),(cellsFrom n names acc).lookup x=some c->(acc.lookup x=some c/\(x,NameKind.cell)∉names)\/(n<=c/\(x,NameKind.cell)∈names)
 | [],n,acc,x,c,h=>.inl ⟨h,by simp⟩
 | (nm,k)::r,n,acc,x,c,h=>by
  unfold cellsFrom at h
  by_cases hk:(k == NameKind.cell)=true
  ·rw[if_pos hk]at h
   have ek:k=.cell:=by simpa using hk
   subst ek
   rcases jU r (n+1) ((nm,n)::acc) x c h with⟨a,b⟩ | ⟨a,b⟩
   ·rw[List.lookup_cons]at a
    cases hx:x == nm with
    |true=>
     rw[hx]at a
     cases a
     have:x=nm:=by simpa using hx
     subst this
     exact .inr ⟨Nat.le_refl _,List.mem_cons_self ..⟩
    |false=>
     rw[hx]at a
     refine .inl ⟨a,fun z=>?_⟩
     rcases List.mem_cons.mp z with z | z
     ·cases z
      simp at hx
     ·exact b z
   ·exact .inr ⟨Nat.le_of_succ_le a,List.mem_cons_of_mem _ b⟩
  ·rw[if_neg hk]at h
   rcases jU r n acc x c h with⟨a,b⟩ | ⟨a,b⟩
   ·refine .inl ⟨a,fun z=>?_⟩
    rcases List.mem_cons.mp z with z | z
    ·cases z
     exact hk (by simp)
    ·exact b z
   ·exact .inr ⟨a,List.mem_cons_of_mem _ b⟩
theorem mU:∀ (names:List (Str × NameKind)) (n:Nat) (acc:List (Str × Addr)) (x:Str),(x,NameKind.cell)∉names->(cellsFrom n names acc).lookup x=acc.lookup x
 | [],n,acc,x,_=>rfl
 | (nm,k)::r,n,acc,x,h=>by
  have hr:(x,NameKind.cell)∉r:=fun z=>h (List.mem_cons_of_mem _ z)
  unfold cellsFrom
  by_cases hk:(k == NameKind.cell)=true
  ·rw[if_pos hk,mU r (n+1) _ x hr,List.lookup_cons]
   have ek:k=.cell:=by simpa using hk
   subst ek
   have:(x == nm)=false:=by
    rw[beq_eq_false_iff_ne]
    intro z
    subst z
    exact h (List.mem_cons_self ..)
   rw[this]
  ·rw[if_neg hk]
   exact mU r n acc x hr
theorem r8:∀ (names:List (Str × NameKind)) (n:Nat) (acc:List (Str × Addr)),(∀ x c,acc.lookup x=some c->c<n)->(∀ x y c,acc.lookup x=some c->acc.lookup y=some c->x=y)->∀ x y c,(cellsFrom n names acc).lookup x=some c->(cellsFrom n names acc).lookup y=some c->x=y
 | [],n,acc,_,hi,x,y,c,h1,h2=>hi x y c h1 h2
 | (nm,k)::r,n,acc,hl,hi,x,y,c,h1,h2=>by
  unfold cellsFrom at h1 h2
  by_cases hk:(k == NameKind.cell)=true
  ·rw[if_pos hk]at h1 h2
   refine r8 r (n+1) ((nm,n)::acc) (fun x c e=>?_) (fun x y c e1 e2=>?_) x y c h1 h2
   ·rw[List.lookup_cons]at e
    cases hx:x == nm with
    | true=>rw[hx]at e;cases e;exact Nat.lt_succ_self _
    | false=>rw[hx]at e;exact Nat.lt_succ_of_lt (hl x c e)
   ·rw[List.lookup_cons]at e1 e2
    cases hx:x == nm with
    |true=>
     rw[hx]at e1
     cases e1
     cases hy:y == nm with
     |true=>
      have a:x=nm:=by simpa using hx
      have b:y=nm:=by simpa using hy
      rw[a,b]
     |false=>
      rw[hy]at e2
      exact absurd (hl y n e2) (Nat.lt_irrefl _)
    |false=>
     rw[hx]at e1
     cases hy:y == nm with
     |true=>
      rw[hy]at e2
      cases e2
      exact absurd (hl x n e1) (Nat.lt_irrefl _)
     |false=>
      rw[hy]at e2
      exact hi x y c e1 e2
  ·rw[if_neg hk]at h1 h2
   exact r8 r n acc hl hi x y c h1 h2
theorem ng:∀ (names:List (Str × NameKind)) (h:Heap) (acc:List (Str × Addr)) (x:Str) (c:Addr),(cellsFrom h.objs.size names acc).lookup x=some c->acc.lookup x=some c\/(pushCells h names).IsCell c none
 | [],h,acc,x,c,e=>.inl e
 | (nm,k)::r,h,acc,x,c,e=>by
  unfold cellsFrom at e
  unfold pushCells
  by_cases hk:(k == NameKind.cell)=true
  ·rw[if_pos hk]at e ⊢
   have e':(cellsFrom (h.push { cls:=.type "cell",data:=.cell none }).objs.size r ((nm,h.objs.size)::acc)).lookup x=some c:=by rw[Heap.size_push];exact e
   rcases ng r (h.push { cls:=.type "cell",data:=.cell none }) ((nm,h.objs.size)::acc) x c e' with a | a
   ·rw[List.lookup_cons]at a
    cases hx:x == nm with
    |true=>
     rw[hx]at a
     cases a
     exact .inr ⟨_,pushCells_keeps r _ _ _ (Heap.get?_push_size _ rfl),rfl⟩
    |false=>
     rw[hx]at a
     exact .inl a
   ·exact .inr a
  ·rw[if_neg hk]at e ⊢
   exact ng r h acc x c e
theorem AY{M:Model}{A:Around}{E:Value->Shared->Prop}{s:Shared}{scope:Scope}{globals:Addr}{closure:List (Str × Addr)}{qual:Str}{func:Option Addr}{code:Value}{outer:Env}{builtins:Addr}{Q:Env->Shared->Prop}
 (hQ:Q (newEnv scope s.heap.objs.size globals (cellsFrom (s.heap.objs.size+1) scope.names closure) qual func code (some outer) builtins) { s with heap:=pushCells (s.heap.push { cls:=.type "dict",data:=.dict #[] }) scope.names }) :
  wpAny M A (newFunctionEnv scope globals closure [] qual func code (some outer) builtins) Q E s:=by
 simp only[newFunctionEnv,Option.isSome_some,if_true]
 refine wpAny_bind (wpAny_alloc ?_)
 refine wpAny_bind (wpAny_layCells _ (fun name kind cells=>by cases hkc:kind == NameKind.cell<;>simp[hkc]) _ _ _ _ ?_)
 rw[show({ s with heap:=s.heap.push { cls:=.type "dict",data:=.dict #[] } }:Shared).heap.objs.size=s.heap.objs.size+1 from Heap.size_push ..]
 refine wpAny_bind ?_
 rw[List.forIn_nil]
 exact wpAny_pure (wpAny_pure hQ)
noncomputable def blk(X:Cx)(scope:Scope)(cls:List (Str × Addr))(C:Addr)(fp:List Addr)(s:Shared)(H:Hp):Cx where
 prog:=X.prog
 w:=X.w
 K:=X.K
 mg:=X.mg
 base:=X.base
 A:=X.A
 N:=X.N
 s₀:=s
 H₀:=H
 env:=compEnvC scope cls C X.env
 outer:=X.stack
 stack:=X.stack
 ex:=fp
 fn:=fun x=>scope.names.lookup x == some .cell
 calm:=X.calm
 pn:=[]
 xe:=fun _ _=>False
structure f7(scope:Scope)(sc:Scope)(cls:List (Str × Addr))(cells:List (Str × Addr)):Prop where
 kind:scope.kind=.function
 own:∀ x∈scope.names,x.2=.cell->scope.names.lookup x.1=some .cell
 loc:∀ x∈scope.names,x.2=.local->scope.names.lookup x.1=some .local
 sub:∀ x c,cls.lookup x=some c->cells.lookup x=some c
 has:∀ x,scope.names.lookup x=some .free->∃ c,cls.lookup x=some c
 vis:∀ x,scope.names.lookup x=some .free->sc.names.lookup x=some .cell\/sc.names.lookup x=some .free
theorem bK{env:Env}:∀ {names:List (Str × NameKind)} {x:Str} {k:NameKind},
  (names.map fun(n,k)=>if(k == NameKind.free&&env.scope.kind == .function&&env.kindOf n == some .cell)then(n,NameKind.cell)else(n,k)).lookup x=some k ->
  names.lookup x=some k\/(k=.cell/\names.lookup x=some .free/\env.kindOf x=some .cell)
 | [],x,k,h=>by simp at h
 | (n,k')::r,x,k,h=>by
  have ih:=@bK env r x k
  rw[List.map_cons]at h
  cases hx:x == n with
  |true=>
   have en:x=n:=by simpa using hx
   subst en
   by_cases hc:(k' == NameKind.free&&env.scope.kind == .function&&env.kindOf x == some .cell)=true
   ·simp only[hc,if_true]at h
    rw[List.lookup_cons,hx]at h
    cases h
    simp only[Bool.and_eq_true,beq_iff_eq]at hc
    refine .inr ⟨rfl,?_,hc.2⟩
    rw[List.lookup_cons,hx,hc.1.1]
   ·simp only[Bool.not_eq_true]at hc
    simp only[hc,Bool.false_eq_true,if_false]at h
    rw[List.lookup_cons,hx]at h
    cases h
    exact .inl (by rw[List.lookup_cons,hx])
  |false=>
   have h':(r.map fun(n,k)=>if(k == NameKind.free&&env.scope.kind == .function&&env.kindOf n == some .cell)then(n,NameKind.cell)else(n,k)).lookup x=some k:=by
    by_cases hc:(k' == NameKind.free&&env.scope.kind == .function&&env.kindOf n == some .cell)=true
    ·simp only[hc,if_true]at h
     rw[List.lookup_cons,hx]at h
     exact h
    ·simp only[Bool.not_eq_true]at hc
     simp only[hc,Bool.false_eq_true,if_false]at h
     rw[List.lookup_cons,hx]at h
     exact h
   rcases ih h' with q | ⟨q1,q2,q3⟩
   ·exact .inl (by rw[List.lookup_cons,hx];exact q)
   ·exact .inr ⟨q1,by rw[List.lookup_cons,hx];exact q2,q3⟩
noncomputable def zL(X:Cx)(scope:Scope)(σ σB:St):Prop:=σB.length=σ.length/\∀ (i:Nat) (x:Str) (v:V),X.N[i]?=some x->σB[i]?=some (some v)->σ[i]?=some (some v)/\scope.names.lookup x≠some .local/\scope.names.lookup x≠some .cell
section
variable{X:Cx}{pins:List (Addr × Obj)}{σ σB:St}{H:Hp}{s:Shared}{scope:Scope}{cls:List (Str × Addr)}{fp:List Addr}
theorem Inv.hxb{scope:Scope}{cls:List (Str × Addr)}{C:Addr}{fp:List Addr}(I:Inv X pins σ H s):HX (blk X scope cls C fp s H):=by
 rcases I.ok.hd.2 with z | ⟨h,o,u,vs,h1,h2,h3⟩
 ·exact .inl z
 ·exact .inr ⟨h,o,u,vs,h1,I.base.cJ _ _ _ h2,h3⟩
theorem Bc{h':Heap}{t:Nat}(I:Inv X pins σ H s)(S:f7 scope X.env.scope cls X.env.cells)(hf:∀ b∈fp,ja X pins H b/\b<s.heap.objs.size)(ho:zL X scope σ σB)
 (hns:h'.Ns s.heap.objs.size (fun _=>none))(hk:∀ b o,s.heap.get? b=some o->h'.get? b=some o)(hcl:∀ x c,(cellsFrom (s.heap.objs.size+1) scope.names cls).lookup x=some c->cls.lookup x=some c\/h'.IsCell c none) :
  Inv (blk X scope (cellsFrom (s.heap.objs.size+1) scope.names cls) s.heap.objs.size fp s H) [] σB H { s with heap:=h',toks:=t }:=by
 have hC:H s.heap.objs.size=none:=I.hok.fresh (Nat.le_refl _)
 have clt:∀ x c,cls.lookup x=some c->c<s.heap.objs.size:=fun x c e=>by
  obtain⟨v,q⟩:=I.cell x c (S.sub x c e)
  exact q.lt
 have cas:∀ x c,(cellsFrom (s.heap.objs.size+1) scope.names cls).lookup x=some c->(X.env.cells.lookup x=some c/\c<s.heap.objs.size)\/(s.heap.objs.size+1<=c/\scope.names.lookup x=some .cell):=fun x c e=>by
  rcases jU _ _ _ _ _ e with⟨a,_⟩ | ⟨a,b⟩
  ·exact .inl ⟨S.sub x c a,clt x c a⟩
  ·exact .inr ⟨a,S.own _ b rfl⟩
 have fre:∀ x c,cls.lookup x=some c->scope.names.lookup x=some .free->(cellsFrom (s.heap.objs.size+1) scope.names cls).lookup x=some c:=fun x c e f=>by
  rw[mU _ _ _ _ fun z=>by rw[S.own _ z rfl]at f;cases f]
  exact e
 refine⟨⟨I.ok.mod,?_,I.ok.glob,I.ok.blt,Nat.le_refl _,fun x y c h1 h2=>r8 _ _ _ (fun x c e=>Nat.lt_succ_of_lt (clt x c e)) (fun x y c e1 e2=>I.ok.inj x y c (S.sub x c e1) (S.sub y c e2)) x y c h1 h2,fun x hx=>?_,fun x c z e=>?_,⟨I.ok.hd.1,I.hxb⟩,I.ok.frames,.inl rfl,fun b hb=>?_,fun b o e=>I.bs b o e,Nat.le_trans I.ok.bsz I.sz,fun b o e hb=>?_,fun b hb=>?_,I.stack,I.jI⟩,
  rfl,I.bare,Un.kept hk,⟨_,hns,fun i x v h1 h2 h3=>?_⟩,fun x c e=>?_,hC,fun x c e=>?_,fun p hp=>absurd hp (by simp[blk]),I.hok.kept hk,ho.1.trans I.len⟩
 ·exact S.kind
 ·have hx:(relabel scope X.env).names.lookup x=some .cell\/(relabel scope X.env).names.lookup x=some .free:=hx
  have key:scope.names.lookup x=some .cell\/scope.names.lookup x=some .free:=by
   rcases hx with hx | hx
   ·rcases bK hx with q | ⟨_,q,_⟩
    ·exact .inl q
    ·exact .inr q
   ·rcases bK hx with q | ⟨q,_⟩
    ·exact .inr q
    ·cases q
  rcases key with q | q
  ·have:=PySem.W.cellsFrom_some scope.names (s.heap.objs.size+1) cls (.inl q)
   exact Option.isSome_iff_exists.mp this
  ·obtain⟨c,hc⟩:=S.has x q
   exact⟨c,fre x c hc q⟩
 ·have z:(scope.names.lookup x == some .cell)=true:=z
  rcases jU _ _ _ _ _ (show(cellsFrom (s.heap.objs.size+1) scope.names cls).lookup x=some c from e)with⟨_,b⟩ | ⟨b,_⟩
  ·exact absurd (PySem.mem_of_lookup (by simpa using z)) b
  ·exact Nat.le_of_succ_le b
 ·obtain⟨⟨f0,f1,f2,f3,f4,f5⟩,f6⟩:=hf b hb
  refine⟨Nat.ne_of_lt f6,fun x c e=>?_⟩
  rcases cas x c e with⟨a,_⟩ | ⟨a,_⟩
  ·exact f4 x c a
  ·exact Nat.ne_of_gt (Nat.lt_trans f6 a)
 ·obtain⟨⟨f0,f1,f2,f3,f4,f5⟩,f6⟩:=hf b hb
  rcases f3 with z | z
  ·exact I.ok.iV b o e z
  ·exact absurd (Nat.lt_of_lt_of_le (Heap.lt_size e) I.ok.bsz) (Nat.not_lt.mpr z)
 ·obtain⟨⟨f0,f1,f2,f3,f4,f5⟩,f6⟩:=hf b hb
  intro z
  rcases List.mem_cons.mp (I.pd b z)with e | e
  ·exact f1 e
  ·exact f2 e
 ·obtain⟨h4,h5,h6⟩:=ho.2 i x v h1 h2
  have h3:(relabel scope X.env).names.lookup x=some .local\/(relabel scope X.env).names.lookup x=some .cell\/(relabel scope X.env).names.lookup x=some .free:=h3
  have key:scope.names.lookup x=some .free:=by
   rcases h3 with z | z | z
   ·rcases bK z with q | ⟨q,_⟩
    ·exact absurd q h5
    ·cases q
   ·rcases bK z with q | ⟨_,q,_⟩
    ·exact absurd q h6
    ·exact q
   ·rcases bK z with q | ⟨q,_⟩
    ·exact q
    ·cases q
  obtain⟨c,hc⟩:=S.has x key
  have hcx:=S.sub x c hc
  obtain⟨m,hn,hl⟩:=I.loc
  have hv:Vis X.env.scope x:=.inr (S.vis x key)
  obtain⟨u,ru,lk⟩:=hl i x v h1 h4 hv
  refine⟨u,ru,.inr ⟨?_,c,fre x c hc key,?_⟩⟩
  ·rcases h3 with z | z
   ·rcases bK z with q | ⟨q,_⟩
    ·exact absurd q h5
    ·cases q
   ·exact z
  ·rcases lk with⟨z,_⟩ | ⟨_,c',e',q⟩
   ·have z:X.env.scope.names.lookup x=some .local:=z
    rcases S.vis x key with z' | z'<;>(rw[z]at z';cases z')
   ·rw[hcx]at e'
    cases e'
    obtain⟨o,g1,g2⟩:=q
    exact⟨o,hk _ _ g1,g2⟩
 ·rcases hcl x c e with a | a
  ·obtain⟨v,q⟩:=I.cell x c (S.sub x c a)
   obtain⟨o,h1,h2⟩:=q
   exact⟨v,o,hk _ _ h1,h2⟩
  ·exact⟨none,a⟩
 ·rcases cas x c e with⟨a,_⟩ | ⟨a,_⟩
  ·exact I.cA x c a
  ·exact I.hok.fresh (Nat.le_of_succ_le a)
noncomputable def gY(wi:TI)(clr:St->St)(g:TG)(tc:TT)(te:TE):TE:=fun σ H Q=>wi σ H fun J H1=>∀ l,H1 l=none->∃ W:Nat->Nat->List V->Hp->Prop,(∃ m,W 0 m [] (upd H1 l (.lst []))) /\
 ∀ i m ys H2,W i m ys H2->H2 l=some (.lst ys)/\((J.stop i H2/\Q (.ref l) H2)\/(J.go i H2/\∀ x H3,J.yld i H2 x H3->g x (clr σ) H3 fun σ4 H4=>tc σ4 H4 fun k H5 =>
  if k=true then te σ4 H5 fun y H6=>H6 l=some (.lst ys)/\ys.length<sizeLine/\∃ m',m'<m/\W (i+1) m' (ys++[y]) (upd H6 l (.lst (ys++[y])))else ∃ m',m'<m/\W (i+1) m' ys H5))
structure oJ(X:Cx)(scope:Scope)(tg:Expr)(ifs:List Expr)(elt:Expr)(clr:St->St)(g:TG)(tc:TT)(te:TE):Prop where
 htg:∀ cls C fp s H,PG (blk X scope cls C fp s H) tg g
 htc:∀ cls C fp s H pins s' σ H' Q,Inv (blk X scope cls C fp s H) pins σ H' s'->tc σ H' Q->wpAny (model X.prog X.w) X.A (gC ifs (compEnvC scope cls C X.env)) (TP (blk X scope cls C fp s H) pins σ Q) (fun _ _=>False) s'
 hte:∀ cls C fp s H,PE (blk X scope cls C fp s H) elt te
 Cu:∀ σ:St,σ.length=X.N.length->zL X scope σ (clr σ)
 zG:∀ (x:V) (σ:St) (H:Hp) (Q:St->Hp->Prop),g x (clr σ) H Q->g x (clr σ) H fun σ2 H2=>Q σ2 H2/\(clr σ).length=σ2.length/\∀ (i:Nat) v,(clr σ)[i]?=some (some v)->σ2[i]?=some (some v)
theorem nD{elt tg iter:Expr}{ifs:List Expr}{pos:Pos}{wi:TI}{clr:St->St}{g:TG}{tc:TT}{te:TE}{Q:VK}{RR:Value->Addr->Result->Shared->Prop}{CM:Cx->Prop}(hc:∀ {pins:List (Addr × Obj)} {σ:St} {H:Hp} {s:Shared} (cls:List (Str × Addr)) (C:Addr) (fp:List Addr),Inv X pins σ H s->CM (blk X scope cls C fp s H))(S:f7 scope X.env.scope cls X.env.cells)
 (hi:PI' CM X tg iter wi)(B:oJ X scope tg ifs elt clr g tc te)(I:Inv X pins σ H s)(h:gY wi clr g tc te σ H Q)
 (hRR:∀ l C H' s',Inv X pins σ H' s'->(∃ m,s'.heap.Ns C m)->H' C=none->C≠X.env.locals->X.s₀.heap.objs.size<=C->(∀ x c,X.env.cells.lookup x=some c->c≠C)->(∀ p∈X.pn++pins,p.1≠C)->Q (.ref l) H'->RR (.ref l) C (.ok .next) s') :
  wpAny (model X.prog X.w) X.A (eval iter X.env) (fun x s1=>wpAny (model X.prog X.w) X.A (pyIter x) (fun it s2=>wpAny (model X.prog X.w) X.A (newList []) (fun acc s3 =>
   wpAny (model X.prog X.w) X.A (newFunctionEnv scope X.env.globals cls [] X.env.qual none .none (some X.env)) (fun cenv s4 =>
    codeAny (model X.prog X.w) X.A (.compStart (.ListComp elt [⟨tg,iter,ifs,0⟩] scope pos) 0 it acc { cenv with scope:=relabel scope X.env }) (RR acc cenv.locals) s4) X.xe s3) X.xe s2) X.xe s1) X.xe s:=by
 refine thn (hi pins s σ H _ I h) fun x s1 h1=>thn h1 fun itv s2 h2=>?_
 obtain⟨it,fp,tn,J,H2,e,I2,T,st2,f2,h3⟩:=h2
 subst e
 have flt:∀ b∈fp,b<s2.heap.objs.size:=fun b hb=>by
  obtain⟨o,e,_⟩:=T.obj _ _ st2 b hb
  exact Heap.lt_size e
 refine wpAny_newObj_type ?_
 have I3:Inv X pins σ (upd H2 s2.heap.objs.size (.lst [])) { s2 with heap:=s2.heap.push { cls:=.type "list",dict:=none,data:=.seq ([]:List Value).toArray } } :=
  I2.laid (t':=s2.toks) (fun b u e=>Heap.get?_push_of_some _ e) (Nat.le_refl _) ⟨Nat.zero_le _,[],0,.nil,Heap.get?_push_size _ rfl⟩
 have hl2:H2 s2.heap.objs.size=none:=I2.hok.fresh (Nat.le_refl _)
 obtain⟨W,⟨m0,w0⟩,turn⟩:=h3 s2.heap.objs.size hl2
 have f3:∀ b∈fp,ja X pins (upd H2 s2.heap.objs.size (.lst [])) b/\b<(s2.heap.push { cls:=.type "list",dict:=none,data:=.seq ([]:List Value).toArray }).objs.size:=fun b hb=>by
  obtain⟨z0,z⟩:=f2 b hb
  refine⟨⟨?_,z⟩,?_⟩
  ·rw[aJ (Nat.ne_of_lt (flt b hb))]
   exact z0
  ·rw[Heap.size_push]
   exact Nat.lt_succ_of_lt (flt b hb)
 generalize hs3:({ s2 with heap:=s2.heap.push { cls:=.type "list",dict:=none,data:=.seq ([]:List Value).toArray } }:Shared)=s3 at I3
 have hs3h:s3.heap=s2.heap.push { cls:=.type "list",dict:=none,data:=.seq ([]:List Value).toArray }:=by rw[<-hs3]
 rw[<-hs3h]at f3
 have st3:tn 0 s3.heap:=T.keep _ _ _ st2 fun b hb o e=>by rw[hs3h];exact Heap.get?_push_of_some _ e
 refine AY ?_
 have k4:∀ b o,s3.heap.get? b=some o->(pushCells (s3.heap.push { cls:=.type "dict",data:=.dict #[] }) scope.names).get? b=some o:=fun b o e=>pushCells_keeps _ _ b o (Heap.get?_push_of_some _ e)
 have hns4:(pushCells (s3.heap.push { cls:=.type "dict",data:=.dict #[] }) scope.names).Ns s3.heap.objs.size (fun _=>none):=(Heap.Ns.new s3.heap (.type "dict")).keeps (pushCells_keeps _ _)
 have hcl4:∀ x c,(cellsFrom (s3.heap.objs.size+1) scope.names cls).lookup x=some c->cls.lookup x=some c\/(pushCells (s3.heap.push { cls:=.type "dict",data:=.dict #[] }) scope.names).IsCell c none:=fun x c e=>ng scope.names (s3.heap.push { cls:=.type "dict",data:=.dict #[] }) cls x c (by rw[Heap.size_push];exact e)
 generalize pushCells (s3.heap.push { cls:=.type "dict",data:=.dict #[] }) scope.names=h4 at k4 hns4 hcl4
 have I4:Inv (blk X scope (cellsFrom (s3.heap.objs.size+1) scope.names cls) s3.heap.objs.size fp s3 (upd H2 s2.heap.objs.size (.lst []))) [] (clr σ) (upd H2 s2.heap.objs.size (.lst [])) { s3 with heap:=h4 } :=
  Bc (t:=s3.toks) I3 S f3 (B.Cu σ I.len) hns4 k4 hcl4
 generalize hs4:({ s3 with heap:=h4 }:Shared)=s4 at I4
 have hs4h:s4.heap=h4:=by rw[<-hs4]
 generalize hH3:upd H2 s2.heap.objs.size (.lst [])=H3 at I3 I4 w0
 have st4:tn 0 s4.heap:=T.keep _ _ _ st3 fun b hb o e=>by rw[hs4h];exact k4 b o e
 have fn4:∀ b∈fp,H3 b=none:=fun b hb=>by rw[<-hH3];exact(f3 b hb).1.1
 have stat:∀ {H':Hp} {σ':St} {s':Shared},Inv (blk X scope (cellsFrom (s3.heap.objs.size+1) scope.names cls) s3.heap.objs.size fp s3 H3) [] σ' H' s'->(∀ b∈fp,H' b=none)->∀ b∈fp,ja (blk X scope (cellsFrom (s3.heap.objs.size+1) scope.names cls) s3.heap.objs.size fp s3 H3) [] H' b :=
  fun {H' σ' s'} J hn b hb=>⟨hn b hb,(J.ok.exf b hb).1,J.ok.iH b hb,.inl hb,(J.ok.exf b hb).2,fun p hp=>absurd hp (by simp[blk])⟩
 have fin:∀ {H':Hp} {s':Shared},Inv (blk X scope (cellsFrom (s3.heap.objs.size+1) scope.names cls) s3.heap.objs.size fp s3 H3) [] (clr σ) H' s'->Q (.ref s2.heap.objs.size) H'->RR (.ref s2.heap.objs.size) s3.heap.objs.size (.ok .next) s':=fun {H' s'} J q=>by
  obtain⟨m,hn,_⟩:=J.loc
  have J1:Inv X pins σ H' s':=I3.tL (s':=s') (ch:=fp) (J.os.trans rfl) J.base J.hok J.bare fun b hb=>by
   obtain⟨⟨g0,g1,g2,g3,g4,g5⟩,_⟩:=f3 b hb
   exact⟨g3,g1,g4,g5⟩
  refine hRR _ _ H' s' J1 ⟨m,hn⟩ J.free (Nat.ne_of_gt I3.lt) I3.sz (fun x c e=>?_) (fun p hp=>?_) q
  ·obtain⟨v,z⟩:=I3.cell x c e
   exact Nat.ne_of_lt z.lt
  ·exact Nat.ne_of_lt (Heap.lt_size (I3.pin p hp).1)
 have loop:codeAny (model X.prog X.w) X.A (.compLoop (.ListComp elt [⟨tg,iter,ifs,0⟩] scope pos) 0 (.ref it) (.ref s2.heap.objs.size) (compEnvC scope (cellsFrom (s3.heap.objs.size+1) scope.names cls) s3.heap.objs.size X.env))
   (RR (.ref s2.heap.objs.size) s3.heap.objs.size) s4:=by
  refine we (fun n s'=>∃ i ys H',Inv (blk X scope (cellsFrom (s3.heap.objs.size+1) scope.names cls) s3.heap.objs.size fp s3 H3) [] (clr σ) H' s'/\tn i s'.heap/\(∀ b∈fp,H' b=none)/\W i n ys H') ?_ m0 ⟨0,[],H3,I4,st4,fn4,w0⟩
  rintro n s5 ⟨i,ys,H5,I5,st5,fr5,w5⟩
  obtain⟨hl5,tr⟩:=turn i n ys H5 w5
  rcases tr with⟨stop,qn⟩ | ⟨go,step⟩
  ·refine thn (T.done (blk X scope (cellsFrom (s3.heap.objs.size+1) scope.names cls) s3.heap.objs.size fp s3 H3) rfl rfl rfl (hc _ _ _ I3) i [] s5 (clr σ) H5 (fun _ _=>False) I5 (stat I5 fr5) st5 stop) fun r s6 ⟨hr,I6⟩=>?_
   subst hr
   exact fin I6 qn
  ·refine thn (T.item (blk X scope (cellsFrom (s3.heap.objs.size+1) scope.names cls) s3.heap.objs.size fp s3 H3) rfl rfl rfl (hc _ _ _ I3) i [] s5 (clr σ) H5 (fun _ _=>False) I5 (stat I5 fr5) st5 go) fun r s6 ⟨u,hr,h6⟩=>?_
   subst hr
   refine thn h6 fun _ s7 ⟨x,H7,I7,r7,y7,st7,fr7⟩=>?_
   have I7':=I7.pinned (stat I7 fr7) (T.obj _ _ st7)
   have back:∀ {σ':St} {H':Hp} {s':Shared},Inv (blk X scope (cellsFrom (s3.heap.objs.size+1) scope.names cls) s3.heap.objs.size fp s3 H3) ([]++jk fp s7.heap) σ' H' s'->(clr σ).length=σ'.length->(∀ (i:Nat) v,(clr σ)[i]?=some (some v)->σ'[i]?=some (some v))->(∃ m ys',m<n/\W (i+1) m ys' H') ->
     ∃ m,m<n/\∃ i ys H',Inv (blk X scope (cellsFrom (s3.heap.objs.size+1) scope.names cls) s3.heap.objs.size fp s3 H3) [] (clr σ) H' s'/\tn i s'.heap/\(∀ b∈fp,H' b=none)/\W i m ys H':=fun {σ' H' s'} J el ew hw=>by
    obtain⟨m,ys',hm,w8⟩:=hw
    refine⟨m,hm,i+1,ys',H',J.i6.weak el ew,T.keep _ _ _ st7 fun b hb o e=>(J.pin (b,o) (List.mem_append_right _ (List.mem_append_right _ (fP hb e)))).1,fun b hb=>?_,w8⟩
    obtain⟨o,e,d⟩:=T.obj _ _ st7 b hb
    exact(J.pin (b,o) (List.mem_append_right _ (List.mem_append_right _ (fP hb e)))).2.1
   refine thn (B.htg _ s3.heap.objs.size fp s3 H3 _ s7 (clr σ) H7 x u _ I7' r7 (B.zG x σ H7 _ (step x H7 y7))) fun _ s8 ⟨σ8,H8,I8,q8,el8,ew8⟩=>?_
   refine thn (B.htc _ s3.heap.objs.size fp s3 H3 _ s8 σ8 H8 _ I8 q8) fun ok s9 ⟨H9,I9,q9⟩=>?_
   cases ok with
   |false=>
    have q9:∃ m',m'<n/\W (i+1) m' ys H9:=q9
    obtain⟨m',hm,w9⟩:=q9
    exact back I9 el8 ew8 ⟨m',ys,hm,w9⟩
   |true=>
    refine thn (B.hte _ s3.heap.objs.size fp s3 H3 _ s9 σ8 H9 _ I9 q9) fun v s10 ⟨y,H10,I10,r10,hl10,hz,m',hm,w10⟩=>?_
    refine thn (nW (X:=blk X scope (cellsFrom (s3.heap.objs.size+1) scope.names cls) s3.heap.objs.size fp s3 H3) _ s10 σ8 H10 (.ref s2.heap.objs.size) [y] (.ref s2.heap.objs.size) [v] (fun _ H'=>H'=upd H10 s2.heap.objs.size (.lst (ys++[y]))) I10 rfl (.cons r10 .nil) ⟨_,ys,y,rfl,rfl,hl10,hz,rfl⟩) fun _ s11 ⟨_,H11,I11,_,e11⟩=>?_
    subst e11
    exact back I11 el8 ew8 ⟨m',_,hm,w10⟩
 exact codeAny_compStart_list loop (T.self _ 0 _ _ _ st4 loop)
theorem sA{elt tg iter:Expr}{ifs:List Expr}{pos:Pos}{wi:TI}{clr:St->St}{g:TG}{tc:TT}{te:TE}{CM:Cx->Prop}(hc:∀ {pins:List (Addr × Obj)} {σ:St} {H:Hp} {s:Shared} (cls:List (Str × Addr)) (C:Addr) (fp:List Addr),Inv X pins σ H s->CM (blk X scope cls C fp s H))(S:f7 scope X.env.scope cls X.env.cells)(hclos:closureFor scope X.env=pure cls)
 (hi:PI' CM X tg iter wi)(B:oJ X scope tg ifs elt clr g tc te)(hs:∀ x,foldedSetIterable iter X.env x=pure x):PE X (.ListComp elt [⟨tg,iter,ifs,0⟩] scope pos) (gY wi clr g tc te):=by
 intro pins s σ H Q I h
 rw[eval_ListComp]
 refine wpAny_comprehension_free (use:=none) rfl hs hclos S.kind S.loc (nD (RR:=fun acc C=>compPost (model X.prog X.w) X.A X.xe none (EP X pins σ Q) acc C) hc S hi B I h ?_)
 intro l C H' s' J hn c0 c1 c2 c3 c4 q
 obtain⟨m,hn⟩:=hn
 exact⟨m,hn,fun h' sb=>⟨.ref l,H',J.turned (it:=C) (h':=h') (t':=s'.toks) (fun b o hb e=>(sb.2 b hb).trans e) c0 (Ne.symm (Ne.symm c1)) (.inr c2) c3 c4,rfl,q⟩⟩
noncomputable def ED(i:Nat)(t:TE):TS:=fun D σ H=>t σ H fun v H1=>D.nx (σ.set i (some v)) H1
theorem so{elt tg iter:Expr}{ifs:List Expr}{pos spos py:Pos}{y:Str}{i:Nat}{wi:TI}{clr:St->St}{g:TG}{tc:TT}{te:TE}(hc:X.calm=true)(hN:X.N.Nodup)(hiy:X.N[i]?=some y)(hy:X.env.scope.names.lookup y=some .local)
 (S:f7 scope X.env.scope cls X.env.cells)(hclos:closureFor scope X.env=pure cls)
 (hi:PI X tg iter wi)(B:oJ X scope tg ifs elt clr g tc te)(hs:∀ x,foldedSetIterable iter X.env x=pure x)
 (hsw:swapsWith (.ListComp elt [⟨tg,iter,ifs,0⟩] scope pos) (some (.Name y py)) spos.line X.env=pure true) :
  PS X (.Assign [.Name y py] (.ListComp elt [⟨tg,iter,ifs,0⟩] scope pos) spos) (ED i (gY wi clr g tc te)):=by
 intro pins s σ H D I h
 have back:∀ (l C:Addr) (H':Hp) (s':Shared),Inv X pins σ H' s'->(∃ m,s'.heap.Ns C m)->H' C=none->C≠X.env.locals->X.s₀.heap.objs.size<=C->(∀ x c,X.env.cells.lookup x=some c->c≠C)->(∀ p∈X.pn++pins,p.1≠C)->D.nx (σ.set i (some (.ref l))) H' ->
   compPost (model X.prog X.w) X.A X.xe (some (assign (.Name y py) X.env)) (fun _ s'=>SP X pins D .next s') (.ref l) C (.ok .next) s':=by
  intro l C H' s' J hn c0 c1 c2 c3 c4 q
  obtain⟨m,hn⟩:=hn
  show wpAny _ X.A (assign (.Name y py) X.env (.ref l)) _ _ s'
  refine wpAny_assign_Name (nR (v:=.ref l) J hN hiy (.inl hy) rfl (fun s2 J2 ⟨a,sb,ha⟩=>?_) (.inr hy))
  have hne:C≠a:=by
   rcases ha with z | z
   ·rw[z];exact c1
   ·exact(c3 _ _ z).symm
  exact⟨m,hn.sameBut sb hne,fun h' sb'=>⟨σ.set i (some (.ref l)),H',J2.turned (it:=C) (h':=h') (t':=s2.toks) (fun b o hb e=>(sb'.2 b hb).trans e) c0 c1 (.inr c2) c3 c4,q⟩⟩
 have core:=nD (RR:=fun acc C=>compPost (model X.prog X.w) X.A X.xe (some (assign (.Name y py) X.env)) (fun _ s'=>SP X pins D .next s') acc C) (pos:=pos) (fun _ _ _ _=>hc) S hi B I h back
 have whole:=wpAny_comprehension_free (e:=.ListComp elt [⟨tg,iter,ifs,0⟩] scope pos) (newAcc:=newList []) (use:=some (assign (.Name y py) X.env)) (Q:=fun _ s'=>SP X pins D .next s') (pos:=iter.pos) rfl hs hclos S.kind S.loc core
 rw[exec_Assign_Name_used (hs:=hsw)]
 apply wpAny_bind
 apply wpAny_standAt
 apply wpAny_bind
 apply wpAny_bind
 refine thn whole fun _ s' hq=>?_
 apply wpAny_pure
 apply wpAny_pure
 exact hq
end
end L2
namespace RS
open PySem PySem.Spec PyProof.Rows L2
theorem i8{env:Env}:∀ (names:List (Str × NameKind)) (acc:List (Str × Addr)),(∀ x,(x,NameKind.free)∈names->∃ c,env.cells.lookup x=some c)->(∀ x c,acc.lookup x=some c->env.cells.lookup x=some c) ->
  ∃ cls,(forIn names acc fun(p:Str × NameKind) cs=>match p with | (name,kind)=>if(kind == NameKind.free)=true then do let c <- cellOf env name;pure (ForInStep.yield ((name,c)::cs))else pure (ForInStep.yield cs):Sem (List (Str × Addr)))=pure cls /\
   (∀ x c,cls.lookup x=some c->env.cells.lookup x=some c)/\(∀ x,(acc.lookup x).isSome=true\/(x,NameKind.free)∈names->∃ c,cls.lookup x=some c)
 | [],acc,_,ha=>⟨acc,rfl,ha,fun x hx=>by
   rcases hx with h | h
   ·exact Option.isSome_iff_exists.mp h
   ·simp at h⟩
 | (n,k)::r,acc,hn,ha=>by
  by_cases hk:k=.free
  ·subst hk
   obtain⟨c,hc⟩:=hn n List.mem_cons_self
   have ha':∀ x c',((n,c)::acc).lookup x=some c'->env.cells.lookup x=some c':=fun x c' e=>by
    rw[List.lookup_cons]at e
    cases hx:x == n with
    |true=>
     rw[hx]at e
     cases e
     rw[show x=n by simpa using hx]
     exact hc
    |false=>
     rw[hx]at e
     exact ha x c' e
   obtain⟨cls,h1,h2,h3⟩:=i8 r ((n,c)::acc) (fun x hx=>hn x (List.mem_cons_of_mem _ hx)) ha'
   refine⟨cls,?_,h2,fun x hx=>h3 x ?_⟩
   ·rw[List.forIn_cons]
    have hcell:cellOf env n=pure c:=by unfold cellOf;rw[hc]
    simp only[beq_self_eq_true,if_true,hcell]
    exact h1
   ·rcases hx with h | h
    ·left
     rw[List.lookup_cons]
     split<;>simp_all
    ·rcases List.mem_cons.mp h with e | e
     ·cases e
      left
      simp[List.lookup_cons]
     ·exact .inr e
  ·obtain⟨cls,h1,h2,h3⟩:=i8 r acc (fun x hx=>hn x (List.mem_cons_of_mem _ hx)) ha
   refine⟨cls,?_,h2,fun x hx=>h3 x ?_⟩
   ·rw[List.forIn_cons]
    have:(k == NameKind.free)=false:=by simpa using hk
    simp only[this,Bool.false_eq_true,if_false]
    exact h1
   ·rcases hx with h | h
    ·exact .inl h
    ·rcases List.mem_cons.mp h with e | e
     ·cases e
      exact absurd rfl hk
     ·exact .inr e
theorem uB{env:Env}{scope:Scope}(h:∀ x,(x,NameKind.free)∈scope.names->∃ c,env.cells.lookup x=some c) :
  ∃ cls,closureFor scope env=pure cls/\(∀ x c,cls.lookup x=some c->env.cells.lookup x=some c)/\(∀ x,scope.names.lookup x=some .free->∃ c,cls.lookup x=some c):=by
 obtain⟨cls,h1,h2,h3⟩:=i8 (env:=env) scope.names [] h (fun x c e=>by simp at e)
 refine⟨cls,?_,h2,fun x hx=>h3 x (.inr (PySem.mem_of_lookup hx))⟩
 unfold closureFor
 simp only[bind_pure_comp]at h1 ⊢
 rw[h1]
 rfl
section
variable{X:Cx}{pos:Pos}
noncomputable def mR(K:PySem.W.Frag)(n:Nat)(t:TGs):TG:=fun v σ H Q=>∃ a xs,v=.ref a/\SqL K H a xs/\xs.length=n/\t xs σ H Q
end
section
variable{X:Cx}
theorem qU{tgE:Expr}{t t':TG}(h:PG X tgE t)(h':PG X tgE t'):PG X tgE (fun v σ H Q=>t v σ H Q\/t' v σ H Q):=by
 intro pins s σ H v u Q I r hw
 rcases hw with q | q
 ·exact h pins s σ H v u Q I r q
 ·exact h' pins s σ H v u Q I r q
end
noncomputable def gs:List Nat->TGs
 | []=>E2
 | i::r=>zI (oG i) (gs r)
noncomputable def gT(K:PySem.W.Frag):List Nat->TG
 | [i]=>oG i
 | is=>fun v σ H Q=>mF K is.length (gs is) v σ H Q\/mR K is.length (gs is) v σ H Q
noncomputable def cL:List Nat->List V->L2.St->L2.St
 | i::is,v::vs,σ=>cL is vs (σ.set i (some v))
 | _,_,σ=>σ
noncomputable def et:List Nat->List RL.D->RL.St->RL.St
 | i::is,d::ds,σ=>et is ds (σ.set i (some d))
 | _,_,σ=>σ
theorem fE:∀ {is:List Nat} {ds:List RL.D} {σ σ1:RL.St},RL.bF is ds σ=some σ1->is.length=ds.length/\σ1=et is ds σ
 | [],[],σ,σ1,h=>by cases h;exact⟨rfl,rfl⟩
 | [],d::ds,σ,σ1,h=>by cases h
 | i::is,[],σ,σ1,h=>by cases h
 | i::is,d::ds,σ,σ1,h=>by
  obtain⟨h1,h2⟩:=fE (is:=is) (ds:=ds) (σ:=σ.set i (some d)) h
  exact⟨by simp[h1],h2⟩
theorem iO:∀ {is:List Nat} {vs:List V} {σ:L2.St} {H:Hp} {Q:L2.St->Hp->Prop},is.length=vs.length->Q (cL is vs σ) H->gs is vs σ H Q
 | [],[],σ,H,Q,_,q=>⟨rfl,q⟩
 | [],_::_,_,_,_,h,_=>by simp at h
 | _::_,[],_,_,_,h,_=>by simp at h
 | i::is,v::vs,σ,H,Q,h,q=>⟨v,vs,rfl,iO (is:=is) (by simpa using h) q⟩
theorem tM{K:PySem.W.Frag}{tg:List Nat}{d:RL.D}{v:V}{σD σD1:RL.St}{H:Hp}(h:RL.aO tg d σD=some σD1)(r:Rep nP K H d v) :
  ∃ ds vs,σD1=et tg ds σD/\tg.length=ds.length/\ae nP K H ds vs/\(d.imm=true->RL.aw ds=true)/\∀ (σ:L2.St) (Q:L2.St->Hp->Prop),Q (cL tg vs σ) H->gT K tg v σ H Q:=by
 unfold RL.aO at h
 split at h
 ·rename_i i
  cases h
  exact⟨[d],[v],rfl,rfl,ae.cons r ae.nil,fun z=>by simp[RL.aw,z],fun σ Q q=>q⟩
 ·rename_i hne
  have key:gT K tg=fun v σ H Q=>mF K tg.length (gs tg) v σ H Q\/mR K tg.length (gs tg) v σ H Q:=by
   unfold gT
   split
   ·rename_i i
    exact absurd rfl (hne i)
   ·rfl
  rw[key]
  split at h
  ·rename_i ds
   obtain⟨h1,h2⟩:=fE h
   obtain⟨p,xs,rfl,e2,e3⟩:=bj r
   exact⟨ds,xs,h2,h1,e3,fun z=>by rw[RL.D.imm]at z;exact z,fun σ Q q=>.inl ⟨p,xs,rfl,SqT.of e2,by rw[<-e3.length,h1],iO (h1.trans e3.length) q⟩⟩
  ·rename_i ds
   obtain⟨h1,h2⟩:=fE h
   obtain⟨p,xs,rfl,_,e2,e3⟩:=aG r
   exact⟨ds,xs,h2,h1,e3,fun z=>(by cases z),fun σ Q q=>.inr ⟨p,xs,rfl,SqL.of e2,by rw[<-e3.length,h1],iO (h1.trans e3.length) q⟩⟩
  ·cases h
theorem oR:∀ (is:List Nat) (vs:List V) (σ:L2.St),(cL is vs σ).length=σ.length
 | [],_,_=>rfl
 | _::_,[],_=>rfl
 | i::is,v::vs,σ=>by rw[cL,oR is vs,List.length_set]
theorem mS:∀ (is:List Nat) (vs:List V) (σ:L2.St) (j:Nat),is.contains j=false->(cL is vs σ)[j]?=σ[j]?
 | [],_,_,_,_=>rfl
 | _::_,[],_,_,_=>rfl
 | i::is,v::vs,σ,j,h=>by
  rw[List.contains_cons,Bool.or_eq_false_iff]at h
  rw[cL,mS is vs _ j h.2,List.getElem?_set_ne (by intro e;subst e;simp at h)]
theorem kJ:∀ (is:List Nat) (vs:List RL.D) (σ:RL.St),(et is vs σ).length=σ.length
 | [],_,_=>rfl
 | _::_,[],_=>rfl
 | i::is,v::vs,σ=>by rw[et,kJ is vs,List.length_set]
theorem jY:∀ (is:List Nat) (vs:List RL.D) (σ:RL.St) (j:Nat),is.contains j=false->(et is vs σ)[j]?=σ[j]?
 | [],_,_,_,_=>rfl
 | _::_,[],_,_,_=>rfl
 | i::is,v::vs,σ,j,h=>by
  rw[List.contains_cons,Bool.or_eq_false_iff]at h
  rw[et,jY is vs _ j h.2,List.getElem?_set_ne (by intro e;subst e;simp at h)]
noncomputable def RVx(T:List Nat)(K:PySem.W.Frag)(σD:RL.St)(σ:L2.St)(H:Hp):Prop:=σD.length<=σ.length/\∀ (i:Nat) (d:RL.D),T.contains i=false->σD[i]?=some (some d)->∃ v,σ[i]?=some (some v)/\Rep nP K H d v
theorem RVx.set{K:PySem.W.Frag}{σD:RL.St}{σ:L2.St}{H:Hp}{i:Nat}{T:List Nat}{d:RL.D}{v:V}(h:RVx (i::T) K σD σ H)(r:Rep nP K H d v):RVx T K (σD.set i (some d)) (σ.set i (some v)) H:=⟨by simpa using h.1,fun j dj hT e=>by
 by_cases hj:j=i
 ·subst hj
  have hlt:j<σD.length:=by
   have:=(List.getElem?_eq_some_iff.mp e).1
   simpa using this
  rw[List.getElem?_set_self hlt]at e
  cases e
  exact⟨v,by rw[List.getElem?_set_self (Nat.lt_of_lt_of_le hlt h.1)],r⟩
 ·rw[List.getElem?_set_ne (Ne.symm hj)]at e ⊢
  exact h.2 j dj (by rw[List.contains_cons,hT,Bool.or_false];simpa using hj) e⟩
theorem RVx.bF{K:PySem.W.Frag}{H:Hp}:∀ {is:List Nat} {ds:List RL.D} {vs:List V} {σD:RL.St} {σ:L2.St},RVx is K σD σ H->is.length=ds.length->ae nP K H ds vs->RV0 K (et is ds σD) (cL is vs σ) H
 | [],_,_,_,_,h,_,_=>⟨h.1,fun i d e=>h.2 i d rfl e⟩
 | i::is,[],_,_,_,_,hl,_=>by simp at hl
 | i::is,d::ds,vs,σD,σ,h,hl,r=>by
  rw[ae]at r
  obtain⟨v,t,rfl,r1,r2⟩:=r
  rw[et,cL]
  exact RVx.bF (h.set r1) (by simpa using hl) r2
theorem Ej{K:PySem.W.Frag}{tg:List Nat}{v:V}{σ:L2.St}{H:Hp}{Q:L2.St->Hp->Prop}(h:gT K tg v σ H Q):∃ vs,tg.length=vs.length/\Q (cL tg vs σ) H/\∀ Q':L2.St->Hp->Prop,Q' (cL tg vs σ) H->gT K tg v σ H Q':=by
 have inv:∀ (is:List Nat) (xs:List V) (σ:L2.St) (Q:L2.St->Hp->Prop),gs is xs σ H Q->is.length=xs.length/\Q (cL is xs σ) H:=by
  intro is
  induction is with
  | nil=>intro xs σ Q h;obtain⟨rfl,q⟩:=h;exact⟨rfl,q⟩
  |cons i r ih=>
   intro xs σ Q h
   obtain⟨v,t,rfl,q⟩:=h
   obtain⟨h1,h2⟩:=ih t _ Q q
   exact⟨by simp[h1],h2⟩
 unfold gT at h
 split at h
 ·rename_i i
  exact⟨[v],rfl,h,fun Q' q=>q⟩
 ·rename_i hne
  have key:gT K tg=fun v σ H Q=>mF K tg.length (gs tg) v σ H Q\/mR K tg.length (gs tg) v σ H Q:=by
   unfold gT
   split
   ·rename_i i
    exact absurd rfl (hne i)
   ·rfl
  rw[key]
  rcases h with⟨a,xs,rfl,hq,hl,hg⟩ | ⟨a,xs,rfl,hq,hl,hg⟩
  ·obtain⟨h1,h2⟩:=inv _ _ _ _ hg
   exact⟨xs,h1,h2,fun Q' q=>.inl ⟨a,xs,rfl,hq,hl,iO h1 q⟩⟩
  ·obtain⟨h1,h2⟩:=inv _ _ _ _ hg
   exact⟨xs,h1,h2,fun Q' q=>.inr ⟨a,xs,rfl,hq,hl,iO h1 q⟩⟩
noncomputable def fL(tg:List Nat)(σ:L2.St):L2.St:=σ.mapIdx fun i o=>if tg.contains i then none else o
theorem pS(tg:List Nat)(σ:L2.St):(fL tg σ).length=σ.length:=by simp[fL]
theorem sU{tg:List Nat}{σ:L2.St}{i:Nat}(h:tg.contains i=false):(fL tg σ)[i]?=σ[i]?:=by
 unfold fL
 rw[List.getElem?_mapIdx]
 cases σ[i]? with
 | none=>rfl
 | some o=>simp only[Option.map_some,h,Bool.false_eq_true,if_false]
theorem rV{tg:List Nat}{σ:L2.St}{i:Nat}{v:V}(h:tg.contains i=true):(fL tg σ)[i]?≠some (some v):=by
 unfold fL
 rw[List.getElem?_mapIdx]
 cases σ[i]? with
 | none=>simp
 | some o=>simp only[Option.map_some,h,if_true];intro z;cases z
section comp
variable{X:Cx}{cl:RL.Cl}{tgE iter elt c:Expr}{e' c':RL.E}{it:RL.It}{tg:List Nat}{scope:Scope}{cls:List (Str × Addr)}{pos:Pos}{ifs:List Expr}
structure iR(X:Cx)(cl:RL.Cl)(scope:Scope)(tgE:Expr)(tg:List Nat)(elt:Expr)(e':RL.E)(tcs:TT)(ifs:List Expr):Prop where
 htg:∀ cls C fp s H,PG (blk X scope cls C fp s H) tgE (gT X.K tg)
 htc:∀ cls C fp s H pins s' σ H' Q,Inv (blk X scope cls C fp s H) pins σ H' s'->tcs σ H' Q->wpAny (model X.prog X.w) X.A (gC ifs (compEnvC scope cls C X.env)) (TP (blk X scope cls C fp s H) pins σ Q) (fun _ _=>False) s'
 hte:∀ cls C fp s H,SE (blk X scope cls C fp s H) cl elt e'
 cover:∀ (i:Nat) (x:Str),X.N[i]?=some x->scope.names.lookup x=some .local\/scope.names.lookup x=some .cell->tg.contains i=true
theorem iR.blk{tcs:TT}(B:iR X cl scope tgE tg elt e' tcs ifs):oJ X scope tgE ifs elt (fL tg) (gT X.K tg) tcs (tE X.K cl e') where
 htg:=B.htg
 htc:=B.htc
 hte:=B.hte
 Cu:=fun σ hl=>⟨pS tg σ,fun i x v h1 h2=>by
  by_cases hc:tg.contains i=true
  ·exact absurd h2 (rV hc)
  ·simp only[Bool.not_eq_true]at hc
   rw[sU hc]at h2
   refine⟨h2,fun z=>?_,fun z=>?_⟩
   ·rw[B.cover i x h1 (.inl z)]at hc
    cases hc
   ·rw[B.cover i x h1 (.inr z)]at hc
    cases hc⟩
 zG:=fun x σ H Q h=>by
  obtain⟨vs,h1,h2,h3⟩:=Ej h
  refine h3 _ ⟨h2,(oR _ _ _).symm,fun i v e=>?_⟩
  by_cases hc:tg.contains i=true
  ·exact absurd e (rV hc)
  ·simp only[Bool.not_eq_true]at hc
   rw[mS _ _ _ _ hc]
   exact e
theorem vp{f:RL.St->Option (Option RL.D)}{σ:RL.St}{d:RL.D}{r ys:List RL.D}(h:RL.dn f tg σ (d::r)=some ys):∃ σ1 y ys',RL.aO tg d σ=some σ1/\f σ1=some y/\RL.dn f tg σ r=some ys'/\RL.kO y ys'=some ys:=by
 rw[RL.dn]at h
 obtain⟨σ1,h1,h⟩:=bind_some h
 obtain⟨y,h2,h⟩:=bind_some h
 obtain⟨ys',h3,h⟩:=bind_some h
 exact⟨σ1,y,ys',h1,h2,h3,h⟩
theorem sQ{tcs:TT}{f:RL.St->Option (Option RL.D)}{σ:L2.St}{H:Hp}{Q:VK}{σD:RL.St}{ds total:List RL.D}(rv:RV0 X.K σD σ H)(ei:RL.bp cl σD it=some ds)(hz:ds.length<=RL.most)(hm:RL.dn f tg σD ds=some total)
 (ht:∀ σ1 σV H y (Q:Bool->Hp->Prop),RV0 X.K σ1 σV H->f σ1=some y->(∀ k H',aq H H'->(if k=true then ∃ d,y=some d/\RL.ev cl σ1 e'=some d else y=none)->Q k H')->tcs σV H Q)
 (k:∀ l H',aq H H'->H l=none->(∃ xs,H' l=some (.lst xs)/\ae nP X.K H' total xs)->Q (.ref l) H'):gY (tI X.K cl it) (fL tg) (gT X.K tg) tcs (tE X.K cl e') σ H Q:=by
 refine⟨σD,ds,rv,ei,fun J H1 s1 src l hl=>?_⟩
 obtain⟨ok,_⟩:=src
 refine⟨fun i m xs H2=>∃ don rest,m=ds.length-i/\i<=ds.length/\aq H1 H2/\H2 l=some (.lst xs)/\ae (fun p=>p=l) X.K H2 don xs/\RL.dn f tg σD (ds.drop i)=some rest/\don++rest=total/\don.length<=i,
  ⟨_,[],total,rfl,Nat.zero_le _,aq.bY hl,aR,ae.nil,hm,rfl,Nat.le_refl _⟩,?_⟩
 rintro i m xs H2 ⟨don,rest,rfl,hi,s2,hl2,rs,hr,htot,hdn⟩
 refine⟨hl2,?_⟩
 have off:Off nP H1 H2:=Off.same s2
 by_cases hlt:i<ds.length
 ·refine .inr ⟨ok.go H2 i off hlt,fun x H3 y=>?_⟩
  have hd:ds[i]?=some ds[i]:=by simp[hlt]
  obtain⟨s3,rp⟩:=ok.yld H2 i ds[i] x H3 off hd y
  have rp:=rp (.inr s2)
  rw[List.drop_eq_getElem_cons hlt]at hr
  obtain⟨σ1,y1,ys',h1,h2,h3,h4⟩:=vp hr
  obtain⟨dv,vs,e1,e2,e3,_,e5⟩:=tM h1 rp
  refine e5 _ _ ?_
  have rv3:RV0 X.K σD σ H3:=rv.same ((s1.trans s2).trans s3)
  have rvx:RVx tg X.K σD (fL tg σ) H3:=⟨by rw[pS];exact rv3.1,fun j d hT e=>by rw[sU hT];exact rv3.2 j d e⟩
  have rv1:RV0 X.K σ1 (cL tg vs (fL tg σ)) H3:=by rw[e1];exact rvx.bF e2 e3
  refine ht σ1 _ H3 y1 _ rv1 h2 fun t H5 s5 hy=>?_
  have hl5:H5 l=some (.lst xs):=s5 _ _ (s3 _ _ hl2)
  have rs5:ae (fun p=>p=l) X.K H5 don xs:=(rs.same s3).same s5
  cases t with
  |true=>
   obtain⟨d,rfl,hv⟩:=(show ∃ d,y1=some d/\RL.ev cl σ1 e'=some d from hy)
   have him:d.imm=true/\rest=d::ys':=by
    unfold RL.kO at h4
    dsimp only at h4
    split at h4
    ·rename_i hh
     cases h4
     exact⟨hh,rfl⟩
    ·cases h4
   refine fJ ⟨σ1,d,rv1.same s5,hv,fun v H6 r6=>⟨r6.same _ _ hl5,?_,ds.length-(i+1),by lia,don++[d],ys',rfl,hlt,?_,aR,?_,h3,?_,?_⟩⟩
   ·rw[<-rs.length]
    exact Nat.lt_of_lt_of_le (Nat.lt_of_le_of_lt hdn (Nat.lt_of_lt_of_le hlt hz)) (Nat.le_of_lt (by decide))
   ·intro b o e
    have hb:b≠l:=aT e hl
    rw[aJ hb]
    exact r6.same _ _ (s5 _ _ (s3 _ _ (s2 _ _ e)))
   ·exact ae.upd (P:=fun p=>p=l) (r6.same _ _ hl5) (.inl ⟨_,rfl⟩) rfl (ae.append (rs5.same r6.same) (ae.cons (r6.rep.imm him.1) ae.nil))
   ·rw[<-htot,him.2,List.append_assoc]
    rfl
   ·rw[List.length_append,List.length_singleton]
    lia
  |false=>
   have hy:y1=none:=hy
   subst hy
   have hr2:rest=ys':=by
    unfold RL.kO at h4
    dsimp only at h4
    cases h4
    rfl
   refine gm ⟨ds.length-(i+1),by lia,don,ys',rfl,hlt,(s2.trans s3).trans s5,hl5,rs5,h3,by rw[<-htot,hr2],by lia⟩
 ·have e:i=ds.length:=by lia
  subst e
  refine .inl ⟨ok.stop H2 off,k l H2 (s1.trans s2) (s1.free hl) ⟨xs,hl2,?_⟩⟩
  rw[List.drop_length,RL.dn]at hr
  cases hr
  rw[List.append_nil]at htot
  rw[<-htot]
  exact ae.weak (fun _ z=>z.elim) rs
end comp
section comp
variable{X:Cx}{cl:RL.Cl}{tgE iter elt c:Expr}{e' c':RL.E}{it:RL.It}{tg:List Nat}{scope:Scope}{pos:Pos}{ifs:List Expr}
structure m4(scope sc:Scope):Prop where
 kind:scope.kind=.function
 own:∀ x∈scope.names,x.2=.cell->scope.names.lookup x.1=some .cell
 loc:∀ x∈scope.names,x.2=.local->scope.names.lookup x.1=some .local
 vis:∀ x∈scope.names,x.2=.free->sc.names.lookup x.1=some .cell\/sc.names.lookup x.1=some .free
theorem fQ{pins:List (Addr × Obj)}{σ:L2.St}{H:Hp}{s:Shared}(S:m4 scope X.env.scope)(I:Inv X pins σ H s):∃ cls,closureFor scope X.env=pure cls/\f7 scope X.env.scope cls X.env.cells:=by
 obtain⟨cls,h1,h2,h3⟩:=uB (env:=X.env) (scope:=scope) fun x hx=>I.ok.has x (S.vis _ hx rfl)
 exact⟨cls,h1,S.kind,S.own,S.loc,h2,h3,fun x hx=>S.vis _ (PySem.mem_of_lookup hx) rfl⟩
theorem pP{σD:RL.St}{σ:L2.St}{H H':Hp}{e:RL.E}{l:Addr}{total:List RL.D}(sm:aq H H')(hl:H l=none)(h:∃ xs,H' l=some (.lst xs)/\ae nP X.K H' total xs)(hav:∀ M,RL.avE M e=false):Res X.K σD σ H e (.lst total) (.ref l) H' where
 same:=sm
 rep:=by
  obtain⟨xs,h1,h2⟩:=h
  rw[Rep]
  exact⟨l,xs,rfl,fun z=>z,h1,h2⟩
 fresh:=fun _ _ a z=>by cases z;exact hl
 av:=fun M z=>by rw[hav M]at z;cases z
noncomputable def lj:TT:=fun _ H Q=>Q true H
theorem qS{σ:L2.St}{H:Hp}{Q:VK}(h:tE X.K cl (.compA e' tg it) σ H Q):gY (tI X.K cl it) (fL tg) (gT X.K tg) lj (tE X.K cl e') σ H Q:=by
 obtain⟨σD,d,rv,e,k⟩:=h
 rw[RL.ev]at e
 obtain⟨ds,e1,e⟩:=bind_some e
 obtain⟨ds',e2,e⟩:=bind_some e
 obtain⟨total,e3,e4⟩:=map_some e
 unfold RL.fits at e2
 split at e2
 ·rename_i hz
  cases e2
  subst e4
  refine sQ (f:=fun σ1=>(RL.ev cl σ1 e').map some) rv e1 hz e3 (fun σ1 σV H y Q rv1 hy q=>?_) fun l H' sm hl hx=>k _ _ (pP sm hl hx fun _=>rfl)
  obtain⟨d,h1,h2⟩:=map_some hy
  exact q true H (aq.refl H) (fJ ⟨d,h2.symm,h1⟩)
 ·cases e2
theorem pU{σ:L2.St}{H:Hp}{Q:VK}(h:tE X.K cl (.comp e' tg it c') σ H Q):gY (tI X.K cl it) (fL tg) (gT X.K tg) (tT X.K cl c') (tE X.K cl e') σ H Q:=by
 obtain⟨σD,d,rv,e,k⟩:=h
 rw[RL.ev]at e
 obtain⟨ds,e1,e⟩:=bind_some e
 obtain⟨ds',e2,e⟩:=bind_some e
 obtain⟨total,e3,e4⟩:=map_some e
 unfold RL.fits at e2
 split at e2
 ·rename_i hz
  cases e2
  subst e4
  refine sQ rv e1 hz e3 (fun σ1 σV H y Q rv1 hy q=>?_) fun l H' sm hl hx=>k _ _ (pP sm hl hx fun _=>rfl)
  obtain⟨t,h1,h2⟩:=bind_some hy
  refine⟨σ1,t,rv1,h1,fun H' sm=>q t H' sm ?_⟩
  cases t with
  |true=>
   obtain⟨d,h3,h4⟩:=map_some (show(RL.ev cl σ1 e').map some=some y from h2)
   exact fJ ⟨d,h4.symm,h3⟩
  |false=>
   cases(show(some none:Option (Option RL.D))=some y from h2)
   exact gm rfl
 ·cases e2
theorem xM(hc:X.calm=true)(S:m4 scope X.env.scope)(hi:SI X cl tgE iter it)(B:iR X cl scope tgE tg elt e' lj [])(hs:∀ x,foldedSetIterable iter X.env x=pure x):SE X cl (.ListComp elt [⟨tgE,iter,[],0⟩] scope pos) (.compA e' tg it):=by
 intro pins s σ H Q I h
 obtain⟨cls,h1,h2⟩:=fQ S I
 exact sA (fun _ _ _ _=>hc) h2 h1 hi B.blk hs pins s σ H Q I (qS h)
theorem qg{CM:Cx->Prop}(hc:∀ {pins:List (Addr × Obj)} {σ:L2.St} {H:Hp} {s:Shared} (cls:List (Str × Addr)) (C:Addr) (fp:List Addr),Inv X pins σ H s->CM (blk X scope cls C fp s H))(S:m4 scope X.env.scope)(hi:PI' CM X tgE iter (tI X.K cl it))(B:iR X cl scope tgE tg elt e' (tT X.K cl c') [c])(hs:∀ x,foldedSetIterable iter X.env x=pure x):SE X cl (.ListComp elt [⟨tgE,iter,[c],0⟩] scope pos) (.comp e' tg it c'):=by
 intro pins s σ H Q I h
 obtain⟨cls,h1,h2⟩:=fQ S I
 exact sA hc h2 h1 hi B.blk hs pins s σ H Q I (pU h)
noncomputable def SA(X:Cx)(cl:RL.Cl)(st:Stmt)(i:Nat)(e':RL.E):Prop:=PS X st (fun D σ H=>tE X.K cl e' σ H fun v H1=>D.nx (σ.set i (some v)) H1)
theorem PS.weak{st:Stmt}{t t':TS}(h:PS X st t)(w:∀ D σ H,t' D σ H->t D σ H):PS X st t':=fun pins s σ H D I q=>h pins s σ H D I (w D σ H q)
theorem PSs.weak{st:List Stmt}{t t':TS}(h:PSs X st t)(w:∀ D σ H,t' D σ H->t D σ H):PSs X st t':=fun pins s σ H D I q=>h pins s σ H D I (w D σ H q)
variable{y:Str}{i:Nat}{py spos:Pos}
theorem yG(hc:X.calm=true)(hN:X.N.Nodup)(hiy:X.N[i]?=some y)(hy:X.env.scope.names.lookup y=some .local)(S:m4 scope X.env.scope)(hi:SI X cl tgE iter it)(B:iR X cl scope tgE tg elt e' lj [])(hs:∀ x,foldedSetIterable iter X.env x=pure x)
 (hsw:swapsWith (.ListComp elt [⟨tgE,iter,[],0⟩] scope pos) (some (.Name y py)) spos.line X.env=pure true):SA X cl (.Assign [.Name y py] (.ListComp elt [⟨tgE,iter,[],0⟩] scope pos) spos) i (.compA e' tg it):=by
 intro pins s σ H D I h
 obtain⟨cls,h1,h2⟩:=fQ S I
 exact so hc hN hiy hy h2 h1 hi B.blk hs hsw pins s σ H D I (qS h)
theorem xB(hc:X.calm=true)(hN:X.N.Nodup)(hiy:X.N[i]?=some y)(hy:X.env.scope.names.lookup y=some .local)(S:m4 scope X.env.scope)(hi:SI X cl tgE iter it)(B:iR X cl scope tgE tg elt e' (tT X.K cl c') [c])(hs:∀ x,foldedSetIterable iter X.env x=pure x)
 (hsw:swapsWith (.ListComp elt [⟨tgE,iter,[c],0⟩] scope pos) (some (.Name y py)) spos.line X.env=pure true):SA X cl (.Assign [.Name y py] (.ListComp elt [⟨tgE,iter,[c],0⟩] scope pos) spos) i (.comp e' tg it c'):=by
 intro pins s σ H D I h
 obtain⟨cls,h1,h2⟩:=fQ S I
 exact so hc hN hiy hy h2 h1 hi B.blk hs hsw pins s σ H D I (pU h)
theorem yi{e:Expr}(hN:X.N.Nodup)(hiy:X.N[i]?=some y)(hx:Loc X.env.scope y)(he:SE X cl e e')(hf:X.fn y=true\/X.env.scope.names.lookup y=some .local)(hs:swapsWith e (some (.Name y py)) spos.line X.env=pure false)(hf2:True):SA X cl (.Assign [.Name y py] e spos) i e':=by
 exact ve hN hiy hx he hs hf
end comp
noncomputable def aV(M:List Nat)(σ:L2.St):Addr->Prop:=fun a=>∃ i,M.contains i=true/\σ[i]?=some (some (.ref a))
noncomputable def Own(K:PySem.W.Frag)(H:Hp)(d:RL.D)(v:V):Prop:=kE d=true/\RL.aU d=true/\Rep nP K H d v
structure RVm(K:PySem.W.Frag)(M:List Nat)(σD:RL.St)(σ:L2.St)(H:Hp):Prop where
 len:σD.length=σ.length
 val:∀ (i:Nat) (d:RL.D),σD[i]?=some (some d)->∃ v,σ[i]?=some (some v)/\(if M.contains i=true then Own K H d v else Rep (aV M σ) K H d v)
 non:∀ (i:Nat) (v:V),σ[i]?=some (some v)->∃ d,σD[i]?=some (some d)
 sep:∀ (i j:Nat) (a:Addr),M.contains i=true->M.contains j=true->σ[i]?=some (some (.ref a))->σ[j]?=some (some (.ref a))->i=j
noncomputable def Fr'(M:List Nat)(σ:L2.St)(H:Hp)(σ':L2.St)(H':Hp):Prop:=(∀ b o,H b=some o->¬ aV M σ b->H' b=some o/\¬ aV M σ' b)/\∀ j,2<=M.count j->σ'[j]?=σ[j]?
theorem Fr'.trans{M:List Nat}{σ σ1 σ2:L2.St}{H H1 H2:Hp}(a:Fr' M σ H σ1 H1)(b:Fr' M σ1 H1 σ2 H2):Fr' M σ H σ2 H2:=⟨fun c o e n=>b.1 c o (a.1 c o e n).1 (a.1 c o e n).2,fun j hj=>(b.2 j hj).trans (a.2 j hj)⟩
theorem Fr'.same{M:List Nat}{σ:L2.St}{H H1:Hp}(s:aq H H1):Fr' M σ H σ H1:=⟨fun c o e n=>⟨s _ _ e,n⟩,fun _ _=>rfl⟩
theorem hU{M:List Nat}{j:Nat}(h:2<=M.count j):M.contains j=true:=by
 have:0<M.count j:=by lia
 simpa using List.count_pos_iff.mp this
section st
variable{K:PySem.W.Frag}{M:List Nat}{σD:RL.St}{σ:L2.St}{H H1:Hp}
theorem Own.ref{d:RL.D}{v:V}(h:Own K H d v):∃ a o,v=.ref a/\H a=some o/\du o:=by
 obtain⟨m,_,r⟩:=h
 cases d with
 | lst ds=>obtain⟨a,xs,e1,_,e2,_⟩:=aG r;exact⟨a,_,e1,e2,.inl ⟨_,rfl⟩⟩
 | dK ks ds=>rw[Rep]at r;obtain⟨a,xs,e1,_,e2,_⟩:=r;exact⟨a,_,e1,e2,.inr (.inl ⟨_,rfl⟩)⟩
 | dT ks ds=>rw[Rep]at r;obtain⟨a,xs,e1,_,e2,_⟩:=r;exact⟨a,_,e1,e2,.inr (.inr ⟨_,rfl⟩)⟩
 | _=>cases m
theorem RVm.rv0(h:RVm K M σD σ H):RV0 K σD σ H:=⟨Nat.le_of_eq h.len,fun i d e=>by
 obtain⟨v,h1,h2⟩:=h.val i d e
 refine⟨v,h1,?_⟩
 by_cases hm:M.contains i=true
 ·rw[if_pos hm]at h2
  exact h2.2.2
 ·rw[if_neg hm]at h2
  exact h2.none⟩
theorem RVm.tZ(h:RVm K M σD σ H):∀ a,aV M σ a->∃ o,H a=some o/\du o:=fun a ⟨i,hi,e⟩=>by
 obtain⟨d,hd⟩:=h.non i _ e
 obtain⟨v,h1,h2⟩:=h.val i d hd
 rw[if_pos hi]at h2
 obtain⟨b,o,e1,e2,e3⟩:=h2.ref
 rw[e]at h1
 cases h1
 cases e1
 exact⟨o,e2,e3⟩
theorem RVm.qE(h:RVm K M σD σ H):∀ a,aV M σ a->H a≠none:=fun a p=>by
 obtain⟨o,e,_⟩:=h.tZ a p
 rw[e]
 exact fun z=>nomatch z
theorem Own.same{d:RL.D}{v:V}(h:Own K H d v)(s:aq H H1):Own K H1 d v:=⟨h.1,h.2.1,h.2.2.same s⟩
theorem RVm.same(h:RVm K M σD σ H)(s:aq H H1):RVm K M σD σ H1:=⟨h.len,fun i d e=>by
 obtain⟨v,h1,h2⟩:=h.val i d e
 refine⟨v,h1,?_⟩
 by_cases hm:M.contains i=true
 ·rw[if_pos hm]at h2 ⊢
  exact h2.same s
 ·rw[if_neg hm]at h2 ⊢
  exact h2.same s,h.non,h.sep⟩
theorem aV.set{i:Nat}{v:V}(hi:M.contains i=false):aV M (σ.set i (some v))=aV M σ:=by
 funext a
 apply propext
 constructor
 ·rintro⟨j,hj,e⟩
  have hne:i≠j:=fun z=>by subst z;rw[hi]at hj;cases hj
  rw[List.getElem?_set_ne hne]at e
  exact⟨j,hj,e⟩
 ·rintro⟨j,hj,e⟩
  have hne:i≠j:=fun z=>by subst z;rw[hi]at hj;cases hj
  exact⟨j,hj,by rw[List.getElem?_set_ne hne];exact e⟩
theorem RVm.bind{i:Nat}{d:RL.D}{v:V}(h:RVm K M σD σ H)(hi:M.contains i=false)(r:Rep (aV M σ) K H d v):RVm K M (σD.set i (some d)) (σ.set i (some v)) H where
 len:=by simpa using h.len
 val:=fun j dj e=>by
  rw[aV.set hi]
  by_cases hj:j=i
  ·subst hj
   have hlt:j<σD.length:=by
    have:=(List.getElem?_eq_some_iff.mp e).1
    simpa using this
   rw[List.getElem?_set_self hlt]at e
   cases e
   refine⟨v,by rw[List.getElem?_set_self (by rw[<-h.len];exact hlt)],?_⟩
   rw[if_neg (by rw[hi];decide)]
   exact r
  ·rw[List.getElem?_set_ne (Ne.symm hj)]at e ⊢
   exact h.val j dj e
 non:=fun j w e=>by
  by_cases hj:j=i
  ·subst hj
   have hlt:j<σ.length:=by
    have:=(List.getElem?_eq_some_iff.mp e).1
    simpa using this
   exact⟨d,by rw[List.getElem?_set_self (by rw[h.len];exact hlt)]⟩
  ·rw[List.getElem?_set_ne (Ne.symm hj)]at e ⊢
   exact h.non j w e
 sep:=fun j k a hj hk e1 e2=>by
  have n1:i≠j:=fun z=>by subst z;rw[hi]at hj;cases hj
  have n2:i≠k:=fun z=>by subst z;rw[hi]at hk;cases hk
  rw[List.getElem?_set_ne n1]at e1
  rw[List.getElem?_set_ne n2]at e2
  exact h.sep j k a hj hk e1 e2
theorem Fr'.bind{i:Nat}{v:V}(hi:M.contains i=false)(s:aq H H1):Fr' M σ H (σ.set i (some v)) H1:=⟨fun b o e n=>⟨s _ _ e,by rw[aV.set hi];exact n⟩,fun j hj=>List.getElem?_set_ne (fun z=>by subst z;rw[hU hj]at hi;cases hi)⟩
end st
mutual
theorem Rep.eR{P:Addr->Prop}{K:PySem.W.Frag}{H:Hp}{a:Addr}(ha:H a=none):∀ {d:RL.D} {v:V},Rep P K H d v->Rep (fun p=>P p\/p=a) K H d v
 | .non,v,h=>by simpa[Rep]using h
 | .bl _,v,h=>by simpa[Rep]using h
 | .int _,v,h=>by simpa[Rep]using h
 | .str _,v,h=>by simpa[Rep]using h
 | .tup ds,v,h=>by
  rw[Rep]at h ⊢
  obtain⟨b,xs,e1,e2,e3⟩:=h
  exact⟨b,xs,e1,e2,ae.eR ha e3⟩
 | .lst ds,v,h=>by
  rw[Rep]at h ⊢
  obtain⟨b,xs,e1,e0,e2,e3⟩:=h
  exact⟨b,xs,e1,fun z=>z.elim e0 (fun q=>aT e2 ha q),e2,ae.eR ha e3⟩
 | .dK ks ds,v,h=>by
  rw[Rep]at h ⊢
  obtain⟨b,xs,e1,e0,e2,el,e3⟩:=h
  exact⟨b,xs,e1,fun z=>z.elim e0 (fun q=>aT e2 ha q),e2,el,ae.eR ha e3⟩
 | .dT ks ds,v,h=>by
  rw[Rep]at h ⊢
  obtain⟨b,xs,e1,e0,e2,el,e3⟩:=h
  exact⟨b,xs,e1,fun z=>z.elim e0 (fun q=>aT e2 ha q),e2,el,ae.eR ha e3⟩
 | .scr ds,v,h=>by
  rw[Rep]at h ⊢
  obtain⟨b,xs,e1,e2,e3⟩:=h
  exact⟨b,xs,e1,e2,ae.eR ha e3⟩
 | .exc c,v,h=>by rw[Rep]at h ⊢;exact h
theorem ae.eR{P:Addr->Prop}{K:PySem.W.Frag}{H:Hp}{a:Addr}(ha:H a=none):∀ {ds:List RL.D} {xs:List V},ae P K H ds xs->ae (fun p=>P p\/p=a) K H ds xs
 | [],xs,h=>by rw[ae]at h ⊢;exact h
 | d::r,xs,h=>by
  rw[ae]at h ⊢
  obtain⟨x,t,e1,e2,e3⟩:=h
  exact⟨x,t,e1,Rep.eR ha e2,ae.eR ha e3⟩
end
section st
variable{K:PySem.W.Frag}{M:List Nat}{σD:RL.St}{σ:L2.St}{H H1:Hp}
theorem RVm.own{i:Nat}{d:RL.D}{a:Addr}(h:RVm K M σD σ H)(s:aq H H1)(hi:M.contains i=true)(hi2:M.count i<2)(ha:H a=none)(r:Own K H1 d (.ref a)):RVm K M (σD.set i (some d)) (σ.set i (some (.ref a))) H1/\Fr' M σ H (σ.set i (some (.ref a))) H1:=by
 have sub:∀ b,aV M (σ.set i (some (.ref a))) b->aV M σ b\/b=a:=fun b ⟨j,hj,e⟩=>by
  by_cases hji:j=i
  ·subst hji
   have hlt:j<σ.length:=by
    have:=(List.getElem?_eq_some_iff.mp e).1
    simpa using this
   rw[List.getElem?_set_self hlt]at e
   cases e
   exact .inr rfl
  ·rw[List.getElem?_set_ne (Ne.symm hji)]at e
   exact .inl ⟨j,hj,e⟩
 have old:∀ b,aV M σ b->b≠a:=fun b p z=>h.qE b p (z▸ha)
 refine⟨⟨by simpa using h.len,fun j dj e=>?_,fun j w e=>?_,fun j k b hj hk e1 e2=>?_⟩,⟨fun b o e n=>⟨s _ _ e,fun z=>(sub b z).elim n fun q=>aT e ha q⟩,fun j hj=>List.getElem?_set_ne (fun z=>by subst z;lia)⟩⟩
 ·by_cases hj:j=i
  ·subst hj
   have hlt:j<σD.length:=by
    have:=(List.getElem?_eq_some_iff.mp e).1
    simpa using this
   rw[List.getElem?_set_self hlt]at e
   cases e
   refine⟨.ref a,by rw[List.getElem?_set_self (by rw[<-h.len];exact hlt)],?_⟩
   rw[if_pos hi]
   exact r
  ·rw[List.getElem?_set_ne (Ne.symm hj)]at e ⊢
   obtain⟨v,h1,h2⟩:=h.val j dj e
   refine⟨v,h1,?_⟩
   by_cases hm:M.contains j=true
   ·rw[if_pos hm]at h2 ⊢
    exact h2.same s
   ·rw[if_neg hm]at h2 ⊢
    exact((h2.eR ha).weak sub).same s
 ·by_cases hj:j=i
  ·subst hj
   have hlt:j<σ.length:=by
    have:=(List.getElem?_eq_some_iff.mp e).1
    simpa using this
   exact⟨d,by rw[List.getElem?_set_self (by rw[h.len];exact hlt)]⟩
  ·rw[List.getElem?_set_ne (Ne.symm hj)]at e ⊢
   exact h.non j w e
 ·by_cases h1:j=i
  ·by_cases h2:k=i
   ·rw[h1,h2]
   ·subst h1
    have hlt:j<σ.length:=by
     have:=(List.getElem?_eq_some_iff.mp e1).1
     simpa using this
    rw[List.getElem?_set_self hlt]at e1
    rw[List.getElem?_set_ne (Ne.symm h2)]at e2
    cases e1
    exact absurd rfl (old _ ⟨k,hk,e2⟩)
  ·rw[List.getElem?_set_ne (Ne.symm h1)]at e1
   by_cases h2:k=i
   ·subst h2
    have hlt:k<σ.length:=by
     have:=(List.getElem?_eq_some_iff.mp e2).1
     simpa using this
    rw[List.getElem?_set_self hlt]at e2
    cases e2
    exact absurd rfl (old _ ⟨j,hj,e1⟩)
   ·rw[List.getElem?_set_ne (Ne.symm h2)]at e2
    exact h.sep j k b hj hk e1 e2
theorem RVm.lu{i:Nat}{d':RL.D}{a:Addr}{o o':HO}(h:RVm K M σD σ H)(hi:M.contains i=true)(e:σ[i]?=some (some (.ref a)))(ha:H a=some o)(m:du o)(r:Own K (upd H a o') d' (.ref a)):RVm K M (σD.set i (some d')) σ (upd H a o')/\Fr' M σ H σ (upd H a o'):=by
 have pa:aV M σ a:=⟨i,hi,e⟩
 refine⟨⟨by simpa using h.len,fun j dj e'=>?_,fun j w e'=>?_,h.sep⟩,⟨fun b u eb n=>⟨?_,n⟩,fun _ _=>rfl⟩⟩
 ·by_cases hj:j=i
  ·subst hj
   have hlt:j<σD.length:=by
    have:=(List.getElem?_eq_some_iff.mp e').1
    simpa using this
   rw[List.getElem?_set_self hlt]at e'
   cases e'
   refine⟨.ref a,e,?_⟩
   rw[if_pos hi]
   exact r
  ·rw[List.getElem?_set_ne (Ne.symm hj)]at e'
   obtain⟨v,h1,h2⟩:=h.val j dj e'
   refine⟨v,h1,?_⟩
   by_cases hm:M.contains j=true
   ·rw[if_pos hm]at h2 ⊢
    obtain⟨b,ob,rfl,hb,_⟩:=h2.ref
    have hne:b≠a:=fun z=>by subst z;exact hj (h.sep j i b hm hi h1 e)
    obtain⟨q1,q2,q3⟩:=h2
    refine⟨q1,q2,?_⟩
    have im:∀ {ds:List RL.D} {xs:List V},RL.aw ds=true->ae nP K H ds xs->ae nP K (L2.upd H a o') ds xs:=fun hi r=>(ae.upd (P:=fun p=>p=a) ha m rfl (r.imm hi)).imm hi
    cases dj with
    | lst ds=>obtain⟨b',xs,e1,e0,e2,e3⟩:=aG q3;cases e1;rw[Rep];exact⟨b,xs,rfl,fun z=>z,by rw[L2.aJ hne];exact e2,im q2 e3⟩
    | dK ks ds=>rw[Rep]at q3 ⊢;obtain⟨b',xs,e1,e0,e2,el,e3⟩:=q3;cases e1;exact⟨b,xs,rfl,fun z=>z,by rw[L2.aJ hne];exact e2,el,im q2 e3⟩
    | dT ks ds=>rw[Rep]at q3 ⊢;obtain⟨b',xs,e1,e0,e2,el,e3⟩:=q3;cases e1;exact⟨b,xs,rfl,fun z=>z,by rw[L2.aJ hne];exact e2,el,im q2 e3⟩
    | _=>cases q1
   ·rw[if_neg hm]at h2 ⊢
    exact Rep.upd ha m pa h2
 ·obtain⟨dj,hd⟩:=h.non j w e'
  by_cases hj:j=i
  ·subst hj
   have hlt:=(List.getElem?_eq_some_iff.mp hd).1
   exact⟨d',by rw[List.getElem?_set_self hlt]⟩
  ·exact⟨dj,by rw[List.getElem?_set_ne (Ne.symm hj)];exact hd⟩
 ·have hb:b≠a:=fun z=>n (z▸pa)
  rw[L2.aJ hb]
  exact eb
end st
noncomputable def pA(K:PySem.W.Frag)(M:List Nat)(D:Ends)(σ:L2.St)(H:Hp):RL.Out->RL.St->Prop
 | .nx,σD'=>∀ σ' H',RVm K M σD' σ' H'->Fr' M σ H σ' H'->D.nx σ' H'
 | .rt d,σD'=>∀ σ1 H1 v H',RVm K M σD' σ1 H1->Fr' M σ H σ1 H1->aq H1 H'->(∀ P:Addr->Prop,(∀ p,P p->H1 p≠none/\¬ aV M σ1 p)->Rep P K H' d v)->D.rt v H'
theorem pA.from{K:PySem.W.Frag}{M:List Nat}{D:Ends}{σ σ1:L2.St}{H H1:Hp}{r:RL.Out}{σD':RL.St}(h:pA K M D σ H r σD')(f:Fr' M σ H σ1 H1):pA K M D σ1 H1 r σD':=by
 cases r with
 | nx=>exact fun σ2 H2 rv2 fr2=>h σ2 H2 rv2 (f.trans fr2)
 | rt d=>exact fun σ1 H1 v H2 rv2 fr2 sm rp=>h σ1 H1 v H2 rv2 (f.trans fr2) sm rp
noncomputable def tS(K:PySem.W.Frag)(M:List Nat)(f:RL.St->Option (RL.Out × RL.St)):TS:=fun D σ H=>∃ σD r σD',RVm K M σD σ H/\f σD=some (r,σD')/\pA K M D σ H r σD'
noncomputable def SS(X:Cx)(cl:RL.Cl)(M:List Nat)(st:Stmt)(s:RL.S):Prop:=PS X st (tS X.K M (RL.evS cl M s))
noncomputable def SSs(X:Cx)(cl:RL.Cl)(M:List Nat)(st:List Stmt)(s:RL.Ss):Prop:=PSs X st (tS X.K M (RL.ak cl M s))
section rules
variable{X:Cx}{cl:RL.Cl}{M:List Nat}{st:Stmt}{sts:List Stmt}{e' k' c':RL.E}{i j:Nat}
theorem Bn:SSs X cl M [] .nil:=by
 refine PSs.weak Ar fun D σ H h=>?_
 obtain⟨σD,r,σD',rv,e,k⟩:=h
 rw[RL.ak]at e
 cases e
 exact k σ H rv (Fr'.same (aq.refl H))
theorem yK{s:RL.S}{r:RL.Ss}(h1:SS X cl M st s)(h2:SSs X cl M sts r):SSs X cl M (st::sts) (.cons s r):=by
 refine PSs.weak (kH h1 h2) fun D σ H h=>?_
 obtain⟨σD,o,σD',rv,e,k⟩:=h
 rw[RL.ak]at e
 obtain⟨p,e1,e2⟩:=bind_some e
 obtain⟨o1,σ1⟩:=p
 refine⟨σD,o1,σ1,rv,e1,?_⟩
 cases o1 with
 |rt d=>
  cases e2
  exact k
 |nx=>
  exact fun σ' H' rv' fr'=>⟨σ1,o,σD',rv',e2,k.from fr'⟩
theorem DO(h:SA X cl st i e')(hi:M.contains i=false):SS X cl M st (.asg i e'):=by
 refine PS.weak h fun D σ H h=>?_
 obtain⟨σD,o,σD',rv,e,k⟩:=h
 rw[RL.evS]at e
 obtain⟨d,e1,e2⟩:=bind_some e
 split at e2
 ·rename_i ok
  cases e2
  refine⟨σD,d,rv.rv0,e1,fun v H1 r1=>k _ _ ?_ (Fr'.bind hi r1.same)⟩
  refine(rv.same r1.same).bind hi ?_
  unfold RL.bw at ok
  rw[Bool.or_eq_true,Bool.or_eq_true,Bool.and_eq_true]at ok
  rcases ok with(q | ⟨q1,q2⟩) | q
  ·exact r1.rep.imm q
  ·have rp:=r1.rep
   have fr:kE d=true->∀ a,v=.ref a->¬ aV M σ a:=fun m a z p=>rv.qE a p (r1.fresh q2 m a z)
   cases d with
   | lst ds=>obtain⟨a,xs,e1,e0,e2,e3⟩:=aG rp;rw[Rep];exact⟨a,xs,e1,fr rfl a e1,e2,e3.imm q1⟩
   | dK ks ds=>rw[Rep]at rp ⊢;obtain⟨a,xs,e1,e0,e2,el,e3⟩:=rp;exact⟨a,xs,e1,fr rfl a e1,e2,el,e3.imm q1⟩
   | dT ks ds=>rw[Rep]at rp ⊢;obtain⟨a,xs,e1,e0,e2,el,e3⟩:=rp;exact⟨a,xs,e1,fr rfl a e1,e2,el,e3.imm q1⟩
   | _=>cases q1
  ·refine r1.av M q _ rv.qE fun j dj vj hj h1 h2=>?_
   obtain⟨v',h3,h4⟩:=rv.val j dj h1
   rw[h2]at h3
   cases h3
   rw[if_neg (by rw[hj];decide)]at h4
   exact h4
 ·cases e2
theorem Dt(h:SA X cl st i e')(hi:M.contains i=true)(hi2:M.count i<2):SS X cl M st (.own i e'):=by
 refine PS.weak h fun D σ H h=>?_
 obtain⟨σD,o,σD',rv,e,k⟩:=h
 rw[RL.evS]at e
 obtain⟨d,e1,e2⟩:=bind_some e
 split at e2
 ·rename_i ok
  cases e2
  rw[Bool.and_eq_true]at ok
  refine⟨σD,d,rv.rv0,e1,fun v H1 r1=>?_⟩
  have m:kE d=true:=by
   cases d with
   | lst _=>rfl
   | dK _ _=>rfl
   | dT _ _=>rfl
   | _=>cases ok.1
  have ow:Own X.K H1 d v:=⟨m,ok.1,r1.rep⟩
  obtain⟨a,ob,rfl,_,_⟩:=ow.ref
  obtain⟨h1,h2⟩:=rv.own r1.same hi hi2 (r1.fresh ok.2 m a rfl) ow
  exact k _ _ h1 h2
 ·cases e2
theorem E9{c:Expr}{a b:List Stmt}{a' b':RL.Ss}{pos:Pos}(hc:ST X cl c c')(ha:SSs X cl M a a')(hb:SSs X cl M b b'):SS X cl M (.If c a b pos) (.ife c' a' b'):=by
 refine PS.weak (zy hc ha hb) fun D σ H h=>?_
 obtain⟨σD,o,σD',rv,e,k⟩:=h
 rw[RL.evS]at e
 obtain⟨t,e1,e2⟩:=bind_some e
 refine⟨σD,t,rv.rv0,e1,fun H1 s1=>?_⟩
 have k1:=k.from (Fr'.same (σ:=σ) s1)
 cases t with
 | true=>exact fJ ⟨σD,o,σD',rv.same s1,e2,k1⟩
 | false=>exact gm ⟨σD,o,σD',rv.same s1,e2,k1⟩
theorem DQ{e:Expr}{pos:Pos}(he:SE X cl e e')(hv:∀ i,e'=.var i->M.contains i=false):SS X cl M (.Return (some e) pos) (.ret e'):=by
 refine PS.weak (rA he) fun D σ H h=>?_
 obtain⟨σD,o,σD',rv,ev,k⟩:=h
 rw[RL.evS]at ev
 obtain⟨d,e1,e2⟩:=bind_some ev
 split at e2
 ·rename_i ok
  cases e2
  refine⟨σD,d,rv.rv0,e1,fun v H1 r1=>k σ H v H1 rv (Fr'.same (aq.refl H)) r1.same fun P hP=>?_⟩
  unfold RL.cn at ok
  rw[Bool.or_eq_true,Bool.and_eq_true,Bool.or_eq_true]at ok
  rcases ok with q | ⟨q1,q2⟩
  ·exact r1.rep.imm q
  ·have rp:=r1.rep
   have fr:kE d=true->∀ a,v=.ref a->¬ P a:=fun m a z p=>by
    rcases q2 with q | q
    ·exact(hP a p).1 (r1.fresh q m a z)
    ·cases e' with
     |var i=>
      have hi:M.contains i=true:=q
      rw[hv i rfl]at hi
      cases hi
     | _=>cases q
   cases d with
   | lst ds=>obtain⟨a,xs,e1,e0,e2,e3⟩:=aG rp;rw[Rep];exact⟨a,xs,e1,fr rfl a e1,e2,e3.imm q1⟩
   | dK ks ds=>rw[Rep]at rp ⊢;obtain⟨a,xs,e1,e0,e2,el,e3⟩:=rp;exact⟨a,xs,e1,fr rfl a e1,e2,el,e3.imm q1⟩
   | dT ks ds=>rw[Rep]at rp ⊢;obtain⟨a,xs,e1,e0,e2,el,e3⟩:=rp;exact⟨a,xs,e1,fr rfl a e1,e2,el,e3.imm q1⟩
   | _=>cases q1
 ·cases e2
theorem AK{x:Str}{p pos:Pos}(hN:X.N[i]?=some x)(hv:Vis X.env.scope x)(hd:(x == ("__debug__" : Str))=false)(hcd:(x == ("__classdict__" : Str))=false)(hi:M.contains i=true):SS X cl M (.Return (some (.Name x p)) pos) (.ret (.var i)):=by
 refine PS.weak (rA (ju hN hv hd hcd)) fun D σ H h=>?_
 obtain⟨σD,o,σD',rv,e,k⟩:=h
 rw[RL.evS]at e
 obtain⟨d,e1,e2⟩:=bind_some e
 split at e2
 ·cases e2
  have e3:σD[i]?=some (some d):=by
   rw[RL.ev]at e1
   obtain⟨o,h1,h2⟩:=bind_some e1
   cases o with
   | none=>cases h2
   | some z=>cases h2;exact h1
  obtain⟨v,h1,h2⟩:=rv.val i d e3
  rw[if_pos hi]at h2
  refine⟨v,h1,k σ H v H rv (Fr'.same (aq.refl H)) (aq.refl H) fun P hP=>?_⟩
  obtain⟨a,o,rfl,_,_⟩:=h2.ref
  have np:¬ P a:=fun p=>(hP a p).2 ⟨i,hi,h1⟩
  obtain⟨q1,q2,q3⟩:=h2
  cases d with
  | lst ds=>obtain⟨b,xs,e1,e0,e2,e3⟩:=aG q3;cases e1;rw[Rep];exact⟨a,xs,rfl,np,e2,e3.imm q2⟩
  | dK ks ds=>rw[Rep]at q3 ⊢;obtain⟨b,xs,e1,e0,e2,el,e3⟩:=q3;cases e1;exact⟨a,xs,rfl,np,e2,el,e3.imm q2⟩
  | dT ks ds=>rw[Rep]at q3 ⊢;obtain⟨b,xs,e1,e0,e2,el,e3⟩:=q3;cases e1;exact⟨a,xs,rfl,np,e2,el,e3.imm q2⟩
  | _=>cases q1
 ·cases e2
theorem slot_get{σD:RL.St}{d:RL.D}(h:(σD[i]?).bind id=some d):σD[i]?=some (some d):=by
 obtain⟨o,h1,h2⟩:=bind_some h
 cases o with
 | none=>cases h2
 | some z=>cases h2;exact h1
theorem DS(h:PS X st (oE (tBM X.K "list" tq (kX i) (tEs X.K cl (.cons e' .nil)))))(hi:M.contains i=true):SS X cl M st (.app i e'):=by
 refine PS.weak h fun D σ H h=>?_
 obtain⟨σD,o,σD',rv,e,k⟩:=h
 rw[RL.evS]at e
 obtain⟨d,e1,e2⟩:=bind_some e
 obtain⟨l,e3,e4⟩:=bind_some e2
 cases l with
 |lst ds=>
  dsimp only at e4
  split at e4
  ·rename_i ok
   cases e4
   rw[Bool.and_eq_true,decide_eq_true_eq]at ok
   obtain⟨v,h1,h2⟩:=rv.val i _ (slot_get e3)
   rw[if_pos hi]at h2
   obtain⟨q1,q2,q3⟩:=h2
   obtain⟨a,xs,rfl,_,f2,f3⟩:=aG q3
   refine⟨.ref a,h1,.inl ⟨rfl,xs,SqL.of f2⟩,σD,[d],rv.rv0,by rw[RL.evs,e1];rfl,fun vs H1 s1 r1=>?_⟩
   rw[ae]at r1
   obtain⟨y,t,rfl,r2,r3⟩:=r1
   rw[ae]at r3
   subst r3
   have hl:xs.length<sizeLine:=by rw[<-f3.length];exact Nat.lt_of_lt_of_le ok.2 bV
   refine⟨a,xs,y,rfl,rfl,s1 _ _ f2,hl,?_⟩
   have im:RL.aw (ds++[d])=true:=by
    have:∀ l:List RL.D,RL.aw l=true->RL.aw (l++[d])=true:=fun l=>by
     induction l with
     | nil=>intro _;simp[RL.aw,ok.1]
     | cons z r ih=>intro h;rw[RL.aw,Bool.and_eq_true]at h;rw[List.cons_append,RL.aw,h.1,ih h.2];rfl
    exact this ds q2
   have rs:ae nP X.K (upd H1 a (.lst (xs++[y]))) (ds++[d]) (xs++[y]):=(ae.upd (P:=fun p=>p=a) (s1 _ _ f2) (.inl ⟨_,rfl⟩) rfl ((ae.append (f3.same s1) (ae.cons r2 ae.nil)).imm im)).imm im
   obtain⟨g1,g2⟩:=(rv.same s1).lu (d':=.lst (ds++[d])) (o':=.lst (xs++[y])) hi h1 (s1 _ _ f2) (.inl ⟨_,rfl⟩) ⟨rfl,im,by rw[Rep];exact⟨a,_,rfl,fun z=>z,aR,rs⟩⟩
   exact k _ _ g1 ((Fr'.same s1).trans g2)
  ·cases e4
 | _=>cases e4
end rules
theorem RVm.bF{K:PySem.W.Frag}{M:List Nat}{H:Hp}:∀ {tg:List Nat} {ds:List RL.D} {vs:List V} {σD:RL.St} {σ:L2.St},RVm K M σD σ H->(∀ i∈tg,M.contains i=false)->tg.length=ds.length->RL.aw ds=true->ae nP K H ds vs ->
  RVm K M (et tg ds σD) (cL tg vs σ) H/\aV M (cL tg vs σ)=aV M σ
 | [],_,_,_,_,h,_,_,_,_=>⟨h,rfl⟩
 | i::is,[],_,_,_,_,_,hl,_,_=>by simp at hl
 | i::is,d::ds,vs,σD,σ,h,hM,hl,him,r=>by
  rw[ae]at r
  obtain⟨v,t,rfl,r1,r2⟩:=r
  rw[RL.aw,Bool.and_eq_true]at him
  rw[et,cL]
  have hi:=hM i List.mem_cons_self
  obtain⟨g1,g2⟩:=RVm.bF (h.bind hi (r1.imm him.1)) (fun j hj=>hM j (List.mem_cons_of_mem _ hj)) (by simpa using hl) him.2 r2
  exact⟨g1,g2.trans (aV.set hi)⟩
theorem kZ{M tg:List Nat}{vs:List V}{σ:L2.St}{j:Nat}(hM:∀ i∈tg,M.contains i=false)(hj:2<=M.count j):(cL tg vs σ)[j]?=σ[j]?:=by
 refine mS tg vs σ j ?_
 cases hc:tg.contains j with
 | false=>rfl
 |true=>
  have:=hM j (by simpa using hc)
  rw[hU hj]at this
  cases this
section rules
variable{X:Cx}{cl:RL.Cl}{M:List Nat}{st:Stmt}{tgE iter:Expr}{body:List Stmt}{b:RL.Ss}{it:RL.It}{tg:List Nat}{e' k' a' b':RL.E}{i j:Nat}{pos:Pos}
theorem uH{f:RL.St->Option (RL.Out × RL.St)}{d:RL.D}{ds:List RL.D}{σ:RL.St}{p:RL.Out × RL.St}(h:RL.aZ f tg (d::ds) σ=some p):d.imm=true/\∃ σ1 o σ2,RL.aO tg d σ=some σ1/\f σ1=some (o,σ2) /\
  (match o with | .nx=>RL.aZ f tg ds σ2=some p | .rt d=>p=(.rt d,σ2)):=by
 rw[RL.aZ]at h
 split at h
 ·rename_i him
  obtain⟨σ1,h1,h⟩:=bind_some h
  obtain⟨⟨o,σ2⟩,h2,h⟩:=bind_some h
  refine⟨him,σ1,o,σ2,h1,h2,?_⟩
  cases o with
  | nx=>exact h
  | rt d=>exact(Option.some.inj h).symm
 ·cases h
theorem DF(hx:X.xe=fun _ _=>False)(hc:X.calm=true)(hi:SI X cl tgE iter it)(hg:PG X tgE (gT X.K tg))(hb:SSs X cl M body b)(hs:∀ x,foldedSetIterable iter X.env x=pure x)(hav:RL.qV M it=true)(hM:∀ i∈tg,M.contains i=false) :
  SS X cl M (.For tgE iter body [] pos) (.forr tg it b):=by
 refine PS.weak (x9 (by rw[hx];exact PassesOwn.never) hc hi hg hb hs) fun D σ H h=>?_
 obtain⟨σD,r,σD',rv,e,k⟩:=h
 rw[RL.evS]at e
 obtain⟨ds,e1,e2⟩:=bind_some e
 refine⟨σD,ds,rv.rv0,e1,fun J H1 s1 src=>?_⟩
 have ok:iX X.K J ds (aV M σ) H1:=src.2 M (aV M σ) hav rv.tZ fun j dj vj hj h1 h2=>by
  obtain⟨v',h3,h4⟩:=rv.val j dj h1
  rw[h2]at h3
  cases h3
  rw[if_neg (by rw[hj];decide)]at h4
  exact h4
 have k1:=k.from (Fr'.same (σ:=σ) s1)
 refine⟨fun i m σ2 H2=>∃ σD2,m=ds.length-i/\i<=ds.length/\RVm X.K M σD2 σ2 H2/\Fr' M σ H1 σ2 H2/\RL.aZ (RL.ak cl M b) tg (ds.drop i) σD2=some (r,σD'),⟨_,σD,rfl,Nat.zero_le _,rv.same s1,Fr'.same (aq.refl _),e2⟩,?_⟩
 rintro i m σ2 H2 ⟨σD2,rfl,hi2,rv2,fr2,hl⟩
 have off:Off (aV M σ) H1 H2:=fun b o n e=>(fr2.1 b o e n).1
 by_cases hlt:i<ds.length
 ·refine .inr ⟨ok.go H2 i off hlt,fun σ' H'=>∃ m',m'<ds.length-i/\∃ σD2,m'=ds.length-(i+1)/\i+1<=ds.length/\RVm X.K M σD2 σ' H'/\Fr' M σ H1 σ' H'/\RL.aZ (RL.ak cl M b) tg (ds.drop (i+1)) σD2=some (r,σD'),fun σ' H' z=>z,fun x H3 y=>?_⟩
  rw[List.drop_eq_getElem_cons hlt]at hl
  obtain⟨him,σ3,o,σ4,h1,h2,h3⟩:=uH hl
  obtain⟨s3,rp⟩:=ok.yld H2 i ds[i] x H3 off (by simp[hlt]) y
  obtain⟨dv,vs,q1,q2,q3,q4,q5⟩:=tM h1 (rp (.inl him))
  refine q5 _ _ ?_
  obtain⟨rv3,as3⟩:=(rv2.same s3).bF hM q2 (q4 him) q3
  have fr3:Fr' M σ H1 (cL tg vs σ2) H3:=⟨fun b o e n=>⟨s3 _ _ (fr2.1 b o e n).1,by rw[as3];exact(fr2.1 b o e n).2⟩,fun j hj=>(kZ hM hj).trans (fr2.2 j hj)⟩
  refine⟨σ3,o,σ4,by rw[q1];exact rv3,h2,?_⟩
  cases o with
  | nx=>exact fun σ' H' rv' fr'=>⟨_,by lia,σ4,rfl,hlt,rv',fr3.trans fr',h3⟩
  |rt d=>
   cases h3
   exact fun σ' H' v H4 rv' fr' sm rp=>k1 σ' H' v H4 rv' (fr3.trans fr') sm rp
 ·have e:i=ds.length:=by lia
  subst e
  rw[List.drop_length,RL.aZ]at hl
  cases hl
  exact .inl ⟨ok.stop H2 off,k1 σ2 H2 rv2 fr2⟩
theorem xR{n:Nat}{k:Int}{j:Nat}(h:RL.mC n k=some j):ixN n k=some j:=h
theorem xg:∀ {ds:List RL.D} {d:RL.D} (j:Nat),RL.aw ds=true->d.imm=true->RL.aw (ds.set j d)=true
 | [],d,j,_,_=>by simp[RL.aw]
 | x::r,d,0,h,hd=>by rw[RL.aw,Bool.and_eq_true]at h;rw[List.set_cons_zero,RL.aw,hd,h.2];rfl
 | x::r,d,j+1,h,hd=>by rw[RL.aw,Bool.and_eq_true]at h;rw[List.set_cons_succ,RL.aw,h.1,xg j h.2 hd];rfl
theorem A2{H:Hp}{a:Addr}{ds:List RL.D}{xs ys:List V}{ds':List RL.D}(f2:H a=some (.lst xs))(im:RL.aw ds'=true)(rs:ae nP X.K H ds' ys):Own X.K (upd H a (.lst ys)) (.lst ds') (.ref a) :=
 ⟨rfl,im,by rw[Rep];exact⟨a,_,rfl,fun z=>z,aR,(ae.upd (P:=fun p=>p=a) f2 (.inl ⟨_,rfl⟩) rfl (rs.imm im)).imm im⟩⟩
theorem BB(h:PS X st (qi (tE X.K cl e') (yH (kX i) (tE X.K cl k') tP)))(hi:M.contains i=true)(hl:True):PS X st (tS X.K M fun σD=>(RL.ev cl σD e').bind fun d=>(RL.ev cl σD k').bind fun kk=>((σD[i]?).bind id).bind fun l=>match l with
  | .lst _=>if d.imm then(RL.dA l kk d).map fun l'=>(.nx,σD.set i (some l'))else none
  | _=>none):=by
 refine PS.weak h fun D σ H h=>?_
 obtain⟨σD,o,σD',rv,e,k⟩:=h
 obtain⟨d,e1,e⟩:=bind_some e
 obtain⟨kk,e2,e⟩:=bind_some e
 obtain⟨l,e3,e⟩:=bind_some e
 cases l with
 |lst ds=>
  dsimp only at e
  split at e
  ·rename_i him
   obtain⟨l',e4,e5⟩:=map_some e
   cases e5
   obtain⟨v,h1,h2⟩:=rv.val i _ (slot_get e3)
   rw[if_pos hi]at h2
   obtain⟨q1,q2,q3⟩:=h2
   obtain⟨a,xs,rfl,_,f2,f3⟩:=aG q3
   cases kk with
   |int kk=>
    obtain⟨jx,e6,e7⟩:=map_some (show(RL.mC ds.length kk).map (fun j=>RL.D.lst (ds.set j d))=some l' from e4)
    subst e7
    refine⟨σD,d,rv.rv0,e1,fun y H1 r1=>⟨.ref a,h1,σD,.int kk,rv.rv0.same r1.same,e2,fun z H2 r2=>?_⟩⟩
    have sm:=r1.same.trans r2.same
    refine⟨a,xs,kk,jx,rfl,ag r2.rep,sm _ _ f2,?_,?_⟩
    ·rw[<-f3.length]
     exact xR e6
    ·have im:=xg jx q2 him
     obtain⟨g1,g2⟩:=(rv.same sm).lu (d':=.lst (ds.set jx d)) (o':=.lst (xs.set jx y)) hi h1 (sm _ _ f2) (.inl ⟨_,rfl⟩) (A2 (ds:=ds) (sm _ _ f2) im (ae.set jx (f3.same sm) (r1.rep.same r2.same)))
     exact k _ _ g1 ((Fr'.same sm).trans g2)
   | _=>cases e4
  ·cases e
 | _=>cases e
theorem Ci(h:PS X st (Eb i j (tEs X.K cl (.cons a' (.cons b' .nil)))))(hi:M.contains i=false)(hj:M.contains j=false):SS X cl M st (.par i j a' b'):=by
 refine PS.weak h fun D σ H h=>?_
 obtain⟨σD,o,σD',rv,e,k⟩:=h
 rw[RL.evS]at e
 obtain⟨x,e1,e⟩:=bind_some e
 obtain⟨y,e2,e⟩:=bind_some e
 split at e
 ·rename_i him
  cases e
  rw[Bool.and_eq_true]at him
  refine⟨σD,[x,y],rv.rv0,by rw[RL.evs,e1,RL.evs,e2];rfl,fun vs H1 s1 r1=>?_⟩
  rw[ae]at r1
  obtain⟨v,t,rfl,r2,r3⟩:=r1
  rw[ae]at r3
  obtain⟨u,t,rfl,r4,r5⟩:=r3
  rw[ae]at r5
  subst r5
  refine⟨v,u,rfl,k _ _ ?_ ?_⟩
  ·refine((rv.same s1).bind hi (r2.imm him.1)).bind hj (r4.imm him.2)
  ·exact(Fr'.bind hi s1).trans (Fr'.bind hj (aq.refl _))
 ·cases e
theorem CI(h:PS X st (oE (tE X.K cl e'))):SS X cl M st (.exc e'):=by
 refine PS.weak h fun D σ H h=>?_
 obtain⟨σD,o,σD',rv,e,k⟩:=h
 rw[RL.evS]at e
 obtain⟨d,e1,e2⟩:=map_some e
 cases e2
 exact⟨σD,d,rv.rv0,e1,fun v H1 r1=>k _ _ (rv.same r1.same) (Fr'.same r1.same)⟩
end rules
section rules
variable{X:Cx}{cl:RL.Cl}{M:List Nat}{st:Stmt}{e':RL.E}
theorem A4{is:List Nat}(h:PS X st (qi (tE X.K cl e') (fun v σ H Q=>mF X.K is.length (gs is) v σ H Q\/mR X.K is.length (gs is) v σ H Q)))(hM:∀ i∈is,M.contains i=false):SS X cl M st (.unp is e'):=by
 refine PS.weak h fun D σ H h=>?_
 obtain⟨σD,o,σD',rv,e,k⟩:=h
 rw[RL.evS]at e
 obtain⟨d,e1,e⟩:=bind_some e
 obtain⟨ds,e2,e⟩:=bind_some e
 split at e
 ·rename_i him
  obtain⟨σ1,e3,e4⟩:=map_some e
  cases e4
  obtain⟨q1,q2⟩:=fE e3
  refine⟨σD,d,rv.rv0,e1,fun v H1 r1=>?_⟩
  obtain⟨p,xs,rfl,hp,rs⟩:=gr e2 r1.rep
  obtain⟨g1,g2⟩:=(rv.same r1.same).bF (vs:=xs) hM q1 him rs
  have fin:D.nx (cL is xs σ) H1:=k _ _ (by rw[q2];exact g1) ⟨fun b o e n=>⟨r1.same _ _ e,by rw[g2];exact n⟩,fun j hj=>kZ hM hj⟩
  have hl:xs.length=is.length:=by rw[<-rs.length,q1]
  rcases hp with⟨hp,_⟩ | ⟨hp,_⟩
  ·exact .inr ⟨p,xs,rfl,SqL.of hp,hl,iO hl.symm fin⟩
  ·exact .inl ⟨p,xs,rfl,SqT.of hp,hl,iO hl.symm fin⟩
 ·cases e
theorem kC{α:Type}(xs:List α)(k:Int):(xs.drop (HT.sIx xs.length 0 none)).take (HT.sIx xs.length xs.length (some k)-HT.sIx xs.length 0 none)=xs.take (RL.cutAt xs.length k):=by
 rw[HT.r9,List.drop_zero,Nat.sub_zero]
 congr 1
 have h:=HT.fW k xs.length xs.length
 unfold RL.cutAt
 split at h
 ·rename_i h0
  rw[if_neg (by lia)]
  lia
 ·rename_i h0
  rw[if_pos (by lia)]
  lia
theorem pX{α:Type}(xs:List α)(k:Int):(xs.drop (HT.sIx xs.length 0 (some k))).take (HT.sIx xs.length xs.length none-HT.sIx xs.length 0 (some k))=xs.drop (RL.cutAt xs.length k):=by
 have e:HT.sIx xs.length 0 (some k)=RL.cutAt xs.length k:=by
  have h:=HT.fW k xs.length 0
  unfold RL.cutAt
  split at h
  ·rename_i h0
   rw[if_neg (by lia)]
   lia
  ·rename_i h0
   rw[if_pos (by lia)]
   lia
 rw[e,HT.r9]
 exact List.take_of_length_le (by rw[List.length_drop];exact Nat.le_refl _)
end rules
section rules
variable{X:Cx}{cl:RL.Cl}{a b:Expr}{a' b':RL.E}{pos p p2:Pos}{x:Str}
theorem one{σ:L2.St}{H:Hp}{R:List V->Hp->Prop}{σD:RL.St}{d:RL.D}(rv:RV0 X.K σD σ H)(ea:RL.ev cl σD a'=some d)(k:∀ v H1,aq H H1->Rep nP X.K H1 d v->R [v] H1):tEs X.K cl (.cons a' .nil) σ H R :=
 ⟨σD,[d],rv,by rw[RL.evs,ea];rfl,fun vs H1 s1 r1=>by
  rw[ae]at r1
  obtain⟨v,t,rfl,r2,r3⟩:=r1
  rw[ae]at r3
  subst r3
  exact k v H1 s1 r2⟩
theorem pair{σ:L2.St}{H:Hp}{R:List V->Hp->Prop}{σD:RL.St}{d d':RL.D}(rv:RV0 X.K σD σ H)(ea:RL.ev cl σD a'=some d)(eb:RL.ev cl σD b'=some d')(k:∀ v u H1,aq H H1->Rep nP X.K H1 d v->Rep nP X.K H1 d' u->R [v,u] H1):tEs X.K cl (.cons a' (.cons b' .nil)) σ H R :=
 ⟨σD,[d,d'],rv,by rw[RL.evs,ea,RL.evs,eb];rfl,fun vs H1 s1 r1=>by
  rw[ae]at r1
  obtain⟨v,t,rfl,r2,r3⟩:=r1
  rw[ae]at r3
  obtain⟨u,t,rfl,r4,r5⟩:=r3
  rw[ae]at r5
  subst r5
  exact k v u H1 s1 r2 r4⟩
theorem nE{id:String}{r:List V->Hp->VK->Prop}{b:RL.Bi}(hc:bA X (.builtin id) r)(hg:Gl X x)(hm:X.mg x=none)(hv:bootBuiltins x=some (.builtin id))(ha:SE X cl a a')(hn:noStar a=true)(h1:x ≠ "__name__")(h2:(x == ("__debug__" : Str))=false)
 (ok:∀ (σD:RL.St) (σ:L2.St) (H H1:Hp) (y d:RL.D) (v:V) (Q:VK),RL.biV b y=some d->aq H H1->Rep nP X.K H1 y v->(∀ w H',Res X.K σD σ H (.bi b a') d w H'->Q w H')->r [v] H1 Q):SE X cl (.Call (.Name x p) [a] [] pos) (.bi b a'):=by
 refine PE.weak (eu hc hg hm hv (br (cl:=cl) ha c5 hn) h1 h2 (ao [] hn) rfl) fun σ H Q h=>?_
 obtain⟨σD,d,rv,e,k⟩:=h
 rw[RL.ev]at e
 obtain⟨y,ea,e⟩:=bind_some e
 exact one rv ea fun v H1 s1 r1=>ok σD σ H H1 y d v Q e s1 r1 k
theorem jE{T:String}{r:List V->Hp->VK->Prop}{b:RL.Bi}(hc:bA X (.type T) r)(hg:Gl X x)(hm:X.mg x=none)(hv:bootBuiltins x=some (.type T))(ha:SE X cl a a')(hn:noStar a=true)(h1:x ≠ "__name__")(h2:(x == ("__debug__" : Str))=false)
 (ok:∀ (σD:RL.St) (σ:L2.St) (H H1:Hp) (y d:RL.D) (v:V) (Q:VK),RL.biV b y=some d->aq H H1->Rep nP X.K H1 y v->(∀ w H',Res X.K σD σ H (.bi b a') d w H'->Q w H')->r [v] H1 Q):SE X cl (.Call (.Name x p) [a] [] pos) (.bi b a'):=by
 refine PE.weak (c7 hc hg hm hv (br (cl:=cl) ha c5 hn) h1 h2 (ao [] hn) rfl) fun σ H Q h=>?_
 obtain⟨σD,d,rv,e,k⟩:=h
 rw[RL.ev]at e
 obtain⟨y,ea,e⟩:=bind_some e
 exact one rv ea fun v H1 s1 r1=>ok σD σ H H1 y d v Q e s1 r1 k
theorem Bw(hg:Gl X "list")(hm:X.mg "list" = none)(ha:SE X cl a a')(hn:noStar a=true):SE X cl (.Call (.Name "list" p) [a] [] pos) (.bi .list a'):=by
 refine jE qH hg hm (by decide +kernel) ha hn (by decide) (by decide) fun σD σ H H1 y d v Q e s1 r1 k=>?_
 obtain⟨ds,e1,e2⟩:=map_some (show(RL.items y).map RL.D.lst=some d from e)
 subst e2
 obtain⟨q,xs,rfl,hp,rs⟩:=gr e1 r1
 refine⟨q,xs,rfl,?_,fun l hl=>k _ _ (dF s1 hl rs fun _=>rfl)⟩
 rcases hp with⟨z,_⟩ | ⟨z,_⟩
 ·exact .inl (SqL.of z)
 ·exact .inr (SqT.of z)
theorem yc(hg:Gl X "tuple")(hm:X.mg "tuple" = none)(ha:SE X cl a a')(hn:noStar a=true):SE X cl (.Call (.Name "tuple" p) [a] [] pos) (.bi .tuple a'):=by
 refine jE oA hg hm (by decide +kernel) ha hn (by decide) (by decide) fun σD σ H H1 y d v Q e s1 r1 k=>?_
 obtain⟨ds,e1,e2⟩:=map_some (show(RL.items y).map RL.D.tup=some d from e)
 subst e2
 obtain⟨q,xs,rfl,hp,rs⟩:=gr e1 r1
 rcases hp with⟨z,_⟩ | ⟨z,_⟩
 ·exact⟨q,xs,rfl,.inl ⟨SqL.of z,fun l hl=>k _ _ (fg s1 hl rs fun _=>rfl)⟩⟩
 ·refine⟨q,xs,rfl,.inr ⟨SqT.of z,k _ _ ⟨s1,?_,fun _ m=>(by cases m),fun M z=>nomatch (show false=true from z)⟩⟩⟩
  rw[Rep]
  exact⟨q,xs,rfl,z,rs⟩
theorem Ce(hg:Gl X "int")(hm:X.mg "int" = none)(ha:SE X cl a a')(hn:noStar a=true):SE X cl (.Call (.Name "int" p) [a] [] pos) (.bi .int a'):=by
 refine jE wL hg hm (by decide +kernel) ha hn (by decide) (by decide) fun σD σ H H1 y d v Q e s1 r1 k=>?_
 cases y<;>simp only[RL.biV]at e<;>first | (cases e;done) | skip
 case bl t=>cases e;exact .inr ⟨t,by rw[aW r1],k _ _ (cC s1 aX rfl)⟩
 case int t=>cases e;exact .inl ⟨t,by rw[ag r1],k _ _ (cC s1 aX rfl)⟩
theorem uN{prog:Program}{w:World}{K:Type} [DecidableEq K]{knd:HeapKind prog w K}{d:Addr}(hd:(d == sysModules)=false) :
  MeetsIn prog w (Builtin.«dict.__len__» ⟨[.ref d],[]⟩) (fun _ R s=>∃ xs,s.heap.DictOfH knd d xs/\R (.ok (.ret (.int xs.length s.toks))) { s with toks:=s.toks+1 }) :=
 .of_wp fun A R s ⟨xs,hm,h⟩=>by
  obtain⟨o,es,ep,ho,hc,hdat,hk,_,_⟩:=hm
  show wpAny _ _ (dictSize d >>= _) _ _ s
  unfold dictSize
  refine wpAny_bind (wpAny_bind (wpAny_dictEntries ho hdat (wpAny_pure ?_)))
  show wpAny _ _ (Builtin.Dict.pendingCount d >>= _) _ _ s
  refine wpAny_bind (wpAny_pendingCount_other hd ?_)
  refine wpAny_ret_mkInt ?_
  rw[Nat.add_zero,size_of_entries hk]
  exact h
theorem me{prog:Program}{w:World}{K:Type} [DecidableEq K]{knd:HeapKind prog w K}{A:Around}{E:Value->Shared->Prop}{s:Shared}{d:Addr}{xs:List (K × Addr × Value)}{Q:Value->Shared->Prop}(hd:(d == sysModules)=false)(hm:s.heap.DictOfH knd d xs)(hfit:(xs.length:Int)<2 ^ 63)
 (h:Q (.int xs.length (s.toks+1)) { s with toks:=s.toks+1+1 }):wpAny (model prog w) A (call (.builtin "len") [.ref d]) Q E s:=by
 refine Calls.call_function_entry kind_len plain_len entry_len (args_len1 _) ?_
 unfold Builtin.«len»
 refine wpAny_bind (m:=oneArg "len" _) (wpAny_pure ?_)
 refine wpAny_bind (m:=callSpecial? (.ref d) (Str.ofString "__len__")) (wpAny_callSpecial?_slot (name:=Str.ofString "__len__") hm.typeIs F.slot_dict_len
  (call_meetsIn F.slot_dict_len hm.typeIs F.entry_dict_len (F.args_dict_len_1 _) (uN hd) ⟨xs,hm,?_⟩))
 show wpAny _ _ _ _ _ { s with toks:=s.toks+1 }
 refine wpAny_bind (wpAny_holding (wpAny_pure ?_))
 refine wpAny_bind (wpAny_letGo ?_)
 show wpAny _ _ (if((xs.length:Nat):Int)<0 then _ else _) _ _ _
 rw[if_neg (by omega)]
 show wpAny _ _ (if((xs.length:Nat):Int)≥2 ^ 63 then _ else _) _ _ _
 rw[if_neg (by omega)]
 exact wpAny_bind (wpAny_mkInt (wpAny_pure ⟨_,rfl,h⟩))
theorem v9:bA X (.builtin "len") (fun xs H Q=>∃ a kvs,xs=[V.ref a]/\H a=some (.dT kvs)/\Q (.int kvs.length) H):=by
 intro pins s σ H xs us Q I r h
 obtain⟨a,kvs,rfl,ha,q⟩:=h
 obtain⟨u,rfl,ru⟩:=vals1 r
 cases ru
 obtain⟨z,hd,xs,rel,dd⟩:=zQ I.hok ha
 have hl:kvs.length=xs.length:=Paired.length rel
 refine me hd dd (by rw[<-hl];rw[sizeLine_eq]at z;omega) ?_
 rw[<-hl]
 exact⟨.int kvs.length,H,I.tok _,⟨_,rfl⟩,q⟩
theorem xb:bA X (.builtin "len") (fun xs H Q=>(∃ y n,xs=[y]/\BJ X.K y H n/\Q (.int n) H)\/(∃ q kvs,xs=[V.ref q]/\H q=some (.dK kvs)/\Q (.int kvs.length) H)\/∃ q kvs,xs=[V.ref q]/\H q=some (.dT kvs)/\Q (.int kvs.length) H):=bA.or yb (bA.or x3 v9)
theorem Cp(hg:Gl X "len")(hm:X.mg "len" = none)(ha:SE X cl a a')(hn:noStar a=true):SE X cl (.Call (.Name "len" p) [a] [] pos) (.bi .len a'):=by
 refine nE xb hg hm PySem.boot_len ha hn (by decide) (by decide) fun σD σ H H1 y d v Q e s1 r1 k=>?_
 cases y<;>simp only[RL.biV,RL.items,Option.map_some,Option.map_none]at e<;>first | (cases e;done) | skip
 case str t =>
  split at e
  ·rename_i hz
   cases e
   rw[aS r1]
   exact .inl ⟨_,_,rfl,⟨Nat.le_trans hz bV,rfl⟩,k _ _ (cC s1 aX rfl)⟩
  ·cases e
 case tup t =>
  cases e
  obtain⟨q,xs,rfl,f2,f3⟩:=bj r1
  rw[f3.length]at k
  exact .inl ⟨_,_,rfl,.inr ⟨xs,SqT.of f2,rfl⟩,k _ _ (cC s1 aX rfl)⟩
 case lst t =>
  cases e
  obtain⟨q,xs,rfl,_,f2,f3⟩:=aG r1
  rw[f3.length]at k
  exact .inl ⟨_,_,rfl,.inl ⟨xs,SqL.of f2,rfl⟩,k _ _ (cC s1 aX rfl)⟩
 case dK ks t =>
  cases e
  rw[Rep]at r1
  obtain⟨q,xs,rfl,_,f2,fl,f3⟩:=r1
  refine .inr (.inl ⟨q,_,rfl,f2,?_⟩)
  have:(ks.zip xs).length=ks.length:=by rw[List.length_zip,<-f3.length,fl,Nat.min_self]
  rw[this]
  exact k _ _ (cC s1 aX rfl)
 case dT ks t =>
  cases e
  rw[Rep]at r1
  obtain⟨q,xs,rfl,_,f2,fl,f3⟩:=r1
  refine .inr (.inr ⟨q,_,rfl,f2,?_⟩)
  have:(ks.zip xs).length=ks.length:=by rw[List.length_zip,<-f3.length,fl,Nat.min_self]
  rw[this]
  exact k _ _ (cC s1 aX rfl)
theorem Cf(hc:X.calm=true)(hg:Gl X "max")(hm:X.mg "max" = none)(ha:SE X cl a a')(hb:SE X cl b b')(hn:noStar a=true)(hn2:noStar b=true):SE X cl (.Call (.Name "max" p) [a,b] [] pos) (.max a' b'):=by
 refine PE.weak (eu (vI hc) hg hm (by decide +kernel) (br (cl:=cl) ha (br hb c5 hn2) hn) (by decide) (by decide) (ao _ hn) (cj (by simp[hn2]))) fun σ H Q h=>?_
 obtain⟨σD,d,rv,e,k⟩:=h
 rw[RL.ev]at e
 obtain⟨u,ea,e⟩:=bind_some e
 obtain⟨v,eb,e⟩:=bind_some e
 cases u with
 |int i=>
  cases v with
  |int j=>
   cases e
   exact pair rv ea eb fun v u H1 s1 r1 r2=>⟨i,j,by rw[ag r1,ag r2],k _ _ (cC s1 aX rfl)⟩
  | _=>cases e
 | _=>cases e
noncomputable def tyN:RL.Ty->String
 | .int => "int"
 | .bool => "bool"
 | .list => "list"
 | .tuple => "tuple"
 | .str => "str"
theorem yI:bA X (.builtin "isinstance") (fun xs H Q=>∃ y t T k,xs=[y,.ty T]/\eK X.K H y t/\PySem.W.kitOne X.K t (.type T)=some k/\Q (.bl k) H):=by
 intro pins s σ H xs us Q I r h
 obtain⟨y,t,T,k,rfl,ty,e,q⟩:=h
 obtain⟨u,w,rfl,r1,r2⟩:=vals2 r
 cases r2
 exact xl I r1 ty e fun tk=>⟨.bl k,H,I.tok tk,rfl,q⟩
theorem Ew{t:RL.Ty}{d:RL.D}{k:Bool}{v:V}{H:Hp}(h:RL.cW t d=some k)(r:Rep nP X.K H d v):∃ ty,eK X.K H v ty/\PySem.W.kitOne X.K ty (.type (tyN t))=some k:=by
 cases d with
 | non=>rw[Rep]at r;subst r;refine⟨_,.non,?_⟩;cases t<;>(cases h;rfl)
 | bl i=>rw[aW r];refine⟨_,.bl i,?_⟩;cases t<;>(cases h;rfl)
 | int i=>rw[ag r];refine⟨_,.int i,?_⟩;cases t<;>(cases h;rfl)
 | str i=>rw[aS r];refine⟨_,.str i,?_⟩;cases t<;>(cases h;rfl)
 | tup i=>obtain⟨q,xs,rfl,f2,f3⟩:=bj r;refine⟨_,.tup f2,?_⟩;cases t<;>(cases h;rfl)
 | lst i=>obtain⟨q,xs,rfl,_,f2,f3⟩:=aG r;refine⟨_,.lst f2,?_⟩;cases t<;>(cases h;rfl)
 | _=>cases t<;>cases h
theorem BH{t:RL.Ty}{y:Str}(hg:Gl X "isinstance")(hm:X.mg "isinstance" = none)(hgy:Gl X y)(hmy:X.mg y=none)(hy:bootBuiltins y=some (.type (tyN t)))(hy1:y ≠ "__name__")(hy2:(y == ("__debug__" : Str))=false)(ha:SE X cl a a')(hn:noStar a=true) :
  SE X cl (.Call (.Name "isinstance" p) [a,.Name y p2] [] pos) (.isi a' t):=by
 have hty:PE X (.Name y p2) (tC (.ty (tyN t))):=sV hgy hmy hy rfl hy1 hy2
 refine PE.weak (eu yI hg hm (by decide +kernel) (bh ha (bh hty cI) (ao _ hn)) (by decide) (by decide) (ao _ hn) rfl) fun σ H Q h=>?_
 obtain⟨σD,d,rv,e,k⟩:=h
 rw[RL.ev]at e
 obtain⟨u,ea,e⟩:=bind_some e
 obtain⟨t',e1,e2⟩:=map_some e
 subst e2
 refine⟨σD,u,rv,ea,fun v H1 r1=>?_⟩
 obtain⟨ty,h1,h2⟩:=Ew e1 r1.rep
 exact⟨v,ty,_,t',rfl,h1,h2,k _ _ (dM r1.same)⟩
end rules
end RS
namespace L2
open PySem PySem.Spec PyProof.Rows
structure AI(prog:Program)(w:World):Prop where
 draws:∀ {A:Around},A.handled=none->∀ (ti tp:Addr),tp≠ti->∀ its:Array Value,Draws prog w A ti [ti,tp] its.size (fun i v=>its[i]?=some v) (fun i h=>h.IsTupleIter ti tp i/\h.IsTuple tp its)
 call:∀ {A:Around} {E:Value->Shared->Prop} {z:Shared} {tp:Addr} {its:Array Value} {Q:Value->Shared->Prop},z.heap.IsTuple tp its ->
  (∀ g,IsEnum g (z.heap.objs.size+1) z.heap.objs.size 0 .none->g.IsTupleIter z.heap.objs.size tp 0->(∀ b o,z.heap.get? b=some o->g.get? b=some o)->Q (.ref (z.heap.objs.size+1)) { z with heap:=g })->wpAny (model prog w) A (call (.type "enumerate") [.ref tp]) Q E z
section
variable{X:Cx}{pins:List (Addr × Obj)}{σ:St}{H:Hp}{s:Shared}
theorem Inv.t7{h':Heap}{t':Nat}{fp:List Addr}(I:Inv X pins σ H s)(k:∀ b o,b∉fp->s.heap.get? b=some o->h'.get? b=some o)(hf:∀ b∈fp,H b=none/\(b∈X.ex\/X.s₀.heap.objs.size<=b)/\b≠X.env.locals/\(∀ x c,X.env.cells.lookup x=some c->c≠b)/\∀ p∈X.pn++pins,p.1≠b) :
  Inv X pins σ H { s with heap:=h',toks:=t' }:=by
 have nf:∀ b u,H b=some u->b∉fp:=fun b u e z=>by rw[(hf b z).1]at e;cases e
 refine I.tL (s':={ s with heap:=h',toks:=t' }) (ch:=fp) rfl ⟨fun b o e _ _ hx=>k b o hx e,fun b o e _ _ hx=>⟨o.slots,k b o hx e⟩,fun _ _ _ n _=>n,fun b o e hx=>⟨o,k b o hx e⟩,fun _ _ e=>e,fun _ _ _ e=>e,fun b ps e=>⟨#[],by rw[e];simp⟩⟩ (fun b u e=>?_) I.bare fun b hb=>(hf b hb).2
 refine(I.hok b u e).je (fun c v hc q=>k c v ?_ q) (fun _ q=>q) fun _ _ q=>q
 rcases hc with z | z
 ·rw[z];exact nf b u e
 ·exact nf c _ z
end
section
variable{X:Cx}{elts:List Expr}{kx:Nat}{tp p pos:Pos}{a:Expr}{ta:TA}
end
end L2
namespace RS
open PySem PySem.Spec PyProof.Rows L2
section rules
variable{X:Cx}{cl:RL.Cl}{elts:List Expr}{kx:Nat}{tp p pos:Pos}{a:Expr}{a':RL.E}
end rules
section rules
variable{X:Cx}{cl:RL.Cl}{a b:Expr}{a' b':RL.E}{pos p p2:Pos}{M:List Nat}{st:Stmt}{i:Nat}{e' k':RL.E}
theorem As{P:Addr->Prop}{K:PySem.W.Frag}{H:Hp}{ds:List RL.D}{v:V}(h:Rep P K H (.scr ds) v):∃ a xs,v=.ref a/\jD K H a xs/\ae P K H ds xs:=by rw[Rep]at h;exact h
theorem xc(n:Nat)(k:Int):HT.sIx n n (some k)=RL.cutAt n k:=by
 have h:=HT.fW k n n
 unfold RL.cutAt
 split at h
 ·rw[if_neg (by lia)];lia
 ·rw[if_pos (by lia)];lia
theorem tN(n:Nat)(k:Int):HT.sIx n 0 (some k)=RL.cutAt n k:=by
 have h:=HT.fW k n 0
 unfold RL.cutAt
 split at h
 ·rw[if_neg (by lia)];lia
 ·rw[if_pos (by lia)];lia
theorem D9(ha:SE X cl a a')(hb:SE X cl b b'):SE X cl (.Subscript a (.Slice none (some b) none p2) pos) (.slT a' b'):=by
 refine PE.weak (rq (SlR.or sG vk) ha tm (sD hb)) fun σ H Q h=>?_
 obtain⟨σD,d,rv,e,k⟩:=h
 rw[RL.ev]at e
 obtain⟨x,ea,e⟩:=bind_some e
 obtain⟨y,eb,e⟩:=bind_some e
 refine⟨σD,x,rv,ea,fun v H1 r1=>⟨σD,y,rv.same r1.same,eb,fun u H2 r2=>?_⟩⟩
 have rx:=r1.rep.same r2.same
 have sm:=r1.same.trans r2.same
 cases y with
 |int n=>
  refine⟨n,ag r2.rep,?_⟩
  cases x with
  |lst xs=>
   cases e
   obtain⟨q,ys,rfl,_,f2,f3⟩:=aG rx
   refine .inl ⟨q,ys,rfl,SqL.of f2,fun l hl=>?_⟩
   unfold gg
   rw[kC,<-f3.length]
   exact k _ _ (dF sm hl (f3.take _) fun _=>rfl)
  |scr xs=>
   cases e
   obtain⟨q,ys,rfl,f2,f3⟩:=As rx
   refine .inl ⟨q,ys,rfl,f2.seq,fun l hl=>?_⟩
   unfold gg
   rw[kC,<-f3.length]
   exact k _ _ (dF sm hl (f3.take _) fun _=>rfl)
  |tup xs=>
   simp only[RL.kT]at e
   split at e
   ·rename_i hz
    cases e
    obtain⟨q,ys,rfl,f2,f3⟩:=bj rx
    refine .inr ⟨q,ys,rfl,SqT.of f2,fun z=>?_,fun l hl=>?_⟩
    ·rw[xc,<-f3.length]at z
     lia
    ·unfold gg
     rw[kC,<-f3.length]
     exact k _ _ (fg sm hl (f3.take _) fun _=>rfl)
   ·cases e
  | _=>cases e
 | _=>cases x<;>cases e
theorem DV(ha:SE X cl a a')(hb:SE X cl b b'):SE X cl (.Subscript a (.Slice (some b) none none p2) pos) (.slF a' b'):=by
 refine PE.weak (rq (SlR.or sG vk) ha (sD hb) tm) fun σ H Q h=>?_
 obtain⟨σD,d,rv,e,k⟩:=h
 rw[RL.ev]at e
 obtain⟨x,ea,e⟩:=bind_some e
 obtain⟨y,eb,e⟩:=bind_some e
 refine⟨σD,x,rv,ea,fun v H1 r1=>⟨σD,y,rv.same r1.same,eb,fun u H2 r2=>?_⟩⟩
 have rx:=r1.rep.same r2.same
 have sm:=r1.same.trans r2.same
 cases y with
 |int n=>
  refine⟨n,ag r2.rep,?_⟩
  cases x with
  |lst xs=>
   cases e
   obtain⟨q,ys,rfl,_,f2,f3⟩:=aG rx
   refine .inl ⟨q,ys,rfl,SqL.of f2,fun l hl=>?_⟩
   unfold gg
   rw[pX,<-f3.length]
   exact k _ _ (dF sm hl (f3.drop _) fun _=>rfl)
  |tup xs=>
   simp only[RL.uc]at e
   split at e
   ·rename_i hz
    cases e
    obtain⟨q,ys,rfl,f2,f3⟩:=bj rx
    refine .inr ⟨q,ys,rfl,SqT.of f2,fun z=>?_,fun l hl=>?_⟩
    ·rw[tN,<-f3.length]at z
     lia
    ·unfold gg
     rw[pX,<-f3.length]
     exact k _ _ (fg sm hl (f3.drop _) fun _=>rfl)
   ·cases e
  | _=>cases e
 | _=>cases x<;>cases e
noncomputable def yX:RL.D->RL.D->Option (Option RL.D)
 | .dK ks vs,k=>(RL.keyOf k).map (RL.aH ks vs)
 | .dT ks vs,.tup k=>(RL.keysOf k).map (RL.aH ks vs)
 | _,_=>none
noncomputable def Ans(P:Addr->Prop)(K:PySem.W.Frag)(H:Hp):Option RL.D->Option V->Prop
 | some d,r=>∃ w,r=some w/\Rep P K H d w
 | none,r=>r=none
theorem mV{κ:Type} [DecidableEq κ]{P:Addr->Prop}{K:PySem.W.Frag}{H:Hp}{x:κ}:∀ {ks:List κ} {ds:List RL.D} {xs:List V},ks.length=ds.length->ae P K H ds xs ->
  Ans P K H (RL.aH ks ds x) (eT (ks.zip xs) x)
 | [],ds,xs,hl,r=>by simp[RL.aH,eT,Ans]
 | k::ks,[],xs,hl,r=>by simp at hl
 | k::ks,d::ds,xs,hl,r=>by
  rw[ae]at r
  obtain⟨v,t,rfl,r1,r2⟩:=r
  by_cases hk:k=x
  ·have h1:RL.aH (k::ks) (d::ds) x=some d:=by rw[RL.aH,if_pos hk]
   rw[h1]
   exact⟨v,by rw[List.zip_cons_cons];exact iI hk,r1⟩
  ·have ih:=mV (x:=x) (ks:=ks) (ds:=ds) (xs:=t) (by simpa using hl) r2
   have h1:RL.aH (k::ks) (d::ds) x=RL.aH ks ds x:=by rw[RL.aH,if_neg hk]
   rw[h1,List.zip_cons_cons,jd hk]
   exact ih
theorem kB{P:Addr->Prop}{K:PySem.W.Frag}{H:Hp}{d:RL.D}{k:RL.Ky}{v:V}(h:RL.keyOf d=some k)(r:Rep P K H d v):v=kV k:=by
 cases d<;>simp only[RL.keyOf]at h<;>first | (cases h;done) | skip
 case int i=>cases h;exact ag r
 case str i=>cases h;exact aS r
theorem jz{P:Addr->Prop}{K:PySem.W.Frag}{H:Hp}:∀ {ds:List RL.D} {k:List RL.Ky} {xs:List V},RL.keysOf ds=some k->ae P K H ds xs->xs=k.map kV
 | [],k,xs,h,r=>by cases h;rw[ae]at r;exact r
 | d::ds,k,xs,h,r=>by
  rw[RL.keysOf]at h
  obtain⟨k1,h1,h⟩:=bind_some h
  obtain⟨k2,h2,h3⟩:=map_some h
  subst h3
  rw[ae]at r
  obtain⟨v,t,rfl,r1,r2⟩:=r
  rw[kB h1 r1,jz h2 r2]
  rfl
theorem mD{H:Hp}{y kx:RL.D}{v u:V}{o:Option RL.D}(ry:Rep nP X.K H y v)(rk:Rep nP X.K H kx u)(h:yX y kx=some o) :
  ∃ q r,v=.ref q/\eI H q u r/\Ans nP X.K H o r:=by
 cases y with
 |dK ks vs=>
  obtain⟨k,h1,h2⟩:=map_some h
  rw[Rep]at ry
  obtain⟨q,xs,rfl,_,f2,fl,f3⟩:=ry
  have lk:=mV (x:=k) fl f3
  rw[h2]at lk
  refine⟨q,_,rfl,by rw[kB h1 rk];exact eI.k f2,lk⟩
 |dT ks vs=>
  cases kx with
  |tup kk=>
   obtain⟨k,h1,h2⟩:=map_some h
   rw[Rep]at ry
   obtain⟨q,xs,rfl,_,f2,fl,f3⟩:=ry
   obtain⟨q',ys,rfl,g2,g3⟩:=bj rk
   rw[jz h1 g3]at g2
   have lk:=mV (x:=k) fl f3
   rw[h2]at lk
   exact⟨q,_,rfl,eI.t f2 g2,lk⟩
  | _=>cases h
 | _=>cases kx<;>cases h
theorem CN{y kx d:RL.D}(h:RL.mT y kx=some d):yX y kx=some (some d):=by
 cases y with
 | dK ks vs=>obtain⟨k,h1,h2⟩:=bind_some (show(RL.keyOf kx).bind (RL.aH ks vs)=some d from h);show(RL.keyOf kx).map (RL.aH ks vs)=_;rw[h1,Option.map_some,h2]
 |dT ks vs=>
  cases kx with
  | tup kk=>obtain⟨k,h1,h2⟩:=bind_some (show(RL.keysOf kk).bind (RL.aH ks vs)=some d from h);show(RL.keysOf kk).map (RL.aH ks vs)=_;rw[h1,Option.map_some,h2]
  | _=>cases h
 | _=>cases kx<;>cases h
theorem DG(hu:X.A.units+100<cLine)(ha:SE X cl a a')(hb:SE X cl b b')(hs:uO b):SE X cl (.Subscript a b pos) (.ixD a' b'):=by
 refine PE.weak (An (by lia) ha hb hs) fun σ H Q h=>?_
 obtain⟨σD,d,rv,e,k⟩:=h
 rw[RL.ev]at e
 obtain⟨x,ea,e⟩:=bind_some e
 obtain⟨y,eb,e⟩:=bind_some e
 refine⟨σD,x,rv,ea,fun v H1 r1=>⟨σD,y,rv.same r1.same,eb,fun u H2 r2=>?_⟩⟩
 obtain⟨q,r,rfl,g,w,rfl,rw'⟩:=mD (r1.rep.same r2.same) r2.rep (CN e)
 exact⟨q,w,rfl,g,k _ _ ⟨r1.same.trans r2.same,rw',fun z=>(by cases z),fun M z=>nomatch (show false=true from z)⟩⟩
theorem Dp:SE X cl (.Dict [] [] pos) .dk0:=by
 refine PE.weak yo fun σ H Q h=>?_
 obtain⟨σD,d,rv,e,k⟩:=h
 rw[RL.ev]at e
 cases e
 intro q hq
 refine k _ _ ⟨aq.bY hq,?_,fun _ _ a z=>(by cases z;exact hq),fun M z=>nomatch (show false=true from z)⟩
 rw[Rep]
 exact⟨q,[],rfl,fun z=>z,aR,rfl,ae.nil⟩
theorem Ei:SE X cl (.Dict [] [] pos) .dt0:=by
 refine PE.weak ym fun σ H Q h=>?_
 obtain⟨σD,d,rv,e,k⟩:=h
 rw[RL.ev]at e
 cases e
 intro q hq
 refine k _ _ ⟨aq.bY hq,?_,fun _ _ a z=>(by cases z;exact hq),fun M z=>nomatch (show false=true from z)⟩
 rw[Rep]
 exact⟨q,[],rfl,fun z=>z,aR,rfl,ae.nil⟩
end rules
section rules
variable{X:Cx}{cl:RL.Cl}{a b:Expr}{a' b':RL.E}{pos p p2:Pos}{M:List Nat}{st:Stmt}{i:Nat}{e' k':RL.E}
theorem DD{y kx:RL.D}{k:Bool}(h:RL.zk y kx=some k):∃ o,yX y kx=some o/\k=o.isSome:=by
 cases y with
 | dK ks vs=>obtain⟨q,h1,h2⟩:=map_some (show(RL.keyOf kx).map _=some k from h);exact⟨RL.aH ks vs q,by show(RL.keyOf kx).map _=_;rw[h1];rfl,h2.symm⟩
 |dT ks vs=>
  cases kx with
  | tup kk=>obtain⟨q,h1,h2⟩:=map_some (show(RL.keysOf kk).map _=some k from h);exact⟨RL.aH ks vs q,by show(RL.keysOf kk).map _=_;rw[h1];rfl,h2.symm⟩
  | _=>cases h
 | _=>cases kx<;>cases h
theorem Ans.isSome{P:Addr->Prop}{K:PySem.W.Frag}{H:Hp}{o:Option RL.D}{r:Option V}(h:Ans P K H o r):r.isSome=o.isSome:=by
 cases o with
 | none=>rw[show r=none from h];rfl
 | some d=>obtain⟨w,hw,_⟩:=h;rw[hw];rfl
noncomputable def zF(neg:Bool)(ty td:TE):TE:=if neg then sP ty td else DU ty td
theorem sq{neg:Bool}(hu:X.A.units+100<cLine)(ha:SE X cl a a')(hb:SE X cl b b'):PC X (if neg then .NotIn else .In) a b (zF neg (tE X.K cl a') (tE X.K cl b')):=by
 cases neg with
 | true=>exact vt (by lia) ha hb
 | false=>exact Dd (by lia) ha hb
theorem vW{neg:Bool}{σ:L2.St}{H:Hp}{Q:VK}{σD:RL.St}{d:RL.D}(rv:RV0 X.K σD σ H)(e:RL.ev cl σD (.inD neg a' b')=some d)(k:∀ t H',d=.bl t->aq H H'->Q (.bl t) H'):zF neg (tE X.K cl a') (tE X.K cl b') σ H Q:=by
 rw[RL.ev]at e
 obtain⟨x,ea,e⟩:=bind_some e
 obtain⟨y,eb,e⟩:=bind_some e
 obtain⟨t,e1,e2⟩:=map_some e
 obtain⟨o,h1,h2⟩:=DD e1
 cases neg with
 |true=>
  refine two rv ea eb fun v u H1 H2 s1 s2 rx ry _ _=>?_
  obtain⟨q,r,rfl,g,an⟩:=mD ry rx h1
  refine⟨q,r,rfl,g,k _ _ ?_ (s1.trans s2)⟩
  rw[an.isSome,<-e2,h2]
  rfl
 |false=>
  refine two rv ea eb fun v u H1 H2 s1 s2 rx ry _ _=>?_
  obtain⟨q,r,rfl,g,an⟩:=mD ry rx h1
  refine⟨q,r,rfl,g,k _ _ ?_ (s1.trans s2)⟩
  rw[an.isSome,<-e2,h2]
  rfl
theorem B2{neg:Bool}(hu:X.A.units+100<cLine)(ha:SE X cl a a')(hb:SE X cl b b')(hm:uL b=true):SE X cl (.Compare a [if neg then .NotIn else .In] [b] pos) (.inD neg a' b'):=by
 refine PE.weak (DA (sq hu ha hb) (nr hm)) fun σ H Q h=>?_
 obtain⟨σD,d,rv,e,q⟩:=h
 exact vW rv e fun t H' hd sm=>by subst hd;exact q _ _ (dM sm)
theorem C0{neg:Bool}(hu:X.A.units+100<cLine)(ha:SE X cl a a')(hb:SE X cl b b')(hm:uL b=true):ST X cl (.Compare a [if neg then .NotIn else .In] [b] pos) (.inD neg a' b'):=by
 refine PT.weak (BP (sq hu ha hb) (nr hm)) fun σ H Q h=>?_
 obtain⟨σD,k,rv,e,q⟩:=h
 obtain⟨d,e1,e2⟩:=bind_some e
 refine vW rv e1 fun t H' hd sm=>?_
 subst hd
 cases e2
 exact⟨_,rfl,q _ sm⟩
theorem sR{κ:Type} [DecidableEq κ]{x:κ}{d:RL.D}{v:V}{P:Addr->Prop}{K:PySem.W.Frag}{H:Hp}{ks:List κ}{ds:List RL.D}{xs:List V}(hl:ks.length=ds.length)(r:ae P K H ds xs)(rv:Rep P K H d v) :
  ∃ ys,putK (ks.zip xs) x v=(RL.putD ks ds x d).1.zip ys/\(RL.putD ks ds x d).1.length=(RL.putD ks ds x d).2.length/\ae P K H (RL.putD ks ds x d).2 ys:=by
 have hx:ks.length=xs.length:=hl.trans r.length
 have any:∀ (ks:List κ) (xs:List V),ks.length=xs.length->((ks.zip xs).any fun kv=>decide (kv.1=x))=decide (x∈ks):=by
  intro ks
  induction ks with
  | nil=>intro xs _;simp
  |cons k r ih=>
   intro xs h
   cases xs with
   | nil=>simp at h
   |cons y t=>
    rw[List.zip_cons_cons,List.any_cons,ih t (by simpa using h)]
    by_cases hk:k=x
    ·simp[hk]
    ·simp[hk,Ne.symm hk]
 unfold putK RL.putD
 rw[any ks xs hx]
 by_cases hm:x∈ks
 ·rw[if_pos (by simpa using hm),if_pos hm]
  refine⟨List.zipWith (fun k w=>if k=x then v else w) ks xs,?_,?_,?_⟩
  ·clear any hm hl r
   induction ks generalizing xs with
   | nil=>simp
   |cons k t ih=>
    cases xs with
    | nil=>simp at hx
    |cons y t'=>
     rw[List.zip_cons_cons,List.map_cons,List.zipWith_cons_cons,List.zip_cons_cons,ih (by simpa using hx)]
     by_cases hk:k=x<;>simp[hk]
  ·rw[List.length_zipWith,hl,Nat.min_self]
  ·clear any hm hx
   induction ks generalizing ds xs with
   | nil=>simpa using ae.nil
   |cons k t ih=>
    cases ds with
    | nil=>simp at hl
    |cons d0 ds=>
     rw[ae]at r
     obtain⟨y,t',rfl,r1,r2⟩:=r
     rw[List.zipWith_cons_cons,List.zipWith_cons_cons]
     refine ae.cons ?_ (ih (by simpa using hl) r2)
     by_cases hk:k=x
     ·rw[if_pos hk,if_pos hk];exact rv
     ·rw[if_neg hk,if_neg hk];exact r1
 ·rw[if_neg (by simpa using hm),if_neg hm]
  refine⟨xs++[v],?_,by simp[hl],ae.append r (ae.cons rv ae.nil)⟩
  rw[List.zip_append hx]
  rfl
theorem vv{κ:Type} [DecidableEq κ]{x:κ}{d:RL.D}(hd:d.imm=true):∀ {ks:List κ} {ds:List RL.D},RL.aw ds=true->RL.aw (RL.putD ks ds x d).2=true:=by
 have app:∀ l:List RL.D,RL.aw l=true->RL.aw (l++[d])=true:=fun l=>by
  induction l with
  | nil=>intro _;simp[RL.aw,hd]
  | cons z r ih=>intro h;rw[RL.aw,Bool.and_eq_true]at h;rw[List.cons_append,RL.aw,h.1,ih h.2];rfl
 have zw:∀ (ks:List κ) (ds:List RL.D),RL.aw ds=true->RL.aw (List.zipWith (fun k w=>if k=x then d else w) ks ds)=true:=fun ks=>by
  induction ks with
  | nil=>intro ds _;simp[RL.aw]
  |cons k r ih=>
   intro ds h
   cases ds with
   | nil=>simp[RL.aw]
   |cons y t=>
    rw[RL.aw,Bool.and_eq_true]at h
    rw[List.zipWith_cons_cons,RL.aw,ih t h.2,Bool.and_true]
    by_cases hk:k=x
    ·rw[if_pos hk];exact hd
    ·rw[if_neg hk];exact h.1
 intro ks ds h
 unfold RL.putD
 split
 ·exact zw ks ds h
 ·exact app ds h
theorem By(h:PS X st (ue (kX i) (tE X.K cl k') (tE X.K cl e')))(hi:M.contains i=true):PS X st (tS X.K M fun σD=>(RL.ev cl σD e').bind fun d=>(RL.ev cl σD k').bind fun kk=>((σD[i]?).bind id).bind fun l=>match l with
  | .lst _=>none
  | _=>if d.imm then(RL.dA l kk d).map fun l'=>(.nx,σD.set i (some l'))else none):=by
 refine PS.weak h fun D σ H h=>?_
 obtain⟨σD,o,σD',rv,e,k⟩:=h
 obtain⟨d,e1,e⟩:=bind_some e
 obtain⟨kk,e2,e⟩:=bind_some e
 obtain⟨l,e3,e⟩:=bind_some e
 obtain⟨v,h1,h2⟩:=rv.val i _ (slot_get e3)
 rw[if_pos hi]at h2
 obtain⟨q1,q2,q3⟩:=h2
 cases l with
 |dK ks ds=>
  dsimp only at e
  split at e
  ·rename_i him
   obtain⟨l',e4,e5⟩:=map_some e
   cases e5
   obtain⟨kx,e6,e7⟩:=bind_some (show(RL.keyOf kk).bind _=some l' from e4)
   split at e7
   ·rename_i hz
    cases e7
    rw[Rep]at q3
    obtain⟨q,xs,rfl,_,f2,fl,f3⟩:=q3
    refine⟨σD,d,rv.rv0,e1,fun y H1 r1=>⟨.ref q,h1,σD,kk,rv.rv0.same r1.same,e2,fun u H2 r2=>?_⟩⟩
    have sm:=r1.same.trans r2.same
    obtain⟨ys,p1,p2,p3⟩:=sR (x:=kx) fl (f3.same sm) (r1.rep.same r2.same)
    have hlen:(ks.zip xs).length<sizeLine:=by
     rw[List.length_zip,<-f3.length,fl,Nat.min_self,<-fl]
     exact Nat.lt_of_lt_of_le hz bV
    refine⟨q,_,rfl,by rw[kB e6 r2.rep];exact jA.k (sm _ _ f2) hlen,?_⟩
    have im:=vv (x:=kx) him (ks:=ks) q2
    obtain⟨g1,g2⟩:=(rv.same sm).lu (d':=.dK (RL.putD ks ds kx d).1 (RL.putD ks ds kx d).2) (o':=.dK (putK (ks.zip xs) kx y)) hi h1 (sm _ _ f2) (.inr (.inl ⟨_,rfl⟩)) ⟨rfl,im,by
     rw[Rep]
     exact⟨q,ys,rfl,fun z=>z,by rw[aR,p1],p2,(ae.upd (P:=fun p=>p=q) (sm _ _ f2) (.inr (.inl ⟨_,rfl⟩)) rfl (p3.imm im)).imm im⟩⟩
    exact k _ _ g1 ((Fr'.same sm).trans g2)
   ·cases e7
  ·cases e
 |dT ks ds=>
  dsimp only at e
  split at e
  ·rename_i him
   obtain⟨l',e4,e5⟩:=map_some e
   cases e5
   cases kk with
   |tup kt=>
    obtain⟨kx,e6,e7⟩:=bind_some (show(RL.keysOf kt).bind _=some l' from e4)
    split at e7
    ·rename_i hz
     cases e7
     rw[Rep]at q3
     obtain⟨q,xs,rfl,_,f2,fl,f3⟩:=q3
     refine⟨σD,d,rv.rv0,e1,fun y H1 r1=>⟨.ref q,h1,σD,.tup kt,rv.rv0.same r1.same,e2,fun u H2 r2=>?_⟩⟩
     have sm:=r1.same.trans r2.same
     obtain⟨ys,p1,p2,p3⟩:=sR (x:=kx) fl (f3.same sm) (r1.rep.same r2.same)
     have hlen:(ks.zip xs).length<sizeLine:=by
      rw[List.length_zip,<-f3.length,fl,Nat.min_self,<-fl]
      exact Nat.lt_of_lt_of_le hz bV
     obtain⟨b,ws,rfl,g2,g3⟩:=bj r2.rep
     rw[jz e6 g3]at g2
     refine⟨q,_,rfl,jA.t (sm _ _ f2) g2 hlen,?_⟩
     have im:=vv (x:=kx) him (ks:=ks) q2
     obtain⟨g1,g2⟩:=(rv.same sm).lu (d':=.dT (RL.putD ks ds kx d).1 (RL.putD ks ds kx d).2) (o':=.dT (putK (ks.zip xs) kx y)) hi h1 (sm _ _ f2) (.inr (.inr ⟨_,rfl⟩)) ⟨rfl,im,by
      rw[Rep]
      exact⟨q,ys,rfl,fun z=>z,by rw[aR,p1],p2,(ae.upd (P:=fun p=>p=q) (sm _ _ f2) (.inr (.inr ⟨_,rfl⟩)) rfl (p3.imm im)).imm im⟩⟩
     exact k _ _ g1 ((Fr'.same sm).trans g2)
    ·cases e7
   | _=>cases e4
  ·cases e
 | lst _=>cases e
 | _=>cases q1
end rules
end RS
namespace L2
open PySem PySem.Spec PyProof.Rows
noncomputable def Its(c lo:Int)(n:Nat):It:=⟨fun i _=>i<n,fun i H x H'=>H'=H/\x=.int (lo+i*c),fun i _=>n<=i⟩
theorem vH{P:Program}{w:World}{K:PySem.W.Frag}{tg:Expr}(it:Addr)(c lo:Int)(n:Nat):Turn P w K tg (Its c lo n) [it] it (fun i h=>IsRangeIter h it (lo+(i:Nat)*c) ((n:Int)-(i:Nat)) c) where
 mem:=by simp
 obj:=fun i h st b hb=>by
  rw[show b=it by simpa using hb]
  exact⟨_,st,fun v z=>by cases(show Data.fields _=Data.cell v from z)⟩
 keep:=fun i h h' st k=>k it (by simp) _ st
 item:=by
  intro X hP hw hK hc i pins s σ H E I hf st hg
  subst hP hw hK
  obtain⟨f0,f1,f2,f3,f4,f5⟩:=hf it (by simp)
  have W:=Walks.range (prog:=X.prog) (w:=X.w) (I.ok.hd.1 hc) it lo c n
  refine W.item i s _ _ hg st fun v h' tk hv st' kk=>?_
  obtain⟨t,rfl⟩:=hv
  have I1:Inv X pins σ H { s with heap:=h',toks:=tk }:=I.turned (fun b o hb e=>kk b o (by simpa using hb) e) f0 f1 f3 f4 f5
  exact⟨_,rfl,oM (s:={ s with heap:=h',toks:=tk }) (n := "range_iterator") st' rfl rfl (by decide) ⟨.int (lo+i*c),H,I1,⟨t,rfl⟩,⟨rfl,rfl⟩,st',fun b hb=>(hf b hb).1⟩⟩
 done:=by
  intro X hP hw hK hc i pins s σ H E I hf st hg
  subst hP hw hK
  obtain⟨f0,f1,f2,f3,f4,f5⟩:=hf it (by simp)
  exact wpAny_pyNext_range_end (I.ok.hd.1 hc) st (by have:n<=i:=hg;lia) fun h' eb=>⟨rfl,I.turned (t':=s.toks) (fun b o hb e=>eb b o hb e) f0 f1 f3 f4 f5⟩
 self:=fun _ _ _ _ _ st h=>wpAny_pyIter_rangeiter st h
end L2
namespace RS
open PySem PySem.Spec PyProof.Rows L2
theorem lP(c:Int):∀ (n:Nat) (lo:Int) (i:Nat) (d:RL.D),(RL.bP c lo n)[i]?=some d->d=.int (lo+i*c)
 | 0,lo,i,d,h=>by simp[RL.bP]at h
 | n+1,lo,0,d,h=>by simp[RL.bP]at h;simp[h]
 | n+1,lo,i+1,d,h=>by
  rw[RL.bP,List.getElem?_cons_succ]at h
  rw[lP c n (lo+c) i d h]
  congr 1
  rw[show((i+1:Nat):Int)=(i:Int)+1 by lia,Int.add_mul]
  lia
theorem iB(c:Int):∀ (n:Nat) (lo:Int),(RL.bP c lo n).length=n
 | 0,_=>rfl
 | n+1,lo=>by rw[RL.bP,List.length_cons,iB c n]
theorem rT{K:PySem.W.Frag}{H:Hp}{c lo:Int}{n:Nat}{P:Addr->Prop}:iX K (Its c lo n) (RL.bP c lo n) P H where
 go:=fun H' i k hi=>by rw[iB]at hi;exact hi
 stop:=fun H' k=>by rw[iB];exact Nat.le_refl _
 yld:=fun H' i d x H2 k e y=>by
  obtain⟨z,y⟩:=y
  subst z
  refine⟨aq.refl _,fun _=>?_⟩
  rw[lP c n lo i d e,y]
  exact aX
section rules
variable{X:Cx}{cl:RL.Cl}{M:List Nat}{st:Stmt}{i:Nat}{e':RL.E}
end rules
noncomputable def mW(p:Addr)(a b c:Int):HO:=.ext fun h=>∃ t u v,IsRange h p a b c t u v
theorem qO(a b c:Int):0<=Builtin.Range.rangeSize a b c:=by
 unfold Builtin.Range.rangeSize
 split
 ·split
  ·have:=Int.ediv_nonneg (a:=b-a-1) (b:=c) (by lia) (by lia)
   omega
  ·lia
 ·split
  ·by_cases h0:c=0
   ·subst h0
    simp
   ·have:=Int.ediv_nonneg (a:=a-b-1) (b:=-c) (by lia) (by lia)
    omega
  ·lia
theorem yC(a b c:Int):Builtin.Range.rangeSize a b c<=(if a<b then b-a else a-b)+1:=by
 unfold Builtin.Range.rangeSize
 split
 ·split
  ·have:=Int.ediv_le_self (a:=b-a-1) c (by lia)
   lia
  ·lia
 ·split
  ·have:=Int.ediv_le_self (a:=a-b-1) (-c) (by lia)
   split<;>omega
  ·split<;>lia
theorem jy(a b c:Int):(RL.aL c a b:Int)=Builtin.Range.rangeSize a b c:=Int.toNat_of_nonneg (qO a b c)
theorem j8{a b c:Int}(ha:-(2 ^ 60)<=a)(ha':a<2 ^ 60)(hb:-(2 ^ 60)<=b)(hb':b<2 ^ 60)(hc:-(2 ^ 60)<=c)(hc':c<2 ^ 60):Builtin.Range.small a b c=true:=by
 have h1:=qO a b c
 have h2:=yC a b c
 unfold Builtin.Range.small
 simp only[Builtin.Range.rangeFitsLong,Bool.and_eq_true,Bool.or_eq_true,decide_eq_true_eq,beq_iff_eq]
 refine⟨⟨⟨⟨?_,?_⟩,?_⟩,?_⟩,.inr ?_⟩
 ·lia
 ·lia
 ·lia
 ·split at h2<;>lia
 ·split<;>(rw[Bool.and_eq_true,decide_eq_true_eq,decide_eq_true_eq];lia)
section
variable{X:Cx}{cl:RL.Cl}{tg a b l:Expr}{a' b' e':RL.E}{pos p q:Pos}
noncomputable def pW(xs:List V)(a b c:Int):Prop:=(xs=[.int b]/\a=0/\c=1)\/(xs=[.int a,.int b]/\c=1)\/(xs=[.int a,.int b,.int c]/\c≠0/\c.natAbs<2 ^ 60)
theorem k6{pins:List (Addr × Obj)}{σ:L2.St}{H:Hp}{s:Shared}{a b c:Int}{t u v:Tok}{tk:Nat}(I:Inv X pins σ H s):Inv X pins σ (upd H s.heap.objs.size (mW s.heap.objs.size a b c)) { s with heap:=s.heap.push { cls:=.type "range",data:=.fields #[.int a t,.int b u,.int c v] },toks:=tk } :=
 I.laid (fun b u e=>Heap.get?_push_of_some _ e) (Nat.le_refl _) ⟨⟨t,u,v,IsRange.new _ a b c t u v⟩,⟨_,Heap.get?_push_size _ rfl⟩,fun h1 h2 ⟨t,u,v,e⟩ k=>⟨t,u,v,k _ e⟩⟩
theorem iF:bA X (.type "range") (fun xs H Q=>∃ a b c,pW xs a b c/\∀ p,H p=none->Q (.ref p) (upd H p (mW p a b c))):=by
 intro pins s σ H xs us Q I r h
 obtain⟨a,b,c,ha,q⟩:=h
 have hf:H s.heap.objs.size=none:=I.hok.fresh (Nat.le_refl _)
 rcases ha with⟨rfl,rfl,rfl⟩ | ⟨rfl,rfl⟩ | ⟨rfl,hc,hc2⟩
 ·cases r with
  |cons r rr=>
   cases rr
   obtain⟨t,rfl⟩:=r
   exact call_range_1 ⟨.ref _,_,k6 I,rfl,q _ hf⟩
 ·cases r with
  |cons r rr=>
   cases rr with
   |cons r2 rr=>
    cases rr
    obtain⟨t,rfl⟩:=r
    obtain⟨t2,rfl⟩:=r2
    exact call_range_2 ⟨.ref _,_,k6 I,rfl,q _ hf⟩
 ·cases r with
  |cons r rr=>
   cases rr with
   |cons r2 rr=>
    cases rr with
    |cons r3 rr=>
     cases rr
     obtain⟨t,rfl⟩:=r
     obtain⟨t2,rfl⟩:=r2
     obtain⟨t3,rfl⟩:=r3
     refine call_range_3 hc ⟨.ref _,_,k6 I,rfl,q _ hf⟩ (.inl (PyProof.noPylong_of_log2 ?_))
     have:c.natAbs.log2<60:=(Nat.log2_lt (by lia)).mpr hc2
     lia
noncomputable def dB(a c:Int)(n:Nat):List V:=(List.range n).map fun(i:Nat)=>V.int (a+(i:Int)*c)
theorem fK(hc:X.calm=true):bA X (.type "list") (fun xs H Q=>∃ p a b c,xs=[.ref p]/\H p=some (mW p a b c)/\Builtin.Range.small a b c=true/\RL.aL c a b<=RL.most /\
  ∀ l,H l=none->Q (.ref l) (upd H l (.lst (dB a c (RL.aL c a b))))):=by
 intro pins s σ H xs us Q I r h
 obtain⟨p,a,b,c,rfl,hp,hs,hn,q⟩:=h
 cases r with
 |cons r rr=>
  cases rr
  cases r
  obtain⟨⟨t,u,v,hR⟩,_,_⟩:=I.hok p _ hp
  refine call_list_range (I.ok.hd.1 hc) hR hs (jy a b c).symm (Nat.le_trans hn (by decide)) fun h' tk acc c' hk hS hI=>?_
  have hf:H s.heap.objs.size=none:=I.hok.fresh (Nat.le_refl _)
  refine⟨.ref s.heap.objs.size,upd H s.heap.objs.size (.lst (dB a c (RL.aL c a b))),I.laid hk (Nat.le_refl _) (show _/\_ from⟨?_,acc.toList,c',?_,?_⟩),rfl,q _ hf⟩
  ·simp only[dB,List.length_map,List.length_range]
   exact Nat.le_trans hn bV
  ·have len:(dB a c (RL.aL c a b)).length=acc.toList.length:=by
    simp only[dB,List.length_map,List.length_range,Array.length_toList,hI.1]
   have gen:∀ (xs:List V) (us:List Value),xs.length=us.length->(∀ (i:Nat) u,us[i]?=some u->∃ x,xs[i]?=some x/\RelV x u)->Vals xs us:=by
    intro xs
    induction xs with
    | nil=>intro us h _;cases us with
     | nil=>exact .nil
     | cons _ _=>cases h
    | cons x r ih=>intro us h g;cases us with
     | nil=>cases h
     |cons u us=>
      obtain⟨x',e1,e2⟩:=g 0 u rfl
      cases e1
      exact .cons e2 (ih us (by simpa using h) fun i u hu=>by
       obtain⟨y,e3,e4⟩:=g (i+1) u (by simpa using hu)
       exact⟨y,by simpa using e3,e4⟩)
   refine gen _ _ len fun i u hu=>?_
   have hu':acc[i]?=some u:=by simpa using hu
   obtain⟨tk,rfl⟩:=hI.2 i u hu'
   have hi:i<RL.aL c a b:=by
    have:=(Array.getElem?_eq_some_iff.mp hu').1
    rw[hI.1]at this
    exact this
   exact⟨.int (a+(i:Int)*c),by simp[dB,hi],tk,rfl⟩
  ·rw[Array.toArray_toList]
   exact hS
theorem nS{P:Addr->Prop}{K:PySem.W.Frag}{H:Hp}:∀ (n:Nat) (a c:Int),ae P K H (RL.bP c a n) (dB a c n)
 | 0,a,c=>ae.nil
 | n+1,a,c=>by
  have e:dB a c (n+1)=V.int a::dB (a+c) c n:=by
   simp only[dB,List.range_succ_eq_map,List.map_cons,List.map_map]
   congr 1
   ·simp
   ·apply List.map_congr_left
    intro i _
    show V.int (a+((i+1:Nat):Int)*c)=V.int (a+c+(i:Int)*c)
    congr 1
    rw[show((i+1:Nat):Int)=(i:Int)+1 by lia,Int.add_mul]
    lia
  rw[RL.bP,e]
  exact ae.cons aX (nS n (a+c) c)
theorem kR:∀ (n:Nat) (a:Int),RL.c9 a n=RL.bP 1 a n
 | 0,_=>rfl
 | n+1,a=>by rw[RL.c9,RL.bP,kR n]
theorem fR(a b:Int):RL.aL 1 a b=(b-a).toNat:=by
 have h:=jy a b 1
 rw[rangeSize_one]at h
 split at h<;>lia
theorem pz{σD:RL.St}{σ:L2.St}{H H1:Hp}{e:RL.E}{Q:VK}{vs:List V}{a b c:Int}{ds:List RL.D}(hv:pW vs a b c)(hd:ds=RL.bP c a (RL.aL c a b))(hn:RL.aL c a b<=RL.most)(hs:Builtin.Range.small a b c=true)(sm:aq H H1)
 (hav:∀ M,RL.avE M e=false)(k:∀ v H',Res X.K σD σ H e (.lst ds) v H'->Q v H') :
  ∃ a b c,pW vs a b c/\∀ p,H1 p=none->(fun xs H Q=>∃ p a b c,xs=[V.ref p]/\H p=some (mW p a b c)/\Builtin.Range.small a b c=true/\RL.aL c a b<=RL.most/\∀ l,H l=none->Q (.ref l) (upd H l (.lst (dB a c (RL.aL c a b))))) [.ref p] (upd H1 p (mW p a b c)) Q:=by
 refine⟨a,b,c,hv,fun p hp=>⟨p,a,b,c,rfl,aR,hs,hn,fun l hl=>k _ _ ?_⟩⟩
 subst hd
 exact dF (sm.trans (aq.bY hp)) hl (nS _ _ _) hav
theorem B1(hc:X.calm=true)(hgl:Gl X "list")(hml:X.mg "list" = none)(hg:Gl X "range")(hm:X.mg "range" = none)(ha:SE X cl a a')(hn:noStar a=true){p2 pos2:Pos}:SE X cl (.Call (.Name "list" p2) [.Call (.Name "range" p) [a] [] pos] [] pos2) (.rng1 a'):=by
 refine PE.weak (c7 (fK hc) hgl hml (by decide +kernel) (bh (c7 iF hg hm boot_range (br (cl:=cl) ha c5 hn) (by decide) (by decide) (ao [] hn) rfl) cI) (by decide) (by decide) rfl rfl) fun σ H Q h=>?_
 obtain⟨σD,d,rv,e,k⟩:=h
 rw[RL.ev]at e
 obtain⟨x,ea,e⟩:=bind_some e
 obtain⟨ds,e1,e2⟩:=map_some e
 subst e2
 obtain⟨i,j,e3,rfl,hb,hm2,rfl⟩:=lN e1
 cases e3
 have hb2:-(2 ^ 60)<=j/\j<2 ^ 60:=by
  simp only[RL.dU]at e1
  split at e1
  ·lia
  ·cases e1
 refine one rv ea fun v H1 s1 r1=>?_
 exact pz (a:=0) (b:=j) (c:=1) (.inl ⟨by rw[ag r1],rfl,rfl⟩) (by rw[kR,fR]) (by rw[fR];exact hm2) (j8 (by decide) (by decide) hb2.1 hb2.2 (by decide) (by decide)) s1 (fun _=>rfl) k
theorem A9(hc:X.calm=true)(hgl:Gl X "list")(hml:X.mg "list" = none)(hg:Gl X "range")(hm:X.mg "range" = none)(ha:SE X cl a a')(hb:SE X cl b b')(hn:noStar a=true)(hn2:noStar b=true){p2 pos2:Pos}:SE X cl (.Call (.Name "list" p2) [.Call (.Name "range" p) [a,b] [] pos] [] pos2) (.rng2 a' b'):=by
 refine PE.weak (c7 (fK hc) hgl hml (by decide +kernel) (bh (c7 iF hg hm boot_range (br (cl:=cl) ha (br hb c5 hn2) hn) (by decide) (by decide) (ao _ hn) (cj (by simp[hn2]))) cI) (by decide) (by decide) rfl rfl) fun σ H Q h=>?_
 obtain⟨σD,d,rv,e,k⟩:=h
 rw[RL.ev]at e
 obtain⟨x,ea,e⟩:=bind_some e
 obtain⟨y,eb,e⟩:=bind_some e
 obtain⟨ds,e1,e2⟩:=map_some e
 subst e2
 obtain⟨i,j,rfl,rfl,hb,hm2,rfl⟩:=lN e1
 have hb2:(-(2 ^ 60)<=i/\i<2 ^ 60)/\-(2 ^ 60)<=j/\j<2 ^ 60:=by
  simp only[RL.dU]at e1
  split at e1
  ·lia
  ·cases e1
 refine pair rv ea eb fun v u H1 s1 r1 r2=>?_
 exact pz (a:=i) (b:=j) (c:=1) (.inr (.inl ⟨by rw[ag r1,ag r2],rfl⟩)) (by rw[kR,fR]) (by rw[fR];exact hm2) (j8 hb2.1.1 hb2.1.2 hb2.2.1 hb2.2.2 (by decide) (by decide)) s1 (fun _=>rfl) k
noncomputable def fU(c:Int):Expr->Bool
 | .Constant (.int i) _ _=>i == c
 | .UnaryOp .USub (.Constant (.int i) _ _) _=>-i == c
 | _=>false
theorem hZ{c:Int}{e:Expr}(h:fU c e=true):PE X e (tC (.int c))/\noStar e=true:=by
 unfold fU at h
 split at h
 ·rw[beq_iff_eq]at h
  subst h
  exact⟨qM,rfl⟩
 ·rw[beq_iff_eq]at h
  subst h
  exact⟨PE.weak (zV vY qM) fun σ H Q q=>⟨_,rfl,q⟩,rfl⟩
 ·cases h
theorem t9{c:Int}{x y:RL.D}{ds:List RL.D}(h:RL.fu c x y=some ds):∃ i j:Int,x=.int i/\y=.int j/\c≠0/\c.natAbs<2 ^ 60/\Builtin.Range.small i j c=true/\RL.aL c i j<=RL.most/\ds=RL.bP c i (RL.aL c i j):=by
 cases x<;>cases y<;>simp only[RL.fu]at h<;>first
  | (cases h;done)
  | (split at h
     ·rename_i i j hc
      cases h
      exact⟨i,j,rfl,rfl,hc.1,by omega,j8 hc.2.2.2.2.1 hc.2.2.2.2.2.1 hc.2.2.2.2.2.2.1 hc.2.2.2.2.2.2.2 (by omega) hc.2.2.1,hc.2.2.2.1,rfl⟩
     ·cases h)
theorem sr{c:Int}{e3:Expr}(ha:SE X cl a a')(hb:SE X cl b b')(hn:noStar a=true)(hn2:noStar b=true)(h3:fU c e3=true):PA X [a,b,e3] (fun σ H R=>tE X.K cl a' σ H fun v H1=>tE X.K cl b' σ H1 fun u H2=>R [v,u,.int c] H2) :=
 bh ha (bh hb (bh (hZ h3).1 cI (ao [] (hZ (X:=X) h3).2)) (ao _ hn2)) (ao _ hn)
theorem Bg{c:Int}{e3:Expr}(hc:X.calm=true)(hgl:Gl X "list")(hml:X.mg "list" = none)(hg:Gl X "range")(hm:X.mg "range" = none)(ha:SE X cl a a')(hb:SE X cl b b')(hn:noStar a=true)(hn2:noStar b=true)(h3:fU c e3=true){p2 pos2:Pos} :
  SE X cl (.Call (.Name "list" p2) [.Call (.Name "range" p) [a,b,e3] [] pos] [] pos2) (.rng3 c a' b'):=by
 refine PE.weak (c7 (fK hc) hgl hml (by decide +kernel) (bh (c7 iF hg hm boot_range (sr (cl:=cl) ha hb hn hn2 h3) (by decide) (by decide) (ao _ hn) (cj (by simp[hn2,(hZ (X:=X) h3).2]))) cI) (by decide) (by decide) rfl rfl) fun σ H Q h=>?_
 obtain⟨σD,d,rv,e,k⟩:=h
 rw[RL.ev]at e
 obtain⟨x,ea,e⟩:=bind_some e
 obtain⟨y,eb,e⟩:=bind_some e
 obtain⟨ds,e1,e2⟩:=map_some e
 subst e2
 obtain⟨i,j,rfl,rfl,h0,h1,h2,h3,rfl⟩:=t9 e1
 refine two rv ea eb fun v u H1 H2 s1 s2 rx ry _ _=>?_
 exact pz (a:=i) (b:=j) (c:=c) (.inr (.inr ⟨by rw[ag rx,ag ry],h0,h1⟩)) rfl h3 h2 (s1.trans s2) (fun _=>rfl) k
theorem Ah{c:Int}{e3:Expr}(hg:Gl X "range")(hm:X.mg "range" = none)(ha:SE X cl a a')(hb:SE X cl b b')(hn:noStar a=true)(hn2:noStar b=true)(h3:fU c e3=true) :
  SI X cl tg (.Call (.Name "range" p) [a,b,e3] [] pos) (.rng3 c a' b'):=by
 intro pins s σ H R I h
 obtain⟨σD,ds,rv,e,k⟩:=h
 rw[RL.bp]at e
 obtain⟨x,ea,e⟩:=bind_some e
 obtain⟨y,eb,e⟩:=bind_some e
 obtain⟨i,j,rfl,rfl,h0,h1,hs,hl,rfl⟩:=t9 e
 refine thn (c7 iF hg hm boot_range (sr (cl:=cl) ha hb hn hn2 h3) (by decide) (by decide) (ao _ hn) (cj (by simp[hn2,(hZ (X:=X) h3).2])) pins s σ H (fun x H2=>∃ p,x=.ref p/\H2 p=some (mW p i j c)/\aq H H2) I ?_) ?_
 ·exact two rv ea eb fun v u H1 H2 s1 s2 rx ry _ _=>⟨i,j,c,.inr (.inr ⟨by rw[ag rx,ag ry],h0,h1⟩),fun p hp=>⟨p,rfl,aR,(s1.trans s2).trans (aq.bY hp)⟩⟩
 ·rintro v s1 ⟨x,H1,I1,r1,q,rfl,hq,sm⟩
  cases r1
  obtain⟨⟨t,u,v,hR⟩,_,_⟩:=I1.hok q _ hq
  refine wpAny_pyIter_range hR hs ⟨s1.heap.objs.size,[s1.heap.objs.size],_,Its c i (RL.aL c i j),H1,rfl,I1.kept (t':=s1.toks) fun b o e=>Heap.get?_push_of_some _ e,vH _ c i _,?_,fun b hb=>?_,k _ _ sm ⟨rT,fun _ _ _ _ _=>rT⟩⟩
  ·have e1:i+((0:Nat):Int)*c=i:=by simp
   have e2:((RL.aL c i j:Nat):Int)-((0:Nat):Int)=Builtin.Range.rangeSize i j c:=by rw[jy];simp
   show IsRangeIter _ _ (i+((0:Nat):Int)*c) (((RL.aL c i j:Nat):Int)-((0:Nat):Int)) c
   rw[e1,e2]
   exact Heap.get?_push_size _ rfl
  ·rw[show b=s1.heap.objs.size by simpa using hb]
   exact I1.qB (Nat.le_refl _) (I1.hok.fresh (Nat.le_refl _))
theorem AW(hl:SE X cl l e'):SI X cl tg l (.seq e'):=by
 refine PI.weak (D4 (cl:=cl) hl trivial) fun σ H R h=>?_
 obtain⟨σD,ds,rv,e,k⟩:=h
 rw[RL.bp]at e
 obtain⟨d,e1,e2⟩:=bind_some e
 exact⟨σD,d,ds,rv,e1,e2,k⟩
theorem BA(ha:SE X cl a a'):SE X cl (.UnaryOp .USub a pos) (.neg a'):=by
 refine PE.weak (zV vY ha) fun σ H Q h=>?_
 obtain⟨σD,d,rv,e,k⟩:=h
 rw[RL.ev]at e
 obtain⟨x,ea,e⟩:=bind_some e
 cases x with
 | int i=>cases e;exact⟨σD,_,rv,ea,fun v H1 r1=>⟨i,ag r1.rep,k _ _ (cC r1.same aX rfl)⟩⟩
 | _=>cases e
theorem Ea(hc:X.calm=true)(hg:Gl X "min")(hm:X.mg "min" = none)(ha:SE X cl a a')(hb:SE X cl b b')(hn:noStar a=true)(hn2:noStar b=true):SE X cl (.Call (.Name "min" p) [a,b] [] pos) (.min a' b'):=by
 refine PE.weak (eu (uW hc) hg hm (by decide +kernel) (br (cl:=cl) ha (br hb c5 hn2) hn) (by decide) (by decide) (ao _ hn) (cj (by simp[hn2]))) fun σ H Q h=>?_
 obtain⟨σD,d,rv,e,k⟩:=h
 rw[RL.ev]at e
 obtain⟨u,ea,e⟩:=bind_some e
 obtain⟨v,eb,e⟩:=bind_some e
 cases u with
 |int i=>
  cases v with
  |int j=>
   cases e
   exact pair rv ea eb fun v u H1 s1 r1 r2=>⟨i,j,by rw[ag r1,ag r2],k _ _ (cC s1 aX rfl)⟩
  | _=>cases e
 | _=>cases e
end
noncomputable def mAt(mp:List Nat)(vs:List V):Addr->Prop:=fun a=>∃ p,p∈mp/\vs[p]?=some (.ref a)
structure BZ(K:PySem.W.Frag)(mp:List Nat)(ds:List RL.D)(vs:List V)(H:Hp):Prop where
 jr:ae nP K H ds vs
 own:∀ p∈mp,∃ d a,ds[p]?=some d/\vs[p]?=some (.ref a)/\Own K H d (.ref a)
 sep:∀ p∈mp,∀ q∈mp,∀ a,vs[p]?=some (.ref a)->vs[q]?=some (.ref a)->p=q
 oth:∀ (q:Nat) d v,q∉mp->ds[q]?=some d->vs[q]?=some v->Rep (mAt mp vs) K H d v
structure F9(K:PySem.W.Frag)(mp:List Nat)(outs:List RL.D)(vs:List V)(H:Hp):Prop where
 len:outs.length=mp.length
 own:∀ (k p:Nat) o,mp[k]?=some p->outs[k]?=some o->∃ a,vs[p]?=some (.ref a)/\Own K H o (.ref a)
noncomputable def spM(K:PySem.W.Frag)(cl:RL.Cl)(mp:List Nat)(f:Nat):Sp:=fun vs H Q _=>∃ ds d outs,cl f ds=some (.tup (d::outs))/\BZ K mp ds vs H/\∀ v H',Off (mAt mp vs) H H'->Rep nP K H' d v->d.imm=true->F9 K mp outs vs H'->Q v H'
noncomputable def pL(K:PySem.W.Frag)(cl:RL.Cl):RL.E->TE
 | .var j=>kX j
 | e=>tE K cl e
noncomputable def gL(K:PySem.W.Frag)(cl:RL.Cl):RL.Es->TA
 | .nil=>kL
 | .cons e es=>iZ (pL K cl e) (gL K cl es)
noncomputable def cD(K:PySem.W.Frag)(M:List Nat)(σ:L2.St)(ps:List Nat)(H:Hp):Nat->RL.Es->List RL.D->List V->Prop
 | _,.nil,[],[]=>True
 | q,.cons e es,d::ds,v::vs=>Rep nP K H d v/\(if ps.contains q=true then ∃ j,e=.var j/\σ[j]?=some (some v)else Rep (aV M σ) K H d v)/\cD K M σ ps H (q+1) es ds vs
 | _,_,_,_=>False
section
variable{K:PySem.W.Frag}{M:List Nat}{cl:RL.Cl}{σD:RL.St}{σ:L2.St}{H H1:Hp}
theorem vw{j:Nat}{d:RL.D}(e:RL.ev cl σD (.var j)=some d):σD[j]?=some (some d):=by
 rw[RL.ev]at e
 exact slot_get e
theorem CH{e':RL.E}{d:RL.D}{v:V}(rv:RVm K M σD σ H)(r1:Res K σD σ H e' d v H1)(ok:RL.bw M e' d=true):Rep (aV M σ) K H1 d v:=by
 unfold RL.bw at ok
 rw[Bool.or_eq_true,Bool.or_eq_true,Bool.and_eq_true]at ok
 rcases ok with(q | ⟨q1,q2⟩) | q
 ·exact r1.rep.imm q
 ·have rp:=r1.rep
  have fr:kE d=true->∀ a,v=.ref a->¬ aV M σ a:=fun m a z p=>rv.qE a p (r1.fresh q2 m a z)
  cases d with
  | lst ds=>obtain⟨a,xs,e1,e0,e2,e3⟩:=aG rp;rw[Rep];exact⟨a,xs,e1,fr rfl a e1,e2,e3.imm q1⟩
  | dK ks ds=>rw[Rep]at rp ⊢;obtain⟨a,xs,e1,e0,e2,el,e3⟩:=rp;exact⟨a,xs,e1,fr rfl a e1,e2,el,e3.imm q1⟩
  | dT ks ds=>rw[Rep]at rp ⊢;obtain⟨a,xs,e1,e0,e2,el,e3⟩:=rp;exact⟨a,xs,e1,fr rfl a e1,e2,el,e3.imm q1⟩
  | _=>cases q1
 ·refine r1.av M q _ rv.qE fun j dj vj hj h1 h2=>?_
  obtain⟨v',h3,h4⟩:=rv.val j dj h1
  rw[h2]at h3
  cases h3
  rw[if_neg (by rw[hj];decide)]at h4
  exact h4
theorem AD{e:RL.E}{d:RL.D}{ps:List Nat}{q:Nat}{R:V->Hp->Prop}(rv:RVm K M σD σ H)(he:RL.ev cl σD e=some d)(ok:(if ps.contains q=true then RL.isVar e else RL.bw M e d)=true)
 (k:∀ v H1,aq H H1->Rep nP K H1 d v->(if ps.contains q=true then ∃ j,e=.var j/\σ[j]?=some (some v)else Rep (aV M σ) K H1 d v)->R v H1):pL K cl e σ H R:=by
 have other:pL K cl e=tE K cl e->ps.contains q=false->pL K cl e σ H R:=fun z hq=>by
  rw[z]
  rw[if_neg (by rw[hq];decide)]at ok
  refine⟨σD,d,rv.rv0,he,fun v H1 r1=>k v H1 r1.same r1.rep ?_⟩
  rw[if_neg (by rw[hq];decide)]
  exact CH rv r1 ok
 cases e with
 |var j=>
  have hj:=vw he
  obtain⟨v,h1,h2⟩:=rv.val j d hj
  refine⟨v,h1,k v H (aq.refl H) ?_ ?_⟩
  ·obtain⟨v',h3,h4⟩:=rv.rv0.2 j d hj
   rw[h1]at h3
   cases h3
   exact h4
  ·by_cases hq:ps.contains q=true
   ·rw[if_pos hq]
    exact⟨j,rfl,h1⟩
   ·rw[if_neg hq]at ok ⊢
    by_cases hm:M.contains j=true
    ·rw[if_pos hm]at h2
     have im:d.imm=true:=by
      unfold RL.bw at ok
      rw[Bool.or_eq_true,Bool.or_eq_true,Bool.and_eq_true]at ok
      rcases ok with(z | ⟨_,z⟩) | z
      ·exact z
      ·cases z
      ·rw[RL.avE,hm]at z
       cases z
     exact h2.2.2.imm im
    ·rw[if_neg hm]at h2
     exact h2
 |_=>
  refine other rfl ?_
  cases hq:ps.contains q with
  | false=>rfl
  |true=>
   rw[if_pos hq]at ok
   cases ok
theorem oU{ps:List Nat}:∀ {es:RL.Es} {q:Nat} {ds:List RL.D} {H:Hp} {R:List V->Hp->Prop},RVm K M σD σ H->RL.evs cl σD es=some ds->RL.f9 M ps q es ds=true ->
  (∀ vs H1,aq H H1->cD K M σ ps H1 q es ds vs->R vs H1)->gL K cl es σ H R
 | .nil,q,ds,H,R,rv,he,ok,k=>by
  rw[RL.evs]at he
  cases he
  exact k [] H (aq.refl H) (by rw[cD];trivial)
 | .cons e es,q,ds,H,R,rv,he,ok,k=>by
  rw[RL.evs]at he
  obtain⟨d,e1,he⟩:=bind_some he
  obtain⟨ds',e2,e3⟩:=map_some he
  subst e3
  rw[RL.f9,Bool.and_eq_true]at ok
  refine AD rv e1 ok.1 fun v H1 s1 r1 x1=>?_
  refine oU (rv.same s1) e2 ok.2 fun vs H2 s2 r2=>k (v::vs) H2 (s1.trans s2) ?_
  rw[cD]
  refine⟨r1.same s2,?_,r2⟩
  by_cases hq:ps.contains q=true
  ·rw[if_pos hq]at x1 ⊢
   exact x1
  ·rw[if_neg hq]at x1 ⊢
   exact x1.same s2
noncomputable def jR:RL.Es->Nat->Option RL.E
 | .nil,_=>none
 | .cons e _,0=>some e
 | .cons _ es,n+1=>jR es n
theorem cD.jr{ps:List Nat}:∀ {q:Nat} {es:RL.Es} {ds:List RL.D} {vs:List V},cD K M σ ps H q es ds vs->ae nP K H ds vs
 | _,.nil,[],[],h=>ae.nil
 | q,.cons e es,d::ds,v::vs,h=>by
  rw[cD]at h
  exact ae.cons h.1 (cD.jr h.2.2)
 | _,.nil,_::_,_,h=>by simp[cD]at h
 | _,.nil,[],_::_,h=>by simp[cD]at h
 | _,.cons _ _,[],_,h=>by simp[cD]at h
 | _,.cons _ _,_::_,[],h=>by simp[cD]at h
theorem cD.get{ps:List Nat}:∀ {q:Nat} {es:RL.Es} {ds:List RL.D} {vs:List V} (n:Nat) {d:RL.D} {v:V},cD K M σ ps H q es ds vs->ds[n]?=some d->vs[n]?=some v ->
  Rep nP K H d v/\(if ps.contains (q+n)=true then ∃ j,jR es n=some (.var j)/\σ[j]?=some (some v)else Rep (aV M σ) K H d v)
 | _,.nil,[],[],n,_,_,h,e,_=>by simp at e
 | q,.cons e es,d::ds,v::vs,0,_,_,h,e1,e2=>by
  simp at e1 e2
  subst e1 e2
  rw[cD]at h
  refine⟨h.1,?_⟩
  have h2:=h.2.1
  rw[Nat.add_zero]
  by_cases hq:ps.contains q=true
  ·rw[if_pos hq]at h2 ⊢
   obtain⟨j,z,y⟩:=h2
   subst z
   exact⟨j,rfl,y⟩
  ·rw[if_neg hq]at h2 ⊢
   exact h2
 | q,.cons e es,d::ds,v::vs,n+1,_,_,h,e1,e2=>by
  rw[cD]at h
  have:=cD.get n h.2.2 (by simpa using e1) (by simpa using e2)
  rw[show q+1+n=q+(n+1) by lia]at this
  exact this
 | _,.nil,_::_,_,_,_,_,h,_,_=>by simp[cD]at h
 | _,.nil,[],_::_,_,_,_,h,_,_=>by simp[cD]at h
 | _,.cons _ _,[],_,_,_,_,h,_,_=>by simp[cD]at h
 | _,.cons _ _,_::_,[],_,_,_,h,_,_=>by simp[cD]at h
theorem Own.off{P:Addr->Prop}{d:RL.D}{a:Addr}(h:Own K H d (.ref a))(hm:∀ b o,P b->H b=some o->du o)(k:Off P H H1)(n:¬ P a):Own K H1 d (.ref a):=by
 obtain⟨q1,q2,q3⟩:=h
 refine⟨q1,q2,?_⟩
 have im:∀ {ds:List RL.D} {xs:List V},RL.aw ds=true->ae nP K H ds xs->ae nP K H1 ds xs:=fun hi r=>((r.imm hi).off hm k).imm hi
 cases d with
 | lst ds=>obtain⟨b',xs,e1,e0,e2,e3⟩:=aG q3;cases e1;rw[Rep];exact⟨a,xs,rfl,fun z=>z,k _ _ n e2,im q2 e3⟩
 | dK ks ds=>rw[Rep]at q3 ⊢;obtain⟨b',xs,e1,e0,e2,el,e3⟩:=q3;cases e1;exact⟨a,xs,rfl,fun z=>z,k _ _ n e2,el,im q2 e3⟩
 | dT ks ds=>rw[Rep]at q3 ⊢;obtain⟨b',xs,e1,e0,e2,el,e3⟩:=q3;cases e1;exact⟨a,xs,rfl,fun z=>z,k _ _ n e2,el,im q2 e3⟩
 | _=>cases q1
theorem ma:∀ {ms:List Nat} {outs:List RL.D} {σD:RL.St} {k i:Nat} {o:RL.D},ms.Nodup->ms[k]?=some i->outs[k]?=some o->i<σD.length->(et ms outs σD)[i]?=some (some o)
 | [],_,_,_,_,_,_,e,_,_=>by simp at e
 | m::ms,[],_,_,_,_,_,_,e,_=>by simp at e
 | m::ms,d::ds,σD,0,i,o,nd,e1,e2,hl=>by
  simp at e1 e2
  subst e1 e2
  rw[et,jY _ _ _ _ (by simpa using(List.nodup_cons.mp nd).1),List.getElem?_set_self hl]
 | m::ms,d::ds,σD,k+1,i,o,nd,e1,e2,hl=>by
  rw[et]
  exact ma (List.nodup_cons.mp nd).2 (by simpa using e1) (by simpa using e2) (by simpa using hl)
theorem RVm.changed{ms:List Nat}{outs:List RL.D}(h:RVm K M σD σ H)(hms:∀ i∈ms,M.contains i=true)(nd:ms.Nodup)(len:ms.length=outs.length)(k:Off (fun a=>∃ i∈ms,σ[i]?=some (some (.ref a))) H H1)
 (ow:∀ (k i:Nat) o,ms[k]?=some i->outs[k]?=some o->∃ a,σ[i]?=some (some (.ref a))/\Own K H1 o (.ref a)):RVm K M (et ms outs σD) σ H1/\Fr' M σ H σ H1:=by
 have sub:∀ a,(∃ i∈ms,σ[i]?=some (some (.ref a)))->aV M σ a:=fun a ⟨i,hi,e⟩=>⟨i,hms i hi,e⟩
 have offA:Off (aV M σ) H H1:=fun b o n e=>k b o (fun z=>n (sub b z)) e
 have hmA:∀ b o,aV M σ b->H b=some o->du o:=fun b o p e=>by
  obtain⟨o',e',m⟩:=h.tZ b p
  rw[e]at e'
  cases e'
  exact m
 have at_:∀ i,i∈ms->∃ (kk:Nat) (o:RL.D),ms[kk]?=some i/\outs[kk]?=some o:=fun i hi=>by
  obtain⟨kk,hk,e⟩:=List.getElem_of_mem hi
  exact⟨kk,outs[kk]'(by lia),by simp[hk,e],by simp⟩
 refine⟨⟨by rw[kJ];exact h.len,fun i d e=>?_,fun i v e=>?_,h.sep⟩,⟨fun b o e n=>⟨offA b o n e,n⟩,fun _ _=>rfl⟩⟩
 ·by_cases hi:i∈ms
  ·obtain⟨kk,o,e1,e2⟩:=at_ i hi
   have hl:i<σD.length:=by
    have:=(List.getElem?_eq_some_iff.mp e).1
    rw[kJ]at this
    exact this
   rw[ma nd e1 e2 hl]at e
   cases e
   obtain⟨a,q1,q2⟩:=ow kk i _ e1 e2
   exact⟨.ref a,q1,by rw[if_pos (hms i hi)];exact q2⟩
  ·rw[jY _ _ _ _ (by simpa using hi)]at e
   obtain⟨v,h1,h2⟩:=h.val i d e
   refine⟨v,h1,?_⟩
   by_cases hm:M.contains i=true
   ·rw[if_pos hm]at h2 ⊢
    obtain⟨a,o,rfl,_,_⟩:=h2.ref
    refine h2.off (fun b o p e=>hmA b o (sub b p) e) k fun⟨j,hj,ej⟩=>?_
    exact hi (h.sep i j a hm (hms j hj) h1 ej▸hj)
   ·rw[if_neg hm]at h2 ⊢
    exact h2.off hmA offA
 ·obtain⟨d,hd⟩:=h.non i v e
  by_cases hi:i∈ms
  ·obtain⟨kk,o,e1,e2⟩:=at_ i hi
   exact⟨o,ma nd e1 e2 (List.getElem?_eq_some_iff.mp hd).1⟩
  ·exact⟨d,by rw[jY _ _ _ _ (by simpa using hi)];exact hd⟩
end
section rules
variable{X:Cx}{cl:RL.Cl}{M:List Nat}{st:Stmt}{i f:Nat}{es:RL.Es}{ps ms:List Nat}
noncomputable def bR(es:RL.Es):List Nat->List Nat->Bool
 | [],[]=>true
 | p::ps,m::ms=>(match jR es p with | some (.var j)=>j == m | _=>false)&&bR es ps ms
 | _,_=>false
theorem kr:∀ {ps ms:List Nat} {k p:Nat},bR es ps ms=true->ps[k]?=some p->∃ m,ms[k]?=some m/\jR es p=some (.var m)
 | [],_,_,_,_,e=>by simp at e
 | _::_,[],_,_,h,_=>by simp[bR]at h
 | p::ps,m::ms,0,q,h,e=>by
  rw[bR,Bool.and_eq_true]at h
  simp at e
  subst e
  have h1:=h.1
  split at h1
  ·rename_i j hj
   rw[beq_iff_eq]at h1
   subst h1
   exact⟨j,rfl,hj⟩
  ·cases h1
 | p::ps,m::ms,k+1,q,h,e=>by
  rw[bR,Bool.and_eq_true]at h
  obtain⟨m',h1,h2⟩:=kr (k:=k) h.2 (by simpa using e)
  exact⟨m',by simpa using h1,h2⟩
theorem gS:∀ {ps ms:List Nat},bR es ps ms=true->ps.length=ms.length
 | [],[],_=>rfl
 | [],_::_,h=>by simp[bR]at h
 | _::_,[],h=>by simp[bR]at h
 | p::ps,m::ms,h=>by
  rw[bR,Bool.and_eq_true]at h
  rw[List.length_cons,List.length_cons,gS h.2]
theorem qp{σD:RL.St}{σ:L2.St}{H:Hp}{ds outs:List RL.D}{d:RL.D}{σ1:RL.St}{Q:VK}(rv:RVm X.K M σD σ H)(he:RL.evs cl σD es=some ds)(ok:RL.f9 M ps 0 es ds=true)(hc:cl f ds=some (.tup (d::outs)))
 (hs:bR es ps ms=true)(hms:∀ i∈ms,M.contains i=true)(nd:ms.Nodup)(ndp:ps.Nodup)(hset:RL.bF ms outs σD=some σ1)
 (k:∀ v H',Rep nP X.K H' d v->d.imm=true->RVm X.K M σ1 σ H'->Fr' M σ H σ H'->Q v H'):lO (spM X.K cl ps f) [] E0 (gL X.K cl es) σ H Q:=by
 refine oU rv he ok fun vs H1 s1 ar=>?_
 show spM X.K cl ps f (vs++[]) H1 Q E0
 rw[List.append_nil]
 have rv1:=rv.same s1
 have rps:=ar.jr
 obtain⟨hlen,hσ1⟩:=fE hset
 subst hσ1
 have adr:∀ (k p:Nat),ps[k]?=some p->∃ m a d',ms[k]?=some m/\σ[m]?=some (some (.ref a))/\vs[p]?=some (.ref a)/\ds[p]?=some d'/\Own X.K H1 d' (.ref a)/\jR es p=some (.var m):=by
  intro k p hk
  obtain⟨m,h1,h2⟩:=kr hs hk
  have evg:∀ (es:RL.Es) (ds:List RL.D) (n:Nat) (e:RL.E),RL.evs cl σD es=some ds->jR es n=some e->∃ d',ds[n]?=some d'/\RL.ev cl σD e=some d':=by
   intro es
   induction es using RL.Es.rec (motive_1:=fun _=>True) (motive_3:=fun _=>True)with
   | nil=>intro ds n e _ z;cases z
   |cons e0 es0 _ ih=>
    intro ds n e h z
    rw[RL.evs]at h
    obtain⟨d0,y1,h⟩:=bind_some h
    obtain⟨ds0,y2,y3⟩:=map_some h
    subst y3
    cases n with
    | zero=>cases z;exact⟨d0,rfl,y1⟩
    | succ n=>exact ih ds0 n e y2 z
   | _=>trivial
  obtain⟨d',g1,g2⟩:=evg es ds p _ he h2
  obtain⟨v,g3,g4⟩:=rps.get g1
  have hpc:ps.contains (0+p)=true:=by
   rw[Nat.zero_add]
   simpa using List.mem_of_getElem? hk
  have g5:=(ar.get p g1 g3).2
  rw[if_pos hpc]at g5
  obtain⟨j,z1,z2⟩:=g5
  rw[h2]at z1
  cases z1
  have hm:M.contains m=true:=hms m (List.mem_of_getElem? h1)
  obtain⟨v',z3,z4⟩:=rv1.val m d' (vw g2)
  rw[z2]at z3
  cases z3
  rw[if_pos hm]at z4
  obtain⟨a,o,rfl,_,_⟩:=z4.ref
  exact⟨m,a,d',h1,z2,g3,g1,z4,h2⟩
 have adr':∀ a,mAt ps vs a->∃ i∈ms,σ[i]?=some (some (.ref a)):=fun a ⟨p,hp,e⟩=>by
  obtain⟨k,hk,z⟩:=List.getElem_of_mem hp
  obtain⟨m,a',d',h1,h2,h3,_⟩:=adr k p (by simp[hk,z])
  rw[e]at h3
  cases h3
  exact⟨m,List.mem_of_getElem? h1,h2⟩
 refine⟨ds,d,outs,hc,⟨rps,fun p hp=>?_,fun p hp q hq a e1 e2=>?_,fun q dq v hq e1 e2=>?_⟩,fun v H' off rp im mo=>?_⟩
 ·obtain⟨k,hk,z⟩:=List.getElem_of_mem hp
  obtain⟨m,a',d',h1,h2,h3,h4,h5,_⟩:=adr k p (by simp[hk,z])
  exact⟨d',a',h4,h3,h5⟩
 ·obtain⟨k,hk,z⟩:=List.getElem_of_mem hp
  obtain⟨l,hl,y⟩:=List.getElem_of_mem hq
  have gk:ps[k]?=some p:=by simp[hk,z]
  have gl:ps[l]?=some q:=by simp[hl,y]
  obtain⟨m,a1,d1,h1,h2,h3,_⟩:=adr k p gk
  obtain⟨m',a2,d2,h1',h2',h3',_⟩:=adr l q gl
  rw[e1]at h3
  cases h3
  rw[e2]at h3'
  cases h3'
  have hmm:=rv1.sep m m' a (hms m (List.mem_of_getElem? h1)) (hms m' (List.mem_of_getElem? h1')) h2 h2'
  subst hmm
  have hkl:k=l:=(List.getElem?_inj (by rw[<-gS hs];exact hk) nd).mp (by rw[h1,h1'])
  subst hkl
  rw[gk]at gl
  exact Option.some.inj gl
 ·have hpc:ps.contains (0+q)=false:=by
   rw[Nat.zero_add]
   simpa using hq
  have g5:=(ar.get q e1 e2).2
  rw[if_neg (by rw[hpc];decide)]at g5
  exact g5.weak fun a ha=>by
   obtain⟨i,hi,e⟩:=adr' a ha
   exact⟨i,hms i hi,e⟩
 ·obtain⟨g1,g2⟩:=rv1.changed (outs:=outs) (H1:=H') hms nd hlen (fun b o n e=>off b o (fun z=>n (adr' b z)) e) fun k i o hk ho=>by
   have hkl:k<ps.length:=by
    rw[gS hs]
    exact(List.getElem?_eq_some_iff.mp hk).1
   obtain⟨m,a1,d1,h1,h2,h3,_⟩:=adr k ps[k] (by simp[hkl])
   rw[hk]at h1
   cases h1
   obtain⟨a,q1,q2⟩:=mo.own k ps[k] o (by simp[hkl]) ho
   rw[q1]at h3
   cases h3
   exact⟨_,h2,q2⟩
  exact k v H' rp im g1 ((Fr'.same s1).trans g2)
theorem Bs(h:PS X st (oE (lO (spM X.K cl ps f) [] E0 (gL X.K cl es))))(hs:bR es ps ms=true)(hms:∀ i∈ms,M.contains i=true)(nd:ms.Nodup)(ndp:ps.Nodup):SS X cl M st (.mexc f es ps ms):=by
 refine PS.weak h fun D σ H h=>?_
 obtain⟨σD,o,σD',rv,e,k⟩:=h
 rw[RL.evS]at e
 obtain⟨ds,e1,e⟩:=bind_some e
 split at e
 ·rename_i ok
  obtain⟨r,e2,e⟩:=bind_some e
  split at e
  ·rename_i d outs
   obtain⟨σ1,e3,e4⟩:=map_some e
   cases e4
   exact qp rv e1 ok e2 hs hms nd ndp e3 fun v H' _ _ rv' fr'=>k _ _ rv' fr'
  ·cases e
 ·cases e
theorem Bh(h:PS X st (Em i (lO (spM X.K cl ps f) [] E0 (gL X.K cl es)) (ipI fun a b=>a+b)))(hi:M.contains i=false)(hs:bR es ps ms=true)(hms:∀ i∈ms,M.contains i=true)(nd:ms.Nodup)(ndp:ps.Nodup):SS X cl M st (.maug i f es ps ms):=by
 refine PS.weak h fun D σ H h=>?_
 obtain⟨σD,o,σD',rv,e,k⟩:=h
 rw[RL.evS]at e
 obtain⟨x,e0,e⟩:=bind_some e
 obtain⟨ds,e1,e⟩:=bind_some e
 split at e
 ·rename_i ok
  obtain⟨r,e2,e⟩:=bind_some e
  split at e
  ·rename_i y outs
   cases x with
   |int a=>
     cases y with
     |int b=>
    obtain⟨σ1,e3,e4⟩:=map_some e
    cases e4
    obtain⟨v,h1,h2⟩:=rv.val i _ (slot_get e0)
    rw[if_neg (by rw[hi];decide)]at h2
    refine⟨v,h1,qp rv e1 ok e2 hs hms nd ndp e3 fun u H' rp _ rv' fr'=>⟨a,b,ag h2,ag rp,?_⟩⟩
    exact k _ _ (rv'.bind hi aX) (fr'.trans (Fr'.bind hi (aq.refl _)))
     | _=>cases e
   | _=>cases e
  ·cases e
 ·cases e
end rules
end RS
namespace L2
open PySem PySem.Spec PyProof.Rows
noncomputable def eg(A:Around)(h:Heap):Prop:=A.handled=none\/∃ x o vs,A.handled=some (.ref x)/\h.get? x=some o/\o.data=.fields vs/\vs[2]?=some .none
theorem eg.keeps{A:Around}{h h':Heap}(x:eg A h)(k:∀ b o vs,h.get? b=some o->o.data=.fields vs->A.handled=some (.ref b)->h'.get? b=some o):eg A h':=by
 rcases x with z | ⟨y,o,vs,h1,h2,h3,h4⟩
 ·exact .inl z
 ·exact .inr ⟨y,o,vs,h1,k _ _ _ h2 h3 h1,h3,h4⟩
section
variable{prog:Program}{w:World}{A:Around}{E:Value->Shared->Prop}{s:Shared}
theorem oz:entryFor table "proto.unchain" = some Builtin.«proto.unchain»:=entryFor_of_tree (by kernel_rfl)
theorem y9{α:Type}{e:Addr}{oe:Obj}{vs:Array Value}{Q:α->Shared->Prop}(hd:eg A s.heap)(he:s.heap.get? e=some oe)(hf:oe.data=.fields vs)(hz:2<vs.size)(ne:A.handled≠some (.ref e))
 (k:∀ h',Heap.SameBut e s.heap h'->(∃ o,h'.get? e=some o/\o.cls=oe.cls)->E (.ref e) { s with heap:=h' }):wpAny (model prog w) A (raiseNew (.ref e):Sem α) Q E s:=by
 unfold raiseNew
 refine wpAny_bind (wpAny_handled ?_)
 rcases hd with z | ⟨x,o,ws,h1,h2,h3,h4⟩
 ·rw[z]
  exact wpAny_bind (wpAny_pure (wpAny_throw (k s.heap (.refl ..) ⟨oe,he,rfl⟩)))
 ·rw[h1]
  have nx:(Value.ref x != Value.ref e)=true:=by
   rw[bne_iff_ne]
   intro q
   exact ne (by rw[h1,q])
  dsimp only
  rw[if_pos nx]
  refine wpAny_bind (wpAny_holding (wpAny_runValue (codeAny_builtin oz ?_)))
  unfold Builtin.«proto.unchain»
  refine wpAny_bind (wpAny_field h2 h3 h4 ?_)
  rw[if_pos (by decide)]
  refine wpAny_bind (wpAny_pure (wpAny_pure ?_))
  show wpAny _ _ _ _ _ _
  refine wpAny_bind ?_
  show wpAny _ _ (setField (.ref e) 2 (.ref x)) _ _ _
  refine wpAny_setField he hf hz (wpAny_throw (k _ (.update ..) ⟨_,Heap.get?_update_self _ he (Obj.isFreed_of_fields (Obj.data_mapFields hf _)),Obj.cls_mapFields ..⟩))
theorem mX{α:Type}{Q:α->Shared->Prop}(hd:eg A s.heap)(k:∀ h' e,(∀ b o,s.heap.get? b=some o->h'.get? b=some o)->(∃ o,h'.get? e=some o/\o.cls=.type "StopIteration")->E (.ref e) { s with heap:=h' }) :
  wpAny (model prog w) A (newExc (.type "StopIteration") []) (fun e s'=>wpAny (model prog w) A (raiseNew e:Sem α) Q E s') E s:=by
 simp only[newExc,newTuple]
 apply wpAny_bind
 refine wpAny_newObj_type ?_ (by size_fits)
 apply wpAny_bind (m:=firstArgMember _ _)
 refine wpAny_of_eq (a:=Value.none) (by first | rfl | (simp only[firstArgMember];rfl)) ?_
 refine wpAny_newObj_type ?_ (by size_fits)
 have hs:∀ b o,s.heap.get? b=some o->b≠(s.heap.push { cls:=.type "tuple",data:=.seq ([]:List Value).toArray }).objs.size:=fun b o e=>Nat.ne_of_lt (by rw[Heap.size_push];exact Nat.lt_succ_of_lt (Heap.lt_size e))
 refine y9 (hd.keeps fun b o vs e _ _=>Heap.get?_push_of_some _ (Heap.get?_push_of_some _ e)) (Heap.get?_push_size _ rfl) rfl (Nat.lt_of_lt_of_le (by decide:2<6) (by simp)) (fun q=>?_) fun h' sb ho=>k h' _ (fun b o e=>(sb.2 b (hs b o e)).trans (Heap.get?_push_of_some _ (Heap.get?_push_of_some _ e))) ho
 rcases hd with z | ⟨x,o,ws,h1,h2,_,_⟩
 ·rw[z]at q
  cases q
 ·rw[h1]at q
  cases q
  exact hs _ _ h2 rfl
theorem jh{it l:Addr}{i:Nat}{its:Array Value}{o ol:Obj}{nl:Nat}{Q:Fin->Shared->Prop}(hd:eg A s.heap)(ni:A.handled≠some (.ref it))(ho:s.heap.get? it=some o)(hdt:o.data=.fields #[.ref l,.int i 0])(hol:s.heap.get? l=some ol)(hdl:ol.data=.seq its nl)(hx:its[i]?=none)
 (k:∀ h' e,Heap.ExtBut it s.heap h'->(∃ o,h'.get? e=some o/\o.cls=.type "StopIteration")->E (.ref e) { s with heap:=h' }):wpAny (model prog w) A (Builtin.«list_iterator.__next__» ⟨[.ref it],[]⟩) Q E s:=by
 have n0:¬ ((Value.ref l == Value.none)=true):=Bool.false_ne_true
 refine show wpAny _ _ (field (.ref it) 0 >>= _) _ _ s from wpAny_bind (wpAny_field ho hdt (x:=.ref l) rfl ?_)
 refine show wpAny _ _ (if(Value.ref l == Value.none)=true then _ else _) _ _ s from ?_
 rw[if_neg n0]
 refine show wpAny _ _ (field (.ref it) 1 >>= _) _ _ s from wpAny_bind (wpAny_field ho hdt (x:=.int i 0) rfl ?_)
 refine show wpAny _ _ (seqItems? (.ref l) >>= _) _ _ s from wpAny_bind (wpAny_seqItems hol hdl ?_)
 simp only[Int.toNat_natCast,hx]
 refine wpAny_bind (wpAny_rule (wpAny_bind (wpAny_setField ho hdt (by simp) ?_)))
 refine show wpAny _ _ (newExc (.type "StopIteration") [] >>= _) _ _ _ from wpAny_bind ?_
 have sb:=Heap.SameBut.update s.heap it (Obj.mapFields (·.setIfInBounds 0 Value.none))
 refine mX (hd.keeps fun b u vs e _ hb=>(sb.2 b fun z=>ni (z▸hb)).trans e) fun h' e kk he=>k h' e (fun b u hb q=>kk b u ((sb.2 b hb).trans q)) he
theorem oy{it l:Addr}{i:Nat}{its:Array Value}{Q:Value->Shared->Prop}(hd:eg A s.heap)(ni:A.handled≠some (.ref it))(hit:s.heap.IsListIter it l i)(hl:s.heap.IsList l its)(hx:its[i]?=none)
 (k:∀ h' e,Heap.ExtBut it s.heap h'->(∃ o,h'.get? e=some o/\o.cls=.type "StopIteration")->E (.ref e) { s with heap:=h' }):wpAny (model prog w) A (Builtin.SmallTypes.nextOf (.ref it)) Q E s:=by
 obtain⟨o,ho,hc,hdt⟩:=id hit
 obtain⟨ol,hol,_,nl,hdl⟩:=hl
 unfold Builtin.SmallTypes.nextOf
 apply wpAny_bind
 apply wpAny_callSpecial?_slot (name:=Str.ofString "__next__") hit.typeIs slot_listiter_next
 refine wpAny_call_entry slot_listiter_next hit.typeIs entry_listiter_next ?_ (args_listiter_next _)
 exact jh hd ni ho hdt hol hdl hx k
theorem rF{it l:Addr}{i:Nat}{its:Array Value}{Q:Option Value->Shared->Prop}(hd:eg A s.heap)(ni:A.handled≠some (.ref it))(hit:s.heap.IsListIter it l i)(hl:s.heap.IsList l its)(hx:its[i]?=none)
 (k:∀ h',Heap.ExtBut it s.heap h'->Q none { s with heap:=h' }):wpAny (model prog w) A (pyNext (.ref it)) Q E s:=by
 obtain⟨o,ho,hc,hdt⟩:=id hit
 obtain⟨ol,hol,_,nl,hdl⟩:=hl
 unfold pyNext
 apply wpAny_bind
 apply wpAny_attempt
 apply wpAny_callSpecial?_slot (name:=Str.ofString "__next__") hit.typeIs slot_listiter_next
 refine wpAny_call_entry slot_listiter_next hit.typeIs entry_listiter_next ?_ (args_listiter_next _)
 refine jh hd ni ho hdt hol hdl hx fun h' e eb he=>?_
 apply wpAny_bind
 refine wpAny_isInstance (T := "StopIteration") (b:=true) he isSubtype_stop ?_
 exact wpAny_pure (k h' eb)
end
section
variable{prog:Program}{w:World}{A:Around}{E:Value->Shared->Prop}
theorem pI{z:Shared}{ti tp:Addr}{i:Nat}{its:Array Value}{x:Value}{Q:Value->Shared->Prop}(hi:z.heap.IsTupleIter ti tp i)(ht:z.heap.IsTuple tp its)(hx:its[i]?=some x)
 (k:∀ g,g.IsTupleIter ti tp (i+1)->Heap.SameBut ti z.heap g->Q x { z with heap:=g }):wpAny (model prog w) A (Builtin.SmallTypes.nextOf (.ref ti)) Q E z:=by
 have hty:=hi.typeIs
 obtain⟨⟨c1,d1,f1,s1⟩,g1,c1',f1'⟩:=hi
 obtain⟨⟨c2,d2,f2,s2⟩,g2,c2',n2,f2'⟩:=ht
 dsimp only at c1' f1' c2' f2'
 subst c1' f1' c2' f2'
 obtain⟨hp,g,d,tk,os⟩:=z
 unfold Builtin.SmallTypes.nextOf
 refine wpAny_bind (wpAny_callSpecial?_slot (name:=Str.ofString "__next__") hty F.slot_tuple_iterator_next (wpAny_call_entry F.slot_tuple_iterator_next hty F.entry_tuple_iterator_next ?_ (F.args_tuple_iterator_next_1 _)))
 unfold Builtin.«tuple_iterator.__next__»
 wp_walk using AutoSeq1.wpAny_loadPart' g1,AutoSeq1.wpAny_loadPart' g2
 have e:its[((i:Nat):Int).toNat]?=some x:=hx
 rw[e]
 dsimp only
 apply wpAny_bind
 apply wpAny_setField g1 rfl (by simp)
 apply wpAny_pure
 refine⟨x,rfl,?_⟩
 apply wpAny_pure
 apply k
 ·exact⟨_,Heap.get?_update_self _ g1 rfl,rfl,by simp[Obj.mapFields,rawInt]⟩
 ·exact Heap.SameBut.update ..
theorem t8{z:Shared}{ti tp:Addr}{i:Nat}{its:Array Value}{Q:Value->Shared->Prop}(hd:eg A z.heap)(ni:A.handled≠some (.ref ti))(hi:z.heap.IsTupleIter ti tp i)(ht:z.heap.IsTuple tp its)(hx:its[i]?=none)
 (k:∀ g e,Heap.ExtBut ti z.heap g->(∃ o,g.get? e=some o/\o.cls=.type "StopIteration")->E (.ref e) { z with heap:=g }):wpAny (model prog w) A (Builtin.SmallTypes.nextOf (.ref ti)) Q E z:=by
 have hty:=hi.typeIs
 obtain⟨⟨c1,d1,f1,s1⟩,g1,c1',f1'⟩:=hi
 obtain⟨⟨c2,d2,f2,s2⟩,g2,c2',n2,f2'⟩:=ht
 dsimp only at c1' f1' c2' f2'
 subst c1' f1' c2' f2'
 obtain⟨hp,g,d,tk,os⟩:=z
 unfold Builtin.SmallTypes.nextOf
 refine wpAny_bind (wpAny_callSpecial?_slot (name:=Str.ofString "__next__") hty F.slot_tuple_iterator_next (wpAny_call_entry F.slot_tuple_iterator_next hty F.entry_tuple_iterator_next ?_ (F.args_tuple_iterator_next_1 _)))
 unfold Builtin.«tuple_iterator.__next__»
 wp_walk using AutoSeq1.wpAny_loadPart' g1,AutoSeq1.wpAny_loadPart' g2
 have e:its[((i:Nat):Int).toNat]?=none:=hx
 rw[e]
 dsimp only
 apply wpAny_bind
 apply wpAny_rule
 apply wpAny_bind
 apply wpAny_setField g1 rfl (by simp)
 unfold Builtin.SmallTypes.stopIteration
 apply wpAny_bind
 refine mX (hd.keeps fun b u vs e _ hb=>(Heap.SameBut.update ..).extBut b u (fun z=>ni (z▸hb)) e) fun g e kp hc=>k g e (fun b o hb q=>kp b o ?_) hc
 exact(Heap.SameBut.update ..).extBut b o hb q
theorem oD{α:Type}{m:Sem α}{S Q:α->Shared->Prop}{E:Value->Shared->Prop}{z:Shared}(h:wpAny (model prog w) A m S (fun _ _=>False) z)(k:∀ a z1,S a z1->Q a z1):wpAny (model prog w) A m Q E z:=wpAny_mono h k fun _ _ f=>f.elim
theorem vP{b:Bool}{Q:Bool->Shared->Prop}{E:Value->Shared->Prop}{z:Shared}(h:∀ b,Q b z):wpAny (model prog w) A (pure b) Q E z:=wpAny_pure (h b)
theorem xK{x:Value}{S:Addr->Shared->Prop}{z:Shared}{Q:Value->Shared->Prop}(hx:∀ A:Around,wpAny (model prog w) A (pyIter x) (fun v z1=>∃ it,v=.ref it/\S it z1) (fun _ _=>False) z)
 (k:∀ it z1,S it z1->Q (.ref z1.heap.objs.size) { z1 with heap:=z1.heap.push { cls:=.type "enumerate",data:=.fields #[.none,.bool false,.ref it,rawInt 0,.none,.none] } }):wpAny (model prog w) A (call (.type "enumerate") [x]) Q E z:=by
 have body:MeetsIn prog w (Builtin.«enumerate.__new__» ⟨[.type "enumerate",x],[]⟩) (fun A R s=>s=z/\∀ it z1,S it z1->R (.ok (.ret (.ref z1.heap.objs.size))) { z1 with heap:=z1.heap.push { cls:=.type "enumerate",data:=.fields #[.none,.bool false,.ref it,rawInt 0,.none,.none] } }):=by
  rintro A R s ⟨rfl,hR⟩
  have hsub:=sub_enumerate
  have iter:=hx A.in1
  obtain⟨hp,g,d,tk,os⟩:=s
  wp_walk
  refine wpAny_stack_any fun st=>vP fun b=>?_
  have done:∀ it z1,S it z1->wpAny (model prog w) A.in1 (do let r <- Builtin.SmallTypes.newRecord (.type "enumerate") (Builtin.SmallTypes.ownedTupleFields++[.ref it,rawInt 0,.none,.none]);ret r)
    (fun fin s'=>match fin with | .done f=>R (.ok f) s' | .again c'=>c'.quiet=true/\codeAny (model prog w) A c' R s') (fun e s'=>R (.error e) s') z1:=by
   intro it z1 h1
   have:=hR it z1 h1
   obtain⟨hp1,gg1,dd1,tk1,os1⟩:=z1
   wp_walk
   exact this
  cases b
  ·wp_walk using oD iter
   rintro _ z1 ⟨it,rfl,h1⟩
   exact done it z1 h1
  ·wp_walk using oD iter
   rintro _ z1 ⟨it,rfl,h1⟩
   exact done it z1 h1
 refine callType_newIn F.called_enumerate (by decide) (F.typeCall_enumerate_1 _) (F.newCall_enumerate_1 _) (fun obj=>F.args_object_init_2 obj _) F.entry_enumerate_new body ⟨rfl,fun it z1 h=>?_⟩
 exact⟨⟨_,Heap.get?_push_size _ rfl,rfl⟩,k it z1 h⟩
theorem yw:AI prog w where
 draws:=fun hh ti tp hne its=>{
  live:=fun i h st=>let ⟨o,e,_⟩:=st.1;⟨o,e⟩
  frame:=fun i h h' st kp=>by
   obtain⟨⟨o1,e1,r1⟩,⟨o2,e2,r2⟩⟩:=st
   exact⟨⟨o1,kp ti (by simp) _ e1,r1⟩,⟨o2,kp tp (by simp) _ e2,r2⟩⟩
  item:=fun i s Q E hi st k=>by
   refine pI st.1 st.2 (x:=its[i]) (by simp[hi]) fun g h1 h2=>k its[i] g s.toks (by simp[hi]) ⟨h1,st.2.extBut h2.extBut hne⟩ h2
  done:=fun s Q E st k=>t8 (.inl hh) (by rw[hh];exact fun z=>nomatch z) st.1 st.2 (by simp) fun g e h1 h2=>k g e h1 h2 }
 call:=fun {A E z tp its Q} ht k=>by
  refine xK (S:=fun it z1=>it=z.heap.objs.size/\z1={ z with heap:=z.heap.push { cls:=.type "tuple_iterator",data:=.fields #[.ref tp,rawInt 0] } }) (fun A=>wpAny_pyIter_tuple ht ⟨_,rfl,rfl,rfl⟩) ?_
  rintro it z1 ⟨rfl,rfl⟩
  have hz:(z.heap.push { cls:=.type "tuple_iterator",data:=.fields #[.ref tp,rawInt 0] }).objs.size=z.heap.objs.size+1:=Heap.size_push ..
  dsimp only
  rw[hz]
  refine k _ ?_ ⟨_,Heap.get?_push_of_some _ (Heap.get?_push_size _ rfl),rfl,rfl⟩ fun b o e=>Heap.get?_push_of_some _ (Heap.get?_push_of_some _ e)
  have:=Heap.get?_push_size (z.heap.push { cls:=.type "tuple_iterator",data:=.fields #[.ref tp,rawInt 0] }) (o:={ cls:=.type "enumerate",data:=.fields #[.none,.bool false,.ref z.heap.objs.size,rawInt 0,.none,.none] }) rfl
  rw[hz]at this
  exact this
end
end L2
namespace RS
open PySem PySem.Spec PyProof.Rows L2
section
variable{X:Cx}{cl:RL.Cl}{a b:Expr}{a' b':RL.E}{pos p p2 pos2:Pos}{M:List Nat}
theorem rQ:∀ {bs:List Bool} {us:List Value},Vals (bs.map V.bl) us->us=bs.map Value.bool
 | [],_,h=>by cases h;rfl
 | b::bs,_,h=>by
  cases h with
  |cons r t=>
   cases r
   rw[rQ t]
   rfl
theorem yM{A:Around}{bs:List Bool}:TruthOf X.prog X.w A (fun i v=>(bs.map Value.bool).toArray[i]?=some v) (fun i=>bs.getD i false):=by
 intro i v s Q E hP q
 have hP':(bs.map Value.bool)[i]?=some v:=by simpa using hP
 rw[List.getElem?_map]at hP'
 obtain⟨b,h1,h2⟩:=map_some hP'
 subst h2
 have:bs.getD i false=b:=by rw[List.getD_eq_getElem?_getD,h1];rfl
 have q':Q b s:=this▸q
 exact wpAny_truthy_bool q'
theorem range_all(bs:List Bool):(List.range bs.length).all (fun i=>bs.getD i false)=bs.all id:=by
 have:bs=(List.range bs.length).map fun i=>bs.getD i false:=by
  apply List.ext_getElem
  ·simp
  ·intro i h1 h2
   simp[List.getD_eq_getElem?_getD,h1]
 conv=>rhs;rw[this]
 rw[List.all_map]
 rfl
noncomputable def C3(f:List Bool->Bool):List V->Hp->VK->Prop:=fun xs H Q=>∃ p bs,xs=[.ref p]/\H p=some (.lst (bs.map V.bl))/\Q (.bl (f bs)) H
theorem yv(hc:X.calm=true):bA X (.builtin "all") (C3 fun bs=>bs.all id):=by
 intro pins s σ H xs us Q I r h
 obtain⟨p,bs,rfl,hp,q⟩:=h
 cases r with
 |cons r rr=>
  cases rr
  cases r
  obtain⟨its,rv,hl,hz⟩:=I.list (SqL.of hp)
  have hits:=rQ rv
  subst hits
  have hlt:p<s.heap.objs.size:=by obtain⟨o,ho,_⟩:=hl.isList;exact Heap.lt_size ho
  refine call_all_walk (wpAny_pyIter_list hl.isList ?_)
  refine⟨s.heap.objs.size,_,[s.heap.objs.size],_,_,_,_,rfl,Walks.list (A:=X.A.in1) (I.ok.hd.1 hc) s.heap.objs.size p (Nat.ne_of_lt hlt) (bs.map Value.bool).toArray,⟨⟨_,Heap.get?_push_size _ rfl,rfl,rfl⟩,hl.isList.push _⟩,yM,fun h' tk hk=>?_⟩
  refine⟨.bl (bs.all id),H,I.kept (t':=tk) (fun b o e=>hk b o (fun z=>?_) (Heap.get?_push_of_some _ e)),?_,q⟩
  ·rw[List.mem_singleton.mp z]at e
   exact absurd (Heap.lt_size e) (Nat.lt_irrefl _)
  ·have:=range_all bs
   show Value.bool _=Value.bool _
   rw[<-this]
   simp
theorem pj{P:Addr->Prop}{K:PySem.W.Frag}{H:Hp}:∀ {ds:List RL.D} {bs:List Bool} {xs:List V},RL.fF ds=some bs->ae P K H ds xs->xs=bs.map V.bl
 | [],bs,xs,h,r=>by rw[RL.fF]at h;cases h;rw[ae]at r;exact r
 | d::ds,bs,xs,h,r=>by
  cases d<;>simp only[RL.fF]at h<;>first | (cases h;done) | skip
  rename_i b
  obtain⟨bs',h1,h2⟩:=map_some h
  subst h2
  rw[ae]at r
  obtain⟨x,t,rfl,r1,r2⟩:=r
  rw[aW r1,pj h1 r2]
  rfl
theorem CB(hc:X.calm=true)(hg:Gl X "all")(hm:X.mg "all" = none)(ha:SE X cl a a')(hn:noStar a=true):SE X cl (.Call (.Name "all" p) [a] [] pos) (.bi .all a'):=by
 refine nE (yv hc) hg hm (by decide +kernel) ha hn (by decide) (by decide) fun σD σ H H1 y d v Q e s1 r1 k=>?_
 cases y<;>simp only[RL.biV]at e<;>first | (cases e;done) | skip
 case lst ds =>
  obtain⟨bs,e1,e2⟩:=map_some e
  subst e2
  obtain⟨q,xs,rfl,_,f2,f3⟩:=aG r1
  rw[pj e1 f3]at f2
  exact⟨q,bs,rfl,f2,k _ _ (cC s1 qd rfl)⟩
theorem sF{P:Addr->Prop}{K:PySem.W.Frag}{H:Hp}:∀ {ds:List RL.D} {is:List Int} {xs:List V},RL.eJ ds=some is->ae P K H ds xs->xs=is.map V.int
 | [],is,xs,h,r=>by rw[RL.eJ]at h;cases h;rw[ae]at r;exact r
 | d::ds,is,xs,h,r=>by
  cases d<;>simp only[RL.eJ]at h<;>first | (cases h;done) | skip
  rename_i b
  obtain⟨bs',h1,h2⟩:=map_some h
  subst h2
  rw[ae]at r
  obtain⟨x,t,rfl,r1,r2⟩:=r
  rw[ag r1,sF h1 r2]
  rfl
noncomputable def mK(ns:List Int):List Int:=firstMet (fun i=>ns.getD i 0) ns.length
theorem Br(ns:List Int):mK ns=RL.gX ns:=by
 unfold mK firstMet RL.gX
 have:(List.range ns.length).map (fun i=>ns.getD i 0)=ns:=by
  apply List.ext_getElem
  ·simp
  ·intro i h1 h2
   simp[List.getD_eq_getElem?_getD,h2]
 rw[this]
 rfl
theorem xv(hc:X.calm=true):bA X (.type "set") (fun xs H Q=>∃ p ns,xs=[.ref p]/\H p=some (.lst (ns.map V.int))/\ns.length<=1000/\∀ l,H l=none->Q (.ref l) (upd H l (.set (fun k=>(mK ns).any (· == k)) (mK ns).length))):=by
 intro pins s σ H xs us Q I r h
 obtain⟨p,ns,rfl,hp,hn,q⟩:=h
 cases r with
 |cons r rr=>
  cases rr
  cases r
  obtain⟨its,rv,hl,hz⟩:=I.list (SqL.of hp)
  have hlen:its.length=ns.length:=by
   have:=rv.length
   simp at this
   exact this.symm
  have hf:H s.heap.objs.size=none:=I.hok.fresh (Nat.le_refl _)
  refine call_set_list (I.ok.hd.1 hc) hl.isList (ns:=ns) (by simpa using intsAre_of rv) (by rw[List.size_toArray,hlen];show ns.length+1<4096;lia) fun h' tk hS hk=>?_
  have hsz:its.toArray.size=ns.length:=by rw[List.size_toArray];exact hlen
  rw[hsz]at hS
  exact⟨.ref s.heap.objs.size,_,I.laid (o:=.set (fun k=>(mK ns).any (· == k)) (mK ns).length) (t':=tk) (fun b u e=>hk b u (Heap.lt_size e) e) (Nat.le_refl _) hS,rfl,q _ hf⟩
theorem vB:bA X (.builtin "len") (fun xs H Q=>∃ p S n,xs=[.ref p]/\H p=some (.set S n)/\Q (.int (n:Nat)) H):=by
 intro pins s σ H xs us Q I r h
 obtain⟨p,S,n,rfl,hp,q⟩:=h
 cases r with
 |cons r rr=>
  cases rr
  cases r
  obtain⟨o,es,ep,t,h1,h2,h3,h4,h5,h6,h7,h8⟩:=I.hok p _ hp
  refine call_len_set h1 h2 h3 h7 (by have:scanBound=4096:=rfl;lia) ?_
  rw[h8]
  exact⟨.int n,H,I.tok _,⟨_,rfl⟩,q⟩
theorem xh(hc:X.calm=true)(hgl:Gl X "len")(hml:X.mg "len" = none)(hg:Gl X "set")(hm:X.mg "set" = none)(ha:SE X cl a a')(hn:noStar a=true):SE X cl (.Call (.Name "len" p2) [.Call (.Name "set" p) [a] [] pos] [] pos2) (.bi .lenSet a'):=by
 refine PE.weak (eu vB hgl hml PySem.boot_len (bh (c7 (xv hc) hg hm (by decide +kernel) (br (cl:=cl) ha c5 hn) (by decide) (by decide) (ao [] hn) rfl) cI) (by decide) (by decide) rfl rfl) fun σ H Q h=>?_
 obtain⟨σD,d,rv,e,k⟩:=h
 rw[RL.ev]at e
 obtain⟨y,ea,e⟩:=bind_some e
 refine one rv ea fun v H1 s1 r1=>?_
 cases y<;>simp only[RL.biV]at e<;>first | (cases e;done) | skip
 case lst ds =>
  split at e
  ·rename_i hl
   obtain⟨is,e1,e2⟩:=map_some e
   subst e2
   obtain⟨q,xs,rfl,_,f2,f3⟩:=aG r1
   have hx:=sF e1 f3
   rw[hx]at f2
   have hil:is.length<=1000:=by
    have:=f3.length
    rw[hx]at this
    simp at this
    lia
   refine⟨q,is,rfl,f2,hil,fun l hl2=>⟨l,_,_,rfl,aR,?_⟩⟩
   rw[Br]
   exact k _ _ (cC (s1.trans (aq.bY hl2)) aX rfl)
  ·cases e
end
end RS
namespace L2
open PySem PySem.Spec PyProof.Rows
section
variable{prog:Program}{w:World}{A:Around}{E:Value->Shared->Prop}
theorem Af{x y:Value}{S1:Addr->Shared->Prop}{S2:Addr->Addr->Shared->Prop}{z:Shared}{Q:Value->Shared->Prop}(hx:∀ A:Around,wpAny (model prog w) A (pyIter x) (fun v z1=>∃ it,v=.ref it/\S1 it z1) (fun _ _=>False) z)
 (hy:∀ it z1,S1 it z1->∀ A:Around,wpAny (model prog w) A (pyIter y) (fun v z2=>∃ jt,v=.ref jt/\S2 it jt z2) (fun _ _=>False) z1)
 (k:∀ it jt z2,S2 it jt z2->Q (.ref (((z2.heap.push { cls:=.type "tuple",data:=.seq #[.ref it,.ref jt] }).push { cls:=.type "tuple",data:=.seq #[.none,.none] })).objs.size)
   { z2 with heap:=((z2.heap.push { cls:=.type "tuple",data:=.seq #[.ref it,.ref jt] }).push { cls:=.type "tuple",data:=.seq #[.none,.none] }).push { cls:=.type "zip",data:=.fields #[.none,.bool false,.bool false,.ref z2.heap.objs.size,.ref (z2.heap.push { cls:=.type "tuple",data:=.seq #[.ref it,.ref jt] }).objs.size] } }) :
  wpAny (model prog w) A (call (.type "zip") [x,y]) Q E z:=by
 have body:MeetsIn prog w (Builtin.«zip.__new__» ⟨[.type "zip",x,y],[]⟩) (fun A R s=>s=z/\∀ it jt z2,S2 it jt z2->R (.ok (.ret (.ref (((z2.heap.push { cls:=.type "tuple",data:=.seq #[.ref it,.ref jt] }).push { cls:=.type "tuple",data:=.seq #[.none,.none] })).objs.size)))
   { z2 with heap:=((z2.heap.push { cls:=.type "tuple",data:=.seq #[.ref it,.ref jt] }).push { cls:=.type "tuple",data:=.seq #[.none,.none] }).push { cls:=.type "zip",data:=.fields #[.none,.bool false,.bool false,.ref z2.heap.objs.size,.ref (z2.heap.push { cls:=.type "tuple",data:=.seq #[.ref it,.ref jt] }).objs.size] } }):=by
  rintro A R s ⟨rfl,hR⟩
  have hsub:=sub_zip
  have iter:=hx A.in1
  obtain⟨hp,g,d,tk,os⟩:=s
  wp_walk using oD iter
  rintro _ z1 ⟨it,rfl,h1⟩
  have iter2:=hy it z1 h1 A.in1
  obtain⟨hp1,gg1,dd1,tk1,os1⟩:=z1
  wp_walk using oD iter2
  rintro _ z2 ⟨jt,rfl,h2⟩
  have fin:=hR it jt z2 h2
  obtain⟨hp2,gg2,dd2,tk2,os2⟩:=z2
  wp_walk
  exact fin
 refine callType_newIn F.called_zip (by decide) (F.typeCall_zip_2 _ _) (F.newCall_zip_2 _ _) (fun obj=>F.args_object_init_3 obj _ _) F.entry_zip_new body ⟨rfl,fun it jt z2 h=>?_⟩
 exact⟨⟨_,Heap.get?_push_size _ rfl,rfl⟩,k it jt z2 h⟩
structure iw(z TI TO i1 i2:Addr)(fp1 fp2:List Addr):Prop where
 zTI:TI≠z
 zTO:TO≠z
 TT:TI≠TO
 i1z:i1≠z
 i2z:i2≠z
 F0:i1≠TO
 F2:i2≠TO
 i12:i1≠i2
 z1:z∉fp1
 z2:z∉fp2
 TO1:TO∉fp1
 TO2:TO∉fp2
 i1f:i1∉fp2
 i2f:i2∉fp1
theorem yD{z TI TO i1 i2:Addr}{fp1 fp2:List Addr}{n1 n2 k:Nat}{P1 P2:Nat->Value->Prop}{S1 S2:Nat->Heap->Prop}{a b:Value}{s:Shared}{Q:Value->Shared->Prop}(Z:iw z TI TO i1 i2 fp1 fp2)
 (D1:Draws prog w A i1 fp1 n1 P1 S1)(D2:Draws prog w A i2 fp2 n2 P2 S2)(hz:IsZip s.heap z TI TO .none)(hTI:IsPair s.heap TI (.ref i1) (.ref i2))(hTO:IsPair s.heap TO a b)(s1:S1 k s.heap)(s2:S2 k s.heap)(k1:k<n1)(k2:k<n2)
 (hQ:∀ x y g tk,P1 k x->P2 k y->IsZip g z TI TO (rawInt s.heap.objs.size)->IsPair g TO x y->S1 (k+1) g->S2 (k+1) g->IsPair g s.heap.objs.size x y->g.objs.size=s.heap.objs.size+1->(∀ c o,c≠z->c≠TO->c≠i1->c≠i2->s.heap.get? c=some o->g.get? c=some o)->Q (.ref s.heap.objs.size) { s with heap:=g,toks:=tk }) :
  wpAny (model prog w) A (Builtin.«zip.__next__» ⟨[.ref z],[]⟩) (fun fin s'=>∃ v,fin=.done (.ret v)/\Q v s') E s:=by
 obtain⟨hp,g,d,tk,os⟩:=s
 have off:∀ (f:Obj->Obj) b o,b≠z->hp.get? b=some o->(hp.update z f).get? b=some o:=fun f b o hb e=>(Heap.SameBut.update ..).extBut b o hb e
 have st1:∀ f:Obj->Obj,S1 k (hp.update z f):=fun f=>D1.frame k _ _ s1 fun b hb o e=>off f b o (fun q=>Z.z1 (q▸hb)) e
 have st2:∀ f:Obj->Obj,S2 k (hp.update z f):=fun f=>D2.frame k _ _ s2 fun b hb o e=>off f b o (fun q=>Z.z2 (q▸hb)) e
 unfold Builtin.«zip.__next__»
 wp_walk using AutoSeq1.wpAny_loadPart' hz,AutoSeq1.wpAny_loadPart' hTI,wpAny_onRaise,(D1.item k _ _ _ k1 (st1 _))
 intro x h1 t1 px st1' sb1
 have q1:IsPair h1 TO a b:=sb1.extBut _ _ (Ne.symm Z.F0) (off _ TO _ Z.zTO hTO)
 have z1:IsZip h1 z TI TO .ellipsis:=sb1.extBut _ _ (Ne.symm Z.i1z) (Heap.get?_update_self _ hz rfl)
 have u1:=sb1.1
 have c1:∀ c o,c≠z->c≠i1->hp.get? c=some o->h1.get? c=some o:=fun c o n1 n2 e=>sb1.extBut _ _ n2 (off _ c o n1 e)
 clear sb1 st1 st2
 wp_walk using AutoSeq1.wpAny_loadPart' q1,(wpAny_updateSeq_pair q1)
 intro h2 q2 sb2
 replace q2:IsPair h2 TO x b:=q2
 have z2:IsZip h2 z TI TO .ellipsis:=sb2.extBut _ _ (Ne.symm Z.zTO) z1
 have c2:∀ c o,c≠z->c≠TO->c≠i1->hp.get? c=some o->h2.get? c=some o:=fun c o n1 n2 n3 e=>sb2.extBut _ _ n2 (c1 c o n1 n3 e)
 have e1:S1 (k+1) h2:=D1.frame _ _ _ st1' fun b hb o e=>sb2.extBut _ _ (fun q=>Z.TO1 (q▸hb)) e
 have e2:S2 k h2:=D2.frame _ _ _ s2 fun b hb o e=>c2 b o (fun q=>Z.z2 (q▸hb)) (fun q=>Z.TO2 (q▸hb)) (fun q=>Z.i1f (q▸hb)) e
 have u2:=sb2.1.trans u1
 clear sb2 u1 c1 z1 q1
 wp_walk using wpAny_onRaise,(D2.item k _ _ _ k2 e2)
 intro y h3 t3 py f2 sb3
 have q3:IsPair h3 TO x b:=sb3.extBut _ _ (Ne.symm Z.F2) q2
 have z3:IsZip h3 z TI TO .ellipsis:=sb3.extBut _ _ (Ne.symm Z.i2z) z2
 have f1:S1 (k+1) h3:=D1.frame _ _ _ e1 fun b hb o e=>sb3.extBut _ _ (fun q=>Z.i2f (q▸hb)) e
 have c3:∀ c o,c≠z->c≠TO->c≠i1->c≠i2->hp.get? c=some o->h3.get? c=some o:=fun c o n1 n2 n3 n4 e=>sb3.extBut _ _ n4 (c2 c o n1 n2 n3 e)
 have u3:=sb3.1.trans u2
 clear sb3 u2 c2 z2 q2 e1 e2
 wp_walk using AutoSeq1.wpAny_loadPart' q3,(wpAny_updateSeq_pair q3)
 intro h4 q4 sb4
 replace q4:IsPair h4 TO x y:=q4
 have z4:IsZip h4 z TI TO .ellipsis:=sb4.extBut _ _ (Ne.symm Z.zTO) z3
 have g1:S1 (k+1) h4:=D1.frame _ _ _ f1 fun b hb o e=>sb4.extBut _ _ (fun q=>Z.TO1 (q▸hb)) e
 have g2:S2 (k+1) h4:=D2.frame _ _ _ f2 fun b hb o e=>sb4.extBut _ _ (fun q=>Z.TO2 (q▸hb)) e
 have c4:∀ c o,c≠z->c≠TO->c≠i1->c≠i2->hp.get? c=some o->h4.get? c=some o:=fun c o n1 n2 n3 n4 e=>sb4.extBut _ _ n2 (c3 c o n1 n2 n3 n4 e)
 have u4:=sb4.1.trans u3
 clear sb4 u3 c3 z3 q3 f1 f2
 wp_walk using AutoSeq1.wpAny_loadPart' q4
 have u0:h4.objs.size=hp.objs.size:=u4.trans (Heap.SameBut.update ..).1
 refine⟨_,rfl,?_⟩
 show Q (.ref h4.objs.size) _
 have zp:IsZip (h4.push { cls:=.type "tuple",data:=.seq #[x,y].toList.toArray }) z TI TO .ellipsis:=Heap.get?_push_of_some _ z4
 have zlt:z<h4.objs.size:=Heap.lt_size z4
 have up:∀ (f f':Obj->Obj) c o,c≠z->(h4.push { cls:=.type "tuple",data:=.seq #[x,y].toList.toArray }).get? c=some o->(((h4.push { cls:=.type "tuple",data:=.seq #[x,y].toList.toArray }).update z f).update z f').get? c=some o:=fun f f' c o hc e =>
  (Heap.SameBut.update ..).extBut c o hc ((Heap.SameBut.update ..).extBut c o hc e)
 have goal:=hQ x y (((h4.push { cls:=.type "tuple",data:=.seq #[x,y].toList.toArray }).update z (Obj.mapFields (·.setIfInBounds 0 (rawInt h4.objs.size)))).update z (Obj.mapFields (·.setIfInBounds 1 (.bool false)))) t3 px py ?_ ?_ ?_ ?_ ?_ ?_ ?_
 ·rw[u0]at goal ⊢
  exact goal
 ·rw[<-u0]
  exact Heap.get?_update_self _ (Heap.get?_update_self _ zp rfl) rfl
 ·exact up _ _ _ _ Z.zTO (Heap.get?_push_of_some _ q4)
 ·exact D1.frame _ _ _ g1 fun b hb o e=>up _ _ _ _ (fun q=>Z.z1 (q▸hb)) (Heap.get?_push_of_some _ e)
 ·exact D2.frame _ _ _ g2 fun b hb o e=>up _ _ _ _ (fun q=>Z.z2 (q▸hb)) (Heap.get?_push_of_some _ e)
 ·show IsPair _ hp.objs.size x y
  rw[<-u0]
  exact up _ _ _ _ (Nat.ne_of_gt zlt) (Heap.get?_push_size _ rfl)
 ·refine((Heap.SameBut.update ..).1.trans ((Heap.SameBut.update ..).1.trans ((Heap.size_push ..).trans ?_)))
  show h4.objs.size+1=hp.objs.size+1
  rw[u0]
 ·exact fun c o n1 n2 n3 n4 e=>up _ _ _ _ n1 (Heap.get?_push_of_some _ (c4 c o n1 n2 n3 n4 e))
theorem Ak{z TI TO i1 i2:Addr}{fp1 fp2:List Addr}{n1:Nat}{P1:Nat->Value->Prop}{S1:Nat->Heap->Prop}{a b:Value}{s:Shared}{Q:Fin->Shared->Prop}(Z:iw z TI TO i1 i2 fp1 fp2)
 (D1:Draws prog w A i1 fp1 n1 P1 S1)(hz:IsZip s.heap z TI TO .none)(hTI:IsPair s.heap TI (.ref i1) (.ref i2))(hTO:IsPair s.heap TO a b)(s1:S1 n1 s.heap)
 (hE:∀ g e,(∀ c o,c≠z->c≠i1->s.heap.get? c=some o->g.get? c=some o)->(∃ o,g.get? e=some o/\o.cls=.type "StopIteration")->E (.ref e) { s with heap:=g }) :
  wpAny (model prog w) A (Builtin.«zip.__next__» ⟨[.ref z],[]⟩) Q E s:=by
 obtain⟨hp,g,d,tk,os⟩:=s
 have off:∀ (f:Obj->Obj) b o,b≠z->hp.get? b=some o->(hp.update z f).get? b=some o:=fun f b o hb e=>(Heap.SameBut.update ..).extBut b o hb e
 have st1:∀ f:Obj->Obj,S1 n1 (hp.update z f):=fun f=>D1.frame n1 _ _ s1 fun b hb o e=>off f b o (fun q=>Z.z1 (q▸hb)) e
 unfold Builtin.«zip.__next__»
 wp_walk using AutoSeq1.wpAny_loadPart' hz,AutoSeq1.wpAny_loadPart' hTI,wpAny_onRaise,(D1.done _ _ _ (st1 _))
 rintro h1 e eb ⟨oe,he,hce⟩
 have z1:IsZip h1 z TI TO .ellipsis:=eb _ _ (Ne.symm Z.i1z) (Heap.get?_update_self _ hz rfl)
 have ez:e≠z:=fun q=>by
  rw[q,z1]at he
  have:=Option.some.inj he
  rw[<-this]at hce
  simp at hce
 refine wpAny_setField_rec z1 (by simp) fun h2 _ sb2=>?_
 exact hE h2 e (fun c o n1 n2 q=>sb2.extBut _ _ n1 (eb _ _ n2 (off _ _ _ n1 q))) ⟨oe,sb2.extBut _ _ ez he,hce⟩
end
section
variable{prog:Program}{w:World}{A:Around}{E:Value->Shared->Prop}{z TI TO i1 i2:Addr}{fp1 fp2:List Addr}{n1 n2 k:Nat}{P1 P2:Nat->Value->Prop}{S1 S2:Nat->Heap->Prop}{a b:Value}{s:Shared}
theorem yq{Q:Option Value->Shared->Prop}(Z:iw z TI TO i1 i2 fp1 fp2)(D1:Draws prog w A.in1 i1 fp1 n1 P1 S1)(D2:Draws prog w A.in1 i2 fp2 n2 P2 S2)(hz:IsZip s.heap z TI TO .none)(hTI:IsPair s.heap TI (.ref i1) (.ref i2))(hTO:IsPair s.heap TO a b)(s1:S1 k s.heap)(s2:S2 k s.heap)(k1:k<n1)(k2:k<n2)
 (hQ:∀ x y g tk,P1 k x->P2 k y->IsZip g z TI TO (rawInt s.heap.objs.size)->IsPair g TO x y->S1 (k+1) g->S2 (k+1) g->IsPair g s.heap.objs.size x y->g.objs.size=s.heap.objs.size+1->(∀ c o,c≠z->c≠TO->c≠i1->c≠i2->s.heap.get? c=some o->g.get? c=some o)->Q (some (.ref s.heap.objs.size)) { s with heap:=g,toks:=tk }) :
  wpAny (model prog w) A (pyNext (.ref z)) Q E s:=by
 have hT:s.TypeIs (.ref z) "zip" := ⟨_,hz,rfl⟩
 unfold pyNext
 apply wpAny_bind
 apply wpAny_attempt
 apply wpAny_callSpecial?_slot (name:=Str.ofString "__next__") hT F.slot_zip_next
 refine wpAny_call_entry F.slot_zip_next hT F.entry_zip_next ?_ (F.args_zip_next_1 _)
 refine yD Z D1 D2 hz hTI hTO s1 s2 k1 k2 fun x y g tk px py q1 q2 q3 q4 q5 q6 q7=>?_
 apply wpAny_pure
 exact hQ x y g tk px py q1 q2 q3 q4 q5 q6 q7
theorem yr{Q:Option Value->Shared->Prop}(Z:iw z TI TO i1 i2 fp1 fp2)(D1:Draws prog w A.in1 i1 fp1 n1 P1 S1)(hz:IsZip s.heap z TI TO .none)(hTI:IsPair s.heap TI (.ref i1) (.ref i2))(hTO:IsPair s.heap TO a b)(s1:S1 n1 s.heap)
 (hQ:∀ g,(∀ c o,c≠z->c≠i1->s.heap.get? c=some o->g.get? c=some o)->Q none { s with heap:=g }):wpAny (model prog w) A (pyNext (.ref z)) Q E s:=by
 have hT:s.TypeIs (.ref z) "zip" := ⟨_,hz,rfl⟩
 unfold pyNext
 apply wpAny_bind
 apply wpAny_attempt
 apply wpAny_callSpecial?_slot (name:=Str.ofString "__next__") hT F.slot_zip_next
 refine wpAny_call_entry F.slot_zip_next hT F.entry_zip_next ?_ (F.args_zip_next_1 _)
 refine Ak Z D1 hz hTI hTO s1 fun g e hk ⟨o,he,hc⟩=>?_
 apply wpAny_bind
 refine wpAny_isInstance (T := "StopIteration") (b:=true) ⟨_,he,hc⟩ isSubtype_stop ?_
 apply wpAny_pure
 exact hQ g hk
end
section
variable{prog:Program}{w:World}{A:Around}{E:Value->Shared->Prop}{s:Shared}
theorem eg.wK(hd:eg A s.heap):A.handled≠some (.ref s.heap.objs.size):=fun q=>by
 rcases hd with z | ⟨x,o,ws,h1,h2,_,_⟩
 ·rw[z]at q
  cases q
 ·rw[h1]at q
  cases q
  exact Nat.lt_irrefl _ (Heap.lt_size h2)
theorem uk{it t:Addr}{i:Nat}{its:Array Value}{Q:Option Value->Shared->Prop}(hd:eg A s.heap)(ni:A.handled≠some (.ref it))(hit:IsTupIter s.heap it t i)(ht:IsTup s.heap t its)(hx:its[i]?=none)
 (k:∀ h',Heap.ExtBut it s.heap h'->Q none { s with heap:=h' }):wpAny (model prog w) A (pyNext (.ref it)) Q E s:=by
 obtain⟨o,ho,hc,hdt⟩:=id hit
 obtain⟨ol,hol,_,nl,hdl⟩:=ht
 unfold pyNext
 apply wpAny_bind
 apply wpAny_attempt
 apply wpAny_callSpecial?_slot (name:=Str.ofString "__next__") hit.typeIs slot_tupleiter_next
 refine wpAny_call_entry slot_tupleiter_next hit.typeIs entry_tupleiter_next ?_ (args_tupleiter_next _)
 have n0:¬ ((Value.ref t == Value.none)=true):=Bool.false_ne_true
 refine show wpAny _ _ (field (.ref it) 0 >>= _) _ _ s from wpAny_bind (wpAny_field ho hdt (x:=.ref t) rfl ?_)
 refine show wpAny _ _ (if(Value.ref t == Value.none)=true then _ else _) _ _ s from ?_
 rw[if_neg n0]
 refine show wpAny _ _ (field (.ref it) 1 >>= _) _ _ s from wpAny_bind (wpAny_field ho hdt (x:=.int i 0) rfl ?_)
 refine show wpAny _ _ (seqItems? (.ref t) >>= _) _ _ s from wpAny_bind (wpAny_seqItems hol hdl ?_)
 simp only[Int.toNat_natCast,hx]
 refine wpAny_bind (wpAny_rule (wpAny_bind (wpAny_setField ho hdt (by simp) ?_)))
 refine show wpAny _ _ (newExc (.type "StopIteration") [] >>= _) _ _ _ from wpAny_bind ?_
 have sb:=Heap.SameBut.update s.heap it (Obj.mapFields (·.setIfInBounds 0 Value.none))
 refine mX (hd.keeps fun b u vs e _ hb=>(sb.2 b fun z=>ni (z▸hb)).trans e) fun h' e kk he=>?_
 apply wpAny_bind
 refine wpAny_isInstance (T := "StopIteration") (b:=true) he isSubtype_stop ?_
 exact wpAny_pure (k h' fun b u hb q=>kk b u ((sb.2 b hb).trans q))
theorem take_all{its:Array Value}:List.take its.size (List.drop 0 its.toList)=its.toList:=by
 rw[List.drop_zero,List.take_of_length_le (by simp)]
theorem ub{t:Addr}{its:Array Value}{Q:List Value->Shared->Prop}(hd:eg A s.heap)(ht:IsTup s.heap t its)(k:∀ h',Heap.ExtBut s.heap.objs.size s.heap h'->Q its.toList { s with heap:=h' }):wpAny (model prog w) A (unpackItems (.ref t) its.size none) Q E s:=by
 have hlt:t≠s.heap.objs.size:=Nat.ne_of_lt ht.lt
 have nn:=hd.wK
 unfold unpackItems
 apply wpAny_bind
 unfold notIterableAtAll
 apply wpAny_bind
 refine wpAny_specialOf ht.typeIs slot_tuple_iter.lookup (wpAny_pure ?_)
 simp only[Bool.false_eq_true,if_false]
 apply wpAny_bind
 refine wpAny_holding (iter_tuple ht ?_)
 apply wpAny_bind
 refine wpAny_holding (draw_tuple hlt its.size 0 _ _ ⟨_,Heap.get?_push_size _ rfl,rfl,rfl⟩ (ht.push _) (by omega) fun g hit sb=>?_)
 rw[take_all,if_neg (by simp)]
 apply wpAny_bind
 refine wpAny_holding (uk (hd.keeps fun b o vs e _ hb=>(sb.2 b fun z=>nn (z▸hb)).trans (Heap.get?_push_of_some _ e)) nn hit ((ht.push _).extBut sb.extBut hlt) (by simp) fun g2 eb=>?_)
 simp only[Option.isSome_none,Bool.false_eq_true,if_false]
 exact wpAny_pure (k g2 fun b o hb e=>eb b o hb (sb.extBut b o hb (Heap.get?_push_of_some _ e)))
theorem u6{l:Addr}{its:Array Value}{Q:List Value->Shared->Prop}(hd:eg A s.heap)(hl:s.heap.IsList l its)(k:∀ h',Heap.ExtBut s.heap.objs.size s.heap h'->Q its.toList { s with heap:=h' }):wpAny (model prog w) A (unpackItems (.ref l) its.size none) Q E s:=by
 have hlt:l≠s.heap.objs.size:=let ⟨o,ho,_⟩:=hl;Nat.ne_of_lt (Heap.lt_size ho)
 have nn:=hd.wK
 unfold unpackItems
 apply wpAny_bind
 unfold notIterableAtAll
 apply wpAny_bind
 refine wpAny_specialOf hl.typeIs slot_list_iter.lookup (wpAny_pure ?_)
 simp only[Bool.false_eq_true,if_false]
 apply wpAny_bind
 refine wpAny_holding (wpAny_pyIter_list hl ?_)
 apply wpAny_bind
 refine wpAny_holding (PySem.W.kun_draw hlt its.size 0 _ _ ⟨_,Heap.get?_push_size _ rfl,rfl,rfl⟩ (hl.push _) (by omega) fun g hit sb=>?_)
 rw[take_all,if_neg (by simp)]
 apply wpAny_bind
 refine wpAny_holding (rF (hd.keeps fun b o vs e _ hb=>(sb.2 b fun z=>nn (z▸hb)).trans (Heap.get?_push_of_some _ e)) nn hit ((hl.push _).extBut sb.extBut hlt) (by simp) fun g2 eb=>?_)
 simp only[Option.isSome_none,Bool.false_eq_true,if_false]
 exact wpAny_pure (k g2 fun b o hb e=>eb b o hb (sb.extBut b o hb (Heap.get?_push_of_some _ e)))
theorem xW{it l x:Addr}{ox:Obj}{xs:Array Value}(hh:A.handled=some (.ref x))(hd:ox.data=.fields xs)(h2:xs[2]?=some .none)(nx:x≠it)(hne:l≠it)(its:Array Value) :
  Draws prog w A it [it,l,x] its.size (fun i v=>its[i]?=some v) (fun i h=>(h.IsListIter it l i/\h.IsList l its)/\h.get? x=some ox) where
 live:=fun _ _ st=>let ⟨o,ho,_⟩:=st.1.1;⟨o,ho⟩
 frame:=fun _ _ _ st hk=>⟨⟨st.1.1.at fun o e=>hk it (by simp) o e,st.1.2.at fun o e=>hk l (by simp) o e⟩,hk x (by simp) _ st.2⟩
 item:=fun i s Q E hi st hQ=>wpAny_nextOf_list_item st.1.1 st.1.2 (x:=its[i]) (by simp[hi]) fun h' hit' hs'=>hQ _ h' s.toks (by simp[hi]) ⟨⟨hit',st.1.2.extBut hs'.extBut hne⟩,(hs'.2 x nx).trans st.2⟩ hs'
 done:=fun s Q E st hE=>oy (.inr ⟨x,ox,xs,hh,st.2,hd,h2⟩) (fun q=>by rw[hh]at q;cases q;exact nx rfl) st.1.1 st.1.2 (by simp) hE
theorem x5{it l x:Addr}{ox:Obj}{xs:Array Value}(hh:A.handled=some (.ref x))(hd:ox.data=.fields xs)(h2:xs[2]?=some .none)(nx:x≠it)(hne:l≠it)(its:Array Value) :
  Draws prog w A it [it,l,x] its.size (fun i v=>its[i]?=some v) (fun i h=>(h.IsTupleIter it l i/\h.IsTuple l its)/\h.get? x=some ox) where
 live:=fun _ _ st=>let ⟨o,ho,_⟩:=st.1.1;⟨o,ho⟩
 frame:=fun _ _ _ st hk=>by
  obtain⟨⟨⟨o1,e1,r1⟩,⟨o2,e2,r2⟩⟩,e3⟩:=st
  exact⟨⟨⟨o1,hk it (by simp) _ e1,r1⟩,⟨o2,hk l (by simp) _ e2,r2⟩⟩,hk x (by simp) _ e3⟩
 item:=fun i s Q E hi st k=>pI st.1.1 st.1.2 (x:=its[i]) (by simp[hi]) fun g g1 g2=>k its[i] g s.toks (by simp[hi]) ⟨⟨g1,st.1.2.extBut g2.extBut hne⟩,(g2.2 x nx).trans st.2⟩ g2
 done:=fun s Q E st hE=>t8 (.inr ⟨x,ox,xs,hh,st.2,hd,h2⟩) (fun q=>by rw[hh]at q;cases q;exact nx rfl) st.1.1 st.1.2 (by simp) hE
end
section
variable{X:Cx}{pins:List (Addr × Obj)}{σ:St}{H:Hp}{s:Shared}{pos:Pos}
theorem Inv.hd(I:Inv X pins σ H s):eg X.A s.heap:=by
 rcases I.ok.hd.2 with z | ⟨h,o,u,vs,h1,h2,h3,h4⟩
 ·exact .inl z
 ·exact .inr ⟨h,o,vs,h1,(I.hok _ _ (I.base.cJ _ _ _ h2)).1,h3,h4⟩
end
noncomputable def dQ(t:Bool)(xs:List V):HO:=if t then .tup xs else .lst xs
noncomputable def gR(t:Bool)(it l:Addr)(i:Nat)(h:Heap):Prop:=if t then h.IsTupleIter it l i else h.IsListIter it l i
theorem gR.obj{t:Bool}{it l:Addr}{i:Nat}{h:Heap}(st:gR t it l i h):∃ o,h.get? it=some o/\∀ v,o.data≠.cell v:=by
 cases t with
 | true=>exact let ⟨o,ho,_,hd⟩:=(show h.IsTupleIter it l i from st);⟨o,ho,fun v q=>by rw[hd]at q;cases q⟩
 | false=>exact let ⟨o,ho,_,hd⟩:=(show h.IsListIter it l i from st);⟨o,ho,fun v q=>by rw[hd]at q;cases q⟩
theorem gR.keep{t:Bool}{it l:Addr}{i:Nat}{h h':Heap}(st:gR t it l i h)(k:∀ o,h.get? it=some o->h'.get? it=some o):gR t it l i h':=by
 cases t with
 | true=>exact let ⟨o,ho,r⟩:=(show h.IsTupleIter it l i from st);⟨o,k o ho,r⟩
 | false=>exact(show h.IsListIter it l i from st).at fun o q=>k o q
theorem gG{X:Cx}{t:Bool}{it l:Addr}{pins:List (Addr × Obj)}{s:Shared}{σ:St}{H:Hp}{xs:List V}(I:Inv X pins σ H s)(hi:H it=none)(hx:H l=some (dQ t xs)) :
  ∃ (fp:List Addr) (Pv:Nat->Value->Prop) (St:Nat->Heap->Prop),Draws X.prog X.w X.A.in1 it fp xs.length Pv St/\(∀ b∈fp,b=it\/H b≠none)/\(∀ i,gR t it l i s.heap->St i s.heap)/\(∀ i h,St i h->gR t it l i h)/\∀ i v,Pv i v->∃ x,xs[i]?=some x/\RelV x v:=by
 have back:∀ {its:List Value},Vals xs its->∀ (i:Nat) (v:Value),its.toArray[i]?=some v->∃ x,xs[i]?=some x/\RelV x v:=fun {its} rv i v hv=>by
  have hv:its[i]?=some v:=by simpa using hv
  have hlt:i<xs.length:=by rw[rv.length];exact(List.getElem?_eq_some_iff.mp hv).1
  obtain⟨u,h1,h2⟩:=rv.get (i:=i) (x:=xs[i]) (by simp[hlt])
  rw[hv]at h1
  cases h1
  exact⟨xs[i],by simp[hlt],h2⟩
 have two:∀ {u:HO},H l=some u->∀ b∈[it,l],b=it\/H b≠none:=fun {u} e b hb=>by
  rcases List.mem_cons.mp hb with z | z
  ·exact .inl z
  ·rw[List.mem_singleton.mp z,e]
   exact .inr fun z=>nomatch z
 rcases I.ok.hd.2 with hh | ⟨x,ox,ux,ws,hh,g1,g2,g3⟩
 ·cases t with
  |true=>
   have hx:H l=some (.tup xs):=hx
   obtain⟨its,rv,p,hz⟩:=I.tuple (SqT.of hx)
   have D:=yw.draws (prog:=X.prog) (w:=X.w) (A:=X.A.in1) hh it l (aT hx hi) its.toArray
   rw[show its.toArray.size=xs.length by rw[List.size_toArray,rv.length]]at D
   exact⟨_,_,_,D,two hx,fun i st=>⟨st,p⟩,fun i h st=>st.1,back rv⟩
  |false=>
   have hx:H l=some (.lst xs):=hx
   obtain⟨its,rv,p,hz⟩:=I.list (SqL.of hx)
   have D:=Draws.list (prog:=X.prog) (w:=X.w) (A:=X.A.in1) hh it l (aT hx hi) its.toArray
   rw[show its.toArray.size=xs.length by rw[List.size_toArray,rv.length]]at D
   exact⟨_,_,_,D,two hx,fun i st=>⟨st,p.isList⟩,fun i h st=>st.1,back rv⟩
 ·have hxx:=I.base.cJ _ _ _ g1
  have hxo:s.heap.get? x=some ox:=(I.hok _ _ hxx).1
  have nx:x≠it:=aT hxx hi
  have three:∀ {u:HO},H l=some u->∀ b∈[it,l,x],b=it\/H b≠none:=fun {u} e b hb=>by
   simp only[List.mem_cons,List.mem_nil_iff,or_false]at hb
   rcases hb with z | z | z
   ·exact .inl z
   ·rw[z,e]
    exact .inr fun z=>nomatch z
   ·rw[z,hxx]
    exact .inr fun z=>nomatch z
  cases t with
  |true=>
   have hx:H l=some (.tup xs):=hx
   obtain⟨its,rv,p,hz⟩:=I.tuple (SqT.of hx)
   have D:=x5 (prog:=X.prog) (w:=X.w) (A:=X.A.in1) hh g2 g3 nx (aT hx hi) its.toArray
   rw[show its.toArray.size=xs.length by rw[List.size_toArray,rv.length]]at D
   exact⟨_,_,_,D,three hx,fun i st=>⟨⟨st,p⟩,hxo⟩,fun i h st=>st.1.1,back rv⟩
  |false=>
   have hx:H l=some (.lst xs):=hx
   obtain⟨its,rv,p,hz⟩:=I.list (SqL.of hx)
   have D:=xW (prog:=X.prog) (w:=X.w) (A:=X.A.in1) hh g2 g3 nx (aT hx hi) its.toArray
   rw[show its.toArray.size=xs.length by rw[List.size_toArray,rv.length]]at D
   exact⟨_,_,_,D,three hx,fun i st=>⟨⟨st,p.isList⟩,hxo⟩,fun i h st=>st.1.1,back rv⟩
noncomputable def Itz(t1 t2:Bool)(l1 l2:Addr):It :=
 ⟨fun i H=>∃ xs ys x y,H l1=some (dQ t1 xs)/\H l2=some (dQ t2 ys)/\xs[i]?=some x/\ys[i]?=some y,
   fun i H v H'=>∃ p x y,H p=none/\v=.ref p/\H'=upd H p (.tup [x,y])/\(∀ xs,H l1=some (dQ t1 xs)->xs[i]?=some x)/\∀ ys,H l2=some (dQ t2 ys)->ys[i]?=some y,
   fun i H=>∃ xs ys,H l1=some (dQ t1 xs)/\H l2=some (dQ t2 ys)/\xs.length=i/\ys.length=i⟩
theorem qt{t:Bool}{xs ys:List V}(h:dQ t xs=dQ t ys):xs=ys:=by
 cases t<;>(injection h)
theorem za{P:Program}{w:World}{K:PySem.W.Frag}{elts:List Expr}{kx:Nat}{tp:Pos}{t1 t2:Bool}{z TI TO i1 i2 l1 l2:Addr}(n1:TI≠z)(n2:TO≠z)(n3:TI≠TO)(n4:i1≠z)(n5:i2≠z)(n6:i1≠TO)(n7:i2≠TO)(n8:i1≠i2)(n9:i1≠TI)(n10:i2≠TI) :
  l5 (fun _=>True) P w K (.Tuple elts kx tp) (Itz t1 t2 l1 l2) [z,TI,TO,i1,i2] z (fun i h=>IsZip h z TI TO .none/\IsPair h TI (.ref i1) (.ref i2)/\(∃ a b,IsPair h TO a b)/\gR t1 i1 l1 i h/\gR t2 i2 l2 i h) where
 mem:=by simp
 obj:=fun i h st b hb=>by
  obtain⟨h1,h2,⟨a,c,h3⟩,h4,h5⟩:=st
  simp only[List.mem_cons,List.mem_nil_iff,or_false]at hb
  rcases hb with rfl | rfl | rfl | rfl | rfl
  ·exact⟨_,h1,fun v q=>by cases q⟩
  ·exact⟨_,h2,fun v q=>by cases q⟩
  ·exact⟨_,h3,fun v q=>by cases q⟩
  ·exact h4.obj
  ·exact h5.obj
 keep:=fun i h h' st k=>by
  obtain⟨h1,h2,⟨a,c,h3⟩,h4,h5⟩:=st
  exact⟨k z (by simp) _ h1,k TI (by simp) _ h2,⟨a,c,k TO (by simp) _ h3⟩,h4.keep fun o q=>k i1 (by simp) o q,h5.keep fun o q=>k i2 (by simp) o q⟩
 item:=by
  intro X hP hw hK hc i pins s σ H E I hf st hg
  subst hP hw hK
  obtain⟨h1,h2,⟨a,c,h3⟩,h4,h5⟩:=st
  obtain⟨xs,ys,x,y,hx,hy,ex,ey⟩:=hg
  have f:∀ b∈[z,TI,TO,i1,i2],H b=none:=fun b hb=>(hf b hb).1
  obtain⟨fp1,Pv1,St1,D1,m1,a1,a2,a3⟩:=gG I (f i1 (by simp)) hx
  obtain⟨fp2,Pv2,St2,D2,m2,b1,b2,b3⟩:=gG I (f i2 (by simp)) hy
  have no:∀ {fp:List Addr} {i b:Addr},(∀ b∈fp,b=i\/H b≠none)->b∈[z,TI,TO,i1,i2]->b≠i->b∉fp:=fun m hb n z=>(m _ z).elim n fun q=>q (f _ hb)
  have Z:iw z TI TO i1 i2 fp1 fp2:=⟨n1,n2,n3,n4,n5,n6,n7,n8,no m1 (by simp) (Ne.symm n4),no m2 (by simp) (Ne.symm n5),no m1 (by simp) (Ne.symm n6),no m2 (by simp) (Ne.symm n7),no m2 (by simp) n8,no m1 (by simp) (Ne.symm n8)⟩
  refine yq Z D1 D2 h1 h2 h3 (a1 i h4) (b1 i h5) (List.getElem?_eq_some_iff.mp ex).1 (List.getElem?_eq_some_iff.mp ey).1 fun u v g tk pu pv g1 g2 g3 g4 g5 g6 g7=>?_
  obtain⟨x',ex',rx⟩:=a3 i u pu
  obtain⟨y',ey',ry⟩:=b3 i v pv
  rw[ex]at ex'
  rw[ey]at ey'
  cases ex'
  cases ey'
  refine⟨.ref s.heap.objs.size,rfl,wpAny_letOwnedTupleGo_zip g1 fun g' gz' sb=>?_⟩
  have hn:H s.heap.objs.size=none:=I.hok.fresh (Nat.le_refl _)
  have I1:Inv X pins σ (upd H s.heap.objs.size (.tup [x,y])) { s with heap:=s.heap.push { cls:=.type "tuple",data:=.seq #[u,v] },toks:=tk } :=
   I.laid (t':=tk) (fun b o q=>Heap.get?_push_of_some _ q) (Nat.le_refl _) ⟨by show 2<=sizeLine;decide,[u,v],.cons rx (.cons ry .nil),⟨_,Heap.get?_push_size _ rfl,rfl,_,rfl⟩⟩
  have lt:∀ b∈[z,TI,TO,i1,i2],b≠s.heap.objs.size:=fun b hb=>by
   have:∃ o,s.heap.get? b=some o:=by
    simp only[List.mem_cons,List.mem_nil_iff,or_false]at hb
    rcases hb with rfl | rfl | rfl | rfl | rfl
    ·exact⟨_,h1⟩
    ·exact⟨_,h2⟩
    ·exact⟨_,h3⟩
    ·exact let ⟨o,q,_⟩:=h4.obj;⟨o,q⟩
    ·exact let ⟨o,q,_⟩:=h5.obj;⟨o,q⟩
   obtain⟨o,q⟩:=this
   exact Nat.ne_of_lt (Heap.lt_size q)
  have stat:∀ b∈[z,TI,TO,i1,i2],upd H s.heap.objs.size (.tup [x,y]) b=none/\(b∈X.ex\/X.s₀.heap.objs.size<=b)/\b≠X.env.locals/\(∀ x c,X.env.cells.lookup x=some c->c≠b)/\∀ p∈X.pn++pins,p.1≠b:=fun b hb=>by
   obtain⟨f0,f1,f2,f3,f4,f5⟩:=hf b hb
   exact⟨by rw[aJ (lt b hb)];exact f0,f3,f1,f4,f5⟩
  have I2:Inv X pins σ (upd H s.heap.objs.size (.tup [x,y])) { s with heap:=g',toks:=tk }:=by
   refine Inv.t7 (s:={ s with heap:=s.heap.push { cls:=.type "tuple",data:=.seq #[u,v] },toks:=tk }) (h':=g') (t':=tk) (fp:=[z,TI,TO,i1,i2]) I1 (fun b o hb q=>?_) stat
   simp only[List.mem_cons,List.mem_nil_iff,or_false,not_or]at hb
   refine sb.extBut b o hb.1 ?_
   by_cases hbT:b=s.heap.objs.size
   ·subst hbT
    have q':(s.heap.push { cls:=.type "tuple",data:=.seq #[u,v] }).get? s.heap.objs.size=some o:=q
    rw[Heap.get?_push_size _ rfl]at q'
    cases q'
    exact g5
   ·exact g7 b o hb.1 hb.2.2.1 hb.2.2.2.1 hb.2.2.2.2 ((Heap.get?_push_ne _ _ _ hbT).symm.trans q)
  have kp:∀ b∈[TI,TO,i1,i2],∀ o,g.get? b=some o->g'.get? b=some o:=fun b hb o q=>sb.extBut b o (fun e=>by
   subst e
   simp only[List.mem_cons,List.mem_nil_iff,or_false]at hb
   rcases hb with e | e | e | e
   ·exact n1 e.symm
   ·exact n2 e.symm
   ·exact n4 e.symm
   ·exact n5 e.symm) q
  refine⟨.ref s.heap.objs.size,_,I2,rfl,⟨s.heap.objs.size,x,y,hn,rfl,rfl,fun xs' hx'=>?_,fun ys' hy'=>?_⟩,⟨gz',kp TI (by simp) _ (g7 TI _ n1 n3 (Ne.symm n9) (Ne.symm n10) h2),⟨u,v,kp TO (by simp) _ g2⟩,(a2 _ _ g3).keep fun o q=>kp i1 (by simp) o q,(b2 _ _ g4).keep fun o q=>kp i2 (by simp) o q⟩,fun b hb=>(stat b hb).1⟩
  ·rw[hx]at hx'
   rw[<-qt (Option.some.inj hx')]
   exact ex
  ·rw[hy]at hy'
   rw[<-qt (Option.some.inj hy')]
   exact ey
 done:=by
  intro X hP hw hK hc i pins s σ H E I hf st hg
  subst hP hw hK
  obtain⟨h1,h2,⟨a,c,h3⟩,h4,h5⟩:=st
  obtain⟨xs,ys,hx,hy,ex,ey⟩:=hg
  have f:∀ b∈[z,TI,TO,i1,i2],H b=none:=fun b hb=>(hf b hb).1
  obtain⟨fp1,Pv1,St1,D1,m1,a1,a2,a3⟩:=gG I (f i1 (by simp)) hx
  obtain⟨fp2,_,_,_,m2,_⟩:=gG I (f i2 (by simp)) hy
  have no:∀ {fp:List Addr} {i b:Addr},(∀ b∈fp,b=i\/H b≠none)->b∈[z,TI,TO,i1,i2]->b≠i->b∉fp:=fun m hb n z=>(m _ z).elim n fun q=>q (f _ hb)
  have Z:iw z TI TO i1 i2 fp1 fp2:=⟨n1,n2,n3,n4,n5,n6,n7,n8,no m1 (by simp) (Ne.symm n4),no m2 (by simp) (Ne.symm n5),no m1 (by simp) (Ne.symm n6),no m2 (by simp) (Ne.symm n7),no m2 (by simp) n8,no m1 (by simp) (Ne.symm n8)⟩
  subst ex
  refine yr Z D1 h1 h2 h3 (a1 _ h4) fun g hk=>⟨rfl,?_⟩
  refine Inv.t7 (h':=g) (t':=s.toks) (fp:=[z,i1]) I (fun b o hb q=>?_) fun b hb=>?_
  ·simp only[List.mem_cons,List.mem_nil_iff,or_false,not_or]at hb
   exact hk b o hb.1 hb.2 q
  ·have hb':b∈[z,TI,TO,i1,i2]:=by
    simp only[List.mem_cons,List.mem_nil_iff,or_false]at hb ⊢
    rcases hb with q | q
    ·exact .inl q
    ·exact .inr (.inr (.inr (.inl q)))
   obtain⟨f0,f1,f2,f3,f4,f5⟩:=hf b hb'
   exact⟨f0,f3,f1,f4,f5⟩
 self:=fun A i s Q E st h=>wpAny_pyIter_zip st.1 h
theorem l5.calm{P:Program}{w:World}{K:PySem.W.Frag}{tg:Expr}{J:It}{fp:List Addr}{it:Addr}{tn:Nat->Heap->Prop}(T:l5 (fun _=>True) P w K tg J fp it tn):Turn P w K tg J fp it tn where
 mem:=T.mem
 obj:=T.obj
 keep:=T.keep
 item:=fun X a b c hc i pins s σ H E I=>T.item X a b c trivial i pins s σ H E I
 done:=fun X a b c hc i pins s σ H E I=>T.done X a b c trivial i pins s σ H E I
 self:=T.self
theorem PI'.calm{X:Cx}{tg iter:Expr}{wi:TI}(h:PI' (fun _=>True) X tg iter wi):PI X tg iter wi:=fun pins s σ H R I q =>
 thn (h pins s σ H R I q) fun v s1 h1=>thn h1 fun itv s2 ⟨it,fp,tn,J,H',e,I',T,r⟩=>⟨it,fp,tn,J,H',e,I',T.calm,r⟩
noncomputable def cT(t:Bool)(l:Addr):Obj:=if t then { cls:=.type "tuple_iterator",data:=.fields #[.ref l,rawInt 0] } else { cls:=.type "list_iterator",data:=.fields #[.ref l,.int 0 0] }
theorem qI{t:Bool}{l it:Addr}{h:Heap}(e:h.get? it=some (cT t l)):gR t it l 0 h:=by
 cases t with
 | true=>exact⟨_,e,rfl,rfl⟩
 | false=>exact⟨_,e,rfl,rfl⟩
theorem pY{X:Cx}{pins:List (Addr × Obj)}{s:Shared}{σ:St}{H:Hp}{t:Bool}{l:Addr}{xs:List V}{A:Around}{Q:Value->Shared->Prop}{E:Value->Shared->Prop}(I:Inv X pins σ H s)(hx:H l=some (dQ t xs))(q:Q (.ref s.heap.objs.size) { s with heap:=s.heap.push (cT t l) }):wpAny (model X.prog X.w) A (pyIter (.ref l)) Q E s:=by
 cases t with
 |true=>
  obtain⟨its,rv,p,hz⟩:=I.tuple (SqT.of (show H l=some (.tup xs)from hx))
  exact wpAny_pyIter_tuple p q
 |false=>
  obtain⟨its,rv,p,hz⟩:=I.list (SqL.of (show H l=some (.lst xs)from hx))
  exact wpAny_pyIter_list p.isList q
section
variable{X:Cx}{elts:List Expr}{kx:Nat}{tp p pos:Pos}{a b:Expr}{ta:TA}
noncomputable def F4(ta:TA):TI:=fun σ H R=>ta σ H fun vs H1=>∃ t1 t2 l1 l2 xs ys,vs=[.ref l1,.ref l2]/\H1 l1=some (dQ t1 xs)/\H1 l2=some (dQ t2 ys)/\R (Itz t1 t2 l1 l2) H1
theorem far(n a b:Nat)(h:a≠b):n+a≠n+b:=fun q=>h (Nat.add_left_cancel q)
theorem xk:bootBuiltins "zip" = some (.type "zip"):=by decide +kernel
theorem DR(hg:Gl X "zip")(hm:X.mg "zip" = none)(ha:PA X [a,b] ta)(hs:starEach [a,b] X.env=[(false,eval a X.env),(false,eval b X.env)])(hs2:starEach [b] X.env=[(false,eval b X.env)]):PI' (fun _=>True) X (.Tuple elts kx tp) (.Call (.Name "zip" p) [a,b] [] pos) (F4 ta):=by
 intro pins s0 σ H0 R I0 h
 refine Call_ (il I0 hg hm xk (PyProof.Rows.callWith_type1 (thn (ha pos pins s0 σ H0 _ I0 h) fun us s ⟨vs,H,I,r1,q1⟩=>?_) (by rw[hs,hs2]) (by rw[hs2];rfl)))
 obtain⟨t1,t2,l1,l2,xs,ys,rfl,hx,hy,q⟩:=q1
 cases r1 with
 |cons r rr=>
  cases rr with
  |cons r2 rr=>
   cases rr
   cases r
   cases r2
   have I1:Inv X pins σ H { s with heap:=s.heap.push (cT t1 l1) }:=I.kept (t':=s.toks) fun b o e=>Heap.get?_push_of_some _ e
   refine Af (S1:=fun it z1=>it=s.heap.objs.size/\z1={ s with heap:=s.heap.push (cT t1 l1) }) (S2:=fun it jt z2=>it=s.heap.objs.size/\jt=(s.heap.push (cT t1 l1)).objs.size/\z2={ s with heap:=(s.heap.push (cT t1 l1)).push (cT t2 l2) })
    (fun A=>pY I hx ⟨_,rfl,rfl,rfl⟩) (fun it z1 h1 A=>?_) fun it jt z2 h2=>?_
   ·obtain⟨rfl,rfl⟩:=h1
    exact pY I1 hy ⟨_,rfl,rfl,rfl,rfl⟩
   ·obtain⟨rfl,rfl,rfl⟩:=h2
    have z1:(s.heap.push (cT t1 l1)).objs.size=s.heap.objs.size+1:=Heap.size_push ..
    generalize e1:s.heap.push (cT t1 l1)=g1 at *
    have p1:g1.get? s.heap.objs.size=some (cT t1 l1):=by
     rw[<-e1]
     exact Heap.get?_push_size _ (by cases t1<;>rfl)
    have k1:∀ b o,s.heap.get? b=some o->g1.get? b=some o:=fun b o e=>by rw[<-e1];exact Heap.get?_push_of_some _ e
    have z2:(g1.push (cT t2 l2)).objs.size=s.heap.objs.size+2:=by rw[Heap.size_push,z1]
    have p2:(g1.push (cT t2 l2)).get? (s.heap.objs.size+1)=some (cT t2 l2):=by
     rw[<-z1]
     exact Heap.get?_push_size _ (by cases t2<;>rfl)
    have k2:∀ b o,g1.get? b=some o->(g1.push (cT t2 l2)).get? b=some o:=fun b o e=>Heap.get?_push_of_some _ e
    generalize e2:g1.push (cT t2 l2)=g2 at *
    dsimp only
    rw[z1]
    have z3:(g2.push { cls:=.type "tuple",data:=.seq #[.ref s.heap.objs.size,.ref (s.heap.objs.size+1)] }).objs.size=s.heap.objs.size+3:=by rw[Heap.size_push,z2]
    have p3:(g2.push { cls:=.type "tuple",data:=.seq #[.ref s.heap.objs.size,.ref (s.heap.objs.size+1)] }).get? (s.heap.objs.size+2)=some { cls:=.type "tuple",data:=.seq #[.ref s.heap.objs.size,.ref (s.heap.objs.size+1)] }:=by
     rw[<-z2]
     exact Heap.get?_push_size _ rfl
    have k3:∀ b o,g2.get? b=some o->(g2.push { cls:=.type "tuple",data:=.seq #[.ref s.heap.objs.size,.ref (s.heap.objs.size+1)] }).get? b=some o:=fun b o e=>Heap.get?_push_of_some _ e
    rw[z2]
    generalize e3:g2.push { cls:=.type "tuple",data:=.seq #[.ref s.heap.objs.size,.ref (s.heap.objs.size+1)] }=g3 at *
    rw[z3]
    have z4:(g3.push { cls:=.type "tuple",data:=.seq #[.none,.none] }).objs.size=s.heap.objs.size+4:=by rw[Heap.size_push,z3]
    have p4:(g3.push { cls:=.type "tuple",data:=.seq #[.none,.none] }).get? (s.heap.objs.size+3)=some { cls:=.type "tuple",data:=.seq #[.none,.none] }:=by
     rw[<-z3]
     exact Heap.get?_push_size _ rfl
    have k4:∀ b o,g3.get? b=some o->(g3.push { cls:=.type "tuple",data:=.seq #[.none,.none] }).get? b=some o:=fun b o e=>Heap.get?_push_of_some _ e
    generalize e4:g3.push { cls:=.type "tuple",data:=.seq #[.none,.none] }=g4 at *
    rw[z4]
    have p5:(g4.push { cls:=.type "zip",data:=.fields #[.none,.bool false,.bool false,.ref (s.heap.objs.size+2),.ref (s.heap.objs.size+3)] }).get? (s.heap.objs.size+4)=some { cls:=.type "zip",data:=.fields #[.none,.bool false,.bool false,.ref (s.heap.objs.size+2),.ref (s.heap.objs.size+3)] }:=by
     rw[<-z4]
     exact Heap.get?_push_size _ rfl
    have k5:∀ b o,g4.get? b=some o->(g4.push { cls:=.type "zip",data:=.fields #[.none,.bool false,.bool false,.ref (s.heap.objs.size+2),.ref (s.heap.objs.size+3)] }).get? b=some o:=fun b o e=>Heap.get?_push_of_some _ e
    generalize e5:g4.push { cls:=.type "zip",data:=.fields #[.none,.bool false,.bool false,.ref (s.heap.objs.size+2),.ref (s.heap.objs.size+3)] }=g5 at *
    refine wpAny_pyIter_zip (TI:=s.heap.objs.size+2) (TO:=s.heap.objs.size+3) (f0:=.none) p5 ⟨s.heap.objs.size+4,[s.heap.objs.size+4,s.heap.objs.size+2,s.heap.objs.size+3,s.heap.objs.size,s.heap.objs.size+1],_,Itz t1 t2 l1 l2,H,rfl,I.kept (t':=s.toks) fun b o e=>k5 _ _ (k4 _ _ (k3 _ _ (k2 _ _ (k1 _ _ e)))),za (far _ 2 4 (by decide)) (far _ 3 4 (by decide)) (far _ 2 3 (by decide)) (far _ 0 4 (by decide)) (far _ 1 4 (by decide)) (far _ 0 3 (by decide)) (far _ 1 3 (by decide)) (far _ 0 1 (by decide)) (far _ 0 2 (by decide)) (far _ 1 2 (by decide)),
     ⟨p5,k5 _ _ (k4 _ _ p3),⟨_,_,k5 _ _ p4⟩,qI (k5 _ _ (k4 _ _ (k3 _ _ (k2 _ _ p1)))),qI (k5 _ _ (k4 _ _ (k3 _ _ p2)))⟩,fun b hb=>?_,q⟩
    have hb':s.heap.objs.size<=b:=by
     simp only[List.mem_cons,List.mem_nil_iff,or_false]at hb
     rcases hb with rfl | rfl | rfl | rfl | rfl<;>first | exact Nat.le_refl _ | exact Nat.le_add_right _ _
    exact I.qB hb' (I.hok.fresh hb')
end
end L2
namespace RS
open PySem PySem.Spec PyProof.Rows L2
theorem i5:∀ (ds es:List RL.D),ds.length=es.length->(RL.eW ds es).length=ds.length
 | [],[],_=>rfl
 | [],_::_,h=>by cases h
 | _::_,[],h=>by cases h
 | d::ds,e::es,h=>by rw[RL.eW,List.length_cons,List.length_cons,i5 ds es (by simpa using h)]
theorem rj:∀ (ds es:List RL.D) (i:Nat) (d:RL.D),(RL.eW ds es)[i]?=some d->∃ x y,ds[i]?=some x/\es[i]?=some y/\d=.tup [x,y]
 | [],es,i,d,h=>by cases es<;>simp[RL.eW]at h
 | _::_,[],i,d,h=>by simp[RL.eW]at h
 | x::ds,y::es,0,d,h=>by simp[RL.eW]at h;exact⟨x,y,rfl,rfl,h.symm⟩
 | x::ds,y::es,i+1,d,h=>by
  rw[RL.eW,List.getElem?_cons_succ]at h
  obtain⟨x',y',h1,h2,h3⟩:=rj ds es i d h
  exact⟨x',y',by simpa using h1,by simpa using h2,h3⟩
theorem vg{K:PySem.W.Frag}{H:Hp}{ds es:List RL.D}{xs ys:List V}{P:Addr->Prop}{t1 t2:Bool}{l1 l2:Addr}(hl:ds.length=es.length)(h1:H l1=some (dQ t1 xs))(h2:H l2=some (dQ t2 ys))(n1:¬ P l1)(n2:¬ P l2)(r1:ae nP K H ds xs)(r2:ae nP K H es ys)(hm:∀ b o,P b->H b=some o->du o) :
  iX K (Itz t1 t2 l1 l2) (RL.eW ds es) P H where
 go:=fun H' i k hi=>by
  rw[i5 ds es hl]at hi
  obtain⟨x,e,_⟩:=r1.get (i:=i) (d:=ds[i]) (by simp[hi])
  obtain⟨y,e',_⟩:=r2.get (i:=i) (d:=es[i]'(by lia)) (by simp)
  exact⟨xs,ys,x,y,k _ _ n1 h1,k _ _ n2 h2,e,e'⟩
 stop:=fun H' k=>⟨xs,ys,k _ _ n1 h1,k _ _ n2 h2,by rw[i5 ds es hl,r1.length],by rw[i5 ds es hl,hl,r2.length]⟩
 yld:=fun H' i d v H2 k e y=>by
  obtain⟨p,x,w,hp,rfl,rfl,hx,hw⟩:=y
  obtain⟨dx,dw,g1,g2,rfl⟩:=rj ds es i d e
  obtain⟨x',g3,g4⟩:=r1.get g1
  obtain⟨w',g5,g6⟩:=r2.get g2
  rw[hx xs (k _ _ n1 h1)]at g3
  rw[hw ys (k _ _ n2 h2)]at g5
  cases g3
  cases g5
  refine⟨aq.bY hp,fun q=>?_⟩
  have re:Rep nP K H' dx x/\Rep nP K H' dw w:=by
   rcases q with q | q
   ·have q:(dx.imm&&(dw.imm&&true))=true:=q
    rw[Bool.and_true,Bool.and_eq_true]at q
    exact⟨i7 hm k g4 q.1,i7 hm k g6 q.2⟩
   ·exact⟨g4.same q,g6.same q⟩
  rw[Rep]
  exact⟨p,[x,w],rfl,aR,ae.cons (re.1.same (aq.bY hp)) (ae.cons (re.2.same (aq.bY hp)) ae.nil)⟩
theorem og{P:Addr->Prop}{K:PySem.W.Frag}{H:Hp}{d:RL.D}{ds:List RL.D}{v:V}(h:RL.items d=some ds)(r:Rep P K H d v):∃ t l xs,v=.ref l/\H l=some (dQ t xs)/\ae P K H ds xs/\(t=false->d=.lst ds):=by
 obtain⟨p,xs,rfl,hp,rs⟩:=gr h r
 rcases hp with⟨q,rfl⟩ | ⟨q,rfl⟩
 ·exact⟨false,p,xs,rfl,q,rs,fun _=>rfl⟩
 ·exact⟨true,p,xs,rfl,q,rs,fun z=>by cases z⟩
section rules
variable{X:Cx}{cl:RL.Cl}{elts:List Expr}{kx:Nat}{tp p pos:Pos}{a b:Expr}{a' b':RL.E}
theorem vy(hg:Gl X "zip")(hm:X.mg "zip" = none)(ha:SE X cl a a')(hb:SE X cl b b')(hn:noStar a=true)(hn2:noStar b=true):PI' (fun _=>True) X (.Tuple elts kx tp) (.Call (.Name "zip" p) [a,b] [] pos) (tI X.K cl (.zip a' b')):=by
 intro pins s σ H R I h
 obtain⟨σD,ds,rv,e,k⟩:=h
 rw[RL.bp]at e
 obtain⟨x,ea,e⟩:=bind_some e
 obtain⟨y,eb,e⟩:=bind_some e
 obtain⟨xs,e1,e⟩:=bind_some e
 obtain⟨ys,e2,e⟩:=bind_some e
 split at e
 ·rename_i hl
  cases e
  have hpa:PA X [a,b] (iZ (tE X.K cl a') (iZ (tE X.K cl b') kL)):=bh ha (bh hb cI (ao [] hn2)) (ao _ hn)
  refine DR hg hm hpa (by rw[ao _ hn,ao _ hn2];rfl) (ao [] hn2) pins s σ H R I ?_
  refine⟨σD,x,rv,ea,fun v H1 r1=>⟨σD,y,rv.same r1.same,eb,fun u H2 r2=>?_⟩⟩
  obtain⟨t1,l1,vs,rfl,h1,p1,c1⟩:=og e1 (r1.rep.same r2.same)
  obtain⟨t2,l2,us,rfl,h2,p2,c2⟩:=og e2 r2.rep
  refine⟨t1,t2,l1,l2,vs,us,rfl,h1,h2,k _ _ (r1.same.trans r2.same) ⟨vg hl h1 h2 (fun z=>z) (fun z=>z) p1 p2 oV,fun M P z hP av=>?_⟩⟩
  have hP2:=kW (r1.same.trans r2.same) hP
  unfold RL.qV at z
  rw[Bool.and_eq_true]at z
  have notT:∀ (t:Bool) l zs,H2 l=some (dQ t zs)->t=true->¬ P l:=fun t l zs hl ht q=>by
   subst ht
   rcases hP2 l _ q hl with⟨_,q⟩ | ⟨_,q⟩ | ⟨_,q⟩<;>cases q
  refine vg hl h1 h2 ?_ ?_ p1 p2 hP2
  ·cases ht:t1 with
   | true=>exact notT t1 l1 vs h1 ht
   | false=>exact pQ r1 z.1 hP av _ _ (c1 ht) rfl
  ·cases ht:t2 with
   | true=>exact notT t2 l2 us h2 ht
   |false=>
    refine pQ r2 z.2 (fun b q=>?_) (fun j dj vj hj h3 h4=>(av j dj vj hj h3 h4).same r1.same) _ _ (c2 ht) rfl
    obtain⟨o,ho,hmu⟩:=hP b q
    exact⟨o,r1.same _ _ ho,hmu⟩
 ·cases e
end rules
end RS
namespace L2
open PySem PySem.Spec PyProof.Rows
theorem nQ{α:Type}(xs:List α):∀ k:Nat,k<=xs.length->((List.range k).map fun(j:Nat)=>(((xs.length:Int)-1)+(-1)*(j:Int)).toNat).filterMap (xs.toArray[·]?)=xs.reverse.take k:=by
 intro k
 induction k with
 | zero=>intro _;simp
 |succ k ih=>
  intro hk
  rw[List.range_succ,List.map_append,List.filterMap_append,ih (by lia),List.take_succ]
  congr 1
  have e1:(((xs.length:Int)-1)+(-1)*(k:Int)).toNat=xs.length-1-k:=by lia
  simp only[List.map_cons,List.map_nil,List.filterMap_cons,List.filterMap_nil,e1]
  rw[List.getElem?_reverse (by lia)]
  simp only[List.getElem?_toArray]
  rw[List.getElem?_eq_getElem (by omega)]
  rfl
theorem yN(its:List Value):slicePick its.toArray none none (some (-1))=its.reverse.toArray:=by
 have h:=nQ its its.length (Nat.le_refl _)
 rw[List.take_of_length_le (by simp)]at h
 unfold slicePick
 have hb:sliceBounds none none (some (-1)) its.toArray.size=((its.length:Int)-1,-1,-1):=by
  simp[sliceBounds]
 rw[hb]
 dsimp only
 unfold sliceRange
 have hc:(if(-1:Int) > 0 then(if(its.length:Int)-1 < -1 then(-1-((its.length:Int)-1)+-1-1) / -1 else 0)else(if(its.length:Int)-1 > -1 then((its.length:Int)-1 - -1 - -1-1) / (- -1)else 0)).toNat=its.length:=by
  rw[if_neg (by decide)]
  rw[show(- -1:Int)=1 from rfl]
  split
  ·rw[Int.ediv_one];lia
  ·lia
 dsimp only
 rw[hc,h]
section
variable{X:Cx}{e:Expr}{te:TE}{pos p2 p3 p4:Pos}{j:Nat}
theorem vR(n:Nat):Builtin.Slice.sliceAdjust none none (-1) (n:Int)=((n:Int)-1,-1):=by
 unfold Builtin.Slice.sliceAdjust
 rfl
theorem uI(n:Nat):Builtin.Slice.slicePlaces ((n:Int)-1) (-1) (-1)=n:=by
 unfold Builtin.Slice.slicePlaces
 rw[if_neg (by decide)]
 rw[show(- -1:Int)=1 from rfl]
 split
 ·rw[Int.ediv_one];lia
 ·lia
theorem kh{prog:Program}{w:World}{A:Around}{E:Value->Shared->Prop}{s:Shared}{t sl:Addr}{its:List Value}{k:Tok}{Q:Value->Shared->Prop}(ht:IsTup s.heap t its.toArray)(hs:s.heap.IsSliceOf sl .none .none (.int (-1) k))
 (h:Q (.ref s.heap.objs.size) { s with heap:=s.heap.push { cls:=.type "tuple",data:=.seq its.reverse.toArray } })
 (hsz:its.length<=sizeLine):wpAny (model prog w) A (getItem (.ref t) (.ref sl)) Q E s:=by
 have htake:sizeOk (.seq its.reverse.toArray):=by
  show its.reverse.toArray.size<=sizeLine
  rw[List.size_toArray,List.length_reverse]
  exact hsz
 obtain⟨os,hos,hcs,hds⟩:=id hs
 have hTs:s.TypeIs (.ref sl) "slice" := ⟨os,hos,hcs⟩
 unfold getItem
 try with_reducible refine wpAny_holding ?_
 first | refine wpAny_bind (wpAny_pure ?_) | skip
 refine wpAny_bind (wpAny_sequenceKey ht.typeIs (by decide) ?_)
 refine wpAny_bind (wpAny_callSpecial?_slot (name:=Str.ofString "__getitem__") ht.typeIs PyProof.Rows.slot_tuple_getitem
  (wpAny_call_entry PyProof.Rows.slot_tuple_getitem ht.typeIs entry_tuple_getitem ?_ (args_tuple_getitem _ _)))
 show wpAny _ _ (Builtin.Tuple.tupleItemsOf (.ref t) >>= _) _ _ s
 refine wpAny_bind (tupleItemsOf_ ht ?_)
 refine wpAny_bind (wpAny_typeOf hTs ?_)
 rw[if_pos (by decide)]
 refine wpAny_bind ?_
 unfold Builtin.Slice.sliceApplied Builtin.Slice.sliceFields
 refine wpAny_bind (wpAny_bind (wpAny_field hos hds (x:=.none) rfl (wpAny_bind (wpAny_field hos hds (x:=.none) rfl (wpAny_bind (wpAny_field hos hds (x:=.int (-1) k) rfl (wpAny_pure ?_)))))))
 refine wpAny_bind (HT.eY (.int (-1) k) ?_)
 show wpAny _ _ (if((-1:Int) == 0)=true then _ else _) _ _ s
 rw[if_neg (by decide)]
 refine wpAny_bind (HT.eY .none (wpAny_bind (HT.eY .none (wpAny_bind (wpAny_pure ?_)))))
 show wpAny _ _ (match Builtin.Slice.sliceAdjust none none (-1) (its.toArray.size:Int)with | (lo,hi)=>pure (lo,(-1:Int),Builtin.Slice.slicePlaces lo hi (-1))) _ _ s
 rw[List.size_toArray,vR]
 show wpAny _ _ (pure ((its.length:Int)-1,(-1:Int),Builtin.Slice.slicePlaces ((its.length:Int)-1) (-1) (-1))) _ _ s
 rw[uI]
 refine wpAny_pure ?_
 show wpAny _ _ (if(((its.length:Int)-1 == 0)&&(-1:Int) == 1&&its.length == its.toArray.size)=true then _ else _) _ _ s
 rw[if_neg (by rw[show((-1:Int) == 1)=false from rfl,Bool.and_false,Bool.false_and];exact Bool.false_ne_true)]
 have pk:((List.range its.length).filterMap fun(m:Nat)=>its.toArray[((its.length:Int)-1+(m:Int)*-1).toNat]?).toArray=its.reverse.toArray:=by
  have h:=nQ its its.length (Nat.le_refl _)
  rw[List.take_of_length_le (by simp),List.filterMap_map]at h
  rw[<-h]
  congr 2
  funext m
  simp only[Function.comp]
  congr 2
  lia
 rw[pk]
 first
  | exact wpAny_bind (m:=Builtin.Tuple.tupleExact _) (wpAny_newObj_type (wpAny_pure ⟨_,rfl,wpAny_pure h⟩) htake)
  | exact wpAny_bind (m:=Builtin.Tuple.tupleExact _) (wpAny_newObj_type (wpAny_bind (wpAny_pure (wpAny_pure ⟨_,rfl,wpAny_pure h⟩))) htake)
  | exact wpAny_bind (wpAny_bind (m:=Builtin.Tuple.tupleExact _) (wpAny_newObj_type (wpAny_pure (wpAny_pure ⟨_,rfl,wpAny_pure h⟩)) htake))
  | exact wpAny_bind (wpAny_bind (m:=Builtin.Tuple.tupleExact _) (wpAny_newObj_type (wpAny_pure ⟨_,rfl,wpAny_pure h⟩) htake))
noncomputable def Gb(K:PySem.W.Frag)(te:TE):TE:=fun σ H Q=>te σ H fun x H1=>∃ a xs,x=.ref a/\((SqL K H1 a xs/\∀ p,H1 p=none->Q (.ref p) (upd H1 p (.lst xs.reverse)))\/(SqT K H1 a xs/\∀ p,H1 p=none->Q (.ref p) (upd H1 p (.tup xs.reverse))))
theorem Ed{e3:Expr}(h3:PE X e3 (tC (.int (-1))))(he:PE X e te):PE X (.Subscript e (.Slice none none (some e3) p2) pos) (Gb X.K te):=by
 intro pins s σ H Q I h
 refine Subscript_ (thn (he pins s σ H _ I h) fun v s1 ⟨x,H1,I1,r1,q1⟩=>?_)
 refine wpAny_Slice ?_
 rw[evalPart_none]
 refine wpAny_pure (wpAny_pure ?_)
 rw[evalPart_some]
 refine thn (h3 pins s1 σ H1 (fun y H2=>y=.int (-1)/\H2=H1) I1 ⟨rfl,rfl⟩) fun vs s3 ⟨y,H3,I3,r3,q3⟩=>?_
 obtain⟨rfl,rfl⟩:=q3
 obtain⟨t,rfl⟩:=r3
 obtain⟨a,xs,rfl,q⟩:=q1
 cases r1
 have I4:Inv X pins σ H3 { s3 with heap:=s3.heap.push { cls:=.type "slice",data:=.fields #[.none,.none,.int (-1) t] } }:=I3.kept (t':=s3.toks) fun b ob q=>Heap.get?_push_of_some _ q
 show wpAny (model X.prog X.w) X.A (subscriptTail e (.Slice none none (some e3) p2) (.ref a) (.ref s3.heap.objs.size)) (EP X pins σ Q) X.xe { s3 with heap:=s3.heap.push { cls:=.type "slice",data:=.fields #[.none,.none,.int (-1) t] } }
 rcases q with⟨hx,q⟩ | ⟨hx,q⟩
 ·obtain⟨its,r,ht,hz⟩:=I4.list hx
  have hlen:=r.length
  refine tail_any (ops:=[.ref a,.ref s3.heap.objs.size]) ht.isList.typeIs slot_list_getitem.lookup ?_ (by with_unfolding_all rfl)
  refine wpAny_getItem_list_slice ht.isList (Heap.IsSliceOf.new ..) .none .none (.int (-1) t) (by simp) ?_ (by rw[List.size_toArray]<;>lia)
  rw[yN]
  refine⟨.ref _,_,I4.laid (t':=s3.toks) (o:=.lst xs.reverse) (fun b ob q=>Heap.get?_push_of_some _ q) (Nat.le_refl _) ?_,rfl,q _ (I4.hok.fresh (Nat.le_refl _))⟩
  exact⟨by rw[List.length_reverse];exact hz,_,0,r.reverse,Heap.get?_push_size _ rfl⟩
 ·obtain⟨its,r,ht,hz⟩:=I4.tuple hx
  have hlen:=r.length
  refine tail_any (ops:=[.ref a,.ref s3.heap.objs.size]) ht.typeIs PyProof.Rows.slot_tuple_getitem.lookup ?_ (by with_unfolding_all rfl)
  refine kh ht (Heap.IsSliceOf.new ..) ?_ (by lia)
  refine⟨.ref _,_,I4.laid (t':=s3.toks) (o:=.tup xs.reverse) (fun b ob q=>Heap.get?_push_of_some _ q) (Nat.le_refl _) ?_,rfl,q _ (I4.hok.fresh (Nat.le_refl _))⟩
  exact⟨by rw[List.length_reverse];exact hz,_,r.reverse,IsTup.new _ _⟩
end
end L2
namespace RS
open PySem PySem.Spec PyProof.Rows L2
section
variable{X:Cx}{cl:RL.Cl}{a b:Expr}{a' b' c':RL.E}{pos p p2:Pos}{M:List Nat}
theorem El{e3:Expr}(ha:SE X cl a a')(h3:fU (-1) e3=true):SE X cl (.Subscript a (.Slice none none (some e3) p2) pos) (.rev a'):=by
 refine PE.weak (Ed (hZ h3).1 ha) fun σ H Q h=>?_
 obtain⟨σD,d,rv,e,k⟩:=h
 rw[RL.ev]at e
 obtain⟨x,ea,e⟩:=bind_some e
 refine⟨σD,x,rv,ea,fun v H1 r1=>?_⟩
 cases x with
 |lst xs=>
  cases e
  obtain⟨q,ys,rfl,_,f2,f3⟩:=aG r1.rep
  exact⟨q,ys,rfl,.inl ⟨SqL.of f2,fun l hl=>k _ _ (dF r1.same hl f3.rev fun _=>rfl)⟩⟩
 |tup xs=>
  cases e
  obtain⟨q,ys,rfl,f2,f3⟩:=bj r1.rep
  exact⟨q,ys,rfl,.inr ⟨SqT.of f2,fun l hl=>k _ _ (fg r1.same hl f3.rev fun _=>rfl)⟩⟩
 | _=>cases e
end
end RS
namespace L2
open PySem PySem.Spec PyProof.Rows
section
variable{X:Cx}
end
section
variable{X:Cx}{pos:Pos}{a b c g:Expr}{ta tb tc tg:TE}
end
end L2
namespace RS
open PySem PySem.Spec PyProof.Rows L2
section
variable{X:Cx}{cl:RL.Cl}{a b c g:Expr}{a' b' c' g':RL.E}{pos p p2:Pos}{M:List Nat}
end
section
variable{X:Cx}{cl:RL.Cl}{M:List Nat}{st:Stmt}{i:Nat}{k' l' a' b':RL.E}
end
section
variable{X:Cx}{cl:RL.Cl}{a b c:Expr}{a' b' c':RL.E}{pos p:Pos}{M:List Nat}
end
theorem nos{α:Type}{P:Prop}{x:α}(h:(none:Option α)=some x):P:=by cases h
theorem ah{α:Type}{o:Option α}{f:α->Bool}(h:o.any f=true):∃ x,o=some x/\f x=true:=by
 cases o with
 | none=>cases h
 | some x=>exact⟨x,rfl,h⟩
theorem aa{a b:Bool}(h:(a&&b)=true):a=true/\b=true:=by rw[Bool.and_eq_true]at h;exact h
noncomputable def dH:Expr->Option Str
 | .Name x _=>some x
 | _=>none
theorem bZ{e:Expr}{x:Str}(h:dH e=some x):∃ p,e=.Name x p:=by
 cases e
 case Name=>cases h;exact⟨_,rfl⟩
 all_goals exact nos h
noncomputable def mI:Expr->Option Const
 | .Constant k _ _=>some k
 | _=>none
theorem i4{e:Expr}{k:Const}(h:mI e=some k):∃ j p,e=.Constant k j p:=by
 cases e
 case Constant=>cases h;exact⟨_,_,rfl⟩
 all_goals exact nos h
noncomputable def Cg:Expr->Option (Expr × Operator × Expr)
 | .BinOp l o r _=>some (l,o,r)
 | _=>none
theorem Bv{e:Expr}{l r:Expr}{o:Operator}(h:Cg e=some (l,o,r)):∃ p,e=.BinOp l o r p:=by
 cases e
 case BinOp=>cases h;exact⟨_,rfl⟩
 all_goals exact nos h
noncomputable def vUn:Expr->Option (UnaryOp × Expr)
 | .UnaryOp o x _=>some (o,x)
 | _=>none
theorem qv{e x:Expr}{o:UnaryOp}(h:vUn e=some (o,x)):∃ p,e=.UnaryOp o x p:=by
 cases e
 case UnaryOp=>cases h;exact⟨_,rfl⟩
 all_goals exact nos h
noncomputable def pE:Expr->Option (Expr × List CmpOp × List Expr)
 | .Compare l o r _=>some (l,o,r)
 | _=>none
theorem kc{e l:Expr}{r:List Expr}{o:List CmpOp}(h:pE e=some (l,o,r)):∃ p,e=.Compare l o r p:=by
 cases e
 case Compare=>cases h;exact⟨_,rfl⟩
 all_goals exact nos h
noncomputable def vBool:Expr->Option (BoolOp × List Expr × Pos)
 | .BoolOp o es p=>some (o,es,p)
 | _=>none
theorem i9{e:Expr}{es:List Expr}{o:BoolOp}{p:Pos}(h:vBool e=some (o,es,p)):e=.BoolOp o es p:=by
 cases e
 case BoolOp=>cases h;exact rfl
 all_goals exact nos h
noncomputable def kD:Expr->Option (List Expr)
 | .Tuple es _ _=>some es
 | _=>none
theorem eC{e:Expr}{es:List Expr}(h:kD e=some es):∃ k p,e=.Tuple es k p:=by
 cases e
 case Tuple=>cases h;exact⟨_,_,rfl⟩
 all_goals exact nos h
noncomputable def Dr:Expr->Option (List Expr)
 | .List es _=>some es
 | _=>none
theorem Ao{e:Expr}{es:List Expr}(h:Dr e=some es):∃ p,e=.List es p:=by
 cases e
 case List=>cases h;exact⟨_,rfl⟩
 all_goals exact nos h
noncomputable def k7:Expr->Option (Expr × Expr)
 | .Subscript a b _=>some (a,b)
 | _=>none
theorem fj{e a b:Expr}(h:k7 e=some (a,b)):∃ p,e=.Subscript a b p:=by
 cases e
 case Subscript=>cases h;exact⟨_,rfl⟩
 all_goals exact nos h
noncomputable def vSl:Expr->Option (Option Expr × Option Expr × Option Expr)
 | .Slice a b c _=>some (a,b,c)
 | _=>none
theorem qz{e:Expr}{a b c:Option Expr}(h:vSl e=some (a,b,c)):∃ p,e=.Slice a b c p:=by
 cases e
 case Slice=>cases h;exact⟨_,rfl⟩
 all_goals exact nos h
noncomputable def iU:Expr->Option (Expr × List Expr × List Keyword × Pos)
 | .Call f as ks p=>some (f,as,ks,p)
 | _=>none
theorem eh{e f:Expr}{as:List Expr}{ks:List Keyword}{p:Pos}(h:iU e=some (f,as,ks,p)):e=.Call f as ks p:=by
 cases e
 case Call=>cases h;exact rfl
 all_goals exact nos h
noncomputable def uE:Expr->Option (Expr × Str × Pos)
 | .Attribute o x p=>some (o,x,p)
 | _=>none
theorem qC{e o:Expr}{x:Str}{p:Pos}(h:uE e=some (o,x,p)):e=.Attribute o x p:=by
 cases e
 case Attribute=>cases h;exact rfl
 all_goals exact nos h
noncomputable def uf:Expr->Option (Expr × List Comprehension × Scope × Pos)
 | .ListComp e gs sc p=>some (e,gs,sc,p)
 | _=>none
theorem qW{e x:Expr}{gs:List Comprehension}{sc:Scope}{p:Pos}(h:uf e=some (x,gs,sc,p)):e=.ListComp x gs sc p:=by
 cases e
 case ListComp=>cases h;exact rfl
 all_goals exact nos h
noncomputable def uz:Expr->Option (List (Option Expr) × List Expr)
 | .Dict ks vs _=>some (ks,vs)
 | _=>none
theorem qX{e:Expr}{ks:List (Option Expr)}{vs:List Expr}(h:uz e=some (ks,vs)):∃ p,e=.Dict ks vs p:=by
 cases e
 case Dict=>cases h;exact⟨_,rfl⟩
 all_goals exact nos h
noncomputable def of1{α:Type}(xs:List α)(f:α->Bool):Bool:=match xs with
 | [a]=>f a
 | _=>false
noncomputable def of2{α:Type}(xs:List α)(f:α->α->Bool):Bool:=match xs with
 | [a,b]=>f a b
 | _=>false
noncomputable def of3{α:Type}(xs:List α)(f:α->α->α->Bool):Bool:=match xs with
 | [a,b,c]=>f a b c
 | _=>false
theorem aQ{α:Type}:∀ {xs:List α} {f:α->Bool},of1 xs f=true->∃ a,xs=[a]/\f a=true
 | [a],_,h=>⟨a,rfl,h⟩
theorem cX{α:Type}:∀ {xs:List α} {f:α->α->Bool},of2 xs f=true->∃ a b,xs=[a,b]/\f a b=true
 | [a,b],_,h=>⟨a,b,rfl,h⟩
theorem xj{α:Type}:∀ {xs:List α} {f:α->α->α->Bool},of3 xs f=true->∃ a b c,xs=[a,b,c]/\f a b c=true
 | [a,b,c],_,h=>⟨a,b,c,rfl,h⟩
noncomputable def ofM{α:Type}(xs:List α)(f:α->α->List α->Bool):Bool:=match xs with
 | a::b::r=>f a b r
 | _=>false
theorem lB{α:Type}:∀ {xs:List α} {f:α->α->List α->Bool},ofM xs f=true->∃ a b r,xs=a::b::r/\f a b r=true
 | a::b::r,_,h=>⟨a,b,r,rfl,h⟩
noncomputable def mh:Stmt->Option (List Expr × Expr)
 | .Assign ts e _=>some (ts,e)
 | _=>none
theorem eE{st:Stmt}{ts:List Expr}{e:Expr}(h:mh st=some (ts,e)):∃ p,st=.Assign ts e p:=by
 cases st
 case Assign=>cases h;exact⟨_,rfl⟩
 all_goals exact nos h
noncomputable def DT:Stmt->Option (Expr × Operator × Expr)
 | .AugAssign t o e _=>some (t,o,e)
 | _=>none
theorem AG{st:Stmt}{t e:Expr}{o:Operator}(h:DT st=some (t,o,e)):∃ p,st=.AugAssign t o e p:=by
 cases st
 case AugAssign=>cases h;exact⟨_,rfl⟩
 all_goals exact nos h
noncomputable def uo:Stmt->Option Expr
 | .Expr e _=>some e
 | _=>none
theorem jZ{st:Stmt}{e:Expr}(h:uo st=some e):∃ p,st=.Expr e p:=by
 cases st
 case Expr=>cases h;exact⟨_,rfl⟩
 all_goals exact nos h
noncomputable def wIf:Stmt->Option (Expr × List Stmt × List Stmt)
 | .If c a b _=>some (c,a,b)
 | _=>none
theorem xu{st:Stmt}{c:Expr}{a b:List Stmt}(h:wIf st=some (c,a,b)):∃ p,st=.If c a b p:=by
 cases st
 case If=>cases h;exact⟨_,rfl⟩
 all_goals exact nos h
noncomputable def Dc:Stmt->Option (Expr × Expr × List Stmt × List Stmt)
 | .For t i b o _=>some (t,i,b,o)
 | _=>none
theorem tf{st:Stmt}{t i:Expr}{b o:List Stmt}(h:Dc st=some (t,i,b,o)):∃ p,st=.For t i b o p:=by
 cases st
 case For=>cases h;exact⟨_,rfl⟩
 all_goals exact nos h
noncomputable def CP:Stmt->Option (Option Expr)
 | .Return e _=>some e
 | _=>none
theorem sS{st:Stmt}{e:Option Expr}(h:CP st=some e):∃ p,st=.Return e p:=by
 cases st
 case Return=>cases h;exact⟨_,rfl⟩
 all_goals exact nos h
end RS
namespace L2
open PySem PySem.Spec PyProof.Rows
theorem vb{o:Obj}{f:Array Value->Array Value}:(o.mapFields f).dict=o.dict:=by
 obtain⟨c,d,dt,sl⟩:=o
 cases dt<;>rfl
noncomputable def Exc(P:Addr->Prop)(e:Addr)(C:Addr)(tb:Bool)(h:Heap):Prop :=
 ∃ oe vs,h.get? e=some oe/\(oe.cls=.ref C/\oe.dict=none)/\oe.data=.fields vs/\vs[2]?=some .none/\¬ P e /\
  ((tb=false/\vs[1]?=some .none)\/∃ T oT ts,vs[1]?=some (.ref T)/\T≠e/\h.get? T=some oT/\oT.data=.fields ts/\ts[3]?=some .none/\¬ P T)
structure Off1(P:Addr->Prop)(fs:List Addr)(h h':Heap):Prop where
 sz:h.objs.size<=h'.objs.size
 keep:∀ b o,P b->b∉fs->h.get? b=some o->h'.get? b=some o
 slot:∀ b o,P b->b∈fs->h.get? b=some o->∃ sl,h'.get? b=some { o with slots:=sl }
theorem Off1.trans{P:Addr->Prop}{fs:List Addr}{h h1 h2:Heap}(a:Off1 P fs h h1)(b:Off1 P fs h1 h2):Off1 P fs h h2 where
 sz:=Nat.le_trans a.sz b.sz
 keep:=fun c o p n e=>b.keep c o p n (a.keep c o p n e)
 slot:=fun c o p n e=>by
  obtain⟨sl,e1⟩:=a.slot c o p n e
  obtain⟨sl2,e2⟩:=b.slot c _ p n e1
  exact⟨sl2,e2⟩
theorem Off1.uG{P:Addr->Prop}{fs:List Addr}{h:Heap}{a:Addr}(n:¬ P a)(f:Obj->Obj):Off1 P fs h (h.update a f) where
 sz:=by rw[(Heap.SameBut.update ..).1];exact Nat.le_refl _
 keep:=fun b o p _ e=>by rw[Heap.get?_update_other _ _ (show a≠b from fun z=>n (z.symm▸p))];exact e
 slot:=fun b o p _ e=>⟨o.slots,by rw[Heap.get?_update_other _ _ (show a≠b from fun z=>n (z.symm▸p))];exact e⟩
theorem Off1.ext{P:Addr->Prop}{fs:List Addr}{h:Heap}(o:Obj):Off1 P fs h (h.push o) where
 sz:=by rw[Heap.size_push];exact Nat.le_succ _
 keep:=fun b _ _ _ e=>Heap.get?_push_of_some _ e
 slot:=fun b o _ _ e=>⟨o.slots,Heap.get?_push_of_some _ e⟩
theorem Off1.slots{P:Addr->Prop}{fs:List Addr}{h h':Heap}(x:Heap.SlotsOnly fs h h'):Off1 P fs h h' where
 sz:=Nat.le_of_eq x.1.symm
 keep:=fun b o _ n e=>(x.2.1 b n).trans e
 slot:=fun b o _ _ e=>x.2.2 b o e
section
variable{M:Model}{A:Around}{E:Value->Shared->Prop}{s:Shared}{base:Heap}{env:Env}{outer:List Env}{L e C:Addr}{P:Addr->Prop}{Q:Unit->Shared->Prop}
theorem qq{oe:Obj}{vs:Array Value}{head:Value}{had:Bool}(hfr:A.frames=some (env::outer))(hl:s.heap.FunFrames base (env::outer))(hf:env.frame=some L)(he:s.heap.get? e=some oe)(hc:oe.cls=.ref C/\oe.dict=none)(hd:oe.data=.fields vs)(h2:vs[2]?=some .none)
 (ne:¬ P e)(hP:∀ b,P b->b<s.heap.objs.size)(k:∀ h',Exc P e C true h'->Off1 P (frs (env::outer)) s.heap h'->Q () { s with heap:=h' }) :
  wpAny M A (do let fr <- frameOf env;let q <- entryPlaceOf L had;let t <- EntryCells.newEntry head fr .none (rawInt L) .none q;setField (.ref e) 1 t) (fun _ s2=>wpAny M A (setFlight (.ref e) none) Q E s2) E s:=by
 have efr:e∉(env::outer).filterMap (·.frame):=fun z=>by
  obtain⟨_,o,ho,hn⟩:=hl.mem z
  rw[he]at ho
  cases ho
  exact hn vs hd
 have z1:1<vs.size:=Nat.lt_trans (by decide) (Array.getElem?_eq_some_iff.mp h2).1
 apply wpAny_bind
 refine wpAny_frameOf_fun hfr hl hf fun g1 sl=>?_
 apply wpAny_bind
 refine wpAny_entryPlaceOf fun q hq=>?_
 unfold EntryCells.newEntry newFields
 apply wpAny_bind
 refine wpAny_newObj_type ?_ (hq.sizeOk5 _ _ _ _ _)
 have e1:g1.get? e=some oe:=(sl.2.1 e efr).trans he
 generalize hto:({ cls:=.type "traceback",dict:=none,data:=.fields ([head,.ref L,.none,rawInt L,.none]++(if q.isEmpty then List.replicate 6 Value.none else q)).toArray }:Obj)=to
 have e2:(g1.push to).get? e=some oe:=Heap.get?_push_of_some _ e1
 have te:g1.objs.size≠e:=Nat.ne_of_gt (Heap.lt_size e1)
 refine wpAny_setField e2 hd z1 ?_
 have d3:=Obj.data_mapFields hd (·.setIfInBounds 1 (Value.ref g1.objs.size))
 have e3:=Heap.get?_update_self (Obj.mapFields (·.setIfInBounds 1 (Value.ref g1.objs.size))) e2 (Obj.isFreed_of_fields d3)
 have tod:to.data=.fields ([head,.ref L,.none,rawInt L,.none]++(if q.isEmpty then List.replicate 6 Value.none else q)).toArray:=by rw[<-hto]
 have t3:=(Heap.get?_update_other (g1.push to) (Obj.mapFields (·.setIfInBounds 1 (Value.ref g1.objs.size))) (Ne.symm te)).trans (Heap.get?_push_size g1 (by rw[<-hto];rfl))
 unfold setFlight
 apply wpAny_bind
 refine wpAny_field e3 d3 (x:=.ref g1.objs.size) (by simp[z1]) ?_
 rw[if_pos (show(Value.ref g1.objs.size != Value.none)=true from by simp)]
 refine wpAny_setField t3 tod (by simp only[List.size_toArray,List.length_append,List.length_cons,List.length_nil]<;>omega) (k _ ?_ ?_)
 ·refine⟨_,_,(Heap.get?_update_other _ _ te).trans e3,⟨(Obj.cls_mapFields _ _).trans hc.1,vb.trans hc.2⟩,d3,by rw[Array.getElem?_setIfInBounds_ne (by decide)];exact h2,ne,.inr ⟨g1.objs.size,_,_,by simp[z1],te,Heap.get?_update_self _ t3 (Obj.isFreed_of_fields (Obj.data_mapFields tod _)),Obj.data_mapFields tod _,?_,fun z=>?_⟩⟩
  ·rw[Array.getElem?_setIfInBounds_self_of_lt (by simp only[List.size_toArray,List.length_append,List.length_cons,List.length_nil]<;>omega)]
   rfl
  ·have:=hP _ z
   rw[sl.1]at this
   exact Nat.lt_irrefl _ this
 ·refine(((Off1.slots sl).trans (Off1.ext _)).trans (Off1.uG ne _)).trans (Off1.uG (fun z=>?_) _)
  have:=hP _ z
  rw[sl.1]at this
  exact Nat.lt_irrefl _ this
theorem nB{tb:Bool}(hfr:A.frames=some (env::outer))(hl:s.heap.FunFrames base (env::outer))(hf:env.frame=some L)(x:Exc P e C tb s.heap)(hP:∀ b,P b->b<s.heap.objs.size)
 (k:∀ h',Exc P e C true h'->Off1 P (frs (env::outer)) s.heap h'->Q () { s with heap:=h' }) :
  wpAny M A (noteFrame (.ref e) env) (fun _ s2=>wpAny M A (setFlight (.ref e) none) Q E s2) E s:=by
 obtain⟨oe,vs,he,hc,hd,h2,ne,x⟩:=x
 unfold noteFrame
 simp only[hf]
 apply wpAny_bind
 rcases x with⟨_,h1⟩ | ⟨T,oT,ts,h1,hTe,hT,hdT,h3,nT⟩
 ·refine wpAny_field he hd h1 ?_
  rw[if_neg (by decide)]
  exact qq hfr hl hf he hc hd h2 ne hP k
 ·refine wpAny_field he hd h1 ?_
  rw[if_pos (show(Value.ref T != Value.none)=true from by simp)]
  apply wpAny_bind
  refine wpAny_field hT hdT h3 ?_
  rw[if_neg (show ¬ ((Value.none == rawInt L)=true)from by simp[rawInt])]
  apply wpAny_bind
  refine wpAny_setField hT hdT (Array.getElem?_eq_some_iff.mp h3).1 ?_
  have oth:∀ b,b≠T->(s.heap.update T (Obj.mapFields (·.setIfInBounds 3 Value.none))).get? b=s.heap.get? b:=fun b hb=>Heap.get?_update_other _ _ (Ne.symm hb)
  have up:Off1 P (frs (env::outer)) s.heap (s.heap.update T (Obj.mapFields (·.setIfInBounds 3 Value.none))):=Off1.uG nT _
  have hl':(s.heap.update T (Obj.mapFields (·.setIfInBounds 3 Value.none))).FunFrames base (env::outer):=hl.of_keeps fun b o hb hn=>⟨o,(oth b fun z=>by
   rw[z,hT]at hb
   cases hb
   exact hn ts hdT).trans hb,rfl⟩
  exact qq (s:={ s with heap:=s.heap.update T (Obj.mapFields (·.setIfInBounds 3 Value.none)) }) hfr hl' hf ((oth e (Ne.symm hTe)).trans he) hc hd h2 ne (fun b hb=>Nat.lt_of_lt_of_le (hP b hb) up.sz) fun h' x' o'=>k h' x' (up.trans o')
theorem vc{tb:Bool}(hfr:A.frames=some (env::outer))(hl:s.heap.FunFrames base (env::outer))(hf:env.frame=some L)(x:Exc P e C tb s.heap)(hP:∀ b,P b->b<s.heap.objs.size)
 (k:∀ h',Exc P e C true h'->Off1 P (frs (env::outer)) s.heap h'->Q () { s with heap:=h' }):wpAny M A (leaving env (.ref e)) Q E s:=by
 unfold leaving
 exact wpAny_bind (nB hfr hl hf x hP k)
end
theorem bf.there{P:Program}{w:World}{H:Hp}{h:Heap}{a:Addr}{o:HO}(x:bf P w H h a o):∃ u,h.get? a=some u:=by
 cases o with
 | lst xs=>obtain⟨_,_,_,_,e⟩:=x;exact⟨_,e⟩
 | tup xs=>obtain⟨_,_,_,o,e,_⟩:=x;exact⟨_,e⟩
 | dK kvs=>obtain⟨_,_,_,_,o,_,_,e,_⟩:=x;exact⟨_,e⟩
 | dT kvs=>obtain⟨_,_,_,_,o,_,_,e,_⟩:=x;exact⟨_,e⟩
 | set S n=>obtain⟨o,_,_,_,e,_⟩:=x;exact⟨_,e⟩
 | ins C dx fs=>obtain⟨_,_,_,e,_⟩:=x;exact⟨_,e⟩
 | own y=>exact x
 | xd fs=>obtain⟨_,⟨_,_,_,e,_⟩,_⟩:=x;exact⟨_,e⟩
 | rng lo hi=>obtain⟨_,_,_,e⟩:=x;exact⟨_,e⟩
 | frz ob u=>exact⟨_,x.1⟩
 | tbl ps=>exact⟨_,x⟩
 | met f y=>exact⟨_,x⟩
 | ext φ=>exact x.2.1
noncomputable def fG(h:Heap)(H:Hp)(b:Addr):Prop:=(∃ o,h.get? b=some o)\/H b≠none
theorem Exc.mono{P P':Addr->Prop}{e C:Addr}{tb:Bool}{h:Heap}(x:Exc P e C tb h)(k:∀ b,P' b->P b):Exc P' e C tb h:=by
 obtain⟨oe,vs,h1,h2,h3,h4,h5,h6⟩:=x
 refine⟨oe,vs,h1,h2,h3,h4,fun z=>h5 (k _ z),h6.imp (fun z=>z) fun⟨T,oT,ts,a1,a2,a3,a4,a5,a6⟩=>⟨T,oT,ts,a1,a2,a3,a4,a5,fun z=>a6 (k _ z)⟩⟩
noncomputable def CXE(P:Program)(w:World):CXT:=fun outer H s E e s'=>∃ x C H',e=.ref x/\E (.ref C) none H'/\s'.os=s.os/\AllBare s'.gens/\Un (frs outer) [] H H' s.heap s'.heap/\HOk P w H' s'.heap/\Exc (fG s.heap H') x C true s'.heap
section
variable{X:Cx}{pins:List (Addr × Obj)}{σ:St}{H:Hp}{s:Shared}
theorem Inv.old(I:Inv X pins σ H s)(hex:X.ex=[]){b:Addr}{o:Obj}(e:X.s₀.heap.get? b=some o):∃ o',s.heap.get? b=some o':=I.base.there b o e (by rw[hex];simp)
theorem qG{e C:Addr}{tb:Bool}{EE:XK}{A:Around}{E':Value->Shared->Prop}(I:Inv X pins σ H s)(hst:X.stack=X.env::X.outer)(hfrm:X.env.frame=some X.env.locals)(hex:X.ex=[])(x:Exc (fG X.s₀.heap H) e C tb s.heap)(hE:EE (.ref C) none H)(hA:A.frames=some (X.env::X.outer)) :
  wpAny (model X.prog X.w) A (leaving X.env (.ref e)) (fun _ s2=>CXE X.prog X.w X.outer X.H₀ X.s₀ EE (.ref e) s2) E' s:=by
 have hl:=I.stack
 rw[hst]at hl
 have hfr:∀ b∈frs (X.env::X.outer),H b=none:=by
  have:=I.jI
  rw[hst]at this
  exact this
 have hP:∀ b,fG X.s₀.heap H b->b<s.heap.objs.size:=fun b hb=>by
  rcases hb with⟨o,e⟩ | hb
  ·exact Nat.lt_of_lt_of_le (Heap.lt_size e) I.sz
  ·obtain⟨o,ho⟩:=Option.ne_none_iff_exists'.mp hb
   exact I.hok.lt ho
 refine vc hA hl hfrm x hP fun h' x' o'=>?_
 have fsE:X.fs=frs X.outer:=rfl
 have mem:∀ b o,X.s₀.heap.get? b=some o->b∉frs X.outer->b∉frs (X.env::X.outer):=fun b o e n z=>by
  unfold frs at z
  rw[List.filterMap_cons,hfrm]at z
  rcases List.mem_cons.mp z with z | z
  ·have h1:=Heap.lt_size e
   have h2:=I.ok.above
   rw[z]at h1
   exact Nat.lt_irrefl _ (Nat.lt_of_lt_of_le h1 h2)
  ·exact n z
 have mem2:∀ b,b∈frs X.outer->b∈frs (X.env::X.outer):=fun b z=>by
  unfold frs
  rw[List.filterMap_cons,hfrm]
  exact List.mem_cons_of_mem _ z
 have nex:∀ b:Addr,b∉X.ex:=fun b=>by rw[hex];simp
 refine⟨e,C,H,rfl,hE,I.os,I.bare,⟨fun b o q n hb _=>?_,fun b o q n hb _=>?_,fun b o q n _=>I.base.free b o q n (nex b),fun b o q _=>?_,I.base.eB,I.base.cJ,I.base.eA⟩,fun a o q=>?_,x'⟩
 ·exact o'.keep b o (.inl ⟨o,q⟩) (mem b o q hb) (I.base.keep b o q n hb (nex b))
 ·obtain⟨sl,q2⟩:=I.base.slot b o q n hb (nex b)
  obtain⟨sl2,q3⟩:=o'.slot b _ (.inl ⟨o,q⟩) (mem2 b hb) q2
  exact⟨sl2,q3⟩
 ·obtain⟨o1,q1⟩:=I.base.there b o q (nex b)
  by_cases hb:b∈frs (X.env::X.outer)
  ·obtain⟨sl,q2⟩:=o'.slot b _ (.inl ⟨o,q⟩) hb q1
   exact⟨_,q2⟩
  ·exact⟨_,o'.keep b _ (.inl ⟨o,q⟩) hb q1⟩
 ·refine(I.hok a o q).je (fun b u hb r=>?_) (fun _ z=>z) fun _ _ z=>z
  have hn:H b≠none:=by
   rcases hb with rfl | hb
   ·rw[q];exact fun z=>nomatch z
   ·rw[hb];exact fun z=>nomatch z
  exact o'.keep b u (.inr hn) (fun z=>hn (hfr b z)) r
theorem Inv.refused{E:XK}{e:Value}{s':Shared}(I:Inv X pins σ H s)(hex:X.ex=[])(h:CXE X.prog X.w X.stack H s E e s'):∃ x C H',e=.ref x/\E (.ref C) none H'/\Inv X pins σ H' s'/\Exc (fG X.s₀.heap H') x C true s'.heap/\Exc (fG s.heap H') x C true s'.heap/\Un (frs X.stack) [] H H' s.heap s'.heap:=by
 obtain⟨x,C,H',rfl,hE,os,bare,un,hok,ex⟩:=h
 obtain⟨hh,g,d,t,os'⟩:=s'
 obtain rfl:os'=s.os:=os
 refine⟨x,C,H',rfl,hE,I.call (h':=hh) (g':=g) (d':=d) (t':=t) (ch:=[]) un hok bare (fun b z=>absurd z (by simp)),ex.mono fun b hb=>?_,ex,un⟩
 rcases hb with⟨o,q⟩ | hb
 ·exact .inl (I.old hex q)
 ·exact .inr hb
theorem pB{h':Heap}{e C:Addr}{vs:List Value}{P:Program}{w:World}{h:Heap}(hok:HOk P w H h)(m:Heap.MadeExcOf h h' e (.ref C) vs):Exc (fG h H) e C false h':=by
 obtain⟨t,he,_,_⟩:=m.there
 refine⟨_,_,he,⟨rfl,rfl⟩,rfl,rfl,fun z=>?_,.inl ⟨rfl,rfl⟩⟩
 have hn:=m.new
 rcases z with⟨o,q⟩ | z
 ·rw[hn]at q
  cases q
 ·obtain⟨o,ho⟩:=Option.ne_none_iff_exists'.mp z
  obtain⟨u,q⟩:=(hok e o ho).there
  rw[hn]at q
  cases q
theorem Inv.newExc{h':Heap}{e C:Addr}{vs:List Value}(I:Inv X pins σ H s)(hex:X.ex=[])(m:Heap.MadeExcOf s.heap h' e (.ref C) vs):Inv X pins σ H { s with heap:=h' }/\Exc (fG X.s₀.heap H) e C false h' :=
 ⟨I.kept (t':=s.toks) m.keeps,(pB I.hok m).mono fun b hb=>hb.imp (fun⟨o,q⟩=>I.old hex q) fun z=>z⟩
end
open PySem.W
section
variable{prog:Program}{w:World}{A:Around}{E:Value->Shared->Prop}{s:Shared}{K:PySem.W.Frag}{x D:Addr}{ox:Obj}
structure qc(K:PySem.W.Frag)(D:Addr):Prop where
 ga:findIn K (.ref D) "__getattribute__" = some (some (.builtin "BaseException.__getattribute__"))
 gn:findIn K (.ref D) "__getattr__" = some none
 fo:findObj K D none "__class__" = some (.bind (.builtin "getset_descriptor.__get__") (.builtin "object.__class__"))
 mo:mroIn K D (.type "object")=some true
 mb:subIn K (.ref D) (.type "BaseException")=some true
 is:(clsIn K D).isSome=true
theorem CL{Q:Option Value->Shared->Prop}(F:qc K D)(X:K.In s.heap)(I:InstAt s.heap x ox D none)(h:Q (some (.ref D)) { s with toks:=s.toks+1 }):wpAny (model prog w) A (getAttr? (.ref x) "__class__") Q E s:=by
 have L0:=I.type (M:=model prog w)
 have L1:=looks_findIn (M:=model prog w) X F.ga
 have L2:=looks_findIn (M:=model prog w) X F.gn
 have L3:=looks_find (M:=model prog w) X I F.fo
 have L4:=looks_subIn (M:=model prog w) X F.mb
 have cg:=fun(A:Around) (R:Result->Shared->Prop) (t:Nat)=>class_get (prog:=prog) (w:=w) (A:=A) (R:=R) (tp:=.ref D) (s:={ s with toks:=t }) X I F.mo
 obtain⟨hh,g,d,t,os⟩:=s
 unfold getAttr? getAttrBy? getAttrBy
 refine wpAny_bind (wpAny_mkText (wpAny_bind (wpAny_attempt (wpAny_holding (wpAny_bind (L0.at (wpAny_bind (L1.at ?_))))))))
 have n0:¬ ((onTheHeap (Value.ref D)&&(Value.builtin "BaseException.__getattribute__" == Value.builtin "object.__getattribute__"))=true):=by
  have:(Value.builtin "BaseException.__getattribute__" == Value.builtin "object.__getattribute__")=false:=by decide +kernel
  rw[this,Bool.and_false]
  exact Bool.false_ne_true
 dsimp only
 rw[if_neg n0]
 unfold getAttrByItsOwn hookBefore
 rw[if_pos (show onTheHeap (Value.ref D)=true from rfl)]
 refine wpAny_bind (L2.at ?_)
 unfold callGetattribute boundAndCalled
 rw[if_neg (show ¬ ((false&&onTheHeap (Value.builtin "BaseException.__getattribute__"))=true)from Bool.false_ne_true)]
 refine wpAny_bind (wpAny_attempt (wpAny_holding (wpAny_bind (wpAny_of_eq (PySem.F.attrBase_ValueError.ga.bind (.ref x)) ?_))))
 refine wpAny_call (codeAny_call_builtin PySem.F.attrBase_ValueError.ga.plain PySem.F.entry_bexc_ga ?_)
 have hk:builtinKind "BaseException.__getattribute__" = some .slot:=by decide +kernel
 have hsplit:splitId "BaseException.__getattribute__" = some ("BaseException", "__getattribute__"):=by decide +kernel
 have ha:=PySem.F.args_bexc_ga (.ref x) (.str "__class__" t)
 simp only[checkBuiltinCall,hk,hsplit]
 unfold isInstance
 repeat (any_goals (first | assumption | exact L0 | (with_reducible refine L0.at ?_) | (with_reducible refine L4.at ?_) | (with_reducible refine L3.at ?_) | (with_reducible refine wpAny_bind (L3.at ?_)) | wp_step))
 refine cg _ _ _ ?_
 refine wpAny_pure ?_
 exact wpAny_of_eq (handedOut_of rfl) (wpAny_pure h)
theorem pO(F:qc K D):KitX K (.ref x) (.ref D) (fun h=>InstAt h x ox D none) where
 ty:=fun _ _ _ I=>I.type
 it:=fun M h X _=>by
  have z:=F.is
  unfold clsIn at z
  split at z
  ·rename_i ho
   intro A' Q' E' s' k q
   unfold isType loadHead
   exact wpAny_bind (wpAny_loadPart (k _ _ (X _ _ ho)) (wpAny_pure q))
  ·cases z
 ne:=fun h tp dd its n sl X htp=>by
  refine Bool.eq_false_iff.mpr fun q=>?_
  have e:D=tp:=Value.ref.inj (beq_iff_eq.mp q)
  subst e
  have z:=F.is
  unfold clsIn at z
  split at z
  ·rename_i ho
   cases(X _ _ ho).symm.trans htp
  ·cases z
 ca:=fun X I k=>CL F X I k
end
section
variable{X:Cx}{pos:Pos}
theorem mQ{es:List Expr}{k:Nat}{t:TGs}{n:Nat}(h:PGs X es t)(hn:(assignEach es X.env).length=n)(hst:(assignEach es X.env).findIdx? (·.1)=none):PG X (.Tuple es k pos) (mF X.K n t):=by
 intro pins s σ H v u Q I r hw
 obtain⟨a,xs,e1,hq,hl,hw⟩:=hw
 subst e1
 cases r
 obtain⟨its,rv,ht,hz⟩:=I.tuple hq
 have hsz:(assignEach es X.env).length=its.toArray.size:=by rw[hn,<-hl,rv.length,List.size_toArray]
 rw[PyProof.Rows.assign_Tuple]
 refine wpAny_bind (wpAny_standAt ?_)
 unfold unpack
 rw[hsz,hst]
 refine wpAny_bind (wpAny_holding (ub I.hd ht fun h' hx=>?_))
 exact h pins _ σ H xs _ Q (I.kept (t':=s.toks) fun b o e=>hx b o (Nat.ne_of_lt (Heap.lt_size e)) e) (by simpa using rv) hw
theorem mJ{es:List Expr}{k:Nat}{t:TGs}{n:Nat}(h:PGs X es t)(hn:(assignEach es X.env).length=n)(hst:(assignEach es X.env).findIdx? (·.1)=none):PG X (.Tuple es k pos) (RS.mR X.K n t):=by
 intro pins s σ H v u Q I r hw
 obtain⟨a,xs,e1,hq,hl,hw⟩:=hw
 subst e1
 cases r
 obtain⟨its,rv,ht,hz⟩:=I.list hq
 have hsz:(assignEach es X.env).length=its.toArray.size:=by rw[hn,<-hl,rv.length,List.size_toArray]
 rw[PyProof.Rows.assign_Tuple]
 refine wpAny_bind (wpAny_standAt ?_)
 unfold unpack
 rw[hsz,hst]
 refine wpAny_bind (wpAny_holding (u6 I.hd ht.isList fun h' hx=>?_))
 exact h pins _ σ H xs _ Q (I.kept (t':=s.toks) fun b o e=>hx b o (Nat.ne_of_lt (Heap.lt_size e)) e) (by simpa using rv) hw
end
section
variable{X:Cx}
theorem PA.nox{es:List Expr}{t:TA}(h:PA X.nox es t):PA X es t:=fun pos pins s σ H Q I hw =>
 wpAny_mono (h pos pins s σ H Q (I.dR _) hw) (fun _ _ ⟨v,H',I',r,q⟩=>⟨v,H',I'.c6,r,q⟩) fun _ _ z=>False.elim z
theorem PS.nox{st:Stmt}{t:TS}(h:PS X.nox st t):PS X st t:=fun pins s σ H D I hw =>
 wpAny_mono (h pins s σ H D (I.dR _) hw) (fun _ _ q=>q.c6) fun _ _ z=>False.elim z
theorem PG.nox{tg:Expr}{t:TG}(h:PG X.nox tg t):PG X tg t:=fun pins s σ H v u Q I r hw =>
 wpAny_mono (h pins s σ H v u Q (I.dR _) r hw) (fun _ _ ⟨σ',H',I',q⟩=>⟨σ',H',I'.c6,q⟩) fun _ _ z=>False.elim z
theorem PI.nox{tg iter:Expr}{wi:TI}(h:PI X.nox tg iter wi):PI X tg iter wi:=fun pins s σ H R I hw =>
 wpAny_mono (h pins s σ H R (I.dR _) hw) (fun _ _ h1=>wpAny_mono h1 (fun _ _ ⟨it,fp,tn,J,H',e,I',T,t0,f,r⟩=>⟨it,fp,tn,J,H',e,I'.c6,T,t0,f,r⟩) fun _ _ z=>False.elim z) fun _ _ z=>False.elim z
theorem oW{CX:CXT}{k:Nat}{f:Addr}{fd:FuncData}{ps:List Str}{sp:Sp}{EX:St->XK}{x:Str}{p pos:Pos}{e:Expr}{es:List Expr}{t:TA}(F:dO X.prog X.w X.K X.mg X.base CX k f fd ps sp)(hr:cq k X.A)(hg:Gl X x)(hm:X.mg x=some (.ref f))(hk:PySem.W.keepIn X.K (.ref f)=true)
 (hb:Binds X.K fd ps [])(hx:∀ pins σ H s e s',Inv X pins σ H s->CX X.stack H s (EX σ) e s'->X.xe e s')(ha:PA X (e::es) t)(hdb:(x == ("__debug__" : Str))=false)(he:starEach (e::es) X.env=(false,eval e X.env)::starEach es X.env)(hpl:(backTo pos (starEach es X.env)).any (·.1)=false) :
  PE X (.Call (.Name x p) (e::es) [] pos) (fun σ H Q=>t σ H fun vs H1=>sp vs H1 Q (EX σ)):=by
 intro pins s σ H Q I h
 refine wpAny_Call_Name_kw (fY I hg hm ?_ hdb)
 refine PySem.W.callWith_K (h₀:=X.base) I.ok.mod.kin hk (thn (ha pos pins s σ H _ I h) fun us s1 ⟨vs,H1,I1,r,q⟩=>⟨I1.kIn,?_⟩) he hpl
 have hl:us.length=ps.length:=by rw[<-r.length];exact F.len _ _ _ _ q
 have hbb:=hb s1 us I1.kIn (by rw[List.append_nil];exact hl)
 rw[List.append_nil]at hbb
 refine wpAny_call (codeAny_mono (F.run X.A X.stack s1 H1 ⟨us,[]⟩ us vs Q (EX σ) hr I1.yP hbb r q) fun r s' hq=>?_)
 cases r with
 | error e=>exact hx pins σ H1 s1 e s' I1 hq
 |ok fl=>
  cases fl with
  | ret u=>exact I1.after hq
  | next=>exact False.elim hq
  | brk=>exact False.elim hq
  | cont=>exact False.elim hq
end
end L2
namespace RS
open PySem PySem.Spec PyProof.Rows L2
noncomputable def spX(K:PySem.W.Frag)(cl:RL.Cl)(f:Nat):Sp:=fun vs H _ E=>∃ ds x,ae nP K H ds vs/\RL.clX cl f ds=some x/\∀ C H',Cls K x C->aq H H'->E (.ref C) none H'
noncomputable def tXE(K:PySem.W.Frag)(cl:RL.Cl)(EX:L2.St->XK)(e:RL.E):TE:=fun σ H _=>∃ σD x,RV0 K σD σ H/\RL.evX cl σD e=some x/\∀ C H1,Cls K x C->aq H H1->EX σ (.ref C) none H1
noncomputable def tXA(K:PySem.W.Frag)(cl:RL.Cl)(EX:L2.St->XK)(es:RL.Es):TA:=fun σ H _=>∃ σD x,RV0 K σD σ H/\RL.mE cl σD es=some x/\∀ C H1,Cls K x C->aq H H1->EX σ (.ref C) none H1
noncomputable def RE(X:Cx)(EX:L2.St->XK)(cl:RL.Cl)(e:Expr)(e':RL.E):Prop:=PE X e (tXE X.K cl EX e')
noncomputable def RA(X:Cx)(EX:L2.St->XK)(cl:RL.Cl)(es:List Expr)(es':RL.Es):Prop:=PA X es (tXA X.K cl EX es')
noncomputable def tXS(K:PySem.W.Frag)(M:List Nat)(EX:L2.St->XK)(r:RL.St->Option (Str × RL.St)):TS:=fun _ σ H=>∃ σD x σD',RVm K M σD σ H/\r σD=some (x,σD')/\∀ σ1 H1 C,Cls K x C->RVm K M σD' σ1 H1->Fr' M σ H σ1 H1->EX σ1 (.ref C) none H1
noncomputable def RZ(X:Cx)(EX:L2.St->XK)(cl:RL.Cl)(M:List Nat)(st:Stmt)(s:RL.S):Prop:=PS X st (tXS X.K M EX (RL.iA cl M s))
noncomputable def RZs(X:Cx)(EX:L2.St->XK)(cl:RL.Cl)(M:List Nat)(st:List Stmt)(s:RL.Ss):Prop:=PSs X st (tXS X.K M EX (RL.bN cl M s))
section
variable{X:Cx}{EX:L2.St->XK}{cl:RL.Cl}{M:List Nat}{st:Stmt}{sts:List Stmt}{e:Expr}{es:List Expr}{e':RL.E}{es':RL.Es}{i:Nat}
theorem aN(h:∀ σD,RL.evX cl σD e'=none):RE X EX cl e e':=fun pins s σ H Q I ⟨σD,x,_,z,_⟩=>by
 rw[h]at z
 cases z
theorem iG{s':RL.S}(h:∀ σD,RL.iA cl M s' σD=none):RZ X EX cl M st s':=fun pins s σ H Q I ⟨σD,x,_,_,z,_⟩=>by
 rw[h]at z
 cases z
theorem Eh:RA X EX cl es .nil:=fun pos pins s σ H Q I ⟨σD,x,_,z,_⟩=>by
 rw[RL.mE]at z
 cases z
theorem Bl(he:SE X cl e e')(hx:RE X EX cl e e')(hr:RA X EX cl es es')(hs:starEach (e::es) X.env=(false,eval e X.env)::starEach es X.env):RA X EX cl (e::es) (.cons e' es'):=by
 intro pos pins s σ H Q I h
 obtain⟨σD,x,rv,z,k⟩:=h
 rw[RL.mE]at z
 cases hev:RL.ev cl σD e' with
 |some d=>
  rw[hev]at z
  exact bh he hr hs pos pins s σ H Q I ⟨σD,d,rv,hev,fun v H1 r1=>⟨σD,x,rv.same r1.same,z,fun C H2 hc sm=>k C H2 hc (r1.same.trans sm)⟩⟩
 |none=>
  rw[hev]at z
  exact bh hx hr hs pos pins s σ H Q I ⟨σD,x,rv,z,k⟩
theorem A1{f:Nat}{x:Str}{p pos:Pos}{k:Nat}{fa:Addr}{fd:FuncData}{ps:List Str}(F:dO X.prog X.w X.K X.mg X.base (CXE X.prog X.w) k fa fd ps (spX X.K cl f))(hr:cq k X.A)(hg:Gl X x)
 (hm:X.mg x=some (.ref fa))(hk:PySem.W.keepIn X.K (.ref fa)=true)(hb:Binds X.K fd ps [])(hx:∀ pins σ H s e s',Inv X pins σ H s->CXE X.prog X.w X.stack H s (EX σ) e s'->X.xe e s')(he:SEs X cl (e::es) es')(ha:RA X EX cl (e::es) es')(hdb:(x == ("__debug__" : Str))=false)(hn:noStar e=true)(hns:es.all noStar=true) :
  RE X EX cl (.Call (.Name x p) (e::es) [] pos) (.call f es'):=by
 intro pins s σ H Q I h
 obtain⟨σD,y,rv,z,k⟩:=h
 rw[RL.evX]at z
 cases hev:RL.evs cl σD es' with
 |some ds=>
  rw[hev]at z
  exact oW F hr hg hm hk hb hx he hdb (ao es hn) (cj hns) pins s σ H Q I ⟨σD,ds,rv,hev,fun vs H1 s1 r1=>⟨ds,y,r1,z,fun C H2 hc sm=>k C H2 hc (s1.trans sm)⟩⟩
 |none=>
  rw[hev]at z
  exact oW F hr hg hm hk hb hx ha hdb (ao es hn) (cj hns) pins s σ H Q I ⟨σD,y,rv,z,k⟩
theorem oN{s':RL.S}{g:Ends->L2.St->VK}(h:PS X st (fun D σ H=>tXE X.K cl EX e' σ H (g D σ)))(he:∀ σD,RL.iA cl M s' σD=(RL.evX cl σD e').map fun x=>(x,σD)):RZ X EX cl M st s':=by
 refine PS.weak h fun D σ H h=>?_
 obtain⟨σD,x,σD',rv,z,k⟩:=h
 rw[he]at z
 obtain⟨y,z1,z2⟩:=map_some z
 cases z2
 exact⟨σD,x,rv.rv0,z1,fun C H1 hc sm=>k σ H1 C hc (rv.same sm) (Fr'.same sm)⟩
theorem AS:RZs X EX cl M sts .nil:=fun pins s σ H Q I ⟨σD,x,_,_,z,_⟩=>by
 rw[RL.bN]at z
 cases z
theorem xI{s:RL.S}{r:RL.Ss}(h1:SS X cl M st s)(h2:RZ X EX cl M st s)(h3:RZs X EX cl M sts r):RZs X EX cl M (st::sts) (.cons s r):=by
 intro pins sh σ H D I h
 obtain⟨σD,x,σD',rv,z,k⟩:=h
 rw[RL.bN]at z
 cases hev:RL.evS cl M s σD with
 |some p=>
  obtain⟨o,σ1⟩:=p
  rw[hev]at z
  cases o with
  | nx=>exact kH h1 h3 pins sh σ H D I ⟨σD,.nx,σ1,rv,hev,fun σ2 H2 rv2 fr2=>⟨σ1,x,σD',rv2,z,fun σ3 H3 C hc rv3 fr3=>k σ3 H3 C hc rv3 (fr2.trans fr3)⟩⟩
  | rt d=>cases z
 |none=>
  rw[hev]at z
  exact kH h2 h3 pins sh σ H D I ⟨σD,x,σD',rv,z,k⟩
theorem EC{c:Expr}{a b:List Stmt}{c':RL.E}{a' b':RL.Ss}{pos:Pos}(hc:ST X cl c c')(ha:RZs X EX cl M a a')(hb:RZs X EX cl M b b'):RZ X EX cl M (.If c a b pos) (.ife c' a' b'):=by
 refine PS.weak (zy hc ha hb) fun D σ H h=>?_
 obtain⟨σD,x,σD',rv,z,k⟩:=h
 rw[RL.iA]at z
 obtain⟨t,z1,z2⟩:=bind_some z
 refine⟨σD,t,rv.rv0,z1,fun H1 sm=>?_⟩
 have kk:∀ σ1 H2 C,Cls X.K x C->RVm X.K M σD' σ1 H2->Fr' M σ H1 σ1 H2->EX σ1 (.ref C) none H2:=fun σ1 H2 C hc r f=>k σ1 H2 C hc r ((Fr'.same sm).trans f)
 cases t with
 | true=>exact fJ ⟨σD,x,σD',rv.same sm,z2,kk⟩
 | false=>exact gm ⟨σD,x,σD',rv.same sm,z2,kk⟩
end
section
variable{X:Cx}{EX:L2.St->XK}{cl:RL.Cl}{M:List Nat}{tgE iter:Expr}{body:List Stmt}{b:RL.Ss}{it:RL.It}{tg:List Nat}{pos:Pos}
theorem ug{f:RL.St->Option (RL.Out × RL.St)}{fx:RL.St->Option (Str × RL.St)}{d:RL.D}{ds:List RL.D}{σ:RL.St}{p:Str × RL.St}(h:RL.d4 f fx tg (d::ds) σ=some p):d.imm=true/\∃ σ1,RL.aO tg d σ=some σ1 /\
  ((∃ σ2,f σ1=some (.nx,σ2)/\RL.d4 f fx tg ds σ2=some p)\/fx σ1=some p):=by
 rw[RL.d4]at h
 by_cases him:d.imm=true
 case neg=>rw[if_neg him]at h;cases h
 rw[if_pos him]at h
 obtain⟨σ1,h1,h⟩:=bind_some h
 refine⟨him,σ1,h1,?_⟩
 cases hf:f σ1 with
 | none=>rw[hf]at h;exact .inr h
 |some q=>
  obtain⟨o,σ2⟩:=q
  rw[hf]at h
  cases o with
  | nx=>exact .inl ⟨σ2,rfl,h⟩
  | rt d=>cases h
theorem D0(hp:PassesOwn (model X.prog X.w) X.A X.env X.xe)(hc:X.calm=true)(hi:SI X cl tgE iter it)(hg:PG X tgE (gT X.K tg))(hb:SSs X cl M body b)(hbx:RZs X EX cl M body b)(hs:∀ x,foldedSetIterable iter X.env x=pure x)(hav:RL.qV M it=true)(hM:∀ i∈tg,M.contains i=false) :
  RZ X EX cl M (.For tgE iter body [] pos) (.forr tg it b):=by
 have both:PSs X body (fun D σ H=>tS X.K M (RL.ak cl M b) D σ H\/tXS X.K M EX (RL.bN cl M b) D σ H):=fun pins s σ H D I h=>h.elim (hb pins s σ H D I) (hbx pins s σ H D I)
 refine PS.weak (x9 hp hc hi hg both hs) fun D σ H h=>?_
 obtain⟨σD,x,σD',rv,e,k⟩:=h
 rw[RL.iA]at e
 obtain⟨ds,e1,e2⟩:=bind_some e
 refine⟨σD,ds,rv.rv0,e1,fun J H1 s1 src=>?_⟩
 have ok:iX X.K J ds (aV M σ) H1:=src.2 M (aV M σ) hav rv.tZ fun j dj vj hj h1 h2=>by
  obtain⟨v',h3,h4⟩:=rv.val j dj h1
  rw[h2]at h3
  cases h3
  rw[if_neg (by rw[hj];decide)]at h4
  exact h4
 refine⟨fun i m σ2 H2=>∃ σD2,m=ds.length-i/\i<=ds.length/\RVm X.K M σD2 σ2 H2/\Fr' M σ H1 σ2 H2/\RL.d4 (RL.ak cl M b) (RL.bN cl M b) tg (ds.drop i) σD2=some (x,σD'),⟨_,σD,rfl,Nat.zero_le _,rv.same s1,Fr'.same (aq.refl _),e2⟩,?_⟩
 rintro i m σ2 H2 ⟨σD2,rfl,hi2,rv2,fr2,hl⟩
 have off:Off (aV M σ) H1 H2:=fun b o n e=>(fr2.1 b o e n).1
 by_cases hlt:i<ds.length
 ·refine .inr ⟨ok.go H2 i off hlt,fun σ' H'=>∃ m',m'<ds.length-i/\∃ σD2,m'=ds.length-(i+1)/\i+1<=ds.length/\RVm X.K M σD2 σ' H'/\Fr' M σ H1 σ' H'/\RL.d4 (RL.ak cl M b) (RL.bN cl M b) tg (ds.drop (i+1)) σD2=some (x,σD'),fun σ' H' z=>z,fun y H3 yl=>?_⟩
  rw[List.drop_eq_getElem_cons hlt]at hl
  obtain⟨him,σ3,h1,h2⟩:=ug hl
  obtain⟨s3,rp⟩:=ok.yld H2 i ds[i] y H3 off (by simp[hlt]) yl
  obtain⟨dv,vs,q1,q2,q3,q4,q5⟩:=tM h1 (rp (.inl him))
  refine q5 _ _ ?_
  obtain⟨rv3,as3⟩:=(rv2.same s3).bF hM q2 (q4 him) q3
  have fr3:Fr' M σ H1 (cL tg vs σ2) H3:=⟨fun b o e n=>⟨s3 _ _ (fr2.1 b o e n).1,by rw[as3];exact(fr2.1 b o e n).2⟩,fun j hj=>(kZ hM hj).trans (fr2.2 j hj)⟩
  rcases h2 with⟨σ4,h2,h3⟩ | h2
  ·exact .inl ⟨σ3,.nx,σ4,by rw[q1];exact rv3,h2,fun σ' H' rv' fr'=>⟨_,by lia,σ4,rfl,hlt,rv',fr3.trans fr',h3⟩⟩
  ·exact .inr ⟨σ3,x,σD',by rw[q1];exact rv3,h2,fun σ' H' C hc rv' fr'=>k σ' H' C hc rv' (((Fr'.same s1).trans fr3).trans fr')⟩
 ·have e:i=ds.length:=by lia
  subst e
  rw[List.drop_length,RL.d4]at hl
  cases hl
end
end RS
namespace L2
open PySem PySem.Spec PyProof.Rows
open RS (VE)
theorem rO{K:PySem.W.Frag}{h:Heap}{C:Addr}(X:K.In h)(q:PySem.W.excIn K C VE "ValueError.__new__" = true):∃ bm N nm qn bs hdct sn sub ab col dd k0 k1 k2 k3 k5 mN,h.get? C=some (excClassObj nm qn C N bs bm hdct sn sub ab col dd k0 k1 k2 k3 k5 "ValueError.__new__")/\h.Ns N mN/\mN "__init__" = none/\OwnTail h VE bm:=by
 unfold PySem.W.excIn at q
 split at q
 ·rename_i dd cd sl ho
  split at q
  ·rename_i C' bm k0 k1 k2 k3 n k5 hm hs
   simp only[Bool.and_eq_true,beq_iff_eq,Bool.not_eq_true']at q
   obtain⟨⟨⟨⟨⟨rfl,rfl⟩,hdel⟩,ht⟩,hok⟩,hni⟩:=q
   obtain⟨nm,bs,mro,ns,qn,hd,sn,sub,ab,col,del⟩:=cd
   dsimp only at hm hdel hok hni
   subst hm hdel
   obtain⟨l⟩:=sl
   simp only at hs
   subst hs
   exact⟨bm,ns,nm,qn,bs,hd,sn,sub,ab,col,dd,k0,k1,k2,k3,k5,_,X _ _ ho,.of_isNs (PySem.W.isNs_of_in X hok),PySem.W.nsMap_none_of_in X hok hni,PySem.W.tail_of_in X ht⟩
  ·cases q
 ·cases q
section
variable{X:Cx}{x:Str}{C:Addr}{np cpos pos:Pos}{arg:Expr}{ta:TE}{EX:St->XK}
theorem xP(hh:X.A.handled=none)(hg:Gl X x)(hm:X.mg x=some (.ref C))(hdb:(x == ("__debug__" : Str))=false)(q:PySem.W.excIn X.K C VE "ValueError.__new__" = true)(hk:∀ pins σ H s h' e vs,Inv X pins σ H s->Heap.MadeExcOf s.heap h' e (.ref C) vs->EX σ (.ref C) none H->X.xe (.ref e) { s with heap:=h' })
 (ha:PA X [arg] (iZ ta kL))(hs:starEach [arg] X.env=[(false,eval arg X.env)]):PS X (.Raise (some (.Call (.Name x np) [arg] [] cpos)) none pos) (fun _ σ H=>ta σ H fun v H1=>[v].length<=sizeLine/\EX σ (.ref C) none H1):=by
 intro pins s σ H D I h
 obtain⟨bm,N,nm,qn,bs,hdct,sn,sub,ab,col,dd,k0,k1,k2,k3,k5,mN,hC,hN,hni,T⟩:=rO I.ok.mod.kin q
 refine wpAny_Raise_call_subT (C:=C) (nm:=nm) (q:=qn) (N:=N) (bs:=bs) (bm:=bm) (hdct:=hdct) (sn:=sn) (sub:=sub) (ab:=ab) (col:=col) (dd:=dd) (k0:=k0) (k1:=k1) (k2:=k2) (k3:=k3) (k5:=k5) PySem.F.excBase_ValueError (mN:=mN) (T.hasType PySem.F.excBase_ValueError.hasBase) hh (by rw[hs];rfl) hni (fY I hg hm ⟨rfl,?_⟩ hdb)
 have ha':=ha cpos pins s σ H (fun vs H1=>vs.length<=sizeLine/\EX σ (.ref C) none H1) I h
 rw[hs]at ha' ⊢
 refine Calls.evalArgs_plain (thn ha' fun us s1 ⟨vs,H1,I1,r,q1⟩=>?_)
 exact⟨rfl,by rw[<-r.length];exact q1.1,I1.bk _ _ hC,hN.keeps I1.bk,T.keeps I1.bk,fun h' e m=>hk pins σ H1 s1 h' e us I1 m q1.2⟩
noncomputable def PJ(X:Cx)(vs:List Expr)(t:TA):Prop:=∀ (pins:List (Addr × Obj)) (s:Shared) (σ:St) (H:Hp) (Q:Hp->Prop) (out:Str),Inv X pins σ H s->t σ H (fun _ H1=>Q H1)->out.length+3000*vs.length<=sizeLine->wpAny (model X.prog X.w) X.A (joinParts out (evalEach vs X.env)) (EP X pins σ fun v H1=>(∃ x,v=.str x)/\Q H1) X.xe s
theorem B8:PJ X [] kL:=fun pins s σ H Q out I h z=>joinParts_nil (out:=out) ⟨.str out,H,I.tok _,⟨_,rfl⟩,⟨_,rfl⟩,h⟩ (by simpa using z)
theorem Ba{y:Str}{k:Nat}{p:Pos}{vs:List Expr}{t:TA}(h:PJ X vs t)(hy:y.length<=3000):PJ X (.Constant (.str y) k p::vs) t:=fun pins s σ H Q out I q z=>by
 have hz:(out++y).length+3000*vs.length<=sizeLine:=by
  rw[strLen_append]
  rw[List.length_cons]at z
  omega
 refine joinParts_cons (Calls.Constant_str ⟨by omega,?_⟩)
 exact h pins _ σ H Q (out++y) (I.tok _) q hz
noncomputable def vT(te:TE)(t:TA):TA:=fun σ H Q=>te σ H fun v H1=>∃ i,v=.int i/\i.natAbs<2 ^ 1900/\t σ H1 Q
theorem BI{e:Expr}{p:Pos}{te:TE}{vs:List Expr}{t:TA}(he:PE X e te)(h:PJ X vs t):PJ X (.FormattedValue e (-1) none p::vs) (vT te t):=fun pins s σ H Q out I q z=>by
 refine joinParts_cons (FormattedValue_plain (thn (he pins s σ H _ I q) fun u s1 ⟨v,H1,I1,r1,i,hv,hi,q1⟩=>?_))
 subst hv
 obtain⟨tk,rfl⟩:=r1
 have hl:i.natAbs.log2<1920:=by
  by_cases h0:i.natAbs=0
  ·rw[h0]
   decide
  ·exact Nat.lt_trans ((Nat.log2_lt h0).mpr hi) (by decide)
 have hy:(Str.ofString (toString i)).length<=1921:=by
  rw[PySem.ofString_length]
  exact int_text_length_le (by decide) hl
 have hz:(out++Str.ofString (toString i)).length+3000*vs.length<=sizeLine:=by
  rw[strLen_append]
  rw[List.length_cons]at z
  omega
 refine formatField_int_small hl ⟨?_,?_⟩
 ·exact Nat.le_trans (Nat.le_add_right _ _) hz
 ·exact h pins _ σ H1 Q _ ((I1.tok _).tok _) q1 hz
theorem xp{v v2:Expr}{vs:List Expr}{t:TA}(h:PJ X (v::v2::vs) t)(hn:vs.length<=100):PE X (.JoinedStr (v::v2::vs) pos) (fun σ H Q=>t σ H fun _ H1=>∀ x,Q (.str x) H1):=by
 intro pins s σ H Q I q
 refine JoinedStr_many (thn (h pins s σ H (fun H1=>∀ x,Q (.str x) H1) Str.empty I q ?_) fun u s1 ⟨v,H1,I1,r1,⟨x,hv⟩,q1⟩=>⟨v,H1,I1,r1,by rw[hv];exact q1 x⟩)
 rw[List.length_cons,List.length_cons,sizeLine_eq]
 have:Str.empty.length=0:=rfl
 omega
end
section
variable{M:Model}{A:Around}{E:Value->Shared->Prop}{h:Heap}{g:Array GenState}{d:Drawn}{t:Nat}{os:OsState}
theorem yR{e C R:Addr}{oe:Obj}{nm q:Str}{N:Addr}{bs bm:List Value}{hdct:Bool}{sn:List Str}{sub:List Value}{ab:Bool}{col:Option Bool}{dd:Option Addr}{k0 k1 k2 k3 k5:Option Value}{newId:String}{b:Bool}{Q:Bool->Shared->Prop}
 (hR:h.get? R=some (excClassObj nm q R N bs bm hdct sn sub ab col dd k0 k1 k2 k3 k5 newId))(he:h.get? e=some oe)(hc:oe.cls=.ref C)(hb:bm.contains (.type "BaseException")=true)(L:PySem.W.Looks M h (isSubtype (.ref C) (.ref R)) b)(hq:Q b ⟨h,g,d,t,os⟩) :
  wpAny M A (excMatches (.ref e) (.ref R)) Q E ⟨h,g,d,t,os⟩:=by
 have hcB:(Value.ref R::bm).contains (.type "BaseException")=true:=by rw[List.contains_cons,hb,Bool.or_true]
 have f:=tc_notTuple
 unfold excMatches
 repeat (first | (with_reducible refine wpAny_loadPart_at he ?_;rw[hc]) | with_reducible refine wpAny_loadPart_at hR ?_ | (with_reducible refine wpAny_isSubtype_exc hR ?_;rw[hcB]) | (with_reducible refine L.at ?_) | wp_step)
 cases b<;>(wp_walk;exact hq)
end
section
variable{X:Cx}{pins:List (Addr × Obj)}{σ:St}{H:Hp}{s:Shared}
theorem t6{M:Model}{A:Around}{E:Value->Shared->Prop}{i:Nat}{n:Str}{pos:Pos}{Q:Unit->Shared->Prop}(I:Inv X pins σ H s)(hN:X.N.Nodup)(hi:X.N[i]?=some n)(hl:X.env.scope.names.lookup n=some .local)
 (k:∀ s',Inv X pins (σ.set i none) H s'->Q () s'):wpAny M A (do bindName X.env n .none;unbindBehindTheSuite X.env n pos) Q E s:=by
 obtain⟨m,hn,hlk⟩:=id I.loc
 have hcls:(X.env.scope.kind == .class || (X.env.scope.kind == .module&&X.env.locals != X.env.globals))=false:=by rw[I.ok.kind];rfl
 refine wpAny_nameGoes_keeps hl hn hcls fun h' v hn' hs=>k _ ?_
 have up:∀ b o,X.s₀.heap.get? b=some o->b≠X.env.locals:=fun b o e=>Nat.ne_of_lt (Nat.lt_of_lt_of_le (Heap.lt_size e) I.ok.above)
 have cne:=I.cne
 refine⟨I.ok,I.os,I.bare,⟨fun b o e nn hb hx=>(hs.2 b (up b o e)).trans (I.base.keep b o e nn hb hx),fun b o e nn hb hx=>?_,I.base.free,fun b o e hx=>?_,I.base.eB,I.base.cJ,I.base.eA⟩,⟨_,hn',fun j y v' e1 e2 e3=>?_⟩,fun y c e=>?_,I.free,I.cA,fun p hp=>?_,fun a o e=>?_,by simpa using I.len⟩
 ·obtain⟨sl,e1⟩:=I.base.slot b o e nn hb hx
  exact⟨sl,(hs.2 b (up b o e)).trans e1⟩
 ·obtain⟨o',e1⟩:=I.base.there b o e hx
  exact⟨o',(hs.2 b (up b o e)).trans e1⟩
 ·have hj:j≠i:=fun z=>by
   subst z
   rw[List.getElem?_set_self (by rw[I.len];exact(List.getElem?_eq_some_iff.mp hi).1)]at e2
   cases e2
  rw[List.getElem?_set_ne (Ne.symm hj)]at e2
  obtain⟨u,r,lk⟩:=hlk j y v' e1 e2 e3
  refine⟨u,r,?_⟩
  rcases lk with⟨a1,a2⟩ | ⟨a1,c,a2,a3⟩
  ·have hy:y≠n:=fun z=>hj (kN hN e1 (z▸hi))
   exact .inl ⟨a1,by simp[hy,a2]⟩
  ·exact .inr ⟨a1,c,a2,a3.sameBut hs (cne y c a2)⟩
 ·obtain⟨v,q⟩:=I.cell y c e
  exact⟨v,q.sameBut hs (cne y c e)⟩
 ·obtain⟨p1,p2,p3,p4⟩:=I.pin p hp
  exact⟨(hs.2 p.1 p3).trans p1,p2,p3,p4⟩
 ·refine(I.hok a o e).je (fun c w hc q=>(hs.2 c fun z=>?_).trans q) (fun _ z=>z) fun _ _ z=>z
  subst z
  rcases hc with z | z
  ·rw[<-z,I.free]at e
   cases e
  ·rw[I.free]at z
   cases z
abbrev Fz(oe:Obj):HO:=.frz oe (.ext fun _=>True)
abbrev Cx.bE(X:Cx)(e:Addr)(oe:Obj):Cx:={ X with A:=X.A.mark (some (.ref e)),calm:=false,H₀:=upd X.H₀ e (Fz oe) }
theorem nv{H0 H':Hp}{s0:Shared}{h1 h2:Heap}{g:Array GenState}{dr:Drawn}{tk:Nat}{e:Addr}{oe:Obj}{vs:Array Value}(I0:Inv X pins σ H0 s0)(hst:X.stack=X.env::X.outer)(hex:X.ex=[])(un:Un (frs X.stack) [] H0 H' s0.heap h1)(hok:HOk X.prog X.w H' h1)(bare:AllBare g)
 (o:Off1 (fG s0.heap H') (frs (X.env::X.outer)) h1 h2)(he:h2.get? e=some oe)(hd:oe.data=.fields vs)(hv:vs[2]?=some .none)(ne:¬ fG s0.heap H' e) :
  Inv (X.bE e oe) pins σ (upd H' e (Fz oe)) ⟨h2,g,dr,tk,s0.os⟩:=by
 have hne:H' e=none:=Classical.byContradiction fun z=>ne (.inr z)
 have n0:∀ b u,s0.heap.get? b=some u->b≠e:=fun b u q z=>ne (.inl ⟨u,z▸q⟩)
 have n1:∀ b u,X.s₀.heap.get? b=some u->b≠e:=fun b u q=>let ⟨u',q'⟩:=I0.old hex q;n0 b u' q'
 have off:∀ {b:Addr},b≠e->upd H' e (Fz oe) b=H' b:=fun z=>aJ z
 have nfr:∀ b,H' b≠none->b∉frs (X.env::X.outer):=fun b hb z=>by
  rw[<-hst]at z
  obtain⟨_,ob,hob,_⟩:=I0.stack.mem z
  exact hb (un.free b ob hob (I0.jI b z) (by simp))
 have un2:Un (frs X.stack) [] H0 (upd H' e (Fz oe)) s0.heap h2:=by
  refine⟨fun b u q n hb hx=>?_,fun b u q n hb hx=>?_,fun b u q n hx=>by rw[off (n0 b u q)];exact un.free b u q n hx,fun b u q hx=>?_,fun b xs q=>?_,fun b ob u q=>?_,fun b ps q=>?_⟩
  ·exact o.keep b u (.inl ⟨u,q⟩) (by rw[<-hst];exact hb) (un.keep b u q n hb hx)
  ·obtain⟨sl,q1⟩:=un.slot b u q n hb hx
   obtain⟨sl2,q2⟩:=o.slot b _ (.inl ⟨u,q⟩) (by rw[<-hst];exact hb) q1
   exact⟨sl2,q2⟩
  ·obtain⟨u1,q1⟩:=un.there b u q hx
   by_cases hb:b∈frs (X.env::X.outer)
   ·obtain⟨sl,q2⟩:=o.slot b _ (.inl ⟨u,q⟩) hb q1
    exact⟨_,q2⟩
   ·exact⟨_,o.keep b _ (.inl ⟨u,q⟩) hb q1⟩
  ·have:=un.eB b xs q
   rw[off (fun z=>by rw[z,hne]at this;cases this)]
   exact this
  ·have:=un.cJ b ob u q
   rw[off (fun z=>by rw[z,hne]at this;cases this)]
   exact this
  ·obtain⟨more,this⟩:=un.eA b ps q
   rw[off (fun z=>by rw[z,hne]at this;cases this)]
   exact⟨more,this⟩
 have hok2:HOk X.prog X.w (upd H' e (Fz oe)) h2:=fun a ob q=>by
  by_cases ha:a=e
  ·subst ha
   rw[aR]at q
   cases q
   exact⟨he,trivial,⟨_,he⟩,fun _ _ _ _=>trivial⟩
  ·rw[off ha]at q
   have up:∀ (b:Addr) (u:HO),H' b=some u->upd H' e (Fz oe) b=some u:=fun b u z=>by rw[off (aT z hne)];exact z
   refine(hok a ob q).je (fun b u hb r=>?_) (fun b z=>up b _ z) fun b xs z=>up b _ z
   have hn:H' b≠none:=by
    rcases hb with rfl | hb
    ·rw[q];exact fun z=>nomatch z
    ·rw[hb];exact fun z=>nomatch z
   exact o.keep b u (.inr hn) (nfr b hn) r
 have J:=I0.call (h':=h2) (g':=g) (d':=dr) (t':=tk) (ch:=[]) un2 hok2 bare (fun b z=>absurd z (by simp))
 have offH:∀ {b:Addr} {u:Obj},X.s₀.heap.get? b=some u->upd X.H₀ e (Fz oe) b=X.H₀ b:=fun q=>aJ (n1 _ _ q)
 refine⟨⟨J.ok.mod,J.ok.kind,J.ok.glob,J.ok.blt,J.ok.above,J.ok.inj,J.ok.has,J.ok.cab,⟨fun z=>(nomatch z),.inr ⟨e,oe,_,vs,rfl,aR,hd,hv⟩⟩,J.ok.frames,J.ok.stk,J.ok.exf,fun b ob q=>?_,J.ok.bsz,J.ok.iV,J.ok.iH,J.ok.d9,fun b hb=>?_⟩,J.os,J.bare,⟨fun b u q n=>?_,fun b u q n=>?_,fun b u q n=>?_,J.base.there,fun b xs q=>?_,fun b ob u q=>?_,fun b ps q=>?_⟩,J.loc,J.cell,J.free,J.cA,J.pin,J.hok,J.len⟩
 ·obtain⟨q1,q2⟩:=J.ok.bs b ob q
  exact⟨q1,(offH q1).trans q2⟩
 ·obtain⟨_,ob,q,_⟩:=J.ok.d9.mem hb
  exact(offH q).trans (J.ok.frf b hb)
 ·exact J.base.keep b u q ((offH q).symm.trans n)
 ·exact J.base.slot b u q ((offH q).symm.trans n)
 ·exact J.base.free b u q ((offH q).symm.trans n)
 ·by_cases hb:b=e
  ·subst hb
   rw[show(X.bE b oe).H₀ b=some (Fz oe)from aR]at q
   cases q
  ·exact J.base.eB b xs ((aJ hb).symm.trans q)
 ·by_cases hb:b=e
  ·subst hb
   rw[show(X.bE b oe).H₀ b=some (Fz oe)from aR]at q
   cases q
   exact aR
  ·exact J.base.cJ b ob u ((aJ hb).symm.trans q)
 ·by_cases hb:b=e
  ·subst hb
   rw[show(X.bE b oe).H₀ b=some (Fz oe)from aR]at q
   cases q
  ·exact J.base.eA b ps ((aJ hb).symm.trans q)
theorem lL{e:Addr}{oe:Obj}(J:Inv (X.bE e oe) pins σ H s)(ok:X.Ok)(hn:X.s₀.heap.get? e=none)(h1:∀ xs,X.H₀ e≠some (.tup xs))(h2:∀ o u,X.H₀ e≠some (.frz o u))(h3:∀ ps,X.H₀ e≠some (.tbl ps)):Inv X pins σ H s:=by
 have offH:∀ {b:Addr} {u:Obj},X.s₀.heap.get? b=some u->upd X.H₀ e (Fz oe) b=X.H₀ b:=fun {b u} q=>aJ fun z=>by rw[z,hn]at q;cases q
 have up:∀ (b:Addr) (u:HO),b≠e->X.H₀ b=some u->(X.bE e oe).H₀ b=some u:=fun b u hb z=>(aJ hb).trans z
 exact⟨ok,J.os,J.bare,⟨fun b u q n=>J.base.keep b u q ((offH q).trans n),fun b u q n=>J.base.slot b u q ((offH q).trans n),fun b u q n=>J.base.free b u q ((offH q).trans n),J.base.there,
  fun b xs q=>J.base.eB b xs (up b _ (fun z=>h1 xs (z▸q)) q),fun b o u q=>J.base.cJ b o u (up b _ (fun z=>h2 o u (z▸q)) q),fun b ps q=>J.base.eA b ps (up b _ (fun z=>h3 ps (z▸q)) q)⟩,J.loc,J.cell,J.free,J.cA,J.pin,J.hok,J.len⟩
end
end L2
namespace RS
open PySem PySem.Spec PyProof.Rows L2
theorem Cls.kin{K:PySem.W.Frag}{x:Str}{C:Addr}(h:Cls K x C):qc K C:=by
 have:=h.ok
 simp only[fm,Bool.and_eq_true,beq_iff_eq]at this
 obtain⟨⟨⟨⟨⟨⟨⟨⟨_,a1⟩,a2⟩,a3⟩,a4⟩,a5⟩,a6⟩,_⟩,_⟩:=this
 refine⟨a1,a2,?_,a4,a5,a6⟩
 unfold qu at a3
 split at a3
 ·rename_i a b e
  simp only[Bool.and_eq_true,beq_iff_eq]at a3
  rw[e,a3.1,a3.2]
 ·cases a3
section
variable{X:Cx}{pins:List (Addr × Obj)}{σ:L2.St}
theorem ud{H0 H':Hp}{s0 s1:Shared}{e C R:Addr}{tb:Bool}{x c n:Str}{i:Nat}{np hpos:Pos}{b0:Stmt}{bE:List Stmt}{Q:Flow->Shared->Prop}{E:Value->Shared->Prop}(I0:Inv X pins σ H0 s0)(hst:X.stack=X.env::X.outer)(hfrm:X.env.frame=some X.env.locals)(hex:X.ex=[])
 (os:s1.os=s0.os)(bare:AllBare s1.gens)(un:Un (frs X.stack) [] H0 H' s0.heap s1.heap)(hok:HOk X.prog X.w H' s1.heap)(xx:Exc (fG s0.heap H') e C tb s1.heap)(hc:Cls X.K x C)(hR:Cls X.K c R)(hcr:c∈cU)(hsub:RL.cG x c=true)(hg:Gl X c)(hm:X.mg c=some (.ref R))(hdb:(c == ("__debug__" : Str))=false)
 (hN:X.N.Nodup)(hi:X.N[i]?=some n)(hl:X.env.scope.names.lookup n=some .local)
 (k:∀ oe vs s4,(oe.cls=.ref C/\oe.dict=none)->oe.data=.fields vs->vs[2]?=some .none->H' e=none->X.s₀.heap.get? e=none->(∀ xs,X.H₀ e≠some (.tup xs))->(∀ o u,X.H₀ e≠some (.frz o u))->(∀ ps,X.H₀ e≠some (.tbl ps))->Inv (X.bE e oe) pins (σ.set i (some (.ref e))) (upd H' e (Fz oe)) s4 ->
   wpAny (model X.prog X.w) (X.A.mark (some (.ref e))) (execs (b0::bE) X.env) (fun f s5=>wpAny (model X.prog X.w) X.A (do bindName X.env n .none;unbindBehindTheSuite X.env n hpos) (fun _ s6=>Q f s6) E s5) (fun _ _=>False) s4) :
  wpAny (model X.prog X.w) X.A (noteFrame (.ref e) X.env) (fun _ s2=>wpAny (model X.prog X.w) X.A (setFlight (.ref e) none) (fun _ s3=>wpAny (model X.prog X.w) X.A (handleBy (.ref e) X.env [.ExceptHandler (some (.Name c np)) (some n) (b0::bE) hpos]) Q E s3) E s2) E s1:=by
 have I1:Inv X pins σ H' s1:=I0.tL (ch:=[]) os un hok bare (fun b z=>absurd z (by simp))
 have hls:=I1.stack
 have hfr:=I1.ok.frames
 rw[hst]at hls hfr
 have hP:∀ b,fG s0.heap H' b->b<s1.heap.objs.size:=fun b hb=>by
  rcases hb with⟨o,q⟩ | hb
  ·obtain⟨o',q'⟩:=un.there b o q (by simp)
   exact Heap.lt_size q'
  ·obtain⟨o,ho⟩:=Option.ne_none_iff_exists'.mp hb
   exact hok.lt ho
 refine nB hfr hls hfrm xx hP fun h2 x2 o2=>?_
 obtain⟨oe,vs,he,hcd,hd,hv,ne,xt⟩:=x2
 obtain⟨hp,g,d,tk,os'⟩:=s1
 obtain rfl:os'=s0.os:=os
 have J2:Inv (X.bE e oe) pins σ (upd H' e (Fz oe)) ⟨h2,g,d,tk,s0.os⟩:=nv I0 hst hex un hok bare o2 he hd hv ne
 refine wpAny_handleBy_cons (codeAny_handlers_test ?_) (by intro q;cases q)
 refine fY J2 hg hm ?_ hdb
 obtain⟨bm,N,nm,qn,bs,hdct,sn,sub,ab,col,dd,k0,k1,k2,k3,k5,mN,g1,g2,g3,T⟩:=rO J2.kIn hR.exc
 have L:=PySem.W.looks_subIn (M:=model X.prog X.w) J2.kIn (hc.ref hcr hR.ns).2
 rw[hsub]at L
 refine yR g1 he hcd.1 (T.hasType PySem.F.excBase_ValueError.hasBase) L ?_
 refine codeAny_handlers_suite_as ?_
 rcases xt with⟨z,_⟩ | ⟨T,oT,ts,h1,hTe,hT,hdT,h3,nT⟩
 ·cases z
 unfold setFlight
 refine wpAny_bind (wpAny_field he hd h1 ?_)
 rw[if_pos (show(Value.ref T != Value.none)=true from by simp)]
 refine wpAny_setField hT hdT (Array.getElem?_eq_some_iff.mp h3).1 ?_
 have he3:(h2.update T (Obj.mapFields (·.setIfInBounds 3 Value.none))).get? e=some oe:=(Heap.get?_update_other _ _ hTe).trans he
 have J3:Inv (X.bE e oe) pins σ (upd H' e (Fz oe)) ⟨h2.update T (Obj.mapFields (·.setIfInBounds 3 Value.none)),g,d,tk,s0.os⟩:=nv I0 hst hex un hok bare (o2.trans (Off1.uG nT _)) he3 hd hv ne
 have hne:H' e=none:=Classical.byContradiction fun z=>ne (.inr z)
 have tup:∀ u,X.H₀ e=some u->(∀ b,X.H₀ b=some u->H' b=some u)->False:=fun u q z=>by
  have:=z e q
  rw[hne]at this
  cases this
 refine fe (X:=X.bE e oe) (v:=.ref e) J3 hN hi (.inl hl) rfl (fun s4 J4=>?_) (.inr hl)
 refine wpAny_mono (k oe vs s4 hcd hd hv hne ?_ (fun xs q=>?_) (fun o u q=>?_) (fun ps q=>?_) J4) (fun f s5 z=>z) fun _ _ z=>z.elim
 ·cases q:X.s₀.heap.get? e with
  | none=>rfl
  |some u=>
   obtain⟨u',q'⟩:=I0.old hex q
   exact(ne (.inl ⟨u',q'⟩)).elim
 ·have:=un.eB e xs (I0.base.eB e xs q)
  rw[hne]at this
  cases this
 ·have:=un.cJ e o u (I0.base.cJ e o u q)
  rw[hne]at this
  cases this
 ·obtain⟨m1,q1⟩:=I0.base.eA e ps q
  obtain⟨m2,q2⟩:=un.eA e _ q1
  rw[hne]at q2
  cases q2
end
section
variable{K:PySem.W.Frag}{M:List Nat}{σD:RL.St}{σ:L2.St}{H:Hp}{i:Nat}
theorem aV.unset(hi:M.contains i=false):aV M (σ.set i none)=aV M σ:=by
 funext a
 apply propext
 have hne:∀ {j},M.contains j=true->i≠j:=fun hj z=>by subst z;rw[hi]at hj;cases hj
 constructor
 ·rintro⟨j,hj,e⟩
  rw[List.getElem?_set_ne (hne hj)]at e
  exact⟨j,hj,e⟩
 ·rintro⟨j,hj,e⟩
  exact⟨j,hj,by rw[List.getElem?_set_ne (hne hj)];exact e⟩
theorem iY{α:Type}{l:List (Option α)}{i j:Nat}{v:α}(h:(l.set i none)[j]?=some (some v)):i≠j/\l[j]?=some (some v):=by
 by_cases hj:i=j
 ·subst hj
  rw[List.getElem?_set]at h
  split at h
  ·split at h<;>cases h
  ·exact absurd rfl ‹_›
 ·rw[List.getElem?_set_ne hj]at h
  exact⟨hj,h⟩
theorem RVm.unset(h:RVm K M σD σ H)(hi:M.contains i=false):RVm K M (σD.set i none) (σ.set i none) H where
 len:=by simpa using h.len
 val:=fun j d e=>by
  obtain⟨hj,e⟩:=iY e
  obtain⟨v,e1,e2⟩:=h.val j d e
  exact⟨v,by rw[List.getElem?_set_ne hj];exact e1,by rw[aV.unset hi];exact e2⟩
 non:=fun j v e=>by
  obtain⟨hj,e⟩:=iY e
  obtain⟨d,e1⟩:=h.non j v e
  exact⟨d,by rw[List.getElem?_set_ne hj];exact e1⟩
 sep:=fun j k a hj hk e1 e2=>h.sep j k a hj hk (iY e1).2 (iY e2).2
theorem Fr'.unset(hi:M.contains i=false):Fr' M σ H (σ.set i none) H:=⟨fun b o e n=>⟨e,by rw[aV.unset hi];exact n⟩,fun j hj=>List.getElem?_set_ne fun z=>by subst z;rw[hU hj]at hi;cases hi⟩
end
section
variable{X:Cx}{cl:RL.Cl}{M:List Nat}{body bE:List Stmt}{b0:Stmt}{b h:RL.Ss}{c n:Str}{i:Nat}{R:Addr}{np hpos pos:Pos}
abbrev CxX(X:Cx)(pn:List (Addr × Obj))(E:Value->Shared->Prop):Cx:={ X with pn:=pn,xe:=E }
theorem Cs(hx:X.xe=fun _ _=>False)(hst:X.stack=X.env::X.outer)(hfrm:X.env.frame=some X.env.locals)(hex:X.ex=[])(hb:SSs X cl M body b)
 (hbx:∀ (pn:List (Addr × Obj)) (E:Value->Shared->Prop) (EX:L2.St->XK),(∀ pins σ H s e s',Inv (CxX X pn E) pins σ H s->CXE X.prog X.w X.stack H s (EX σ) e s'->E e s')->(∀ pins σ H s h' e C vs,Inv (CxX X pn E) pins σ H s->Heap.MadeExcOf s.heap h' e (.ref C) vs->EX σ (.ref C) none H->E (.ref e) { s with heap:=h' }) ->
   PassesOwn (model X.prog X.w) X.A X.env E->RZs (CxX X pn E) EX cl M body b)
 (hsu:∀ e oe,SSs (X.bE e oe) cl M (b0::bE) h)(hR:Cls X.K c R)(hcr:c∈cU)(hg:Gl X c)(hm:X.mg c=some (.ref R))(hdb:(c == ("__debug__" : Str))=false)(hN:X.N.Nodup)(hi:X.N[i]?=some n)(hl:X.env.scope.names.lookup n=some .local)(hM:M.contains i=false) :
  SS X cl M (.Try body [.ExceptHandler (some (.Name c np)) (some n) (b0::bE) hpos] [] [] pos) (.tryc b c i h):=by
 intro pins s σ H D I hh
 obtain⟨σD,r,σD',rv,ev,post⟩:=hh
 rw[RL.evS]at ev
 refine wpAny_Try_except ?_
 cases hev:RL.ak cl M b σD with
 |some p=>
  rw[hev]at ev
  cases ev
  refine wpAny_mono (hb pins s σ H D I ⟨σD,r,σD',rv,hev,post⟩) (fun f s1 q=>?_) fun e s1 z=>by rw[hx]at z;exact z.elim
  cases f with
  | next=>exact wpAny_execs_nil q
  | ret u=>exact q
  | brk=>exact q
  | cont=>exact q
 |none=>
  rw[hev]at ev
  obtain⟨⟨x,σD1⟩,hev2,ev⟩:=bind_some ev
  by_cases hs:RL.cG x c=true
  case neg=>rw[if_neg hs]at ev;cases ev
  rw[if_pos hs]at ev
  obtain⟨⟨rr,σ5⟩,hev3,ev⟩:=map_some ev
  cases ev
  dsimp only at hev3 post
  generalize hE:(fun(e:Value) (s₁:Shared)=>wpAny (model X.prog X.w) X.A (noteFrame e X.env) (fun _ s₂=>wpAny (model X.prog X.w) X.A (setFlight e none) (fun _ s₃=>wpAny (model X.prog X.w) X.A (handleBy e X.env [.ExceptHandler (some (.Name c np)) (some n) (b0::bE) hpos]) (SP X pins D) X.xe s₃) X.xe s₂) X.xe s₁)=E1
  have own:PassesOwn (model X.prog X.w) X.A X.env E1:=by
   rw[<-hE]
   exact PassesOwn.looking
  have hand:∀ (pins':List (Addr × Obj)) (σ1:L2.St) (H0 H':Hp) (s0 s1:Shared) (e C:Addr) (tb:Bool),Inv (CxX X (X.pn++pins) E1) pins' σ1 H0 s0->s1.os=s0.os->AllBare s1.gens->Un (frs X.stack) [] H0 H' s0.heap s1.heap->HOk X.prog X.w H' s1.heap->Exc (fG s0.heap H') e C tb s1.heap ->
    (Cls X.K x C/\RVm X.K M σD1 σ1 H'/\Fr' M σ H σ1 H')->E1 (.ref e) s1:=by
   intro pins' σ1 H0 H' s0 s1 e C tb J os bare un hok ex ⟨hc,rv1,fr1⟩
   have I0:Inv X pins σ1 H0 s0:=⟨⟨J.ok.mod,J.ok.kind,J.ok.glob,J.ok.blt,J.ok.above,J.ok.inj,J.ok.has,J.ok.cab,J.ok.hd,J.ok.frames,J.ok.stk,J.ok.exf,J.ok.bs,J.ok.bsz,J.ok.iV,J.ok.iH,J.ok.d9,J.ok.frf⟩,J.os,J.bare,J.base,J.loc,J.cell,J.free,J.cA,fun p hp=>J.pin p (List.mem_append_left _ hp),J.hok,J.len⟩
   rw[<-hE]
   refine ud I0 hst hfrm hex os bare un hok ex hc hR hcr hs hg hm hdb hN hi hl fun oe vs s4 hcd hd hv hne hn0 n1 n2 n3 J4=>?_
   have sm:aq H' (upd H' e (Fz oe)):=fun a u q=>by rw[aJ (aT q hne)];exact q
   have rv4:RVm X.K M (σD1.set i (some (.exc x))) (σ1.set i (some (.ref e))) (upd H' e (Fz oe)):=(rv1.same sm).bind hM (by
    rw[Rep]
    exact⟨e,oe,_,C,vs,rfl,aR,hcd,hd,hv,hc⟩)
   have fr4:Fr' M σ H (σ1.set i (some (.ref e))) (upd H' e (Fz oe)):=fr1.trans (Fr'.bind hM sm)
   have post2:pA X.K M { nx:=fun σ' H5=>D.nx (σ'.set i none) H5,rt:=D.rt } (σ1.set i (some (.ref e))) (upd H' e (Fz oe)) rr σ5:=by
    cases rr with
    | nx=>exact fun σ' H5 rv5 fr5=>post (σ'.set i none) H5 (rv5.unset hM) ((fr4.trans fr5).trans (Fr'.unset hM))
    | rt d=>exact fun σ' H5 v H6 rv5 fr5 sm5 rp=>post (σ'.set i none) H5 v H6 (rv5.unset hM) ((fr4.trans fr5).trans (Fr'.unset hM)) sm5 fun P hP=>rp P fun p hp=>by rw[<-aV.unset hM];exact hP p hp
   refine wpAny_mono (hsu e oe pins s4 _ _ _ J4 ⟨_,rr,σ5,rv4,hev3,post2⟩) (fun f s5 q=>?_) fun e s5 z=>by
    have z:X.xe e s5:=z
    rw[hx]at z
    exact z.elim
   cases f with
   |next=>
    obtain⟨σ',H5,J5,q⟩:=q
    exact t6 (lL J5 I0.ok hn0 n1 n2 n3) hN hi hl fun s6 J6=>⟨_,H5,J6,q⟩
   |ret u=>
    obtain⟨v,σ',H5,J5,rel,q⟩:=q
    exact t6 (lL J5 I0.ok hn0 n1 n2 n3) hN hi hl fun s6 J6=>⟨v,_,H5,J6,rel,q⟩
   |brk=>
    obtain⟨_,_,_,q⟩:=q
    exact q.elim
   |cont=>
    obtain⟨_,_,_,q⟩:=q
    exact q.elim
  have rz:=hbx (X.pn++pins) E1 (fun σ1 Cv _ H1=>∃ C,Cv=.ref C/\Cls X.K x C/\RVm X.K M σD1 σ1 H1/\Fr' M σ H σ1 H1) (fun pins' σ1 H0 s0 e s1 J z=>by
    obtain⟨x',C,H',rfl,⟨C',q,hc⟩,os,bare,un,hok,ex⟩:=z
    cases q
    exact hand pins' σ1 H0 H' s0 s1 x' C true J os bare un hok ex hc) (fun pins' σ1 H0 s0 h' e C vs J m z=>by
    obtain⟨C',q,hc⟩:=z
    cases q
    exact hand pins' σ1 H0 H0 s0 _ e C false J rfl J.bare (Un.kept m.keeps) (J.hok.kept m.keeps) (pB J.hok m) hc) own
  have I1:Inv (CxX X (X.pn++pins) E1) [] σ H s:=⟨⟨I.ok.mod,I.ok.kind,I.ok.glob,I.ok.blt,I.ok.above,I.ok.inj,I.ok.has,I.ok.cab,I.ok.hd,I.ok.frames,I.ok.stk,I.ok.exf,I.ok.bs,I.ok.bsz,I.ok.iV,I.ok.iH,I.ok.d9,I.ok.frf⟩,I.os,I.bare,I.base,I.loc,I.cell,I.free,I.cA,fun p hp=>I.pin p (by rw[List.append_nil]at hp;exact hp),I.hok,I.len⟩
  refine wpAny_mono (rz [] s σ H { nx:=fun _ _=>False,rt:=fun _ _=>False } I1 ⟨σD,x,σD1,rv,hev2,fun σ1 H1 C hc rv1 fr1=>⟨C,rfl,hc,rv1,fr1⟩⟩) (fun f s1 q=>?_) fun e s1 z=>by
   have z:E1 e s1:=z
   subst hE
   exact z
  cases f with
  |next=>
   obtain⟨_,_,_,q⟩:=q
   exact q.elim
  |ret u=>
   obtain⟨_,_,_,_,_,q⟩:=q
   exact q.elim
  |brk=>
   obtain⟨_,_,_,q⟩:=q
   exact q.elim
  |cont=>
   obtain⟨_,_,_,q⟩:=q
   exact q.elim
end
section
variable{X:Cx}{cl:RL.Cl}{a:Expr}{a':RL.E}{p p2 pos:Pos}{c:Str}{D:Addr}
theorem oX:bA X (.builtin "isinstance") (fun xs H Q=>∃ b o u C vs t k,xs=[.ref b,t]/\H b=some (.frz o u)/\(o.cls=.ref C/\o.dict=none)/\o.data=.fields vs/\qc X.K C/\((∃ D,t=.ref D/\PySem.W.kitOne X.K (.ref C) (.ref D)=some k)\/∃ T,t=.ty T/\PySem.W.kitOne X.K (.ref C) (.type T)=some k)/\Q (.bl k) H):=by
 intro pins s σ H xs us Q I r h
 obtain⟨b,o,u,C,vs,t,k,rfl,hb,hcd,hd,F,hk,q⟩:=h
 cases r with
 |cons r1 r2=>
  cases r2 with
  |cons r2 r3=>
   cases r3
   cases r1
   have J:PySem.W.InstAt s.heap b o C none:=⟨(I.hok _ _ hb).1,hcd.1,by unfold PySem.W.notCls;rw[hd],by rw[hcd.2];trivial⟩
   rcases hk with⟨D,rfl,e⟩ | ⟨T,rfl,e⟩
   ·cases r2
    exact PySem.W.kia_one (pO F) I.kIn J e (fun z=>nomatch z) fun tk=>⟨.bl k,H,I.tok tk,rfl,q⟩
   ·cases r2
    exact PySem.W.kia_one (pO F) I.kIn J e (fun z=>nomatch z) fun tk=>⟨.bl k,H,I.tok tk,rfl,q⟩
theorem wg{σ:L2.St}{H:Hp}{Q:VK}{t:V}(ht:∀ x C,Cls X.K x C->(∃ D,t=.ref D/\PySem.W.kitOne X.K (.ref C) (.ref D)=some (RL.cG x c))\/∃ T,t=.ty T/\PySem.W.kitOne X.K (.ref C) (.type T)=some (RL.cG x c))(h:tE X.K cl (.isx a' c) σ H Q) :
  tCB (fun xs H Q=>∃ b o u C vs t k,xs=[.ref b,t]/\H b=some (.frz o u)/\(o.cls=.ref C/\o.dict=none)/\o.data=.fields vs/\qc X.K C/\((∃ D,t=.ref D/\PySem.W.kitOne X.K (.ref C) (.ref D)=some k)\/∃ T,t=.ty T/\PySem.W.kitOne X.K (.ref C) (.type T)=some k)/\Q (.bl k) H) (iZ (tE X.K cl a') (iZ (tC t) kL)) σ H Q:=by
 obtain⟨σD,d,rv,e,k⟩:=h
 rw[RL.ev]at e
 obtain⟨x,ea,e⟩:=bind_some e
 cases x with
 |exc n=>
  cases e
  refine⟨σD,_,rv,ea,fun v H1 r1=>?_⟩
  have rp:=r1.rep
  rw[Rep]at rp
  obtain⟨b,o,u,C,vs,rfl,h1,h2,h3,h4,h5⟩:=rp
  exact⟨b,o,u,C,vs,t,_,rfl,h1,h2,h3,h5.kin,ht n C h5,k _ _ (dM r1.same)⟩
 | _=>cases e
theorem D3(hg:Gl X "isinstance")(hm:X.mg "isinstance" = none)(hgc:Gl X c)(hmc:X.mg c=some (.ref D))(hns:PySem.W.nsIn X.K mainGlobals c=some (some (.ref D)))(hcr:c∈cU)(hdb:(c == ("__debug__" : Str))=false)(ha:SE X cl a a')(hn:noStar a=true) :
  SE X cl (.Call (.Name "isinstance" p) [a,.Name c p2] [] pos) (.isx a' c) :=
 PE.weak (eu oX hg hm (by decide +kernel) (bh ha (bh (rP (v:=.ref D) hgc hmc rfl hdb) cI) (ao _ hn)) (by decide) (by decide) (ao _ hn) rfl) fun σ H Q h=>wg (fun x C hc=>.inl ⟨D,rfl,(hc.ref hcr hns).1⟩) h
theorem C5(hg:Gl X "isinstance")(hm:X.mg "isinstance" = none)(hgc:Gl X "ValueError")(hmc:X.mg "ValueError" = none)(ha:SE X cl a a')(hn:noStar a=true):SE X cl (.Call (.Name "isinstance" p) [a,.Name "ValueError" p2] [] pos) (.isx a' "ValueError") :=
 PE.weak (eu oX hg hm (by decide +kernel) (bh ha (bh (sV (v:=.ty "ValueError") hgc hmc PyProof.Rows.Boot.«ValueError» rfl) cI) (ao _ hn)) (by decide) (by decide) (ao _ hn) rfl) fun σ H Q h=>wg (fun x C hc=>.inr ⟨_,rfl,by rw[hc.val];simp[RL.cG]⟩) h
end
theorem nJ:∀ ys:List Str,Str.join ⟨#[]⟩ ys=⟨(ys.flatMap fun s=>s.cps.toList).toArray⟩
 | []=>rfl
 | [x]=>by simp[Str.join]
 | x::y::r=>by
  have ih:=nJ (y::r)
  show x++(⟨#[]⟩:Str)++Str.join ⟨#[]⟩ (y::r)=_
  rw[ih]
  show(⟨(x.cps ++ #[])++(List.flatMap (fun s=>s.cps.toList) (y::r)).toArray⟩:Str)=_
  simp
theorem rR:∀ {ys:List Str} {us:List Value},Vals (ys.map V.str) us->StrsAre us ys
 | [],_,r=>by cases r;exact .nil
 | y::ys,_,r=>by
  cases r with
  |cons a b=>
   obtain⟨t,rfl⟩:=a
   exact .cons y t (rR b)
theorem qD{P:Addr->Prop}{K:PySem.W.Frag}{H:Hp}:∀ {ds:List RL.D} {ss:List Str} {xs:List V},RL.strs? ds=some ss->ae P K H ds xs->xs=ss.map V.str
 | [],ss,xs,h,r=>by
  rw[RL.strs?]at h
  cases h
  rw[ae]at r
  exact r
 | d::ds,ss,xs,h,r=>by
  rw[ae]at r
  obtain⟨x,t,rfl,r1,r2⟩:=r
  cases d with
  |str y=>
   rw[RL.strs?]at h
   obtain⟨q,h1,h2⟩:=map_some h
   subst h2
   rw[aS r1,qD h1 r2]
   rfl
  | _=>cases h
section
variable{X:Cx}{cl:RL.Cl}{a:Expr}{a':RL.E}{p apos pos:Pos}{j:Nat}
theorem Ag:MtR X "str.join" (fun x xs H Q=>∃ b ys,x=.str ⟨#[]⟩/\xs=[.ref b]/\H b=some (.lst (ys.map V.str))/\(ys.map (·.length)).sum<=16777216/\Q (.str (Str.join ⟨#[]⟩ ys)) H):=by
 intro pins s σ H x xs v us Q I rx r h
 obtain⟨b,ys,rfl,rfl,hb,hz,q⟩:=h
 obtain⟨t,rfl⟩:=rx
 obtain⟨u,rfl,ru⟩:=vals1 r
 cases ru
 obtain⟨its,rv,ht,_⟩:=I.list (SqL.of hb)
 refine join_list (items:=its.toArray) ht.isList (by simpa using rR rv) (by show _+_*0<=_;rw[Nat.mul_zero];exact hz) fun t' k=>⟨.str (Str.join ⟨#[]⟩ ys),H,I.tok _,⟨t',?_⟩,q⟩
 show Value.str (Builtin.Str.glued ⟨#[]⟩ ys) t'=_
 rw[PySem.StrLaws.glued_eq_join]
theorem vM:∀ {ss:List Str},ss.all (fun s=>decide (s.length<=100))=true->(ss.map (·.length)).sum<=100*ss.length
 | [],_=>Nat.le_refl _
 | x::r,h=>by
  rw[List.all_cons,Bool.and_eq_true,decide_eq_true_eq]at h
  have:=vM h.2
  rw[List.map_cons,List.sum_cons,List.length_cons]
  omega
theorem Au(ha:SE X cl a a')(hn:noStar a=true)(hline:(apos.endLine == pos.line)=true):SE X cl (.Call (.Attribute (.Constant (.str ⟨#[]⟩) j p) "join" apos) [a] [] pos) (.join a'):=by
 refine PE.weak (zA PySem.F.plainAttrs_str PySem.F.slot_str_join PySem.F.type_str_join Ag qm (bh ha cI (ao [] hn)) rfl ?_ hline (ao [] hn) rfl) fun σ H Q h=>?_
 ·rw[ao [] hn]
  rfl
 obtain⟨σD,d,rv,e,k⟩:=h
 rw[RL.ev]at e
 obtain⟨x,ea,e⟩:=bind_some e
 cases x with
 |lst ds=>
  obtain⟨ss,e1,e2⟩:=bind_some e
  split at e2
  ·rename_i hz
   cases e2
   refine⟨rfl,σD,_,rv,ea,fun v H1 r1=>?_⟩
   obtain⟨b,xs,rfl,_,f2,f3⟩:=aG r1.rep
   rw[qD e1 f3]at f2
   have hs:=vM hz.2
   have hm:RL.most=100000:=rfl
   refine⟨b,ss,rfl,rfl,f2,by omega,?_⟩
   rw[nJ]
   exact k _ _ (cC r1.same iy rfl)
  ·cases e2
 | _=>cases e
end
end RS
namespace L2
open PySem PySem.Spec PyProof.Rows
structure iL(k:Nat)(A:Around):Prop where
 dp:A.depth+3*k+5<recursionLimit
 un:A.units+16*k+200<cLine
theorem cq.h{k:Nat}{A:Around}(r:cq k A):iL k A:=⟨r.dp,r.un⟩
noncomputable def HXH(A:Around)(H:Hp):Prop:=A.handled=none\/∃ h o u vs,A.handled=some (.ref h)/\H h=some (.frz o u)/\o.data=.fields vs/\vs[2]?=some .none
structure lF(P:Program)(w:World)(K:PySem.W.Frag)(mg:Str->Option Value)(base:Heap)(k:Nat)(f:Addr)(fd:FuncData)(ps:List Str)(sp:Sp):Prop where
 len:∀ vs H Q,sp vs H Q E0->vs.length=ps.length
 run:∀ (A:Around) (outer:List Env) (s:Shared) (H:Hp) (us:List Value) (vs:List V) (Q:VK),iL k A->HXH A H->pb P w K mg base A outer s H->BindsTo s fd ⟨us,[]⟩ (ps.zip us)->Vals vs us->sp vs H Q E0->codeAny (model P w) A (.call (.ref f) ⟨us,[]⟩) (CR CX0 outer P w H s Q E0) s
abbrev cxH(P:Program)(w:World)(K:PySem.W.Frag)(mg:Str->Option Value)(base:Heap)(N:List Str)(qual:Str)(scope:Scope)(f:Addr)(cd:Value)(A:Around)(outer:List Env)(s:Shared)(H:Hp):Cx:={ (gw CX0 P w K mg base N qual scope f cd A outer s H E0).nox with calm:=false }
section
variable{P:Program}{w:World}{K:PySem.W.Frag}{mg:Str->Option Value}{base:Heap}{x qual:Str}{st:Stmt}{f:Addr}{fd:FuncData}{N ps:List Str}{k:Nat}{sp:Sp}
theorem Fun.okH(F:Fun K x qual st f fd)(S:eZ N ps (aK st))(len:∀ vs H Q,sp vs H Q E0->vs.length=ps.length)
 (hbody:∀ (cdv:Value) (A:Around) (outer:List Env) (s:Shared) (H:Hp) (vs:List V) (Q:VK),iL k (A.deeper (envOfC qual (aK st) s.heap.objs.size f cdv))->sp vs H Q E0->∃ t,PSs (cxH P w K mg base N qual (aK st) f cdv A outer s H) (cz st) t/\t { nx:=fun _ H'=>Q .non H',rt:=Q } (start N vs) H):lF P w K mg base (k+1) f fd ps sp:=by
 obtain⟨oc,od,kV,doc,pm,an,cdv,ct,osl,rfl,lk,hcd⟩:=F.ex
 refine⟨len,fun A outer s H us vs Q hr hx e0 hb r hsp=>?_⟩
 have hl:=len _ _ _ hsp
 have KX:K.In s.heap:=e0.mod.kin.keeps fun b o e=>(e0.bs b o e).1
 have kinds:∀ y∈ps.zip us,(aK st).names.lookup y.1=some .local\/((aK st).names.lookup y.1=some .cell/\((cellsFrom (s.heap.objs.size+1) (aK st).names []).lookup y.1).isSome=true):=fun⟨n,v⟩ hy=>(S.par n (List.of_mem_zip hy).1).imp (fun q=>q) fun q=>⟨q,PySem.W.cellsFrom_some _ _ _ (.inl q)⟩
 refine codeAny_call_function (by have:=hr.dp;omega) (KX _ _ lk) rfl S.co S.gen rfl (PySem.W.codeRec_of KX hcd) (hb _ _ _ _ ?_)
 refine wpAny_newFunctionEnv_cells S.kind kinds fun env he s1 y=>?_
 subst he
 refine⟨(e0.mod.nolimit.keeps fun b o e=>(e0.bs b o e).1).keeps y.toInCall.keep,codeAny_func ?_⟩
 have hr':iL k (A.deeper (envOfC qual (aK st) s.heap.objs.size f cdv)):=⟨by have:=hr.dp;show A.depth+1+3*k+5<_;omega,by have:=hr.un;show A.units+3+16*k+200<_;omega⟩
 obtain⟨t,ht,hq⟩:=hbody cdv A outer s H vs Q hr' hsp
 have I0:Inv (gw CX0 P w K mg base N qual (aK st) f cdv { A with handled:=none } outer s H E0) [] (start N vs) H s1:=nL (A:={ A with handled:=none }) S rfl ⟨e0.frames,e0.mod,e0.bs,e0.bsz,e0.d9,e0.frf,e0.hok,e0.bare⟩ hl r y
 have I:Inv (cxH P w K mg base N qual (aK st) f cdv A outer s H) [] (start N vs) H s1:=⟨⟨I0.ok.mod,I0.ok.kind,I0.ok.glob,I0.ok.blt,I0.ok.above,I0.ok.inj,I0.ok.has,I0.ok.cab,⟨fun z=>(nomatch z),hx⟩,Around.frames_deeper e0.frames,I0.ok.stk,I0.ok.exf,I0.ok.bs,I0.ok.bsz,I0.ok.iV,I0.ok.iH,I0.ok.d9,I0.ok.frf⟩,I0.os,I0.bare,I0.base,I0.loc,I0.cell,I0.free,I0.cA,I0.pin,I0.hok,I0.len⟩
 refine wpAny_mono (ht [] s1 (start N vs) H _ I hq) (fun fl s' hs=>?_) fun e s' hs=>hs.elim
 cases fl with
 |ret u=>
  obtain⟨v,σ',H',J,rv,q⟩:=hs
  exact⟨v,H',J.os,J.bare,J.base,J.hok,rv,q⟩
 |next=>
  obtain⟨σ',H',J,q⟩:=hs
  exact⟨.non,H',J.os,J.bare,J.base,J.hok,rfl,q⟩
 |brk=>
  obtain⟨_,_,_,q⟩:=hs
  exact q.elim
 |cont=>
  obtain⟨_,_,_,q⟩:=hs
  exact q.elim
theorem Fun.okX(F:Fun K x qual st f fd)(S:eZ N ps (aK st))(len:∀ vs H Q E,sp vs H Q E->vs.length=ps.length)
 (hbody:∀ (cdv:Value) (A:Around) (outer:List Env) (s:Shared) (H:Hp) (vs:List V) (Q:VK) (E:XK),cq k (A.deeper (envOfC qual (aK st) s.heap.objs.size f cdv))->sp vs H Q E->∃ t,PSs (gw (CXE P w) P w K mg base N qual (aK st) f cdv A outer s H E) (cz st) t/\t { nx:=fun _ H'=>Q .non H',rt:=Q } (start N vs) H):dO P w K mg base (CXE P w) (k+1) f fd ps sp:=by
 obtain⟨oc,od,kV,doc,pm,an,cdv,ct,osl,rfl,lk,hcd⟩:=F.ex
 exact zH lk hcd S len fun A outer s H vs Q E hr hsp=>hbody cdv A outer s H vs Q E hr hsp
end
theorem xC{X:Cx}{k:Nat}{f:Addr}{fd:FuncData}{ps:List Str}{sp:Sp}{x:Str}{p pos:Pos}{e:Expr}{es:List Expr}{t:TA}(F:lF X.prog X.w X.K X.mg X.base k f fd ps sp)(hr:iL k X.A)(hg:Gl X x)(hm:X.mg x=some (.ref f))(hk:PySem.W.keepIn X.K (.ref f)=true)
 (hb:Binds X.K fd ps [])(ha:PA X (e::es) t)(hdb:(x == ("__debug__" : Str))=false)(he:starEach (e::es) X.env=(false,eval e X.env)::starEach es X.env)(hpl:(backTo pos (starEach es X.env)).any (·.1)=false) :
  PE X (.Call (.Name x p) (e::es) [] pos) (fun σ H Q=>t σ H fun vs H1=>sp vs H1 Q E0):=by
 intro pins s σ H Q I h
 refine wpAny_Call_Name_kw (fY I hg hm ?_ hdb)
 refine PySem.W.callWith_K (h₀:=X.base) I.ok.mod.kin hk (thn (ha pos pins s σ H _ I h) fun us s1 ⟨vs,H1,I1,r,q⟩=>⟨I1.kIn,?_⟩) he hpl
 have hl:us.length=ps.length:=by rw[<-r.length];exact F.len _ _ _ q
 have hbb:=hb s1 us I1.kIn (by rw[List.append_nil];exact hl)
 rw[List.append_nil]at hbb
 have hx:HXH X.A H1:=by
  rcases I1.ok.hd.2 with z | ⟨h,o,u,vs,h1,h2,h3⟩
  ·exact .inl z
  ·exact .inr ⟨h,o,u,vs,h1,I1.base.cJ _ _ _ h2,h3⟩
 refine wpAny_call (codeAny_mono (F.run X.A X.stack s1 H1 us vs Q hr hx I1.yP hbb r q) fun r s' hq=>?_)
 cases r with
 | error e=>exact hq.elim
 |ok fl=>
  cases fl with
  | ret u=>exact I1.after hq
  | next=>exact False.elim hq
  | brk=>exact False.elim hq
  | cont=>exact False.elim hq
end L2
namespace RS
open PySem PySem.Spec PyProof.Rows L2
noncomputable def zE:Expr->Option (List Expr)
 | .JoinedStr vs _=>some vs
 | _=>none
theorem y8{e:Expr}{vs:List Expr}(h:zE e=some vs):∃ p,e=.JoinedStr vs p:=by
 cases e
 case JoinedStr=>cases h;exact⟨_,rfl⟩
 all_goals exact nos h
noncomputable def DK:Expr->Option (Expr × Int × Option Expr)
 | .FormattedValue e c s _=>some (e,c,s)
 | _=>none
theorem Bq{e x:Expr}{c:Int}{s:Option Expr}(h:DK e=some (x,c,s)):∃ p,e=.FormattedValue x c s p:=by
 cases e
 case FormattedValue=>cases h;exact⟨_,rfl⟩
 all_goals exact nos h
noncomputable def xA:Stmt->Option (Option Expr × Option Expr)
 | .Raise e c _=>some (e,c)
 | _=>none
theorem vU{st:Stmt}{e c:Option Expr}(h:xA st=some (e,c)):∃ p,st=.Raise e c p:=by
 cases st
 case Raise=>cases h;exact⟨_,rfl⟩
 all_goals exact nos h
noncomputable def DL:Stmt->Option (List Stmt × List ExceptHandler × List Stmt × List Stmt)
 | .Try b h o f _=>some (b,h,o,f)
 | _=>none
theorem Bk{st:Stmt}{b o f:List Stmt}{h:List ExceptHandler}(z:DL st=some (b,h,o,f)):∃ p,st=.Try b h o f p:=by
 cases st
 case Try=>cases z;exact⟨_,rfl⟩
 all_goals exact nos z
noncomputable def oF:ExceptHandler->Option Expr × Option Str × List Stmt
 | .ExceptHandler t n b _=>(t,n,b)
structure CC where
 N:List Str
 sc:Scope
 B:List Str
 G:List (Str × Int)
 F:List (Str × List Nat)
 calm:Bool
 hf:List Nat
 Xr:List Str
 Xs:List Str
noncomputable def DY(scope sc:Scope):Scope:={ scope with names:=scope.names.map fun(n,k)=>if(k == NameKind.free&&sc.kind == .function&&sc.names.lookup n == some .cell)then(n,NameKind.cell)else(n,k) }
noncomputable def CC.inner(C:CC)(scope:Scope):CC:={ C with sc:=DY scope C.sc }
noncomputable def hV(x:Str):Bool:=!(x == ("__debug__" : Str)) && !(x == ("__classdict__" : Str))
noncomputable def yA(C:CC)(x:Str):Bool:=C.sc.names.lookup x == some .local || C.sc.names.lookup x == some .cell
noncomputable def yd(C:CC)(x:Str):Bool:=C.sc.names.lookup x == some .local || C.sc.names.lookup x == some .cell || C.sc.names.lookup x == some .free
noncomputable def glB(C:CC)(x:Str):Bool:=C.sc.names.lookup x == some .globalImplicit&&hV x
noncomputable def kY(C:CC)(x:Str):Bool:=glB C x&&C.B.contains x
noncomputable def nmB(C:CC)(i:Nat)(x:Str):Bool:=C.N[i]? == some x&&hV x
structure XOk(C:CC)(X:Cx)(cl:RL.Cl):Prop where
 scope:X.env.scope=C.sc
 names:X.N=C.N
 nd:C.N.Nodup
 calm:C.calm=true->X.calm=true
 xe:X.xe=fun _ _=>False
 hu:X.A.units+100<cLine
 blt:∀ x∈C.B,X.mg x=none
 glb:∀ x i,C.G.lookup x=some i->∃ u,X.mg x=some u/\RelV (.int i) u
 fns:∀ (f:Nat) (x:Str) (mp:List Nat),C.calm=true->C.F[f]?=some (x,mp)->∃ k fa fd ps,dO X.prog X.w X.K X.mg X.base CX0 k fa fd ps (if mp=[]then spF X.K cl f else spM X.K cl mp f)/\cq k X.A/\X.mg x=some (.ref fa)/\PySem.W.keepIn X.K (.ref fa)=true/\Binds X.K fd ps []
 hfn:∀ (f:Nat) (x:Str),C.hf.contains f=true->C.F[f]?=some (x,[])->∃ k fa fd ps,lF X.prog X.w X.K X.mg X.base k fa fd ps (spF X.K cl f)/\iL k X.A/\X.mg x=some (.ref fa)/\PySem.W.keepIn X.K (.ref fa)=true/\Binds X.K fd ps []
 cls:∀ c,C.Xr.contains c=true->∃ D,X.mg c=some (.ref D)/\Cls X.K c D
 ref:∀ c,C.Xs.contains c=true->∃ D,X.mg c=some (.ref D)/\PySem.W.nsIn X.K mainGlobals c=some (some (.ref D))
section
variable{C:CC}{X:Cx}{cl:RL.Cl}{e:Expr}
theorem XOk.vis(h:XOk C X cl){x:Str}(v:yd C x=true):Vis X.env.scope x:=by
 unfold yd at v
 rw[<-h.scope,Bool.or_eq_true,Bool.or_eq_true,beq_iff_eq,beq_iff_eq,beq_iff_eq]at v
 rcases v with(v | v) | v
 ·exact .inl v
 ·exact .inr (.inl v)
 ·exact .inr (.inr v)
theorem XOk.loc(h:XOk C X cl){x:Str}(v:yA C x=true):Loc X.env.scope x:=by
 unfold yA at v
 rw[<-h.scope,Bool.or_eq_true,beq_iff_eq,beq_iff_eq]at v
 exact v
theorem bL{x:Str}(h:hV x=true):(x == ("__debug__" : Str))=false/\(x == ("__classdict__" : Str))=false:=by
 unfold hV at h
 rw[Bool.and_eq_true,Bool.not_eq_true',Bool.not_eq_true']at h
 exact h
theorem XOk.gl(h:XOk C X cl){x:Str}(v:glB C x=true):Gl X x/\hV x=true:=by
 unfold glB at v
 rw[<-h.scope,Bool.and_eq_true,beq_iff_eq]at v
 exact v
theorem XOk.bl(h:XOk C X cl){x:Str}(v:kY C x=true):Gl X x/\X.mg x=none:=by
 unfold kY at v
 rw[Bool.and_eq_true]at v
 exact⟨(h.gl v.1).1,h.blt x (by simpa using v.2)⟩
theorem XOk.nm(h:XOk C X cl){i:Nat}{x:Str}(v:nmB C i x=true):X.N[i]?=some x/\hV x=true:=by
 unfold nmB at v
 rw[<-h.names,Bool.and_eq_true,beq_iff_eq]at v
 exact v
theorem XOk.ndX(h:XOk C X cl):X.N.Nodup:=by rw[h.names];exact h.nd
theorem XOk.blk(h:XOk C X cl){scope:Scope}(cls:List (Str × Addr))(Ca:Addr)(fp:List Addr)(s:Shared)(H:Hp):XOk (C.inner scope) (L2.blk X scope cls Ca fp s H) cl where
 scope:=by
  show relabel scope X.env=DY scope C.sc
  rw[<-h.scope]
  rfl
 names:=h.names
 nd:=h.nd
 calm:=h.calm
 xe:=rfl
 hu:=h.hu
 blt:=h.blt
 glb:=h.glb
 fns:=h.fns
 hfn:=h.hfn
 cls:=h.cls
 ref:=h.ref
noncomputable def gO:RL.D->Const->Bool
 | .int i,.int j=>i == j
 | .bl i,.bool j=>i == j
 | .non,.none=>true
 | .str x,.str y=>x == y
 | _,_=>false
noncomputable def plainT:Expr->Bool
 | .UnaryOp .Not _ _=>false
 | .BoolOp _ _ _=>false
 | .IfExp _ _ _ _=>false
 | .Compare _ _ _ _=>false
 | _=>true
noncomputable def p6:Expr->Bool
 | .BoolOp _ _ _=>true
 | _=>false
noncomputable def lK:Expr->Bool
 | .Set _ _ _=>false
 | _=>true
noncomputable def uM:RL.Bi->Option Str
 | .len=>some "len"
 | .list=>some "list"
 | .tuple=>some "tuple"
 | .int=>some "int"
 | .all=>some "all"
 | _=>none
noncomputable def qR:RL.Ty->Str
 | .int => "int"
 | .bool => "bool"
 | .list => "list"
 | .tuple => "tuple"
 | .str => "str"
noncomputable def FY(neg:Bool):CmpOp:=if neg then .IsNot else .Is
noncomputable def FT(neg:Bool):CmpOp:=if neg then .NotIn else .In
noncomputable def oC(C:CC)(i:Nat)(e:Expr):Bool:=(dH e).any fun x=>nmB C i x&&yd C x
noncomputable def gE(C:CC)(i:Nat)(e:Expr):Bool:=(dH e).any fun x=>nmB C i x&&yA C x
noncomputable def kd(C:CC):List Nat->List Expr->Bool
 | [],es=>es.isEmpty
 | i::is,es=>match es with
  | e::es=>gE C i e&&kd C is es
  | []=>false
noncomputable def mf(C:CC)(tg:List Nat)(e:Expr):Bool :=
 match tg with
 | [i]=>gE C i e
 | tg=>(kD e).any fun es=>kd C tg es
noncomputable def lI(C:CC)(scope:Scope)(tg:List Nat):Bool:=tg.all fun i=>match C.N[i]? with
 | some x=>scope.names.lookup x == some .local || scope.names.lookup x == some .cell
 | none=>false
noncomputable def lW(C:CC)(scope:Scope)(tg:List Nat):Bool:=(List.range C.N.length).all fun i=>match C.N[i]? with
 | some x=>!(scope.names.lookup x == some .local || scope.names.lookup x == some .cell) || tg.contains i
 | none=>true
noncomputable def scB(scope sc:Scope):Bool:=scope.kind == .function&&scope.names.all (fun x=>(!(x.2 == .cell) || scope.names.lookup x.1 == some .cell)&&(!(x.2 == .local) || scope.names.lookup x.1 == some .local)&&(!(x.2 == .free) || sc.names.lookup x.1 == some .cell || sc.names.lookup x.1 == some .free))
noncomputable def bH(C:CC)(e:Expr)(nm:Str)(f:List Expr->Bool):Bool:=(iU e).any fun q=>(dH q.1).any (fun x=>x == nm&&kY C x)&&q.2.2.1.isEmpty&&q.2.1.all noStar&&f q.2.1
theorem bo{nm:Str}{f:List Expr->Bool}(h:XOk C X cl)(z:bH C e nm f=true):∃ p as pos,e=.Call (.Name nm p) as [] pos/\Gl X nm/\X.mg nm=none/\as.all noStar=true/\f as=true:=by
 unfold bH at z
 obtain⟨⟨g,as,ks,pos⟩,z0,z⟩:=ah z
 have e0:=eh z0
 subst e0
 obtain⟨z,z4⟩:=aa z
 obtain⟨z,z3⟩:=aa z
 obtain⟨z1,z2⟩:=aa z
 obtain⟨x,y0,z1⟩:=ah z1
 obtain⟨p,rfl⟩:=bZ y0
 obtain⟨y1,y2⟩:=aa z1
 rw[beq_iff_eq]at y1
 subst y1
 obtain⟨b1,b2⟩:=h.bl y2
 rw[List.isEmpty_iff]at z2
 subst z2
 exact⟨p,as,pos,rfl,b1,b2,z3,z4⟩
theorem all1{a:Expr}(h:[a].all noStar=true):noStar a=true:=by simpa using h
theorem all2{a b:Expr}(h:[a,b].all noStar=true):noStar a=true/\noStar b=true:=by simpa using h
theorem j0{a b c:Expr}(h:[a,b,c].all noStar=true):noStar a=true/\noStar b=true/\noStar c=true:=by simpa using h
end
noncomputable def uw:RL.It->Bool
 | .zip _ _=>true
 | _=>false
mutual
noncomputable def chk(C:CC)(t:Bool):RL.E->Expr->Bool
 | .var i=>fun e=>oC C i e
 | .cst d=>fun e=>(mI e).any fun k=>gO d k
 | .glb y i=>fun e=>(dH e).any fun x=>x == y&&glB C x&&C.G.lookup x == some i
 | .bin o a b=>fun e=>(Cg e).any fun q=>q.2.1 == pM o&&chk C false a q.1&&chk C false b q.2.2
 | .neg a=>fun e=>(vUn e).any fun q=>q.1 == .USub&&chk C false a q.2
 | .cmp c a b=>fun e=>(pE e).any fun q=>of1 q.2.1 fun op=>of1 q.2.2 fun r=>op == d5 c&&chk C false a q.1&&chk C false b r
 | .chain c c' a b d=>fun e=>(pE e).any fun q=>of2 q.2.1 fun op op'=>of2 q.2.2 fun r s=>op == d5 c&&op' == d5 c'&&chk C false a q.1&&chk C false b r&&chk C false d s
 | .isB _ _ _=>fun _=>false
 | .isN neg a=>fun e=>(pE e).any fun q=>of1 q.2.1 fun op=>of1 q.2.2 fun r=>op == FY neg&&(mI r).any (fun k=>gO .non k)&&chk C false a q.1
 | .inn _ _ _=>fun _=>false
 | .inD neg a b=>fun e=>(pE e).any fun q=>of1 q.2.1 fun op=>of1 q.2.2 fun r=>op == FT neg&&uL r&&chk C false a q.1&&chk C false b r
 | .and a b=>fun e=>(vBool e).any fun q=>ofM q.2.1 fun l r rest=>q.1 == .And&&chk C t a l&&(if rest.isEmpty then chk C t b r else chk C t b (.BoolOp .And (r::rest) q.2.2))
 | .or a b=>fun e=>(vBool e).any fun q=>ofM q.2.1 fun l r rest=>q.1 == .Or&&chk C t a l&&(if rest.isEmpty then chk C t b r else chk C t b (.BoolOp .Or (r::rest) q.2.2))
 | .not a=>fun e=>(vUn e).any fun q=>q.1 == .Not&&chk C t a q.2
 | .ifx _ _ _=>fun _=>false
 | .tup es=>fun e=>(kD e).any fun xs=>jQ C es xs&&decide (dY es<=1000)
 | .lst es=>fun e=>(Dr e).any fun xs=>jQ C es xs&&decide (dY es<=1000)
 | .ix a b=>fun e=>(k7 e).any fun q=>kA q.2&&chk C false a q.1&&chk C false b q.2
 | .ixD a b=>fun e=>(k7 e).any fun q=>kA q.2&&chk C false a q.1&&chk C false b q.2
 | .slT a b=>fun e=>(k7 e).any fun q=>chk C false a q.1&&(vSl q.2).any fun s=>s.1.isNone&&s.2.2.isNone&&s.2.1.any fun r=>chk C false b r
 | .slF a b=>fun e=>(k7 e).any fun q=>chk C false a q.1&&(vSl q.2).any fun s=>s.2.1.isNone&&s.2.2.isNone&&s.1.any fun r=>chk C false b r
 | .rev a=>fun e=>(k7 e).any fun q=>chk C false a q.1&&(vSl q.2).any fun s=>s.1.isNone&&s.2.1.isNone&&s.2.2.any fun r=>fU (-1) r
 | .call f es=>fun e=>(C.calm || C.hf.contains f)&&(iU e).any fun q=>(dH q.1).any (fun x=>glB C x&&C.F[f]? == some (x,[]))&&q.2.2.1.isEmpty && !q.2.1.isEmpty&&jQ C es q.2.1
 | .bi b a=>fun e=>C.calm&&match b with
  | .lenSet=>bH C e "len" fun ys=>of1 ys fun y=>bH C y "set" fun zs=>of1 zs fun z=>chk C false a z
  | b=>(uM b).any fun x=>bH C e x fun ys=>of1 ys fun y=>chk C false a y
 | .max a b=>fun e=>C.calm&&bH C e "max" fun ys=>of2 ys fun y z=>chk C false a y&&chk C false b z
 | .min a b=>fun e=>C.calm&&bH C e "min" fun ys=>of2 ys fun y z=>chk C false a y&&chk C false b z
 | .dvm _ _=>fun _=>false
 | .isi a ty=>fun e=>bH C e "isinstance" fun ys=>of2 ys fun y z=>(dH z).any (fun x=>x == qR ty&&kY C x)&&chk C false a y
 | .rng1 a=>fun e=>C.calm&&bH C e "list" fun ys=>of1 ys fun y=>bH C y "range" fun zs=>of1 zs fun z=>chk C false a z
 | .rng2 a b=>fun e=>C.calm&&bH C e "list" fun ys=>of1 ys fun y=>bH C y "range" fun zs=>of2 zs fun z u=>chk C false a z&&chk C false b u
 | .rng3 c a b=>fun e=>C.calm&&bH C e "list" fun ys=>of1 ys fun y=>bH C y "range" fun zs=>of3 zs fun z u q=>fU c q&&chk C false a z&&chk C false b u
 | .comp d tg it c=>fun e=>(uf e).any fun q=>of1 q.2.1 fun g=>of1 g.ifs fun w=>g.is_async == 0&&scB q.2.2.1 C.sc&&lW C q.2.2.1 tg&&lK g.iter&&mf (C.inner q.2.2.1) tg g.target&&lI C q.2.2.1 tg&&gQ C it g.target g.iter&&chk (C.inner q.2.2.1) false d q.1&&chk (C.inner q.2.2.1) true c w&&(C.calm || uw it)
 | .compA d tg it=>fun e=>(uf e).any fun q=>of1 q.2.1 fun g=>g.ifs.isEmpty&&g.is_async == 0&&scB q.2.2.1 C.sc&&lW C q.2.2.1 tg&&lK g.iter&&mf (C.inner q.2.2.1) tg g.target&&lI C q.2.2.1 tg&&gQ C it g.target g.iter&&chk (C.inner q.2.2.1) false d q.1&&C.calm
 | .compL _ _ _=>fun _=>false
 | .dk0=>fun e=>(uz e).any fun q=>q.1.isEmpty&&q.2.isEmpty
 | .dt0=>fun e=>(uz e).any fun q=>q.1.isEmpty&&q.2.isEmpty
 | .chain3 _ _ _ _ _ _ _=>fun _=>false
 | .slB _ _ _=>fun _=>false
 | .get _ _ _=>fun _=>false
 | .index _ _=>fun _=>false
 | .join a=>fun e=>(iU e).any fun q=>(uE q.1).any (fun u=>u.2.1 == ("join" : Str)&&u.2.2.endLine == q.2.2.2.line&&(mI u.1).any fun k=>gO (.str ⟨#[]⟩) k)&&q.2.2.1.isEmpty&&of1 q.2.1 fun y=>noStar y&&chk C false a y
 | .isx a c=>fun e=>bH C e "isinstance" fun ys=>of2 ys fun y z=>(dH z).any (fun x=>x == c&&(if c == ("ValueError" : Str)then kY C x else glB C x&&C.Xs.contains x&&cU.contains x))&&chk C false a y
noncomputable def jQ(C:CC):RL.Es->List Expr->Bool
 | .nil=>fun xs=>xs.isEmpty
 | .cons e es=>fun xs=>match xs with
  | x::xs=>noStar x&&chk C false e x&&jQ C es xs
  | []=>false
noncomputable def gQ(C:CC):RL.It->Expr->Expr->Bool
 | .seq a=>fun _ e=>chk C false a e
 | .rng1 a=>fun _ e=>bH C e "range" fun ys=>of1 ys fun y=>chk C false a y
 | .rng2 a b=>fun _ e=>bH C e "range" fun ys=>of2 ys fun y z=>chk C false a y&&chk C false b z
 | .rng3 c a b=>fun _ e=>bH C e "range" fun ys=>of3 ys fun y z q=>fU c q&&chk C false a y&&chk C false b z
 | .chr _=>fun _ _=>false
 | .enm _=>fun _ _=>false
 | .zip a b=>fun tg e=>(kD tg).isSome&&bH C e "zip" fun ys=>of2 ys fun y z=>chk C false a y&&chk C false b z
 | .nope=>fun _ _=>false
end
noncomputable def qb(X:Cx)(cl:RL.Cl)(e:Expr)(e':RL.E)(b b':Bool):Prop:=(b=true->SE X cl e e')/\(b'=true->ST X cl e e'/\(p6 e=true->SW X cl e e'))
section
variable{C:CC}{X:Cx}{cl:RL.Cl}{e:Expr}{e':RL.E}{b:Bool}
theorem uQ{env:Env}(h:plainT e=true)(whole:Sem Value):isTrue e env whole=(do let v <- whole;standAt e.pos;holding [v] (truthy v)):=by
 cases e<;>first
  | rfl
  | (cases h;done)
  | (rename_i op _ _;cases op<;>first | rfl | (cases h;done))
theorem aD(h:b=true->SE X cl e e'/\plainT e=true):qb X cl e e' b b :=
 ⟨fun z=>(h z).1,fun z=>⟨yQ (h z).1 (uQ (h z).2),fun q=>by
  have:=(h z).2
  cases e<;>first | (cases q;done) | (cases this;done)⟩⟩
theorem iW(h:b=true->SE X cl e e'/\ST X cl e e'/\p6 e=false):qb X cl e e' b b :=
 ⟨fun z=>(h z).1,fun z=>⟨(h z).2.1,fun q=>by rw[(h z).2.2]at q;cases q⟩⟩
theorem fS(h:b=false){b':Bool}(h':b'=false):qb X cl e e' b b':=⟨fun z=>(by rw[h]at z;cases z),fun z=>(by rw[h']at z;cases z)⟩
theorem Dh{d:RL.D}{k:Const}{j:Nat}{pos:Pos}(h:gO d k=true):SE X cl (.Constant k j pos) (.cst d):=by
 cases d<;>cases k<;>simp only[gO]at h<;>first | (cases h;done) | skip
 case non.none=>exact lT qk (fun P H=>by rw[Rep]) rfl
 case bl.bool i j=>rw[beq_iff_eq]at h;subst h;exact lT E4 (fun P H=>qd) rfl
 case int.int i j=>rw[beq_iff_eq]at h;subst h;exact lT qM (fun P H=>aX) rfl
 case str.str i j=>rw[beq_iff_eq]at h;subst h;exact lT qm (fun P H=>iy) rfl
theorem Aj{k:Const}(h:gO .non k=true):k=.none:=by
 cases k<;>simp only[gO]at h<;>first | (cases h;done) | rfl
theorem vn(t:RL.Ty):bootBuiltins (qR t)=some (.type (tyN t))/\qR t ≠ "__name__" /\ (qR t == ("__debug__" : Str))=false:=by
 cases t<;>exact⟨by decide +kernel,by decide +kernel,by decide +kernel⟩
theorem d8(h:lK e=true)(env:Env)(x:Value):foldedSetIterable e env x=pure x:=by
 cases e<;>first | rfl | (cases h;done)
theorem EH(hcalm:X.calm=true){o:RL.Bi}{x:Str}{p pos:Pos}{y:Expr}{a':RL.E}(hx:uM o=some x)(hb:Gl X x)(hb2:X.mg x=none)(ha:SE X cl y a')(hn:noStar y=true):SE X cl (.Call (.Name x p) [y] [] pos) (.bi o a'):=by
 cases o<;>simp only[uM]at hx<;>first | (cases hx;done) | skip
 case len=>cases hx;exact Cp hb hb2 ha hn
 case list=>cases hx;exact Bw hb hb2 ha hn
 case tuple=>cases hx;exact yc hb hb2 ha hn
 case int=>cases hx;exact Ce hb hb2 ha hn
 case all=>cases hx;exact CB hcalm hb hb2 ha hn
theorem v7{r:Expr}(h:kA r=true):uO r:=by
 cases r<;>first | (cases h;done) | (intro a b;rfl) | skip
theorem gZ{i:Nat}(h:XOk C X cl)(z:oC C i e=true):∃ x p,e=.Name x p/\X.N[i]?=some x/\Vis X.env.scope x/\(x == ("__debug__" : Str))=false/\(x == ("__classdict__" : Str))=false:=by
 obtain⟨x,z0,z⟩:=ah z
 obtain⟨p,rfl⟩:=bZ z0
 obtain⟨z1,z2⟩:=aa z
 obtain⟨g1,g2⟩:=h.nm z1
 exact⟨x,p,rfl,g1,h.vis z2,(bL g2).1,(bL g2).2⟩
theorem gA{i:Nat}(h:XOk C X cl)(z:gE C i e=true):∃ x p,e=.Name x p/\X.N[i]?=some x/\Loc X.env.scope x:=by
 obtain⟨x,z0,z⟩:=ah z
 obtain⟨p,rfl⟩:=bZ z0
 obtain⟨z1,z2⟩:=aa z
 exact⟨x,p,rfl,(h.nm z1).1,h.loc z2⟩
theorem jV(h:XOk C X cl){T:List Nat}(hf:∀ i x,i∈T->X.N[i]?=some x->X.fn x=true\/X.env.scope.names.lookup x=some .local):∀ {is:List Nat} {es:List Expr},(∀ i∈is,i∈T)->kd C is es=true->PGs X es (gs is)/\(assignEach es X.env).length=is.length/\(assignEach es X.env).findIdx? (·.1)=none
 | [],es,_,z=>by
  rw[kd,List.isEmpty_iff]at z
  subst z
  exact⟨AX,rfl,rfl⟩
 | i::is,[],_,z=>by cases z
 | i::is,e::es,hs,z=>by
  rw[kd]at z
  obtain⟨z1,z2⟩:=aa z
  obtain⟨x,p,rfl,g1,g2⟩:=gA h z1
  obtain⟨h1,h2,h3⟩:=jV h hf (fun j hj=>hs j (List.mem_cons_of_mem _ hj)) z2
  refine⟨yn (rX h.ndX g1 g2 (hf i x (hs i List.mem_cons_self) g1)) h1,?_,?_⟩
  ·show(assignEach es X.env).length+1=is.length+1
   rw[h2]
  ·show List.findIdx? (·.1) ((false,assign (.Name x p) X.env)::assignEach es X.env)=none
   rw[List.findIdx?_cons]
   simp only[Bool.false_eq_true,if_false,h3,Option.map_none]
theorem pF{tg:List Nat}{tgE:Expr}(h:XOk C X cl)(hf:∀ i x,i∈tg->X.N[i]?=some x->X.fn x=true\/X.env.scope.names.lookup x=some .local)(hc:mf C tg tgE=true):PG X tgE (gT X.K tg):=by
 unfold mf at hc
 split at hc
 ·obtain⟨x,p,rfl,g1,g2⟩:=gA h hc
  exact rX h.ndX g1 g2 (hf _ x (by simp) g1)
 ·rename_i hne
  obtain⟨es,z0,z⟩:=ah hc
  obtain⟨k,p,rfl⟩:=eC z0
  obtain⟨h1,h2,h3⟩:=jV h hf (fun i hi=>hi) z
  have e:gT X.K tg=fun v σ H Q=>mF X.K tg.length (gs tg) v σ H Q\/mR X.K tg.length (gs tg) v σ H Q:=by
   unfold gT
   split
   ·rename_i i
    exact absurd rfl (hne i)
   ·rfl
  rw[e]
  exact qU (mQ h1 h2 h3) (mJ h1 h2 h3)
section rulesH
variable{pos:Pos}
theorem zd{es:List Expr}{e:Expr}{es':RL.Es}{e':RL.E}{f:Nat}{x:Str}{p:Pos}{k:Nat}{fa:Addr}{fd:FuncData}{ps:List Str}(F:lF X.prog X.w X.K X.mg X.base k fa fd ps (spF X.K cl f))(hr:iL k X.A)(hg:Gl X x)
 (hm:X.mg x=some (.ref fa))(hk:PySem.W.keepIn X.K (.ref fa)=true)(hb:Binds X.K fd ps [])(he:SEs X cl (e::es) (.cons e' es'))(hdb:(x == ("__debug__" : Str))=false)(hn:noStar e=true)(hns:es.all noStar=true) :
  SE X cl (.Call (.Name x p) (e::es) [] pos) (.call f (.cons e' es')):=by
 refine PE.weak (xC F hr hg hm hk hb he hdb (ao es hn) (cj hns)) fun σ H Q h=>?_
 obtain⟨σD,d,rv,ev,q⟩:=h
 rw[RL.ev]at ev
 obtain⟨ds,e1,e2⟩:=bind_some ev
 refine⟨σD,ds,rv,e1,fun vs H1 s1 r1=>?_⟩
 refine⟨ds,d,r1,e2,fun v H2 s2 r2=>q v H2 ⟨s1.trans s2,r2.none,fun _ m a z=>?_,fun M _ P hP _=>?_⟩⟩
 ·subst z
  have hh:H1 a=none:=by
   cases d with
   | lst ds=>obtain⟨p,xs,e1,e2,_⟩:=aG r2;cases e1;exact Classical.byContradiction e2
   | dK ks ds=>rw[Rep]at r2;obtain⟨p,xs,e1,e2,_⟩:=r2;cases e1;exact Classical.byContradiction e2
   | dT ks ds=>rw[Rep]at r2;obtain⟨p,xs,e1,e2,_⟩:=r2;cases e1;exact Classical.byContradiction e2
   | _=>cases m
  exact s1.free hh
 ·refine r2.weak fun a z=>?_
  obtain⟨o,ho⟩:=Option.ne_none_iff_exists'.mp (hP a z)
  rw[s1 _ _ ho]
  exact fun q=>nomatch q
end rulesH
theorem CD{x:Str}{i:Int}{pos:Pos}(h:XOk C X cl)(hg:glB C x=true)(hl:C.G.lookup x=some i):SE X cl (.Name x pos) (.glb x i):=by
 obtain⟨u,h1,h2⟩:=h.glb x i hl
 obtain⟨g1,g2⟩:=h.gl hg
 exact DC (u:=u) (rP g1 h1 h2 (bL g2).1)
theorem Bz{x:Str}{f:Nat}(hcal:(C.calm || C.hf.contains f)=true){p pos:Pos}{y:Expr}{ys:List Expr}{es:RL.Es}(h:XOk C X cl)(hg:glB C x=true)(hf:C.F[f]?=some (x,[]))(he:SEs X cl (y::ys) es)(hl:dY es=ys.length+1)(hn:noStar y=true)(hns:ys.all noStar=true) :
  SE X cl (.Call (.Name x p) (y::ys) [] pos) (.call f es):=by
 obtain⟨g1,g2⟩:=h.gl hg
 by_cases hc:C.calm=true
 ·obtain⟨k,fa,fd,ps,F,hr,hm,hk,hb⟩:=h.fns f x [] hc hf
  rw[if_pos rfl]at F
  cases es with
  | nil=>simp[dY]at hl
  | cons e' es'=>exact AO F hr g1 hm hk hb he (bL g2).1 hn hns
 ·have hh:C.hf.contains f=true:=by simpa[hc]using hcal
  obtain⟨k,fa,fd,ps,F,hr,hm,hk,hb⟩:=h.hfn f x hh hf
  cases es with
  | nil=>simp[dY]at hl
  | cons e' es'=>exact zd F hr g1 hm hk hb he (bL g2).1 hn hns
theorem l0{scope sc:Scope}(h:scB scope sc=true):m4 scope sc:=by
 unfold scB at h
 obtain⟨h1,h2⟩:=aa h
 rw[List.all_eq_true]at h2
 refine⟨by simpa using h1,fun x hx z=>?_,fun x hx z=>?_,fun x hx z=>?_⟩
 ·have:=h2 x hx
  rw[z]at this
  simpa using this
 ·have:=h2 x hx
  rw[z]at this
  simpa using this
 ·have:=h2 x hx
  rw[z]at this
  simpa using this
theorem iK{scope:Scope}{tg:List Nat}(h:lW C scope tg=true)(i:Nat)(x:Str)(hx:C.N[i]?=some x)(hl:scope.names.lookup x=some .local\/scope.names.lookup x=some .cell):tg.contains i=true:=by
 unfold lW at h
 rw[List.all_eq_true]at h
 have:=h i (List.mem_range.mpr (List.getElem?_eq_some_iff.mp hx).1)
 rw[hx]at this
 rcases hl with hl | hl
 ·simp only[hl,beq_self_eq_true,Bool.true_or,Bool.not_true,Bool.false_or]at this
  exact this
 ·simp only[hl,beq_self_eq_true,Bool.or_true,Bool.not_true,Bool.false_or]at this
  exact this
theorem nX{X:Cx}{cls:List (Str × Addr)}{scope:Scope}{Ca:Addr}{fp:List Addr}{s:Shared}{H:Hp}{pins:List (Addr × Obj)}{s':Shared}{σ:L2.St}{H':Hp}{Q:Bool->Hp->Prop}(I:Inv (L2.blk X scope cls Ca fp s H) pins σ H' s')(q:lj σ H' Q) :
  wpAny (model X.prog X.w) X.A (gC [] (compEnvC scope cls Ca X.env)) (TP (L2.blk X scope cls Ca fp s H) pins σ Q) (fun _ _=>False) s':=by
 unfold gC
 exact wpAny_pure ⟨H',I,q⟩
theorem nH{X:Cx}{cls:List (Str × Addr)}{scope:Scope}{Ca:Addr}{fp:List Addr}{s:Shared}{H:Hp}{pins:List (Addr × Obj)}{s':Shared}{σ:L2.St}{H':Hp}{Q:Bool->Hp->Prop}{c:Expr}{t:TT}(hc:PT (L2.blk X scope cls Ca fp s H) c t)(I:Inv (L2.blk X scope cls Ca fp s H) pins σ H' s')(q:t σ H' Q) :
  wpAny (model X.prog X.w) X.A (gC [c] (compEnvC scope cls Ca X.env)) (TP (L2.blk X scope cls Ca fp s H) pins σ Q) (fun _ _=>False) s':=by
 have h:=hc pins s' σ H' Q I q
 unfold gC
 simp only[List.forIn_cons,List.forIn_nil,if_true]
 refine wpAny_bind (wpAny_bind (thn h fun b s1 hb=>wpAny_pure ?_))
 exact wpAny_pure hb
theorem lD(h:XOk C X cl){scope:Scope}{cls:List (Str × Addr)}{Ca:Addr}{fp:List Addr}{s:Shared}{H:Hp}{tg:List Nat}(ha:lI C scope tg=true){tgE:Expr}(hc:mf (C.inner scope) tg tgE=true):PG (L2.blk X scope cls Ca fp s H) tgE (gT X.K tg):=by
 have hb:=h.blk (scope:=scope) cls Ca fp s H
 unfold lI at ha
 rw[List.all_eq_true]at ha
 refine pF hb (fun i x hi hx=>?_) hc
 have:=ha i hi
 have hx:X.N[i]?=some x:=hx
 rw[h.names]at hx
 rw[hx]at this
 simp only[Bool.or_eq_true,beq_iff_eq]at this
 rcases this with z | z
 ·exact .inr (lookup_relabel_local z)
 ·exact .inl (by show(scope.names.lookup x == some .cell)=true;rw[z];rfl)
theorem eG{α:Type}{o:Option α}(h:o.isNone=true):o=none:=by
 cases o with
 | none=>rfl
 | some _=>cases h
end
mutual
theorem aj{cl:RL.Cl}:∀ (e':RL.E) {C:CC} {X:Cx} (h:XOk C X cl) (e:Expr),qb X cl e e' (chk C false e' e) (chk C true e' e)
 | .var i,C,X,h,e=>aD (b:=chk C false (.var i) e) fun z=>by
  obtain⟨x,p,rfl,g1,g2,g3,g4⟩:=gZ h z
  exact⟨Ey g1 g2 g3 g4,rfl⟩
 | .cst d,C,X,h,e=>aD (b:=chk C false (.cst d) e) fun z=>by
  obtain⟨k,z0,z⟩:=ah z
  obtain⟨j,p,rfl⟩:=i4 z0
  exact⟨Dh z,rfl⟩
 | .glb y i,C,X,h,e=>aD (b:=chk C false (.glb y i) e) fun z=>by
  obtain⟨x,z0,z⟩:=ah z
  obtain⟨p,rfl⟩:=bZ z0
  obtain⟨z,z3⟩:=aa z
  obtain⟨z1,z2⟩:=aa z
  rw[beq_iff_eq]at z1 z3
  subst z1
  exact⟨CD h z2 z3,rfl⟩
 | .bin o a b,C,X,h,e=>aD (b:=chk C false (.bin o a b) e) fun z=>by
  obtain⟨⟨l,op,r⟩,z0,z⟩:=ah z
  obtain⟨p,rfl⟩:=Bv z0
  obtain⟨z,z3⟩:=aa z
  obtain⟨z1,z2⟩:=aa z
  rw[beq_iff_eq]at z1
  have z1:op=pM o:=z1
  subst z1
  exact⟨Eg ((aj a h l).1 z2) ((aj b h r).1 z3),rfl⟩
 | .neg a,C,X,h,e=>aD (b:=chk C false (.neg a) e) fun z=>by
  obtain⟨⟨op,x⟩,z0,z⟩:=ah z
  obtain⟨p,rfl⟩:=qv z0
  obtain⟨z1,z2⟩:=aa z
  rw[beq_iff_eq]at z1
  have z1:op=.USub:=z1
  subst z1
  exact⟨BA ((aj a h x).1 z2),rfl⟩
 | .cmp c a b,C,X,h,e=>iW (b:=chk C false (.cmp c a b) e) fun z=>by
  obtain⟨⟨l,os,rs⟩,z0,z⟩:=ah z
  obtain⟨p,rfl⟩:=kc z0
  obtain⟨op,y1,z⟩:=aQ z
  obtain⟨r,y2,z⟩:=aQ z
  have y1:os=[op]:=y1
  have y2:rs=[r]:=y2
  subst y1 y2
  obtain⟨z,z3⟩:=aa z
  obtain⟨z1,z2⟩:=aa z
  rw[beq_iff_eq]at z1
  subst z1
  exact⟨CU h.hu ((aj a h l).1 z2) ((aj b h r).1 z3),Cc h.hu ((aj a h l).1 z2) ((aj b h r).1 z3),rfl⟩
 | .chain c c' a b d,C,X,h,e=>iW (b:=chk C false (.chain c c' a b d) e) fun z=>by
  obtain⟨⟨l,os,rs⟩,z0,z⟩:=ah z
  obtain⟨p,rfl⟩:=kc z0
  obtain⟨op,op',y1,z⟩:=cX z
  obtain⟨r,s,y2,z⟩:=cX z
  have y1:os=[op,op']:=y1
  have y2:rs=[r,s]:=y2
  subst y1 y2
  obtain⟨z,z5⟩:=aa z
  obtain⟨z,z4⟩:=aa z
  obtain⟨z,z3⟩:=aa z
  obtain⟨z1,z2⟩:=aa z
  rw[beq_iff_eq]at z1 z2
  subst z1 z2
  exact⟨yg h.hu ((aj a h l).1 z3) ((aj b h r).1 z4) ((aj d h s).1 z5),yf h.hu ((aj a h l).1 z3) ((aj b h r).1 z4) ((aj d h s).1 z5),rfl⟩
 | .isB _ _ _,C,X,h,e=>fS rfl rfl
 | .isN neg a,C,X,h,e=>iW (b:=chk C false (.isN neg a) e) fun z=>by
  obtain⟨⟨l,os,rs⟩,z0,z⟩:=ah z
  obtain⟨p,rfl⟩:=kc z0
  obtain⟨op,y1,z⟩:=aQ z
  obtain⟨r,y2,z⟩:=aQ z
  have y1:os=[op]:=y1
  have y2:rs=[r]:=y2
  subst y1 y2
  obtain⟨z,z3⟩:=aa z
  obtain⟨z1,z2⟩:=aa z
  rw[beq_iff_eq]at z1
  subst z1
  obtain⟨k,w0,w⟩:=ah z2
  obtain⟨j,q,rfl⟩:=i4 w0
  have w:=Aj w
  subst w
  exact⟨BG ((aj a h l).1 z3),Dy ((aj a h l).1 z3),rfl⟩
 | .inn _ _ _,C,X,h,e=>fS rfl rfl
 | .inD neg a b,C,X,h,e=>iW (b:=chk C false (.inD neg a b) e) fun z=>by
  obtain⟨⟨l,os,rs⟩,z0,z⟩:=ah z
  obtain⟨p,rfl⟩:=kc z0
  obtain⟨op,y1,z⟩:=aQ z
  obtain⟨r,y2,z⟩:=aQ z
  have y1:os=[op]:=y1
  have y2:rs=[r]:=y2
  subst y1 y2
  obtain⟨z,z4⟩:=aa z
  obtain⟨z,z3⟩:=aa z
  obtain⟨z1,z2⟩:=aa z
  rw[beq_iff_eq]at z1
  subst z1
  exact⟨B2 h.hu ((aj a h l).1 z3) ((aj b h r).1 z4) z2,C0 h.hu ((aj a h l).1 z3) ((aj b h r).1 z4) z2,rfl⟩
 | .and a b,C,X,h,e=>⟨(fun z=>by
   obtain⟨⟨op,es,p⟩,z0,z⟩:=ah z
   obtain⟨l,r,rest,y1,z⟩:=lB z
   have e0:=i9 z0
   have y1:es=l::r::rest:=y1
   obtain⟨z,z3⟩:=aa z
   obtain⟨z1,z2⟩:=aa z
   rw[beq_iff_eq]at z1
   have z1:op=.And:=z1
   subst y1 z1 e0
   refine CT ((aj a h l).1 z2) ?_
   split at z3
   ·rename_i hr
    rw[List.isEmpty_iff]at hr
    subst hr
    exact x6 ((aj b h r).1 z3)
   ·exact(aj b h _).1 z3),(fun z=>by
   obtain⟨⟨op,es,p⟩,z0,z⟩:=ah z
   obtain⟨l,r,rest,y1,z⟩:=lB z
   have e0:=i9 z0
   have y1:es=l::r::rest:=y1
   obtain⟨z,z3⟩:=aa z
   obtain⟨z1,z2⟩:=aa z
   rw[beq_iff_eq]at z1
   have z1:op=.And:=z1
   subst y1 z1 e0
   have w:SW X cl (.BoolOp .And (l::r::rest) p) (.and a b):=by
    refine Dz ((aj a h l).2 z2).1 ?_
    split at z3
    ·rename_i hr
     rw[List.isEmpty_iff]at hr
     subst hr
     exact wa ((aj b h r).2 z3).1
    ·exact((aj b h _).2 z3).2 rfl
   exact⟨w.pt,fun _=>w⟩)⟩
 | .or a b,C,X,h,e=>⟨(fun z=>by
   obtain⟨⟨op,es,p⟩,z0,z⟩:=ah z
   obtain⟨l,r,rest,y1,z⟩:=lB z
   have e0:=i9 z0
   have y1:es=l::r::rest:=y1
   obtain⟨z,z3⟩:=aa z
   obtain⟨z1,z2⟩:=aa z
   rw[beq_iff_eq]at z1
   have z1:op=.Or:=z1
   subst y1 z1 e0
   refine Fh ((aj a h l).1 z2) ?_
   split at z3
   ·rename_i hr
    rw[List.isEmpty_iff]at hr
    subst hr
    exact x6 ((aj b h r).1 z3)
   ·exact(aj b h _).1 z3),(fun z=>by
   obtain⟨⟨op,es,p⟩,z0,z⟩:=ah z
   obtain⟨l,r,rest,y1,z⟩:=lB z
   have e0:=i9 z0
   have y1:es=l::r::rest:=y1
   obtain⟨z,z3⟩:=aa z
   obtain⟨z1,z2⟩:=aa z
   rw[beq_iff_eq]at z1
   have z1:op=.Or:=z1
   subst y1 z1 e0
   have w:SW X cl (.BoolOp .Or (l::r::rest) p) (.or a b):=by
    refine EB ((aj a h l).2 z2).1 ?_
    split at z3
    ·rename_i hr
     rw[List.isEmpty_iff]at hr
     subst hr
     exact wa ((aj b h r).2 z3).1
    ·exact((aj b h _).2 z3).2 rfl
   exact⟨w.pt,fun _=>w⟩)⟩
 | .not a,C,X,h,e=>⟨(fun z=>by
   obtain⟨⟨op,x⟩,z0,z⟩:=ah z
   obtain⟨p,rfl⟩:=qv z0
   obtain⟨z1,z2⟩:=aa z
   rw[beq_iff_eq]at z1
   have z1:op=.Not:=z1
   subst z1
   exact Eu ((aj a h x).1 z2)),(fun z=>by
   obtain⟨⟨op,x⟩,z0,z⟩:=ah z
   obtain⟨p,rfl⟩:=qv z0
   obtain⟨z1,z2⟩:=aa z
   rw[beq_iff_eq]at z1
   have z1:op=.Not:=z1
   subst z1
   exact⟨Cq ((aj a h x).2 z2).1,fun q=>by cases q⟩)⟩
 | .ifx _ _ _,C,X,h,e=>fS rfl rfl
 | .tup es,C,X,h,e=>aD (b:=chk C false (.tup es) e) fun z=>by
  obtain⟨xs,z0,z⟩:=ah z
  obtain⟨k,p,rfl⟩:=eC z0
  obtain⟨z1,z2⟩:=aa z
  exact⟨BR (gy es h _ z1).1 (by simpa using z2),rfl⟩
 | .lst es,C,X,h,e=>aD (b:=chk C false (.lst es) e) fun z=>by
  obtain⟨xs,z0,z⟩:=ah z
  obtain⟨p,rfl⟩:=Ao z0
  obtain⟨z1,z2⟩:=aa z
  exact⟨Cd (gy es h _ z1).1 (by simpa using z2),rfl⟩
 | .ix a b,C,X,h,e=>aD (b:=chk C false (.ix a b) e) fun z=>by
  obtain⟨⟨l,r⟩,z0,z⟩:=ah z
  obtain⟨p,rfl⟩:=fj z0
  obtain⟨z,z3⟩:=aa z
  obtain⟨z1,z2⟩:=aa z
  exact⟨EI ((aj a h l).1 z2) ((aj b h r).1 z3) z1,rfl⟩
 | .ixD a b,C,X,h,e=>aD (b:=chk C false (.ixD a b) e) fun z=>by
  obtain⟨⟨l,r⟩,z0,z⟩:=ah z
  obtain⟨p,rfl⟩:=fj z0
  obtain⟨z,z3⟩:=aa z
  obtain⟨z1,z2⟩:=aa z
  exact⟨DG h.hu ((aj a h l).1 z2) ((aj b h r).1 z3) (v7 z1),rfl⟩
 | .slT a b,C,X,h,e=>aD (b:=chk C false (.slT a b) e) fun z=>by
  obtain⟨⟨l,s⟩,z0,z⟩:=ah z
  obtain⟨p,rfl⟩:=fj z0
  obtain⟨z1,z⟩:=aa z
  obtain⟨⟨s1,s2,s3⟩,z0,z⟩:=ah z
  obtain⟨q,e0⟩:=qz z0
  have e0:s=.Slice s1 s2 s3 q:=e0
  obtain⟨z,z4⟩:=aa z
  obtain⟨z2,z3⟩:=aa z
  have w2:s1=none:=eG z2
  have w3:s3=none:=eG z3
  obtain⟨r,y0,z4⟩:=ah z4
  have y1:s2=some r:=y0
  rw[w2,w3,y1]at e0
  subst e0
  exact⟨D9 ((aj a h l).1 z1) ((aj b h r).1 z4),rfl⟩
 | .slF a b,C,X,h,e=>aD (b:=chk C false (.slF a b) e) fun z=>by
  obtain⟨⟨l,s⟩,z0,z⟩:=ah z
  obtain⟨p,rfl⟩:=fj z0
  obtain⟨z1,z⟩:=aa z
  obtain⟨⟨s1,s2,s3⟩,z0,z⟩:=ah z
  obtain⟨q,e0⟩:=qz z0
  have e0:s=.Slice s1 s2 s3 q:=e0
  obtain⟨z,z4⟩:=aa z
  obtain⟨z2,z3⟩:=aa z
  have w2:s2=none:=eG z2
  have w3:s3=none:=eG z3
  obtain⟨r,y0,z4⟩:=ah z4
  have y1:s1=some r:=y0
  rw[w2,w3,y1]at e0
  subst e0
  exact⟨DV ((aj a h l).1 z1) ((aj b h r).1 z4),rfl⟩
 | .rev a,C,X,h,e=>aD (b:=chk C false (.rev a) e) fun z=>by
  obtain⟨⟨l,s⟩,z0,z⟩:=ah z
  obtain⟨p,rfl⟩:=fj z0
  obtain⟨z1,z⟩:=aa z
  obtain⟨⟨s1,s2,s3⟩,z0,z⟩:=ah z
  obtain⟨q,e0⟩:=qz z0
  have e0:s=.Slice s1 s2 s3 q:=e0
  obtain⟨z,z4⟩:=aa z
  obtain⟨z2,z3⟩:=aa z
  have w2:s1=none:=eG z2
  have w3:s2=none:=eG z3
  obtain⟨r,y0,z4⟩:=ah z4
  have y1:s3=some r:=y0
  rw[w2,w3,y1]at e0
  subst e0
  exact⟨El ((aj a h l).1 z1) z4,rfl⟩
 | .call f es,C,X,h,e=>aD (b:=chk C false (.call f es) e) fun z=>by
  obtain⟨zc,z⟩:=aa z
  obtain⟨⟨g,as,ks,p⟩,z0,z⟩:=ah z
  have z0:=eh z0
  subst z0
  obtain⟨z,z4⟩:=aa z
  obtain⟨z,z3⟩:=aa z
  obtain⟨z1,z2⟩:=aa z
  obtain⟨x,y0,z1⟩:=ah z1
  obtain⟨q,e0⟩:=bZ y0
  have e0:g=.Name x q:=e0
  obtain⟨y1,y2⟩:=aa z1
  rw[beq_iff_eq]at y2
  have w2:ks=[]:=by rw[List.isEmpty_iff]at z2;exact z2
  subst e0 w2
  obtain⟨q1,q2,q3⟩:=gy es h _ z4
  dsimp only at z3 q1 q2 q3
  cases as with
  | nil=>cases z3
  |cons y ys=>
   rw[List.all_cons]at q3
   exact⟨Bz zc h y1 y2 q1 q2 (aa q3).1 (aa q3).2,rfl⟩
 | .bi o a,C,X,h,e=>by
  have gen:(∀ t,chk C t (.bi o a) e=(C.calm&&(uM o).any fun x=>bH C e x fun ys=>of1 ys fun y=>chk C false a y))->qb X cl e (.bi o a) (chk C false (.bi o a) e) (chk C true (.bi o a) e):=fun heq=>by
   rw[heq,heq]
   refine aD fun z=>?_
   obtain⟨zc,z⟩:=aa z
   obtain⟨x,y0,z⟩:=ah z
   obtain⟨p,as,pos,rfl,b1,b2,z3,z4⟩:=bo h z
   obtain⟨y,rfl,z4⟩:=aQ z4
   exact⟨EH (h.calm zc) y0 b1 b2 ((aj a h y).1 z4) (all1 z3),rfl⟩
  cases o
  case lenSet =>
   refine aD (b:=chk C false (.bi .lenSet a) e) fun z=>?_
   obtain⟨zc,z⟩:=aa z
   obtain⟨p,as,pos,rfl,b1,b2,z3,z4⟩:=bo h z
   obtain⟨y,rfl,z5⟩:=aQ z4
   obtain⟨p',as',pos',rfl,b1',b2',z3',z6⟩:=bo h z5
   obtain⟨y,rfl,z7⟩:=aQ z6
   exact⟨xh (h.calm zc) b1 b2 b1' b2' ((aj a h y).1 z7) (all1 z3'),rfl⟩
  all_goals exact gen fun t=>rfl
 | .max a b,C,X,h,e=>aD (b:=chk C false (.max a b) e) fun z=>by
  obtain⟨zc,z⟩:=aa z
  obtain⟨p,as,pos,rfl,b1,b2,z3,z4⟩:=bo h z
  obtain⟨y,u,rfl,z4⟩:=cX z4
  exact⟨Cf (h.calm zc) b1 b2 ((aj a h y).1 (aa z4).1) ((aj b h u).1 (aa z4).2) (all2 z3).1 (all2 z3).2,rfl⟩
 | .min a b,C,X,h,e=>aD (b:=chk C false (.min a b) e) fun z=>by
  obtain⟨zc,z⟩:=aa z
  obtain⟨p,as,pos,rfl,b1,b2,z3,z4⟩:=bo h z
  obtain⟨y,u,rfl,z4⟩:=cX z4
  exact⟨Ea (h.calm zc) b1 b2 ((aj a h y).1 (aa z4).1) ((aj b h u).1 (aa z4).2) (all2 z3).1 (all2 z3).2,rfl⟩
 | .dvm _ _,C,X,h,e=>fS rfl rfl
 | .isi a ty,C,X,h,e=>aD (b:=chk C false (.isi a ty) e) fun z=>by
  have z:(bH C e "isinstance" fun ys=>of2 ys fun y z=>(dH z).any (fun x=>x == qR ty&&kY C x)&&chk C false a y)=true:=z
  obtain⟨p,as,pos,rfl,b1,b2,z3,z4⟩:=bo h z
  obtain⟨y,u,rfl,z4⟩:=cX z4
  obtain⟨z5,z6⟩:=aa z4
  obtain⟨x,w0,w⟩:=ah z5
  obtain⟨q,rfl⟩:=bZ w0
  obtain⟨w1,w2⟩:=aa w
  rw[beq_iff_eq]at w1
  subst w1
  obtain⟨t1,t2,t3⟩:=vn ty
  exact⟨BH b1 b2 (h.bl w2).1 (h.bl w2).2 t1 t2 t3 ((aj a h y).1 z6) (all2 z3).1,rfl⟩
 | .rng1 a,C,X,h,e=>aD (b:=chk C false (.rng1 a) e) fun z=>by
  obtain⟨zc,z⟩:=aa z
  obtain⟨p,as,pos,rfl,b1,b2,z3,z4⟩:=bo h z
  obtain⟨y,rfl,z5⟩:=aQ z4
  obtain⟨p',as',pos',rfl,b1',b2',z3',z6⟩:=bo h z5
  obtain⟨y,rfl,z7⟩:=aQ z6
  exact⟨B1 (h.calm zc) b1 b2 b1' b2' ((aj a h y).1 z7) (all1 z3'),rfl⟩
 | .rng2 a b,C,X,h,e=>aD (b:=chk C false (.rng2 a b) e) fun z=>by
  obtain⟨zc,z⟩:=aa z
  obtain⟨p,as,pos,rfl,b1,b2,z3,z4⟩:=bo h z
  obtain⟨y,rfl,z5⟩:=aQ z4
  obtain⟨p',as',pos',rfl,b1',b2',z3',z6⟩:=bo h z5
  obtain⟨y,u,rfl,z7⟩:=cX z6
  exact⟨A9 (h.calm zc) b1 b2 b1' b2' ((aj a h y).1 (aa z7).1) ((aj b h u).1 (aa z7).2) (all2 z3').1 (all2 z3').2,rfl⟩
 | .rng3 c a b,C,X,h,e=>aD (b:=chk C false (.rng3 c a b) e) fun z=>by
  obtain⟨zc,z⟩:=aa z
  obtain⟨p,as,pos,rfl,b1,b2,z3,z4⟩:=bo h z
  obtain⟨y,rfl,z5⟩:=aQ z4
  obtain⟨p',as',pos',rfl,b1',b2',z3',z6⟩:=bo h z5
  obtain⟨y,u,q,rfl,z7⟩:=xj z6
  obtain⟨z7,z9⟩:=aa z7
  obtain⟨z7,z8⟩:=aa z7
  exact⟨Bg (h.calm zc) b1 b2 b1' b2' ((aj a h y).1 z8) ((aj b h u).1 z9) (j0 z3').1 (j0 z3').2.1 z7,rfl⟩
 | .comp d tg it c,C,X,h,e=>aD (b:=chk C false (.comp d tg it c) e) fun z=>by
  obtain⟨⟨elt,gens,scope,p⟩,z0,z⟩:=ah z
  have z0:=qW z0
  subst z0
  obtain⟨⟨tgE,iter,ifs,asy⟩,y1,z⟩:=aQ z
  have y1:gens=[⟨tgE,iter,ifs,asy⟩]:=y1
  obtain⟨w,y2,z⟩:=aQ z
  have y2:ifs=[w]:=y2
  obtain⟨z,zc⟩:=aa z
  obtain⟨z,z8⟩:=aa z
  obtain⟨z,z7⟩:=aa z
  obtain⟨z,z6⟩:=aa z
  obtain⟨z,z5⟩:=aa z
  obtain⟨z,z4⟩:=aa z
  obtain⟨z,z3⟩:=aa z
  obtain⟨z,z2⟩:=aa z
  obtain⟨z0,z1⟩:=aa z
  rw[beq_iff_eq]at z0
  have w0:asy=0:=z0
  subst y1 w0
  subst y2
  have B:iR X cl scope tgE tg elt d (tT X.K cl c) [w]:=⟨fun cls Ca fp s H=>lD h z5 z4,fun cls Ca fp s H pins s' σ H' Q I q=>nH ((aj c (h.blk cls Ca fp s H) _).2 z8).1 I q,fun cls Ca fp s H=>(aj d (h.blk cls Ca fp s H) _).1 z7,fun i x hx hl=>iK z2 i x (by rw[<-h.names];exact hx) hl⟩
  by_cases hc:C.calm=true
  ·exact⟨qg (fun _ _ _ _=>h.calm hc) (by rw[h.scope];exact l0 z1) (gb it h _ _ z6) B (d8 z3 _),rfl⟩
  ·have hz:uw it=true:=by simpa[hc]using zc
   exact⟨qg (CM:=fun _=>True) (fun _ _ _ _=>trivial) (by rw[h.scope];exact l0 z1) (Bo it h _ _ z6 hz) B (d8 z3 _),rfl⟩
 | .compA d tg it,C,X,h,e=>aD (b:=chk C false (.compA d tg it) e) fun z=>by
  obtain⟨⟨elt,gens,scope,p⟩,z0,z⟩:=ah z
  have z0:=qW z0
  subst z0
  obtain⟨⟨tgE,iter,ifs,asy⟩,y1,z⟩:=aQ z
  have y1:gens=[⟨tgE,iter,ifs,asy⟩]:=y1
  obtain⟨z,zc⟩:=aa z
  obtain⟨z,z7⟩:=aa z
  obtain⟨z,z6⟩:=aa z
  obtain⟨z,z5⟩:=aa z
  obtain⟨z,z4⟩:=aa z
  obtain⟨z,z3⟩:=aa z
  obtain⟨z,z2⟩:=aa z
  obtain⟨z,z1⟩:=aa z
  obtain⟨y2,z0⟩:=aa z
  rw[beq_iff_eq]at z0
  have w0:asy=0:=z0
  have w2:ifs=[]:=by rw[List.isEmpty_iff]at y2;exact y2
  subst y1 w0
  subst w2
  refine⟨xM (h.calm zc) (by rw[h.scope];exact l0 z1) (gb it h _ _ z6) ?_ (d8 z3 _),rfl⟩
  exact⟨fun cls Ca fp s H=>lD h z5 z4,fun cls Ca fp s H pins s' σ H' Q I q=>nX I q,fun cls Ca fp s H=>(aj d (h.blk cls Ca fp s H) _).1 z7,fun i x hx hl=>iK z2 i x (by rw[<-h.names];exact hx) hl⟩
 | .compL _ _ _,C,X,h,e=>fS rfl rfl
 | .dk0,C,X,h,e=>aD (b:=chk C false .dk0 e) fun z=>by
  obtain⟨⟨ks,vs⟩,z0,z⟩:=ah z
  obtain⟨p,rfl⟩:=qX z0
  obtain⟨z1,z2⟩:=aa z
  rw[List.isEmpty_iff]at z1 z2
  have z1:ks=[]:=z1
  have z2:vs=[]:=z2
  subst z1 z2
  exact⟨Dp,rfl⟩
 | .dt0,C,X,h,e=>aD (b:=chk C false .dt0 e) fun z=>by
  obtain⟨⟨ks,vs⟩,z0,z⟩:=ah z
  obtain⟨p,rfl⟩:=qX z0
  obtain⟨z1,z2⟩:=aa z
  rw[List.isEmpty_iff]at z1 z2
  have z1:ks=[]:=z1
  have z2:vs=[]:=z2
  subst z1 z2
  exact⟨Ei,rfl⟩
 | .chain3 _ _ _ _ _ _ _,C,X,h,e=>fS rfl rfl
 | .slB _ _ _,C,X,h,e=>fS rfl rfl
 | .get _ _ _,C,X,h,e=>fS rfl rfl
 | .index _ _,C,X,h,e=>fS rfl rfl
 | .join a,C,X,h,e=>aD (b:=chk C false (.join a) e) fun z=>by
  obtain⟨⟨g,as,ks,p⟩,z0,z⟩:=ah z
  have z0:=eh z0
  obtain⟨z,z3⟩:=aa z
  obtain⟨z1,z2⟩:=aa z
  obtain⟨⟨o,nm,apos⟩,y0,z1⟩:=ah z1
  have e1:=qC y0
  have e1:g=.Attribute o nm apos:=e1
  obtain⟨z1,y3⟩:=aa z1
  obtain⟨y1,y2⟩:=aa z1
  rw[beq_iff_eq]at y1
  have y1:nm = "join" := y1
  obtain⟨kk,w0,w⟩:=ah y3
  obtain⟨j,q,e2⟩:=i4 w0
  have e2:o=.Constant kk j q:=e2
  have e4:kk=.str ⟨#[]⟩:=by
   cases kk<;>simp only[gO]at w<;>first | (cases w;done) | skip
   rw[beq_iff_eq]at w
   rw[<-w]
  have w2:ks=[]:=by rw[List.isEmpty_iff]at z2;exact z2
  obtain⟨y,e3,z3⟩:=aQ z3
  have e3:as=[y]:=e3
  obtain⟨z3,z5⟩:=aa z3
  rw[e1,y1,e2,e4,w2,e3]at z0
  subst z0
  exact⟨Au ((aj a h y).1 z5) z3 y2,rfl⟩
 | .isx a c,C,X,h,e=>aD (b:=chk C false (.isx a c) e) fun z=>by
  have z:(bH C e "isinstance" fun ys=>of2 ys fun y z=>(dH z).any (fun x=>x == c&&(if c == ("ValueError" : Str)then kY C x else glB C x&&C.Xs.contains x&&cU.contains x))&&chk C false a y)=true:=z
  obtain⟨p,as,pos,rfl,b1,b2,z3,z4⟩:=bo h z
  obtain⟨y,u,rfl,z4⟩:=cX z4
  obtain⟨z5,z6⟩:=aa z4
  obtain⟨x,w0,w⟩:=ah z5
  obtain⟨q,rfl⟩:=bZ w0
  obtain⟨w1,w2⟩:=aa w
  rw[beq_iff_eq]at w1
  subst w1
  split at w2
  ·rename_i hv
   rw[beq_iff_eq]at hv
   subst hv
   exact⟨C5 b1 b2 (h.bl w2).1 (h.bl w2).2 ((aj a h y).1 z6) (all2 z3).1,rfl⟩
  ·obtain⟨w2,w4⟩:=aa w2
   obtain⟨w2,w3⟩:=aa w2
   obtain⟨D,d1,d2⟩:=h.ref x w3
   exact⟨D3 b1 b2 (h.gl w2).1 d1 d2 (by simpa using w4) (bL (h.gl w2).2).1 ((aj a h y).1 z6) (all2 z3).1,rfl⟩
theorem gy{cl:RL.Cl}:∀ (es':RL.Es) {C:CC} {X:Cx} (h:XOk C X cl) (es:List Expr),jQ C es' es=true->SEs X cl es es'/\dY es'=es.length/\es.all noStar=true
 | .nil,C,X,h,es,z=>by
  have z:es=[]:=List.isEmpty_iff.mp z
  subst z
  exact⟨c5,rfl,rfl⟩
 | .cons e' es',C,X,h,es,z=>by
  cases es with
  | nil=>cases z
  |cons e es=>
   obtain⟨z,z3⟩:=aa z
   obtain⟨z1,z2⟩:=aa z
   obtain⟨q1,q2,q3⟩:=gy es' h es z3
   exact⟨br ((aj e' h e).1 z2) q1 z1,by rw[dY,q2,List.length_cons],by rw[List.all_cons,z1,q3];rfl⟩
theorem gb{cl:RL.Cl}:∀ (it:RL.It) {C:CC} {X:Cx} (h:XOk C X cl) (tg e:Expr),gQ C it tg e=true->SI X cl tg e it
 | .seq a,C,X,h,tg,e,z=>AW ((aj a h e).1 z)
 | .rng1 a,C,X,h,tg,e,z=>by
  rw[gQ]at z
  obtain⟨p,as,pos,rfl,b1,b2,z3,z4⟩:=bo h z
  obtain⟨y,rfl,z4⟩:=aQ z4
  exact Bp b1 b2 ((aj a h y).1 z4) (all1 z3)
 | .rng2 a b,C,X,h,tg,e,z=>by
  rw[gQ]at z
  obtain⟨p,as,pos,rfl,b1,b2,z3,z4⟩:=bo h z
  obtain⟨y,u,rfl,z4⟩:=cX z4
  exact Am b1 b2 ((aj a h y).1 (aa z4).1) ((aj b h u).1 (aa z4).2) (all2 z3).1 (all2 z3).2
 | .rng3 c a b,C,X,h,tg,e,z=>by
  rw[gQ]at z
  obtain⟨p,as,pos,rfl,b1,b2,z3,z4⟩:=bo h z
  obtain⟨y,u,q,rfl,z4⟩:=xj z4
  obtain⟨z4,z6⟩:=aa z4
  obtain⟨z4,z5⟩:=aa z4
  exact Ah b1 b2 ((aj a h y).1 z5) ((aj b h u).1 z6) (j0 z3).1 (j0 z3).2.1 z4
 | .chr _,C,X,h,tg,e,z=>by cases z
 | .enm _,C,X,h,tg,e,z=>by cases z
 | .zip a b,C,X,h,tg,e,z=>by
  rw[gQ]at z
  obtain⟨z0,zz⟩:=aa z
  obtain⟨ts,z0⟩:=Option.isSome_iff_exists.mp z0
  obtain⟨k,tp,rfl⟩:=eC z0
  obtain⟨p,as,pos,rfl,b1,b2,z3,z4⟩:=bo h zz
  obtain⟨y,u,rfl,z4⟩:=cX z4
  exact PI'.calm (vy b1 b2 ((aj a h y).1 (aa z4).1) ((aj b h u).1 (aa z4).2) (all2 z3).1 (all2 z3).2)
 | .nope,C,X,h,tg,e,z=>by cases z
theorem Bo{cl:RL.Cl}:∀ (it:RL.It) {C:CC} {X:Cx} (h:XOk C X cl) (tg e:Expr),gQ C it tg e=true->uw it=true->PI' (fun _=>True) X tg e (tI X.K cl it)
 | .zip a b,C,X,h,tg,e,z,_=>by
  rw[gQ]at z
  obtain⟨z0,zz⟩:=aa z
  obtain⟨ts,z0⟩:=Option.isSome_iff_exists.mp z0
  obtain⟨k,tp,rfl⟩:=eC z0
  obtain⟨p,as,pos,rfl,b1,b2,z3,z4⟩:=bo h zz
  obtain⟨y,u,rfl,z4⟩:=cX z4
  exact vy b1 b2 ((aj a h y).1 (aa z4).1) ((aj b h u).1 (aa z4).2) (all2 z3).1 (all2 z3).2
 | .seq _,C,X,h,tg,e,z,w=>by cases w
 | .rng1 _,C,X,h,tg,e,z,w=>by cases w
 | .rng2 _ _,C,X,h,tg,e,z,w=>by cases w
 | .rng3 _ _ _,C,X,h,tg,e,z,w=>by cases w
 | .chr _,C,X,h,tg,e,z,w=>by cases w
 | .enm _,C,X,h,tg,e,z,w=>by cases w
 | .nope,C,X,h,tg,e,z,w=>by cases w
end
noncomputable def dG:Expr->Bool
 | .ListComp _ _ _ _=>false
 | .SetComp _ _ _ _=>false
 | .DictComp _ _ _ _ _=>false
 | _=>true
noncomputable def vO:Expr->Bool
 | .Tuple _ _ _=>false
 | _=>true
noncomputable def uA(e:Expr):Bool:=match e with
 | .SetComp _ _ _ _=>false
 | .DictComp _ _ _ _ _=>false
 | _=>true
noncomputable def yU(C:CC)(x y:Str)(px py:Pos)(a b:Expr):Bool :=
 C.sc.kind == .function&&C.sc.names.lookup x == some .local&&C.sc.names.lookup y == some .local&&px.line == py.line && !(x == y)&&noStar a&&noStar b && !(foldedForSure 8 a&&foldedForSure 8 b) && !(constantsAlone 8 a&&constantsAlone 8 b)
noncomputable def sO(M:List Nat):RL.E->Bool
 | .var i=>M.contains i
 | _=>false
noncomputable def u9(C:CC):RL.Es->List Expr->Bool
 | .nil=>fun xs=>xs.isEmpty
 | .cons e es=>fun xs=>match xs with
  | x::xs=>noStar x&&chk C false e x&&u9 C es xs
  | []=>false
noncomputable def qK:Expr->Option (Str × Pos)
 | .Name x p=>some (x,p)
 | _=>none
theorem nK{e:Expr}{x:Str}{p:Pos}(h:qK e=some (x,p)):e=.Name x p:=by
 cases e
 case Name=>cases h;rfl
 all_goals exact nos h
noncomputable def ur(C:CC)(i:Nat)(nm:Str)(e:Expr)(f:List Expr->Bool):Bool:=(iU e).any fun q=>(uE q.1).any (fun a=>oC C i a.1&&a.2.1 == nm&&a.2.2.endLine == q.2.2.2.line)&&q.2.2.1.isEmpty&&f q.2.1
noncomputable def lG(C:CC)(M:List Nat)(f:Nat)(es:RL.Es)(ps ms:List Nat)(e:Expr):Bool:=(iU e).any fun q=>(dH q.1).any (fun x=>glB C x&&C.F[f]? == some (x,ps))&&q.2.2.1.isEmpty && !q.2.1.isEmpty && !ps.isEmpty&&u9 C es q.2.1&&bR es ps ms&&ms.all (fun i=>M.contains i)&&decide ms.Nodup&&decide ps.Nodup&&C.calm
noncomputable def oZ(C:CC):List Expr->RL.Es->Bool
 | [],ps=>match ps with
  | .nil=>true
  | _=>false
 | v::vs,ps=>match mI v with
  | some (.str y)=>decide (y.length<=3000)&&oZ C vs ps
  | some _=>false
  | none=>(DK v).any fun q=>q.2.1 == -1&&q.2.2.isNone&&match ps with
   | .cons e es=>chk C false e q.1&&oZ C vs es
   | .nil=>false
noncomputable def D6:Const->Bool
 | .str _=>true
 | _=>false
noncomputable def isNil:RL.Es->Bool
 | .nil=>true
 | _=>false
noncomputable def zj(C:CC)(ps:RL.Es)(a:Expr):Bool:=((mI a).any D6&&isNil ps) || (zE a).any fun vs=>decide (2<=vs.length)&&decide (vs.length<=100)&&oZ C vs ps
mutual
noncomputable def ze(C:CC)(M:List Nat):RL.S->Stmt->Bool
 | .asg i e'=>fun st=>(mh st).any fun q=>of1 q.1 fun t=>gE C i t && !M.contains i&&uA q.2&&chk C false e' q.2&&(C.calm || dG q.2)
 | .own i e'=>fun st=>(mh st).any fun q=>of1 q.1 fun t=>gE C i t&&M.contains i&&decide (M.count i<2)&&uA q.2&&chk C false e' q.2&&(C.calm || dG q.2)
 | .unp is e'=>fun st=>(mh st).any fun q=>of1 q.1 fun t=>(kD t).any fun ts=>kd C is ts&&is.all (fun i=>!M.contains i)&&vO q.2&&chk C false e' q.2
 | .par i j a' b'=>fun st=>(mh st).any fun q=>of1 q.1 fun t=>(kD t).any fun ts=>of2 ts fun s u=>(qK s).any fun x=>(qK u).any fun y=>(kD q.2).any fun vs=>of2 vs fun a b=>nmB C i x.1&&nmB C j y.1 && !(i == j) && !M.contains i && !M.contains j&&yU C x.1 y.1 x.2 y.2 a b&&chk C false a' a&&chk C false b' b&&C.calm
 | .parO _ _ _ _=>fun _=>false
 | .app i e'=>fun st=>(uo st).any fun e=>ur C i "append" e fun as=>of1 as fun y=>M.contains i&&noStar y&&chk C false e' y
 | .put i k' e'=>fun st=>(mh st).any fun q=>of1 q.1 fun t=>(k7 t).any fun u=>oC C i u.1&&M.contains i&&kA u.2&&dG q.2&&chk C false k' u.2&&chk C false e' q.2
 | .pop _ _=>fun _=>false
 | .clr _=>fun _=>false
 | .aug _ _ _=>fun _=>false
 | .ife c' a' b'=>fun st=>(wIf st).any fun q=>chk C true c' q.1&&d7 C M a' q.2.1&&d7 C M b' q.2.2
 | .forr tg it b'=>fun st=>(Dc st).any fun q=>q.2.2.2.isEmpty&&gQ C it q.1 q.2.1&&mf C tg q.1&&lK q.2.1&&RL.qV M it&&tg.all (fun i=>!M.contains i)&&d7 C M b' q.2.2.1&&C.calm
 | .mexc f es ps ms=>fun st=>(uo st).any fun e=>lG C M f es ps ms e
 | .maug i f es ps ms=>fun st=>(DT st).any fun q=>gE C i q.1 && !M.contains i&&q.2.1 == .Add&&lG C M f es ps ms q.2.2
 | .ret e'=>fun st=>(CP st).any fun o=>o.any fun e=>chk C false e' e
 | .exc e'=>fun st=>(uo st).any fun e=>dG e&&chk C false e' e
 | .never=>fun _=>false
 | .put2 _ _ _ _ _=>fun _=>false
 | .ifp _ _ _ _=>fun _=>false
 | .whil _ _=>fun _=>false
 | .rais c ps=>fun st=>(xA st).any fun q=>C.calm&&C.Xr.contains c&&glB C c&&q.2.isNone&&q.1.any fun e=>(iU e).any fun u=>(dH u.1).any (fun x=>x == c)&&u.2.2.1.isEmpty&&of1 u.2.1 fun a=>noStar a&&zj C ps a
 | .tryc b c i hh=>fun st=>(DL st).any fun q=>C.calm&&q.2.2.1.isEmpty&&q.2.2.2.isEmpty&&C.Xr.contains c&&cU.contains c&&glB C c && !M.contains i&&of1 q.2.1 (fun hd=>(oF hd).1.any (fun t=>(dH t).any fun x=>x == c)&&(oF hd).2.1.any (fun n=>nmB C i n&&C.sc.names.lookup n == some .local) && !(oF hd).2.2.isEmpty&&d7 { C with calm:=false } M hh (oF hd).2.2)&&d7 C M b q.1
noncomputable def d7(C:CC)(M:List Nat):RL.Ss->List Stmt->Bool
 | .nil=>fun xs=>xs.isEmpty
 | .cons s r=>fun xs=>match xs with
  | x::xs=>ze C M s x&&d7 C M r xs
  | []=>false
end
structure YOk(C:CC)(X:Cx)(cl:RL.Cl):Prop extends XOk C X cl where
 fn:∀ x,X.fn x=true
 st:X.stack=X.env::X.outer/\X.env.frame=some X.env.locals/\X.ex=[]
 fnx:∀ (f:Nat) (x:Str),C.calm=true->C.F[f]?=some (x,[])->∃ k fa fd ps,dO X.prog X.w X.K X.mg X.base (CXE X.prog X.w) k fa fd ps (spX X.K cl f)/\cq k X.A/\X.mg x=some (.ref fa)/\PySem.W.keepIn X.K (.ref fa)=true/\Binds X.K fd ps []
structure ROk(C:CC)(X:Cx)(cl:RL.Cl)(EX:L2.St->XK):Prop where
 y:YOk C X.nox cl
 cal:C.calm=true
 pass:∀ pins σ H s e s',Inv X pins σ H s->CXE X.prog X.w X.stack H s (EX σ) e s'->X.xe e s'
 made:∀ pins σ H s h' e C vs,Inv X pins σ H s->Heap.MadeExcOf s.heap h' e (.ref C) vs->EX σ (.ref C) none H->X.xe (.ref e) { s with heap:=h' }
 own:PassesOwn (model X.prog X.w) X.A X.env X.xe
section
variable{C:CC}{X:Cx}{cl:RL.Cl}{M:List Nat}{st:Stmt}{e:Expr}{e' k':RL.E}{i:Nat}
theorem ee{t:Option Expr}{l:Nat}{env:Env}(h:dG e=true):swapsWith e t l env=pure false:=by
 cases e<;>first | rfl | (cases h;done)
theorem zu{t:Expr}{spos:Pos}(hcal:(C.calm || dG e)=true)(h:YOk C X cl)(hn:gE C i t=true)(ha:uA e=true)(hc:chk C false e' e=true):SA X cl (.Assign [t] e spos) i e':=by
 obtain⟨y,py,rfl,hN,hl⟩:=gA h.toXOk hn
 have plain:swapsWith e (some (.Name y py)) spos.line X.env=pure false->SA X cl (.Assign [.Name y py] e spos) i e':=fun z =>
  yi h.ndX hN hl ((aj e' h.toXOk e).1 hc) (.inl (h.fn y)) z trivial
 by_cases hcomp:dG e=true
 ·exact plain (ee hcomp)
 ·have hcm:X.calm=true:=h.calm (by simpa[hcomp]using hcal)
  have:∃ elt gens scope p,e=.ListComp elt gens scope p:=by
   cases e<;>first | exact absurd rfl hcomp | exact Bool.noConfusion ha | exact⟨_,_,_,_,rfl⟩
  obtain⟨elt,gens,scope,p,rfl⟩:=this
  have hsw:swapsWith (.ListComp elt gens scope p) (some (.Name y py)) spos.line X.env=pure (X.env.blockKind == .function&&X.env.kindOf y == some .local&&py.line == p.line && !(scope.names.any fun(n,k)=>n == y&&(k == .local || k == .cell))):=rfl
  by_cases hb:(X.env.blockKind == .function&&X.env.kindOf y == some .local&&py.line == p.line && !(scope.names.any fun(n,k)=>n == y&&(k == .local || k == .cell)))=true
  ·have hy:X.env.scope.names.lookup y=some .local:=by
    obtain⟨q,_⟩:=aa (aa hb).1
    have q2:=(aa q).2
    rw[beq_iff_eq]at q2
    exact q2
   rw[hb]at hsw
   by_cases hk:∃ d tg it c,e'=.comp d tg it c
   ·obtain⟨d,tg,it,c,rfl⟩:=hk
    obtain⟨⟨tgE,iter,ifs,asy⟩,y1,z⟩:=aQ hc
    have y1:gens=[⟨tgE,iter,ifs,asy⟩]:=y1
    obtain⟨w,y2,z⟩:=aQ z
    have y2:ifs=[w]:=y2
    obtain⟨z,zc⟩:=aa z
    obtain⟨z,z8⟩:=aa z
    obtain⟨z,z7⟩:=aa z
    obtain⟨z,z6⟩:=aa z
    obtain⟨z,z5⟩:=aa z
    obtain⟨z,z4⟩:=aa z
    obtain⟨z,z3⟩:=aa z
    obtain⟨z,z2⟩:=aa z
    obtain⟨z0,z1⟩:=aa z
    rw[beq_iff_eq]at z0
    have w0:asy=0:=z0
    subst y1 w0
    subst y2
    refine xB hcm h.ndX hN hy (by rw[h.scope];exact l0 z1) (gb it h.toXOk _ _ z6) ?_ (d8 z3 _) hsw
    exact⟨fun cls Ca fp s H=>lD h.toXOk z5 z4,fun cls Ca fp s H pins s' σ H' Q I q=>nH ((aj c (h.toXOk.blk cls Ca fp s H) _).2 z8).1 I q,fun cls Ca fp s H=>(aj d (h.toXOk.blk cls Ca fp s H) _).1 z7,fun i x hx hl=>iK z2 i x (by rw[<-h.names];exact hx) hl⟩
   ·by_cases hk2:∃ d tg it,e'=.compA d tg it
    ·obtain⟨d,tg,it,rfl⟩:=hk2
     obtain⟨⟨tgE,iter,ifs,asy⟩,y1,z⟩:=aQ hc
     have y1:gens=[⟨tgE,iter,ifs,asy⟩]:=y1
     obtain⟨z,zc⟩:=aa z
     obtain⟨z,z7⟩:=aa z
     obtain⟨z,z6⟩:=aa z
     obtain⟨z,z5⟩:=aa z
     obtain⟨z,z4⟩:=aa z
     obtain⟨z,z3⟩:=aa z
     obtain⟨z,z2⟩:=aa z
     obtain⟨z,z1⟩:=aa z
     obtain⟨y2,z0⟩:=aa z
     rw[beq_iff_eq]at z0
     have w0:asy=0:=z0
     have w2:ifs=[]:=by rw[List.isEmpty_iff]at y2;exact y2
     subst y1 w0
     subst w2
     refine yG hcm h.ndX hN hy (by rw[h.scope];exact l0 z1) (gb it h.toXOk _ _ z6) ?_ (d8 z3 _) hsw
     exact⟨fun cls Ca fp s H=>lD h.toXOk z5 z4,fun cls Ca fp s H pins s' σ H' Q I q=>nX I q,fun cls Ca fp s H=>(aj d (h.toXOk.blk cls Ca fp s H) _).1 z7,fun i x hx hl=>iK z2 i x (by rw[<-h.names];exact hx) hl⟩
    ·cases e'<;>first | exact Bool.noConfusion hc | exact absurd ⟨_,_,_,_,rfl⟩ hk | exact absurd ⟨_,_,_,rfl⟩ hk2 | (obtain⟨_,hc⟩:=aa hc;exact Bool.noConfusion hc) | (rename_i b a;cases b<;>(obtain⟨_,hc⟩:=aa hc;exact Bool.noConfusion hc))
  ·have hb':=Bool.not_eq_true _▸hb
   rw[hb']at hsw
   exact plain hsw
theorem qN(h:XOk C X cl):∀ {es':RL.Es} {es:List Expr},u9 C es' es=true->PA X es (gL X.K cl es')/\es.all noStar=true
 | .nil,es,z=>by
  have z:es=[]:=List.isEmpty_iff.mp z
  subst z
  exact⟨cI,rfl⟩
 | .cons _ _,[],z=>by cases z
 | .cons e' es',e::es,z=>by
  obtain⟨z,z3⟩:=aa z
  obtain⟨z1,z2⟩:=aa z
  obtain⟨q1,q2⟩:=qN h z3
  refine⟨?_,by rw[List.all_cons,z1,q2];rfl⟩
  rw[gL]
  refine bh ?_ q1 (ao es z1)
  by_cases hv:∃ j,e'=.var j
  ·obtain⟨j,rfl⟩:=hv
   obtain⟨x,p,rfl,g1,g2,g3,g4⟩:=gZ h z2
   exact ju g1 g2 g3 g4
  ·have ht:pL X.K cl e'=tE X.K cl e':=by
    cases e'<;>first | rfl | exact absurd ⟨_,rfl⟩ hv
   rw[ht]
   exact(aj _ h e).1 z2
theorem mP{is:List Nat}(h:is.all (fun i=>!M.contains i)=true):∀ i∈is,M.contains i=false:=fun i hi=>by
 rw[List.all_eq_true]at h
 simpa using h i hi
theorem Dv{is:List Nat}(h:is.all (fun i=>M.contains i)=true):∀ i∈is,M.contains i=true:=fun i hi=>by
 rw[List.all_eq_true]at h
 exact h i hi
theorem jv{b:Bool}(h:(!b)=true):b=false:=by simpa using h
theorem qj{f:Nat}{ps ms:List Nat}{es:RL.Es}(h:XOk C X cl)(z:lG C M f es ps ms e=true):PE X e (lO (spM X.K cl ps f) [] E0 (gL X.K cl es))/\bR es ps ms=true/\(∀ i∈ms,M.contains i=true)/\ms.Nodup/\ps.Nodup/\dG e=true:=by
 unfold lG at z
 obtain⟨⟨g,as,ks,pos⟩,z0,z⟩:=ah z
 have e0:=eh z0
 obtain⟨z,zc⟩:=aa z
 obtain⟨z,z9⟩:=aa z
 obtain⟨z,z8⟩:=aa z
 obtain⟨z,z7⟩:=aa z
 obtain⟨z,z6⟩:=aa z
 obtain⟨z,z5⟩:=aa z
 obtain⟨z,z4⟩:=aa z
 obtain⟨z,z3⟩:=aa z
 obtain⟨z1,z2⟩:=aa z
 obtain⟨x,y0,z1⟩:=ah z1
 obtain⟨p,e1⟩:=bZ y0
 have e1:g=.Name x p:=e1
 obtain⟨y1,y2⟩:=aa z1
 rw[beq_iff_eq]at y2
 have w2:ks=[]:=by rw[List.isEmpty_iff]at z2;exact z2
 rw[e1,w2]at e0
 subst e0
 refine⟨?_,z6,Dv z7,by simpa using z8,by simpa using z9,rfl⟩
 obtain⟨k,fa,fd,pn,F,hr,hm,hk,hb⟩:=h.fns f x ps zc y2
 rw[if_neg (fun z=>by subst z;cases z4)]at F
 obtain⟨q1,q2⟩:=qN h z5
 obtain⟨g1,g2⟩:=h.gl y1
 cases as with
 | nil=>cases z3
 |cons y ys=>
  rw[List.all_cons]at q2
  exact sL F hr g1 hm hk hb .nil zN q1 (bL g2).1 (ao ys (aa q2).1) (cj (aa q2).2)
theorem Aw{nm:Str}{f:List Expr->Bool}(h:XOk C X cl)(z:ur C i nm e f=true):∃ x p apos as pos,e=.Call (.Attribute (.Name x p) nm apos) as [] pos/\X.N[i]?=some x/\Vis X.env.scope x/\(x == ("__debug__" : Str))=false/\(x == ("__classdict__" : Str))=false/\(apos.endLine == pos.line)=true/\f as=true:=by
 unfold ur at z
 obtain⟨⟨g,as,ks,pos⟩,z0,z⟩:=ah z
 have e0:=eh z0
 obtain⟨z,z3⟩:=aa z
 obtain⟨z1,z2⟩:=aa z
 obtain⟨⟨o,a,apos⟩,y0,z1⟩:=ah z1
 have e1:=qC y0
 have e1:g=.Attribute o a apos:=e1
 obtain⟨z1,y3⟩:=aa z1
 obtain⟨y1,y2⟩:=aa z1
 rw[beq_iff_eq]at y2
 have y2:a=nm:=y2
 have w2:ks=[]:=by rw[List.isEmpty_iff]at z2;exact z2
 obtain⟨x,p,e2,g1,g2,g3,g4⟩:=gZ h y1
 have e2:o=.Name x p:=e2
 rw[e1,w2,y2,e2]at e0
 exact⟨x,p,apos,as,pos,e0,g1,g2,g3,g4,y3,z3⟩
theorem AA(h1:PS X st (qi (tE X.K cl e') (yH (kX i) (tE X.K cl k') tP)))(h2:PS X st (ue (kX i) (tE X.K cl k') (tE X.K cl e')))(hi:M.contains i=true):SS X cl M st (.put i k' e'):=by
 have a1:=BB h1 hi trivial
 have a2:=By h2 hi
 intro pins s σ H D I h
 obtain⟨σD,o,σD',rv,e,k⟩:=h
 rw[RL.evS]at e
 obtain⟨d,e1,e⟩:=bind_some e
 obtain⟨kk,e2,e⟩:=bind_some e
 obtain⟨l,e3,e⟩:=bind_some e
 cases l with
 | lst ds=>exact a1 pins s σ H D I ⟨σD,o,σD',rv,by dsimp only;rw[e1];dsimp only[Option.bind_some];rw[e2];dsimp only[Option.bind_some];rw[e3];exact e,k⟩
 | _=>exact a2 pins s σ H D I ⟨σD,o,σD',rv,by dsimp only;rw[e1];dsimp only[Option.bind_some];rw[e2];dsimp only[Option.bind_some];rw[e3];exact e,k⟩
theorem uP{o k:Expr}{pos:Pos}{env:Env}(h:kA k=true)(v:Value):assign (.Subscript o k pos) env v=(do
   let ov <- holding [v] (eval o env)
   let iv <- holding [v,ov] (eval k env)
   standAt pos
   holding [v,ov,iv] (setItem ov iv v)
   release [v,ov,iv] []):=by
 cases k<;>first | rfl | (cases h;done)
theorem nY{us:List Expr}{kk:Nat}{tp:Pos}{env:Env}(h:vO e=true):swappedStores [.Tuple us kk tp] e env=pure none:=by
 cases e<;>first | rfl | (cases h;done)
theorem Cz{x y:Str}{px py pt pt2:Pos}{kt k2:Nat}{a b:Expr}(h:XOk C X cl)(hp:yU C x y px py a b=true):swappedStores [.Tuple [.Name x px,.Name y py] kt pt] (.Tuple [a,b] k2 pt2) X.env=pure (some [x,y]) /\
  X.env.scope.names.lookup x=some .local/\X.env.scope.names.lookup y=some .local/\noStar a=true/\noStar b=true:=by
 unfold yU at hp
 obtain⟨hp,h9⟩:=aa hp
 obtain⟨hp,h8⟩:=aa hp
 obtain⟨hp,h7⟩:=aa hp
 obtain⟨hp,h6⟩:=aa hp
 obtain⟨hp,h5⟩:=aa hp
 obtain⟨hp,h4⟩:=aa hp
 obtain⟨hp,h3⟩:=aa hp
 obtain⟨h1,h2⟩:=aa hp
 rw[beq_iff_eq]at h1 h2 h3 h4
 rw[<-h.scope]at h1 h2 h3
 refine⟨?_,h2,h3,h6,h7⟩
 have bk:X.env.blockKind=.function:=by
  unfold Env.blockKind
  rw[h1]
  rfl
 have k1:X.env.kindOf x=some .local:=h2
 have k2:X.env.kindOf y=some .local:=h3
 have hxy:x≠y:=by simpa using h5
 have fs':foldedForSure 8 a=true->foldedForSure 8 b=false:=fun z=>by simpa[z]using h8
 have ca':constantsAlone 8 a=true->constantsAlone 8 b=false:=fun z=>by simpa[z]using h9
 have ed:[x,y].eraseDups=[x,y]:=by
  rw[List.eraseDups_cons]
  simp[Ne.symm hxy]
  rfl
 unfold swappedStores
 simp only[bk]
 simp[show ∀ (x:Str) (p:Pos),(Expr.Name x p).pos=p from fun _ _=>rfl,k1,k2,h4,ed]
 refine(if_neg ?_).trans ((if_neg ?_).trans (if_neg ?_))
 ·intro hh
  rcases hh with hh | hh
  ·cases a<;>first | exact Bool.noConfusion (show false=true from hh) | exact Bool.noConfusion (show false=true from h6)
  ·cases b<;>first | exact Bool.noConfusion (show false=true from hh) | exact Bool.noConfusion (show false=true from h7)
 ·intro hh
  have:=fs' hh.1
  rw[hh.2]at this
  cases this
 ·intro hh
  have:=ca' hh.1
  rw[hh.2]at this
  cases this
end
section
variable{cl:RL.Cl}
theorem AV{X:Cx}{C:CC}{EX:L2.St->XK}{x:Str}{f:Nat}{p pos:Pos}{y:Expr}{ys:List Expr}{es:RL.Es}(h:ROk C X cl EX)(hg:glB C x=true)(hf:C.F[f]?=some (x,[]))(he:SEs X.nox cl (y::ys) es)(ha:RA X EX cl (y::ys) es)(hn:noStar y=true)(hns:ys.all noStar=true) :
  RE X EX cl (.Call (.Name x p) (y::ys) [] pos) (.call f es):=by
 obtain⟨k,fa,fd,ps,F,hr,hm,hk,hb⟩:=h.y.fnx f x h.cal hf
 obtain⟨g1,g2⟩:=h.y.gl hg
 exact A1 F hr g1 hm hk hb h.pass (PA.nox he) ha (bL g2).1 hn hns
mutual
theorem fX:∀ (e':RL.E) {X:Cx} {C:CC} {EX:L2.St->XK} (h:ROk C X cl EX) (e:Expr),chk C false e' e=true->RE X EX cl e e'
 | .call f es,X,C,EX,h,e,z=>by
  obtain⟨zc,z⟩:=aa z
  obtain⟨⟨g,as,ks,p⟩,z0,z⟩:=ah z
  have z0:=eh z0
  subst z0
  obtain⟨z,z4⟩:=aa z
  obtain⟨z,z3⟩:=aa z
  obtain⟨z1,z2⟩:=aa z
  obtain⟨x,y0,z1⟩:=ah z1
  obtain⟨q,e0⟩:=bZ y0
  have e0:g=.Name x q:=e0
  obtain⟨y1,y2⟩:=aa z1
  rw[beq_iff_eq]at y2
  have w2:ks=[]:=by rw[List.isEmpty_iff]at z2;exact z2
  subst e0 w2
  obtain⟨q1,q2,q3⟩:=gy es h.y.toXOk _ z4
  have ha:=nZ es h _ z4
  dsimp only at z3 q1 q2 q3 ha
  cases as with
  | nil=>cases z3
  |cons y ys=>
   rw[List.all_cons]at q3
   exact AV h y1 y2 q1 ha (aa q3).1 (aa q3).2
 | .ix a b,X,C,EX,h,e,z=>by
  obtain⟨⟨l,r⟩,z0,z⟩:=ah z
  obtain⟨p,rfl⟩:=fj z0
  obtain⟨z,z3⟩:=aa z
  obtain⟨z1,z2⟩:=aa z
  exact PE.weak (zS wH (fX a h l z2) (PE.nox ((aj b h.y.toXOk r).1 z3)) (sN z1)) fun σ H Q q=>q
 | .var _,X,C,EX,h,e,z=>aN fun _=>rfl
 | .cst _,X,C,EX,h,e,z=>aN fun _=>rfl
 | .glb _ _,X,C,EX,h,e,z=>aN fun _=>rfl
 | .bin _ _ _,X,C,EX,h,e,z=>aN fun _=>rfl
 | .cmp _ _ _,X,C,EX,h,e,z=>aN fun _=>rfl
 | .chain _ _ _ _ _,X,C,EX,h,e,z=>aN fun _=>rfl
 | .isB _ _ _,X,C,EX,h,e,z=>aN fun _=>rfl
 | .isN _ _,X,C,EX,h,e,z=>aN fun _=>rfl
 | .inn _ _ _,X,C,EX,h,e,z=>aN fun _=>rfl
 | .inD _ _ _,X,C,EX,h,e,z=>aN fun _=>rfl
 | .and _ _,X,C,EX,h,e,z=>aN fun _=>rfl
 | .or _ _,X,C,EX,h,e,z=>aN fun _=>rfl
 | .not _,X,C,EX,h,e,z=>aN fun _=>rfl
 | .ifx _ _ _,X,C,EX,h,e,z=>aN fun _=>rfl
 | .tup _,X,C,EX,h,e,z=>aN fun _=>rfl
 | .lst _,X,C,EX,h,e,z=>aN fun _=>rfl
 | .ixD _ _,X,C,EX,h,e,z=>aN fun _=>rfl
 | .slT _ _,X,C,EX,h,e,z=>aN fun _=>rfl
 | .slF _ _,X,C,EX,h,e,z=>aN fun _=>rfl
 | .rev _,X,C,EX,h,e,z=>aN fun _=>rfl
 | .bi _ _,X,C,EX,h,e,z=>aN fun _=>rfl
 | .max _ _,X,C,EX,h,e,z=>aN fun _=>rfl
 | .min _ _,X,C,EX,h,e,z=>aN fun _=>rfl
 | .dvm _ _,X,C,EX,h,e,z=>aN fun _=>rfl
 | .get _ _ _,X,C,EX,h,e,z=>aN fun _=>rfl
 | .isi _ _,X,C,EX,h,e,z=>aN fun _=>rfl
 | .rng1 _,X,C,EX,h,e,z=>aN fun _=>rfl
 | .rng2 _ _,X,C,EX,h,e,z=>aN fun _=>rfl
 | .rng3 _ _ _,X,C,EX,h,e,z=>aN fun _=>rfl
 | .neg _,X,C,EX,h,e,z=>aN fun _=>rfl
 | .comp _ _ _ _,X,C,EX,h,e,z=>aN fun _=>rfl
 | .compA _ _ _,X,C,EX,h,e,z=>aN fun _=>rfl
 | .compL _ _ _,X,C,EX,h,e,z=>aN fun _=>rfl
 | .index _ _,X,C,EX,h,e,z=>aN fun _=>rfl
 | .chain3 _ _ _ _ _ _ _,X,C,EX,h,e,z=>aN fun _=>rfl
 | .slB _ _ _,X,C,EX,h,e,z=>aN fun _=>rfl
 | .join _,X,C,EX,h,e,z=>aN fun _=>rfl
 | .isx _ _,X,C,EX,h,e,z=>aN fun _=>rfl
 | .dk0,X,C,EX,h,e,z=>aN fun _=>rfl
 | .dt0,X,C,EX,h,e,z=>aN fun _=>rfl
theorem nZ:∀ (es':RL.Es) {X:Cx} {C:CC} {EX:L2.St->XK} (h:ROk C X cl EX) (es:List Expr),jQ C es' es=true->RA X EX cl es es'
 | .nil,X,C,EX,h,es,z=>Eh
 | .cons e' es',X,C,EX,h,es,z=>by
  cases es with
  | nil=>cases z
  |cons e es=>
   obtain⟨z,z3⟩:=aa z
   obtain⟨z1,z2⟩:=aa z
   exact Bl (PE.nox ((aj e' h.y.toXOk e).1 z2)) (fX e' h e z2) (nZ es' h es z3) (ao es z1)
end
section
variable{X:Cx}{C:CC}{EX:L2.St->XK}{M:List Nat}
theorem Al{X:Cx}{st:Stmt}{c:Str}{ps:RL.Es}:SS X cl M st (.rais c ps):=fun pins s σ H D I ⟨σD,r,σD',_,e,_⟩=>by
 rw[RL.evS]at e
 cases e
theorem v5{t e:Expr}{spos:Pos}{i:Nat}{e':RL.E}{s:RL.S}(h:ROk C X cl EX)(hn:gE C i t=true)(ha:uA e=true)(hc:chk C false e' e=true)(he:∀ σD,RL.iA cl M s σD=(RL.evX cl σD e').map fun x=>(x,σD)):RZ X EX cl M (.Assign [t] e spos) s:=by
 obtain⟨y,py,rfl,hN,hl⟩:=gA h.y.toXOk hn
 by_cases hcomp:dG e=true
 ·exact oN (ve (X:=X) h.y.ndX hN hl (fX e' h e hc) (ee hcomp) (.inl (h.y.fn y))) he
 ·refine iG fun σD=>?_
  rw[he]
  have:∃ elt gens scope p,e=.ListComp elt gens scope p:=by
   cases e<;>first | exact absurd rfl hcomp | exact Bool.noConfusion ha | exact⟨_,_,_,_,rfl⟩
  obtain⟨elt,gens,scope,p,rfl⟩:=this
  cases e' with
  |call f es=>
   obtain⟨_,z⟩:=aa hc
   exact Bool.noConfusion z
  | ix a b=>exact Bool.noConfusion hc
  | _=>rfl
noncomputable def tW(K:PySem.W.Frag)(cl:RL.Cl):RL.Es->TA
 | .nil=>kL
 | .cons e es=>vT (tE K cl e) (tW K cl es)
theorem zJ{K:PySem.W.Frag}{σD:RL.St}{σ:L2.St}:∀ {ps:RL.Es} {ds:List RL.D} {H:Hp} {Q:List V->Hp->Prop},RV0 K σD σ H->RL.evs cl σD ps=some ds->ds.all RL.written=true->(∀ vs H1,aq H H1->Q vs H1)->tW K cl ps σ H Q
 | .nil,ds,H,Q,rv,e,w,k=>k [] H (aq.refl _)
 | .cons p ps,ds,H,Q,rv,e,w,k=>by
  rw[RL.evs]at e
  obtain⟨d,e1,e⟩:=bind_some e
  obtain⟨ds',e2,e3⟩:=map_some e
  subst e3
  rw[List.all_cons,Bool.and_eq_true]at w
  cases d with
  |int i=>
   refine⟨σD,.int i,rv,e1,fun v H1 r1=>⟨i,ag r1.rep,by simpa[RL.written]using w.1,zJ (rv.same r1.same) e2 w.2 fun vs H2 sm=>k vs H2 (r1.same.trans sm)⟩⟩
  | _=>cases w.1
theorem lZ{X:Cx}(h:XOk C X cl):∀ {vs:List Expr} {ps:RL.Es},oZ C vs ps=true->PJ X vs (tW X.K cl ps)
 | [],.nil,z=>B8
 | [],.cons _ _,z=>by cases z
 | v::vs,ps,z=>by
  rw[oZ]at z
  split at z
  ·rename_i y hv
   obtain⟨j,p,rfl⟩:=i4 hv
   obtain⟨z1,z2⟩:=aa z
   exact Ba (lZ h z2) (by simpa using z1)
  ·cases z
  ·obtain⟨⟨e,cv,sp⟩,z0,z⟩:=ah z
   obtain⟨p,rfl⟩:=Bq z0
   obtain⟨z,z3⟩:=aa z
   obtain⟨z1,z2⟩:=aa z
   rw[beq_iff_eq]at z1
   have y1:cv=-1:=z1
   have y2:sp=none:=eG z2
   clear z1 z2 z z0
   subst y1 y2
   cases ps with
   | nil=>cases z3
   |cons q qs=>
    obtain⟨z4,z5⟩:=aa z3
    exact BI ((aj q h e).1 z4) (lZ h z5)
theorem xU{c:Str}{ps:RL.Es}{a:Expr}{np cpos pos:Pos}(h:ROk C X cl EX)(z1:C.calm=true)(z2:C.Xr.contains c=true)(z3:glB C c=true)(hn:noStar a=true)(z4:zj C ps a=true):RZ X EX cl M (.Raise (some (.Call (.Name c np) [a] [] cpos)) none pos) (.rais c ps):=by
 obtain⟨D,d1,d2⟩:=h.y.cls c z2
 obtain⟨g1,g2⟩:=h.y.gl z3
 have key:∀ {ta:TE},PE X a ta->(∀ σD σ H ds (Q:VK),RV0 X.K σD σ H->RL.evs cl σD ps=some ds->ds.all RL.written=true->(∀ v H1,aq H H1->Q v H1)->ta σ H Q)->RZ X EX cl M (.Raise (some (.Call (.Name c np) [a] [] cpos)) none pos) (.rais c ps):=fun {ta} pe rd=>by
  intro pins s σ H Dn I q
  refine PS.weak (xP (np:=np) (cpos:=cpos) (pos:=pos) (I.ok.hd.1 (h.y.calm z1)) g1 d1 (bL g2).1 d2.exc (fun pins σ H s h' e vs I m q=>h.made pins σ H s h' e D vs I m q) (bh pe cI (ao [] hn)) (ao [] hn)) (fun Dn σ H q=>?_) pins s σ H Dn I q
  obtain⟨σD,x,σD',rv,e,k⟩:=q
  rw[RL.iA]at e
  obtain⟨ds,e1,e2⟩:=bind_some e
  obtain⟨hw,e2⟩:=cE e2
  cases e2
  exact rd σD σ H ds _ rv.rv0 e1 hw fun v H1 sm=>⟨by show 1<=sizeLine;decide,k σ H1 D d2 (rv.same sm) (Fr'.same sm)⟩
 unfold zj at z4
 rcases Bool.or_eq_true_iff.mp z4 with z | z
 ·obtain⟨w1,w2⟩:=aa z
  obtain⟨kk,q0,q⟩:=ah w1
  obtain⟨j,p,rfl⟩:=i4 q0
  cases kk with
  | str y=>exact key qm fun σD σ H ds Q rv e w k=>k _ H (aq.refl _)
  | _=>cases q
 ·obtain⟨vs,q0,z⟩:=ah z
  obtain⟨p,rfl⟩:=y8 q0
  obtain⟨z,w3⟩:=aa z
  obtain⟨w1,w2⟩:=aa z
  rw[decide_eq_true_eq]at w1 w2
  match vs,w1,w2,w3 with
  |v::v2::vs,_,w2,w3=>
   exact key (PE.nox (xp (lZ h.y.toXOk w3) (by simp at w2;omega))) fun σD σ H ds Q rv e w k=>zJ rv e w fun vs H1 sm x=>k _ H1 sm
end
theorem YOk.rok{C:CC}{X:Cx}(h:YOk C X cl)(pn:List (Addr × Obj))(E:Value->Shared->Prop)(EX:L2.St->XK)(hc:C.calm=true)(ps:∀ pins σ H s e s',Inv (CxX X pn E) pins σ H s->CXE X.prog X.w X.stack H s (EX σ) e s'->E e s')(md:∀ pins σ H s h' e C vs,Inv (CxX X pn E) pins σ H s->Heap.MadeExcOf s.heap h' e (.ref C) vs->EX σ (.ref C) none H->E (.ref e) { s with heap:=h' })(ow:PassesOwn (model X.prog X.w) X.A X.env E):ROk C (CxX X pn E) cl EX where
 y:={ scope:=h.scope,names:=h.names,nd:=h.nd,calm:=h.calm,xe:=rfl,hu:=h.hu,blt:=h.blt,glb:=h.glb,fns:=h.fns,hfn:=h.hfn,cls:=h.cls,ref:=h.ref,fn:=h.fn,st:=h.st,fnx:=h.fnx }
 cal:=hc
 pass:=ps
 made:=md
 own:=ow
theorem YOk.bE{C:CC}{X:Cx}(h:YOk C X cl)(e:Addr)(oe:Obj):YOk { C with calm:=false } (X.bE e oe) cl where
 scope:=h.scope
 names:=h.names
 nd:=h.nd
 calm:=fun z=>nomatch z
 xe:=h.xe
 hu:=h.hu
 blt:=h.blt
 glb:=h.glb
 fns:=fun _ _ _ z=>nomatch z
 hfn:=fun f x a b=>by
  obtain⟨k,fa,fd,ps,F,hr,r⟩:=h.hfn f x a b
  exact⟨k,fa,fd,ps,F,⟨hr.dp,hr.un⟩,r⟩
 cls:=h.cls
 ref:=h.ref
 fn:=h.fn
 st:=h.st
 fnx:=fun _ _ z=>nomatch z
end
section
variable{cl:RL.Cl}
mutual
theorem sC:∀ (s:RL.S) {X:Cx} {C:CC} {M:List Nat} (h:YOk C X cl) (st:Stmt),ze C M s st=true->SS X cl M st s
 | .asg i e',X,C,M,h,st,z=>by
  obtain⟨⟨ts,e⟩,z0,z⟩:=ah z
  obtain⟨p,rfl⟩:=eE z0
  obtain⟨t,y1,z⟩:=aQ z
  have y1:ts=[t]:=y1
  obtain⟨z,zc⟩:=aa z
  obtain⟨z,z4⟩:=aa z
  obtain⟨z,z3⟩:=aa z
  obtain⟨z1,z2⟩:=aa z
  subst y1
  exact DO (zu zc h z1 z3 z4) (jv z2)
 | .own i e',X,C,M,h,st,z=>by
  obtain⟨⟨ts,e⟩,z0,z⟩:=ah z
  obtain⟨p,rfl⟩:=eE z0
  obtain⟨t,y1,z⟩:=aQ z
  have y1:ts=[t]:=y1
  obtain⟨z,zc⟩:=aa z
  obtain⟨z,z5⟩:=aa z
  obtain⟨z,z4⟩:=aa z
  obtain⟨z,z3⟩:=aa z
  obtain⟨z1,z2⟩:=aa z
  subst y1
  exact Dt (zu zc h z1 z4 z5) z2 (by simpa using z3)
 | .unp is e',X,C,M,h,st,z=>by
  obtain⟨⟨ts,e⟩,z0,z⟩:=ah z
  obtain⟨p,rfl⟩:=eE z0
  obtain⟨t,y1,z⟩:=aQ z
  have y1:ts=[t]:=y1
  obtain⟨us,y2,z⟩:=ah z
  obtain⟨k,tp,rfl⟩:=eC y2
  obtain⟨z,z4⟩:=aa z
  obtain⟨z,z3⟩:=aa z
  obtain⟨z1,z2⟩:=aa z
  subst y1
  obtain⟨g1,g2,g3⟩:=jV h.toXOk (T:=is) (fun i x _ _=>.inl (h.fn x)) (fun _ h=>h) z1
  refine A4 (ql ((aj e' h.toXOk e).1 z4) (qU (mQ g1 g2 g3) (mJ g1 g2 g3)) ?_ (nY z3)) (mP z2)
  cases e<;>rfl
 | .par i j a' b',X,C,M,h,st,z=>by
  obtain⟨⟨ts,e⟩,z0,z⟩:=ah z
  obtain⟨p,rfl⟩:=eE z0
  obtain⟨t,y1,z⟩:=aQ z
  have y1:ts=[t]:=y1
  obtain⟨us,y2,z⟩:=ah z
  obtain⟨k,tp,e2⟩:=eC y2
  obtain⟨s1,s2,y3,z⟩:=cX z
  obtain⟨⟨x,px⟩,y4,z⟩:=ah z
  obtain⟨⟨y,py⟩,y5,z⟩:=ah z
  obtain⟨vs,y6,z⟩:=ah z
  obtain⟨k',tp',e6⟩:=eC y6
  have e6:e=.Tuple vs k' tp':=e6
  obtain⟨a,b,y7,w⟩:=cX z
  rw[nK y4,nK y5]at y3
  rw[y3]at e2
  have e7:e=.Tuple [a,b] k' tp':=by rw[<-y7];exact e6
  rw[e2]at y1
  subst y1 e7
  obtain⟨w,zc⟩:=aa w
  obtain⟨w,z8⟩:=aa w
  obtain⟨w,z7⟩:=aa w
  obtain⟨w,z6⟩:=aa w
  obtain⟨w,z5⟩:=aa w
  obtain⟨w,z4⟩:=aa w
  obtain⟨w,z3⟩:=aa w
  obtain⟨z1,z2⟩:=aa w
  obtain⟨g1,g2,g3,g4,g5⟩:=Cz h.toXOk z6
  exact Ci (CZ (h.calm zc) h.ndX (h.nm z1).1 (h.nm z2).1 (by simpa using z3) g2 g3 (br (cl:=cl) ((aj a' h.toXOk a).1 z7) (br ((aj b' h.toXOk b).1 z8) c5 g5) g4) g1) (jv z4) (jv z5)
 | .parO _ _ _ _,X,C,M,h,st,z=>by cases z
 | .app i e',X,C,M,h,st,z=>by
  obtain⟨e,z0,z8⟩:=ah z
  obtain⟨p0,rfl⟩:=jZ z0
  obtain⟨x,p,apos,as,pos,rfl,g1,g2,g3,g4,z6,z7⟩:=Aw h.toXOk z8
  obtain⟨y,rfl,z9⟩:=aQ z7
  obtain⟨z9,z7⟩:=aa z9
  obtain⟨z4,z5⟩:=aa z9
  refine DS (jP (zA PySem.F.plainAttrs_list PySem.F.slot_list_append PySem.F.type_list_append nW (ju g1 g2 g3 g4) (br (cl:=cl) ((aj e' h.toXOk y).1 z7) c5 z5) rfl ?_ z6 (ao [] z5) rfl)) z4
  rw[ao [] z5]
  rfl
 | .put i k' e',X,C,M,h,st,z=>by
  obtain⟨⟨ts,e⟩,z0,z⟩:=ah z
  obtain⟨p,rfl⟩:=eE z0
  obtain⟨t,y1,z⟩:=aQ z
  have y1:ts=[t]:=y1
  obtain⟨⟨o,k⟩,y2,z⟩:=ah z
  obtain⟨sp,e2⟩:=fj y2
  obtain⟨z,z7⟩:=aa z
  obtain⟨z,z6⟩:=aa z
  obtain⟨z,z5⟩:=aa z
  obtain⟨z,z4⟩:=aa z
  obtain⟨z1,z3⟩:=aa z
  obtain⟨x,px,e3,g1,g2,g3,g4⟩:=gZ h.toXOk z1
  have e3:o=.Name x px:=e3
  rw[e3]at e2
  rw[e2]at y1
  subst y1
  have pv:=fun pos=>ju (X:=X) (pos:=pos) g1 g2 g3 g4
  refine AA (ql ((aj e' h.toXOk e).1 z7) (BU (pv _) ((aj k' h.toXOk k).1 z6) set_list (uP z4)) ?_ ?_) (AU (Nat.lt_of_le_of_lt (by lia) h.hu) (pv _) ((aj k' h.toXOk k).1 z6) ((aj e' h.toXOk e).1 z7) (ee z5)) z3
  ·unfold swapsWithSole
   exact ee z5
  ·rfl
 | .pop _ _,X,C,M,h,st,z=>by cases z
 | .clr _,X,C,M,h,st,z=>by cases z
 | .aug _ _ _,X,C,M,h,st,z=>by cases z
 | .ife c' a' b',X,C,M,h,st,z=>by
  obtain⟨⟨c,a,b⟩,z0,z⟩:=ah z
  obtain⟨p,rfl⟩:=xu z0
  obtain⟨z,z3⟩:=aa z
  obtain⟨z1,z2⟩:=aa z
  exact E9 ((aj c' h.toXOk c).2 z1).1 (cR a' h a z2) (cR b' h b z3)
 | .forr tg it b',X,C,M,h,st,z=>by
  obtain⟨⟨t,it',b,o⟩,z0,z⟩:=ah z
  obtain⟨p,rfl⟩:=tf z0
  obtain⟨z,zc⟩:=aa z
  obtain⟨z,z7⟩:=aa z
  obtain⟨z,z6⟩:=aa z
  obtain⟨z,z5⟩:=aa z
  obtain⟨z,z4⟩:=aa z
  obtain⟨z,z3⟩:=aa z
  obtain⟨z1,z2⟩:=aa z
  have z1:o=[]:=List.isEmpty_iff.mp z1
  subst z1
  exact DF h.xe (h.calm zc) (gb it h.toXOk t it' z2) (pF h.toXOk (fun i x _ _=>.inl (h.fn x)) z3) (cR b' h b z7) (d8 z4 _) z5 (mP z6)
 | .mexc f es ps ms,X,C,M,h,st,z=>by
  obtain⟨e,z0,z⟩:=ah z
  obtain⟨p0,rfl⟩:=jZ z0
  obtain⟨g1,g2,g3,g4,g5,g6⟩:=qj h.toXOk z
  exact Bs (jP g1 (ee g6)) g2 g3 g4 g5
 | .maug i f es ps ms,X,C,M,h,st,z=>by
  obtain⟨⟨t,op,e⟩,z0,z⟩:=ah z
  obtain⟨p,rfl⟩:=AG z0
  obtain⟨z,z4⟩:=aa z
  obtain⟨z,z3⟩:=aa z
  obtain⟨z1,z2⟩:=aa z
  obtain⟨x,px,e1,l1,l2⟩:=gA h.toXOk z1
  have e1:t=.Name x px:=e1
  rw[beq_iff_eq]at z3
  have z3:op=.Add:=z3
  subst e1 z3
  obtain⟨g1,g2,g3,g4,g5,g6⟩:=qj h.toXOk z4
  exact Bh (Ct h.ndX l1 l2 g1 Et (.inl (h.fn _))) (jv z2) g2 g3 g4 g5
 | .ret e',X,C,M,h,st,z=>by
  obtain⟨o,z0,z⟩:=ah z
  obtain⟨p,rfl⟩:=sS z0
  obtain⟨e,rfl,zz⟩:=ah z
  by_cases hv:sO M e'=true
  ·have:∃ i,e'=.var i:=by
    cases e'<;>first | exact⟨_,rfl⟩ | exact Bool.noConfusion hv
   obtain⟨i,rfl⟩:=this
   obtain⟨x,q,rfl,g1,g2,g3,g4⟩:=gZ h.toXOk zz
   exact AK g1 g2 g3 g4 hv
  ·exact DQ ((aj e' h.toXOk e).1 zz) fun i hi=>by
    subst hi
    simpa[sO]using hv
 | .exc e',X,C,M,h,st,z=>by
  obtain⟨e,z0,z⟩:=ah z
  obtain⟨p0,rfl⟩:=jZ z0
  obtain⟨z1,z2⟩:=aa z
  exact CI (jP ((aj e' h.toXOk e).1 z2) (ee z1))
 | .never,X,C,M,h,st,z=>by cases z
 | .put2 _ _ _ _ _,X,C,M,h,st,z=>by cases z
 | .ifp _ _ _ _,X,C,M,h,st,z=>by cases z
 | .whil _ _,X,C,M,h,st,z=>by cases z
 | .rais _ _,X,C,M,h,st,z=>Al
 | .tryc b c i hh,X,C,M,h,st,z=>by
  obtain⟨⟨bd,hs,oe,fi⟩,z0,z⟩:=ah z
  obtain⟨p,rfl⟩:=Bk z0
  obtain⟨z,z9⟩:=aa z
  obtain⟨z,z8⟩:=aa z
  obtain⟨z,z7⟩:=aa z
  obtain⟨z,z6⟩:=aa z
  obtain⟨z,z5⟩:=aa z
  obtain⟨z,z4⟩:=aa z
  obtain⟨z,z3⟩:=aa z
  obtain⟨z1,z2⟩:=aa z
  have v2:oe=[]:=List.isEmpty_iff.mp z2
  have v3:fi=[]:=List.isEmpty_iff.mp z3
  obtain⟨hd,y1,z8⟩:=aQ z8
  have v1:hs=[hd]:=y1
  obtain⟨ht,hn,hb,hp⟩:=hd
  obtain⟨w,w4⟩:=aa z8
  obtain⟨w,w3⟩:=aa w
  obtain⟨w1,w2⟩:=aa w
  obtain⟨te,q1,w5⟩:=ah w1
  have u1:ht=some te:=q1
  obtain⟨x,q2,w6⟩:=ah w5
  obtain⟨np,q4⟩:=bZ q2
  rw[beq_iff_eq]at w6
  clear w1 w5 q2
  subst q4 w6
  obtain⟨n,q3,w7⟩:=ah w2
  have u3:hn=some n:=q3
  obtain⟨n1,n2⟩:=aa w7
  rw[beq_iff_eq]at n2
  have z9:d7 C M b bd=true:=z9
  have w4:d7 { C with calm:=false } M hh hb=true:=w4
  have w3:(!hb.isEmpty)=true:=w3
  clear z2 z3 y1 q1 q3 z0 z
  subst v2 v3 u1 u3
  cases hb with
  | nil=>cases w3
  |cons b0 bE=>
   subst v1
   obtain⟨R,r1,r2⟩:=h.cls x z4
   refine Cs h.xe h.st.1 h.st.2.1 h.st.2.2 (cR b h bd z9) (fun pn E EX ps md ow=>eF b (h.rok pn E EX z1 ps md ow) bd z9) (fun e oe=>cR hh (h.bE e oe) (b0::bE) w4) r2 (by simpa using z5) (h.gl z6).1 r1 (bL (h.gl z6).2).1 h.ndX (h.nm n1).1 (by rw[h.scope];exact n2) (jv z7)
theorem cR:∀ (s:RL.Ss) {X:Cx} {C:CC} {M:List Nat} (h:YOk C X cl) (st:List Stmt),d7 C M s st=true->SSs X cl M st s
 | .nil,X,C,M,h,st,z=>by
  have z:st=[]:=List.isEmpty_iff.mp z
  subst z
  exact Bn
 | .cons s r,X,C,M,h,st,z=>by
  cases st with
  | nil=>cases z
  |cons x xs=>
   obtain⟨z1,z2⟩:=aa z
   exact yK (sC s h x z1) (cR r h xs z2)
theorem zq:∀ (s:RL.S) {X:Cx} {C:CC} {M:List Nat} {EX:L2.St->XK} (h:ROk C X cl EX) (st:Stmt),ze C M s st=true->RZ X EX cl M st s
 | .asg i e',X,C,M,EX,h,st,z=>by
  obtain⟨⟨ts,e⟩,z0,z⟩:=ah z
  obtain⟨p,rfl⟩:=eE z0
  obtain⟨t,y1,z⟩:=aQ z
  have y1:ts=[t]:=y1
  obtain⟨z,zc⟩:=aa z
  obtain⟨z,z4⟩:=aa z
  obtain⟨z,z3⟩:=aa z
  obtain⟨z1,z2⟩:=aa z
  subst y1
  exact v5 h z1 z3 z4 (fun _=>rfl)
 | .own i e',X,C,M,EX,h,st,z=>by
  obtain⟨⟨ts,e⟩,z0,z⟩:=ah z
  obtain⟨p,rfl⟩:=eE z0
  obtain⟨t,y1,z⟩:=aQ z
  have y1:ts=[t]:=y1
  obtain⟨z,zc⟩:=aa z
  obtain⟨z,z5⟩:=aa z
  obtain⟨z,z4⟩:=aa z
  obtain⟨z,z3⟩:=aa z
  obtain⟨z1,z2⟩:=aa z
  subst y1
  exact v5 h z1 z4 z5 (fun _=>rfl)
 | .unp is e',X,C,M,EX,h,st,z=>by
  obtain⟨⟨ts,e⟩,z0,z⟩:=ah z
  obtain⟨p,rfl⟩:=eE z0
  obtain⟨t,y1,z⟩:=aQ z
  have y1:ts=[t]:=y1
  obtain⟨us,y2,z⟩:=ah z
  obtain⟨k,tp,rfl⟩:=eC y2
  obtain⟨z,z4⟩:=aa z
  obtain⟨z,z3⟩:=aa z
  obtain⟨z1,z2⟩:=aa z
  subst y1
  obtain⟨g1,g2,g3⟩:=jV h.y.toXOk (T:=is) (fun i x _ _=>.inl (h.y.fn x)) (fun _ h=>h) z1
  refine oN (ql (fX e' h e z4) (PG.nox (qU (mQ g1 g2 g3) (mJ g1 g2 g3))) ?_ (nY z3)) fun _=>rfl
  cases e<;>rfl
 | .exc e',X,C,M,EX,h,st,z=>by
  obtain⟨e,z0,z⟩:=ah z
  obtain⟨p0,rfl⟩:=jZ z0
  obtain⟨z1,z2⟩:=aa z
  exact oN (jP (fX e' h e z2) (ee z1)) fun _=>rfl
 | .ret e',X,C,M,EX,h,st,z=>by
  obtain⟨o,z0,z⟩:=ah z
  obtain⟨p,rfl⟩:=sS z0
  obtain⟨e,rfl,zz⟩:=ah z
  exact oN (g:=fun D _=>D.rt) (rA (fX e' h e zz)) fun _=>rfl
 | .ife c' a' b',X,C,M,EX,h,st,z=>by
  obtain⟨⟨c,a,b⟩,z0,z⟩:=ah z
  obtain⟨p,rfl⟩:=xu z0
  obtain⟨z,z3⟩:=aa z
  obtain⟨z1,z2⟩:=aa z
  exact EC (PT.nox ((aj c' h.y.toXOk c).2 z1).1) (eF a' h a z2) (eF b' h b z3)
 | .forr tg it b',X,C,M,EX,h,st,z=>by
  obtain⟨⟨t,it',b,o⟩,z0,z⟩:=ah z
  obtain⟨p,rfl⟩:=tf z0
  obtain⟨z,zc⟩:=aa z
  obtain⟨z,z7⟩:=aa z
  obtain⟨z,z6⟩:=aa z
  obtain⟨z,z5⟩:=aa z
  obtain⟨z,z4⟩:=aa z
  obtain⟨z,z3⟩:=aa z
  obtain⟨z1,z2⟩:=aa z
  have z1:o=[]:=List.isEmpty_iff.mp z1
  subst z1
  exact D0 h.own (h.y.calm zc) (PI.nox (gb it h.y.toXOk t it' z2)) (PG.nox (pF h.y.toXOk (fun i x _ _=>.inl (h.y.fn x)) z3)) (PSs.nox (cR b' h.y b z7)) (eF b' h b z7) (d8 z4 _) z5 (mP z6)
 | .rais c ps,X,C,M,EX,h,st,z=>by
  obtain⟨⟨eo,co⟩,z0,z⟩:=ah z
  obtain⟨p,rfl⟩:=vU z0
  obtain⟨z,z5⟩:=aa z
  obtain⟨z,z4⟩:=aa z
  obtain⟨z,z3⟩:=aa z
  obtain⟨z1,z2⟩:=aa z
  have z4:co=none:=eG z4
  obtain⟨e,q1,z5⟩:=ah z5
  have q1:eo=some e:=q1
  obtain⟨⟨g,as,ks,cp⟩,w0,w⟩:=ah z5
  have w0:=eh w0
  obtain⟨w,w3⟩:=aa w
  obtain⟨w1,w2⟩:=aa w
  obtain⟨x,q2,w1⟩:=ah w1
  obtain⟨np,q3⟩:=bZ q2
  have q3:g=.Name x np:=q3
  rw[beq_iff_eq]at w1
  subst w1
  have w2:ks=[]:=List.isEmpty_iff.mp w2
  obtain⟨a,q4,w3⟩:=aQ w3
  have q4:as=[a]:=q4
  obtain⟨w3,w4⟩:=aa w3
  rw[q3,w2,q4]at w0
  subst w0 z4 q1
  exact xU h z1 z2 z3 w3 w4
 | .par _ _ _ _,X,C,M,EX,h,st,z=>iG fun _=>rfl
 | .parO _ _ _ _,X,C,M,EX,h,st,z=>by cases z
 | .app _ _,X,C,M,EX,h,st,z=>iG fun _=>rfl
 | .put _ _ _,X,C,M,EX,h,st,z=>iG fun _=>rfl
 | .put2 _ _ _ _ _,X,C,M,EX,h,st,z=>by cases z
 | .pop _ _,X,C,M,EX,h,st,z=>by cases z
 | .clr _,X,C,M,EX,h,st,z=>by cases z
 | .aug _ _ _,X,C,M,EX,h,st,z=>by cases z
 | .ifp _ _ _ _,X,C,M,EX,h,st,z=>by cases z
 | .whil _ _,X,C,M,EX,h,st,z=>by cases z
 | .mexc _ _ _ _,X,C,M,EX,h,st,z=>iG fun _=>rfl
 | .maug _ _ _ _ _,X,C,M,EX,h,st,z=>iG fun _=>rfl
 | .never,X,C,M,EX,h,st,z=>by cases z
 | .tryc _ _ _ _,X,C,M,EX,h,st,z=>iG fun _=>rfl
theorem eF:∀ (s:RL.Ss) {X:Cx} {C:CC} {M:List Nat} {EX:L2.St->XK} (h:ROk C X cl EX) (st:List Stmt),d7 C M s st=true->RZs X EX cl M st s
 | .nil,X,C,M,EX,h,st,z=>AS
 | .cons s r,X,C,M,EX,h,st,z=>by
  cases st with
  | nil=>cases z
  |cons x xs=>
   obtain⟨z1,z2⟩:=aa z
   exact xI (PS.nox (sC s h.y x z1)) (zq s h x z1) (eF r h xs z2)
end
end
structure fI where
 name:Str
 st:Stmt
 ps:List Str
 N:List Str
 h:Bool
structure PT' where
 B:List Str
 G:List (Str × Int)
 Ds:List fI
 T:List RL.Fn
 Xr:List Str
 Xs:List Str
noncomputable def PT'.F(p:PT'):List (Str × List Nat):=(p.Ds.zip p.T).map fun q=>(q.1.name,q.2.mp)
noncomputable def PT'.hf(p:PT'):List Nat:=(List.range p.Ds.length).filter fun f=>(p.Ds[f]?).any (·.h)
noncomputable def PT'.cc(p:PT')(d:fI):CC:=⟨d.N,aK d.st,p.B,p.G,p.F,true,p.hf,p.Xr,p.Xs⟩
noncomputable def qJ(N ps:List Str)(sc:Scope):Bool :=
 sc.kind == .function && !sc.isCoroutine && !sc.isGenerator&&decide N.Nodup&&N.take ps.length == ps&&ps.all (fun x=>sc.names.lookup x == some .local || sc.names.lookup x == some .cell)&&sc.names.all (fun y=>!(y.2 == .free))
noncomputable def fnB(p:PT')(d:fI)(fn:RL.Fn):Bool :=
 qJ d.N d.ps (aK d.st)&&fn.ps == d.ps.length&&fn.nn == d.N.length&&decide (d.ps.length<=d.N.length)&&(List.range fn.ps).all (fun i=>!fn.M.contains i || fn.mp.contains i)&&fn.mp.all (fun i=>decide (i<fn.ps)&&decide (2<=fn.M.count i))&&d7 (p.cc d) fn.M fn.body (cz d.st)&&(!d.h || d7 { p.cc d with calm:=false } fn.M fn.body (cz d.st))
noncomputable def PT'.ok(p:PT'):Bool:=decide (p.T.length<=1000)&&p.Ds.length == p.T.length&&(p.Ds.zip p.T).all fun q=>fnB p q.1 q.2
theorem yJ{N ps:List Str}{sc:Scope}(h:qJ N ps sc=true):eZ N ps sc:=by
 unfold qJ at h
 obtain⟨h,h7⟩:=aa h
 obtain⟨h,h6⟩:=aa h
 obtain⟨h,h5⟩:=aa h
 obtain⟨h,h4⟩:=aa h
 obtain⟨h,h3⟩:=aa h
 obtain⟨h1,h2⟩:=aa h
 refine⟨by simpa using h1,by simpa using h2,by simpa using h3,by simpa using h4,by simpa using h5,fun x hx=>?_,fun y hy=>?_⟩
 ·rw[List.all_eq_true]at h6
  have:=h6 x hx
  rw[Bool.or_eq_true,beq_iff_eq,beq_iff_eq]at this
  exact this
 ·rw[List.all_eq_true]at h7
  have:=h7 y hy
  intro z
  rw[z]at this
  simp at this
structure tH(p:PT')(K:PySem.W.Frag)(mg:Str->Option Value):Prop where
 defs:∀ (f:Nat) (d:fI),p.Ds[f]?=some d->∃ fa fd,mg d.name=some (.ref fa)/\Fun K d.name d.name d.st fa fd/\PySem.W.keepIn K (.ref fa)=true/\Binds K fd d.ps []
 blt:∀ x∈p.B,mg x=none
 glb:∀ x i,p.G.lookup x=some i->∃ u,mg x=some u/\RelV (.int i) u
 cls:∀ c,p.Xr.contains c=true->∃ D,mg c=some (.ref D)/\Cls K c D
 ref:∀ c,p.Xs.contains c=true->∃ D,mg c=some (.ref D)/\PySem.W.nsIn K mainGlobals c=some (some (.ref D))
section
variable{p:PT'}{K:PySem.W.Frag}{mg:Str->Option Value}{base:Heap}{P:Program}{w:World}
noncomputable def mj(K:PySem.W.Frag)(cl:RL.Cl)(mp:List Nat)(f:Nat):Sp:=if mp=[]then spF K cl f else spM K cl mp f
theorem aY{α:Type}(vs:List α)(k:Nat)(i:Nat)(v:α):(vs.map some++List.replicate k none)[i]?=some (some v)↔vs[i]?=some v:=by
 by_cases h:i<vs.length
 ·rw[List.getElem?_append_left (by simpa using h)]
  simp[h]
 ·rw[List.getElem?_append_right (by simpa using h)]
  constructor
  ·intro e
   rw[List.getElem?_replicate]at e
   split at e<;>cases e
  ·intro e
   have:=(List.getElem?_eq_some_iff.mp e).1
   lia
theorem sH{ds:List RL.D}{vs:List V}{H:Hp}{M:List Nat}{k n:Nat}(r:ae nP K H ds vs)(hM:∀ i,i<n->M.contains i=false)(hn:ds.length=n):RVm K M (ds.map some++List.replicate k none) (vs.map some++List.replicate k none) H:=by
 have nA:∀ a,¬ aV M (vs.map some++List.replicate k none) a:=fun a ⟨i,hi,e⟩=>by
  rw[aY]at e
  have:=(List.getElem?_eq_some_iff.mp e).1
  rw[hM i (by rw[<-hn,r.length];exact this)]at hi
  cases hi
 refine⟨by simp[r.length],fun i d e=>?_,fun i v e=>?_,fun i j a hi hj e1 e2=>(nA a ⟨i,hi,e1⟩).elim⟩
 ·rw[aY]at e
  obtain⟨v,h1,h2⟩:=r.get e
  have hl:=(List.getElem?_eq_some_iff.mp e).1
  refine⟨v,(aY _ _ _ _).mpr h1,?_⟩
  rw[if_neg (by rw[hM i (by lia)];decide)]
  exact h2.weak fun a ha=>nA a ha
 ·rw[aY]at e
  have hl:=(List.getElem?_eq_some_iff.mp e).1
  exact⟨ds[i]'(by rw[r.length];exact hl),(aY _ _ _ _).mpr (by simp)⟩
theorem AE{ds:List RL.D}{vs:List V}{H:Hp}{M mp:List Nat}{k n:Nat}(a:BZ K mp ds vs H)(hM:∀ i,i<n->M.contains i=true->i∈mp)(hp:∀ i∈mp,M.contains i=true)(hn:ds.length=n):RVm K M (ds.map some++List.replicate k none) (vs.map some++List.replicate k none) H:=by
 have r:=a.jr
 have inM:∀ i v,(vs.map some++List.replicate k none)[i]?=some (some v)->M.contains i=true->i∈mp/\vs[i]?=some v:=fun i v e hi=>by
  rw[aY]at e
  have:=(List.getElem?_eq_some_iff.mp e).1
  exact⟨hM i (by rw[<-hn,r.length];exact this) hi,e⟩
 refine⟨by simp[r.length],fun i d e=>?_,fun i v e=>?_,fun i j b hi hj e1 e2=>?_⟩
 ·rw[aY]at e
  obtain⟨v,h1,h2⟩:=r.get e
  have hl:=(List.getElem?_eq_some_iff.mp e).1
  refine⟨v,(aY _ _ _ _).mpr h1,?_⟩
  by_cases hm:M.contains i=true
  ·rw[if_pos hm]
   obtain⟨d',b,g1,g2,g3⟩:=a.own i (hM i (by lia) hm)
   rw[e]at g1
   cases g1
   rw[h1]at g2
   cases g2
   exact g3
  ·rw[if_neg hm]
   refine(a.oth i d v (fun z=>hm (hp i z)) e h1).weak fun b ⟨j,hj,ej⟩=>?_
   obtain⟨q1,q2⟩:=inM j _ ej hj
   exact⟨j,q1,q2⟩
 ·rw[aY]at e
  have hl:=(List.getElem?_eq_some_iff.mp e).1
  exact⟨ds[i]'(by rw[r.length];exact hl),(aY _ _ _ _).mpr (by simp)⟩
 ·obtain⟨q1,q2⟩:=inM i _ e1 hi
  obtain⟨q3,q4⟩:=inM j _ e2 hj
  exact a.sep i q1 j q3 b q2 q4
theorem qL{σ:RL.St}:∀ {mp:List Nat} {outs:List RL.D},RL.eS σ mp=some outs->outs.length=mp.length/\∀ (k i:Nat) o,mp[k]?=some i->outs[k]?=some o->σ[i]?=some (some o)
 | [],outs,h=>by
  rw[RL.eS]at h
  cases h
  exact⟨rfl,fun k i o e=>by simp at e⟩
 | m::mp,outs,h=>by
  rw[RL.eS]at h
  obtain⟨d,h1,h⟩:=bind_some h
  obtain⟨os,h2,h3⟩:=map_some h
  subst h3
  obtain⟨g1,g2⟩:=qL h2
  refine⟨by simp[g1],fun k i o e1 e2=>?_⟩
  cases k with
  |zero=>
   simp at e1 e2
   subst e1 e2
   exact slot_get h1
  | succ k=>exact g2 k i o (by simpa using e1) (by simpa using e2)
theorem xf{fn:RL.Fn}{d r:RL.D}{σ:RL.St}(h:RL.bg fn d σ=some r)(hm:fn.mp=[]):r=d:=by
 unfold RL.bg at h
 rw[hm]at h
 simpa using h.symm
theorem CG{fn:RL.Fn}{d r:RL.D}{σ:RL.St}(h:RL.bg fn d σ=some r)(hm:fn.mp≠[]):d.imm=true/\∃ outs,RL.eS σ fn.mp=some outs/\r=.tup (d::outs):=by
 unfold RL.bg at h
 rw[if_neg (by simpa using hm)]at h
 split at h
 ·rename_i im
  obtain⟨os,h1,h2⟩:=map_some h
  exact⟨im,os,h1,h2.symm⟩
 ·cases h
structure FnB(p:PT')(d:fI)(fn:RL.Fn):Prop where
 sc:eZ d.N d.ps (aK d.st)
 ps:fn.ps=d.ps.length
 nn:fn.nn=d.N.length
 hM:∀ i,i<fn.ps->fn.M.contains i=true->i∈fn.mp
 mp:∀ i∈fn.mp,i<fn.ps/\2<=fn.M.count i
 body:d7 (p.cc d) fn.M fn.body (cz d.st)=true
 hb:d.h=true->d7 { p.cc d with calm:=false } fn.M fn.body (cz d.st)=true
theorem Du{d:fI}{fn:RL.Fn}(hB:fnB p d fn=true):FnB p d fn:=by
 unfold fnB at hB
 obtain⟨hB,b8⟩:=aa hB
 obtain⟨hB,b7⟩:=aa hB
 obtain⟨hB,b6⟩:=aa hB
 obtain⟨hB,b5⟩:=aa hB
 obtain⟨hB,b4⟩:=aa hB
 obtain⟨hB,b3⟩:=aa hB
 obtain⟨b1,b2⟩:=aa hB
 rw[beq_iff_eq]at b2 b3
 rw[List.all_eq_true]at b5 b6
 refine⟨yJ b1,b2,b3,fun i hi hm=>?_,fun i hi=>by simpa using b6 i hi,b7,fun hh=>by simpa[hh]using b8⟩
 have:=b5 i (List.mem_range.mpr hi)
 rw[hm]at this
 simpa using this
theorem wV{f:Nat}(h:p.hf.contains f=true):∃ d,p.Ds[f]?=some d/\d.h=true:=by
 unfold PT'.hf at h
 rw[List.contains_iff_mem,List.mem_filter]at h
 exact ah h.2
theorem wG{cl:RL.Cl}{f:Nat}{d:fI}{fn:RL.Fn}{vs:List V}{H:Hp}{Q:VK}{ds:List RL.D}{r:RL.D}{o:RL.Out}{σ':RL.St}(B:FnB p d fn)(hmp:fn.mp=[])(r1:ae nP K H ds vs)(hlen:ds.length=fn.ps)(e2:(match o with | .nx=>RL.bg fn .non σ' | .rt d=>RL.bg fn d σ')=some r)(e1:RL.ak cl fn.M fn.body (ds.map some++List.replicate (fn.nn-fn.ps) none)=some (o,σ'))
 (k:∀ v H',aq H H'->Rep (fun p=>H p≠none) K H' r v->Q v H'):tS K fn.M (RL.ak cl fn.M fn.body) { nx:=fun _ H'=>Q .non H',rt:=Q } (start d.N vs) H:=by
 have hst:start d.N vs=vs.map some++List.replicate (d.N.length-vs.length) none:=rfl
 have hvl:vs.length=fn.ps:=by rw[<-r1.length];exact hlen
 refine⟨_,o,σ',?_,e1,?_⟩
 ·rw[hst,hvl,<-B.nn]
  exact sH r1 (fun i hi=>by
   cases hc:fn.M.contains i with
   | false=>rfl
   |true=>
    have:=B.hM i hi hc
    rw[hmp]at this
    cases this) hlen
 ·have noA:∀ a,¬ aV fn.M (start d.N vs) a:=fun a ⟨i,hi,ei⟩=>by
   rw[hst,aY]at ei
   have h3:=(List.getElem?_eq_some_iff.mp ei).1
   have:=B.hM i (by lia) hi
   rw[hmp]at this
   cases this
  cases o with
  |nx=>
   have hr':=xf (d:=.non) e2 hmp
   subst hr'
   intro σ1 H1 rv1 fr1
   refine k .non H1 (fun b u eb=>(fr1.1 b u eb (noA b)).1) (by rw[Rep])
  |rt d0=>
   have hr':=xf (d:=d0) e2 hmp
   subst hr'
   intro σ1 H1 v H' rv1 fr1 sm rp
   refine k v H' (fun b u eb=>sm _ _ (fr1.1 b u eb (noA b)).1) (rp _ fun q hq=>?_)
   obtain⟨u,hu⟩:=Option.ne_none_iff_exists'.mp hq
   have:=fr1.1 q u hu (noA q)
   exact⟨(by rw[this.1];exact fun z=>nomatch z),this.2⟩
theorem Dm{cl:RL.Cl}{d:fI}{fn:RL.Fn}{vs:List V}{H:Hp}{E:XK}{ds:List RL.D}{x:Str}{σ':RL.St}{D:Ends}(B:FnB p d fn)(hmp:fn.mp=[])(r1:ae nP K H ds vs)(hlen:ds.length=fn.ps)(e1:RL.bN cl fn.M fn.body (ds.map some++List.replicate (fn.nn-fn.ps) none)=some (x,σ'))
 (k:∀ C H',Cls K x C->aq H H'->E (.ref C) none H'):tXS K fn.M (fun _=>E) (RL.bN cl fn.M fn.body) D (start d.N vs) H:=by
 have hst:start d.N vs=vs.map some++List.replicate (d.N.length-vs.length) none:=rfl
 have hvl:vs.length=fn.ps:=by rw[<-r1.length];exact hlen
 refine⟨_,x,σ',?_,e1,fun σ1 H1 C hc rv1 fr1=>k C H1 hc fun b u eb=>(fr1.1 b u eb fun⟨i,hi,ei⟩=>?_).1⟩
 ·rw[hst,hvl,<-B.nn]
  exact sH r1 (fun i hi=>by
   cases hc:fn.M.contains i with
   | false=>rfl
   |true=>
    have:=B.hM i hi hc
    rw[hmp]at this
    cases this) hlen
 ·rw[hst,aY]at ei
  have h3:=(List.getElem?_eq_some_iff.mp ei).1
  have:=B.hM i (by lia) hi
  rw[hmp]at this
  cases this
structure F6(P:Program)(w:World)(K:PySem.W.Frag)(mg:Str->Option Value)(base:Heap)(p:PT')(n f:Nat)(d:fI)(fn:RL.Fn)(fa:Addr)(fd:FuncData):Prop where
 nor:dO P w K mg base CX0 n fa fd d.ps (mj K (RL.aA p.T n) fn.mp f)
 ref:fn.mp=[]->dO P w K mg base (CXE P w) n fa fd d.ps (spX K (RL.aA p.T n) f)
 sui:d.h=true->fn.mp=[]->lF P w K mg base n fa fd d.ps (spF K (RL.aA p.T n) f)
theorem ig(hok:p.ok=true)(tp:tH p K mg):∀ (n f:Nat) (d:fI) (fn:RL.Fn),p.Ds[f]?=some d->p.T[f]?=some fn->∀ fa fd,Fun K d.name d.name d.st fa fd->F6 P w K mg base p n f d fn fa fd
 | 0,f,d,fn,hd,hf,fa,fd,F=>by
  have no:∀ vs H Q E,¬ mj K (RL.aA p.T 0) fn.mp f vs H Q E:=fun vs H Q E h=>by
   unfold mj at h
   split at h
   ·obtain⟨ds,r,_,e,_⟩:=h
    cases e
   ·obtain⟨ds,r,o,e,_⟩:=h
    cases e
  have noF:∀ vs H Q E,¬ spF K (RL.aA p.T 0) f vs H Q E:=fun vs H Q E h=>by
   obtain⟨ds,r,_,e,_⟩:=h
   cases e
  have noX:∀ vs H Q E,¬ spX K (RL.aA p.T 0) f vs H Q E:=fun vs H Q E h=>by
   obtain⟨ds,r,_,e,_⟩:=h
   cases e
  exact⟨⟨fun vs H Q E h=>(no vs H Q E h).elim,fun A outer s H args us vs Q E _ _ _ _ h=>(no vs H Q E h).elim⟩,fun _=>⟨fun vs H Q E h=>(noX vs H Q E h).elim,fun A outer s H args us vs Q E _ _ _ _ h=>(noX vs H Q E h).elim⟩,fun _ _=>⟨fun vs H Q h=>(noF vs H Q E0 h).elim,fun A outer s H us vs Q _ _ _ _ _ h=>(noF vs H Q E0 h).elim⟩⟩
 | n+1,f,d,fn,hd,hf,fa,fd,F=>by
  have hok':=hok
  unfold PT'.ok at hok'
  obtain⟨hok',hall⟩:=aa hok'
  obtain⟨hT,hl⟩:=aa hok'
  rw[beq_iff_eq]at hl
  rw[decide_eq_true_eq]at hT
  rw[List.all_eq_true]at hall
  have hz:(p.Ds.zip p.T)[f]?=some (d,fn):=by
   rw[List.getElem?_zip_eq_some]
   exact⟨hd,hf⟩
  have B:=Du (hall (d,fn) (List.mem_of_getElem? hz))
  have unf:∀ ds r,RL.aA p.T (n+1) f ds=some r->ds.length=fn.ps/\∃ o σ',RL.ak (RL.aA p.T n) fn.M fn.body (ds.map some++List.replicate (fn.nn-fn.ps) none)=some (o,σ')/\(match o with | .nx=>RL.bg fn .non σ' | .rt d=>RL.bg fn d σ')=some r:=by
   intro ds r h
   rw[RL.aA,hf]at h
   dsimp only at h
   split at h
   ·rename_i hlen
    obtain⟨⟨o,σ'⟩,h1,h2⟩:=bind_some h
    exact⟨hlen,o,σ',h1,h2⟩
   ·cases h
  have unx:∀ ds x,RL.clX (RL.aA p.T (n+1)) f ds=some x->ds.length=fn.ps/\fn.mp=[]/\∃ σ',RL.bN (RL.aA p.T n) fn.M fn.body (ds.map some++List.replicate (fn.nn-fn.ps) none)=some (x,σ'):=by
   intro ds x h
   unfold RL.clX at h
   obtain⟨r,h1,h2⟩:=bind_some h
   have hT2:p.T[f+1000]?=none:=List.getElem?_eq_none_iff.mpr (by lia)
   rw[RL.aA,hT2]at h1
   dsimp only at h1
   rw[Nat.add_sub_cancel,hf]at h1
   dsimp only[Option.bind_some]at h1
   split at h1
   ·rename_i hlen
    obtain⟨⟨y,σ'⟩,h3,h4⟩:=map_some h1
    subst h4
    cases h2
    exact⟨hlen.1,hlen.2,σ',h3⟩
   ·cases h1
  have look:∀ {g:Nat} {x:Str} {mp:List Nat},p.F[g]?=some (x,mp)->∃ d' fn',p.Ds[g]?=some d'/\p.T[g]?=some fn'/\d'.name=x/\fn'.mp=mp:=fun {g x mp} hg=>by
   unfold PT'.F at hg
   rw[List.getElem?_map]at hg
   obtain⟨⟨d',fn'⟩,q1,q2⟩:=map_some hg
   cases q2
   rw[List.getElem?_zip_eq_some]at q1
   exact⟨d',fn',q1.1,q1.2,rfl,rfl⟩
  have Y:∀ (CX:CXT) (E:XK) (cdv:Value) (A:Around) (outer:List Env) (s:Shared) (H:Hp),cq n (A.deeper (envOfC d.name (aK d.st) s.heap.objs.size fa cdv))->YOk (p.cc d) (gw CX P w K mg base d.N d.name (aK d.st) fa cdv A outer s H E).nox (RL.aA p.T n):=fun CX E cdv A outer s H hr=>{
   scope:=rfl
   names:=rfl
   nd:=B.sc.nd
   calm:=fun _=>rfl
   xe:=rfl
   hu:=by
    have:=hr.un
    show(A.deeper _).units+100<cLine
    lia
   blt:=tp.blt
   glb:=tp.glb
   fns:=fun g x mp _ hg=>by
    obtain⟨d',fn',q1,q2,rfl,rfl⟩:=look hg
    obtain⟨fa',fd',t1,t2,t3,t4⟩:=tp.defs g d' q1
    exact⟨n,fa',fd',d'.ps,(ig hok tp n g d' fn' q1 q2 fa' fd' t2).nor,hr,t1,t3,t4⟩
   hfn:=fun g x hh hg=>by
    obtain⟨d',fn',q1,q2,rfl,q3⟩:=look hg
    obtain⟨d2,q4,q5⟩:=wV hh
    rw[q1]at q4
    cases q4
    obtain⟨fa',fd',t1,t2,t3,t4⟩:=tp.defs g d' q1
    exact⟨n,fa',fd',d'.ps,(ig hok tp n g d' fn' q1 q2 fa' fd' t2).sui q5 q3,hr.h,t1,t3,t4⟩
   cls:=tp.cls
   ref:=tp.ref
   fn:=fun _=>rfl
   st:=⟨rfl,rfl,rfl⟩
   fnx:=fun g x _ hg=>by
    obtain⟨d',fn',q1,q2,rfl,q3⟩:=look hg
    obtain⟨fa',fd',t1,t2,t3,t4⟩:=tp.defs g d' q1
    exact⟨n,fa',fd',d'.ps,(ig hok tp n g d' fn' q1 q2 fa' fd' t2).ref q3,hr,t1,t3,t4⟩ }
  refine⟨?_,fun hmp=>?_,fun hh hmp=>?_⟩
  ·refine Fun.ok F B.sc (fun vs H Q E h=>?_) fun cdv A outer s H vs Q E hr h=>?_
   ·unfold mj at h
    split at h
    ·obtain⟨ds,r,r1,e,_⟩:=h
     rw[<-r1.length,(unf ds r e).1,B.ps]
    ·obtain⟨ds,r,o,e,a,_⟩:=h
     rw[<-a.jr.length,(unf ds _ e).1,B.ps]
   ·refine⟨_,cR fn.body (Y CX0 E cdv A outer s H hr) (M:=fn.M) _ B.body,?_⟩
    have hst:start d.N vs=vs.map some++List.replicate (d.N.length-vs.length) none:=rfl
    unfold mj at h
    split at h
    ·rename_i hmp
     obtain⟨ds,r,r1,e,k⟩:=h
     obtain⟨hlen,o,σ',e1,e2⟩:=unf ds r e
     exact wG (f:=f) B hmp r1 hlen e2 e1 k
    ·rename_i hmp
     obtain⟨ds,r,outs,e,a,k⟩:=h
     obtain⟨hlen,o,σ',e1,e2⟩:=unf ds _ e
     have hvl:vs.length=fn.ps:=by rw[<-a.jr.length];exact hlen
     refine⟨_,o,σ',?_,e1,?_⟩
     ·rw[hst,hvl,<-B.nn]
      exact AE a B.hM (fun i hi=>hU (B.mp i hi).2) hlen
     ·-- the lists behind it
      have fin:∀ (d0:RL.D) (σ1:L2.St) (H1 H':Hp) (v:V),RL.bg fn d0 σ'=some (.tup (r::outs))->RVm K fn.M σ' σ1 H1->Fr' fn.M (start d.N vs) H σ1 H1->aq H1 H'->(d0.imm=true->Rep nP K H' d0 v)->Q v H':=by
       intro d0 σ1 H1 H' v ht rv1 fr1 sm rp
       obtain⟨im,os,g1,g2⟩:=CG ht hmp
       cases g2
       obtain⟨l1,l2⟩:=qL g1
       refine k v H' (fun b u nb eb=>sm _ _ (fr1.1 b u eb fun⟨i,hi,ei⟩=>?_).1) (rp im) im ⟨l1,fun kk pp oo hk ho=>?_⟩
       ·rw[hst,aY]at ei
        have h3:=(List.getElem?_eq_some_iff.mp ei).1
        exact nb ⟨i,B.hM i (by lia) hi,ei⟩
       ·have hpm:=List.mem_of_getElem? hk
        obtain⟨dp,ap,g3,g4,g5⟩:=a.own pp hpm
        have g6:=fr1.2 pp (B.mp pp hpm).2
        have g7:(start d.N vs)[pp]?=some (some (.ref ap)):=by rw[hst,aY];exact g4
        rw[g7]at g6
        obtain⟨v',g8,g9⟩:=rv1.val pp oo (l2 kk pp oo hk ho)
        rw[g6]at g8
        cases g8
        rw[if_pos (hU (B.mp pp hpm).2)]at g9
        exact⟨ap,g4,g9.same sm⟩
      cases o with
      |nx=>
       intro σ1 H1 rv1 fr1
       exact fin .non σ1 H1 H1 .non e2 rv1 fr1 (aq.refl _) fun _=>by rw[Rep]
      |rt d0=>
       intro σ1 H1 v H' rv1 fr1 sm rp
       exact fin d0 σ1 H1 H' v e2 rv1 fr1 sm fun im=>rp nP fun _ z=>z.elim
  ·refine Fun.okX F B.sc (fun vs H Q E h=>?_) fun cdv A outer s H vs Q E hr h=>?_
   ·obtain⟨ds,x,r1,e,_⟩:=h
    rw[<-r1.length,(unx ds x e).1,B.ps]
   ·have R:ROk (p.cc d) (gw (CXE P w) P w K mg base d.N d.name (aK d.st) fa cdv A outer s H E) (RL.aA p.T n) (fun _=>E):={
     y:=Y (CXE P w) E cdv A outer s H hr
     cal:=rfl
     pass:=fun pins σ H1 s1 e s' I z=>by
      obtain⟨x,C,H',rfl,hE,I',ex,_⟩:=I.refused rfl z
      exact qG I' rfl rfl rfl ex hE I'.ok.frames
     made:=fun pins σ H1 s1 h' e C vs I m z=>by
      obtain⟨I',ex⟩:=I.newExc rfl m
      exact qG I' rfl rfl rfl ex z I'.ok.frames
     own:=PassesOwn.leaving }
    obtain⟨ds,x,r1,e,k⟩:=h
    obtain⟨hlen,_,σ',e1⟩:=unx ds x e
    exact⟨_,eF fn.body R (M:=fn.M) _ B.body,Dm B hmp r1 hlen e1 k⟩
  ·refine Fun.okH F B.sc (fun vs H Q h=>?_) fun cdv A outer s H vs Q hr h=>?_
   ·obtain⟨ds,r,r1,e,_⟩:=h
    rw[<-r1.length,(unf ds r e).1,B.ps]
   ·have Z:YOk { p.cc d with calm:=false } (cxH P w K mg base d.N d.name (aK d.st) fa cdv A outer s H) (RL.aA p.T n):={
     scope:=rfl
     names:=rfl
     nd:=B.sc.nd
     calm:=fun z=>(nomatch z)
     xe:=rfl
     hu:=by
      have:=hr.un
      show(A.deeper _).units+100<cLine
      lia
     blt:=tp.blt
     glb:=tp.glb
     fns:=fun _ _ _ z=>(nomatch z)
     hfn:=fun g x hh hg=>by
      obtain⟨d',fn',q1,q2,rfl,q3⟩:=look hg
      obtain⟨d2,q4,q5⟩:=wV hh
      rw[q1]at q4
      cases q4
      obtain⟨fa',fd',t1,t2,t3,t4⟩:=tp.defs g d' q1
      exact⟨n,fa',fd',d'.ps,(ig hok tp n g d' fn' q1 q2 fa' fd' t2).sui q5 q3,hr,t1,t3,t4⟩
     cls:=tp.cls
     ref:=tp.ref
     fn:=fun _=>rfl
     st:=⟨rfl,rfl,rfl⟩
     fnx:=fun _ _ z=>(nomatch z) }
    obtain⟨ds,r,r1,e,k⟩:=h
    obtain⟨hlen,o,σ',e1,e2⟩:=unf ds r e
    exact⟨_,cR fn.body Z (M:=fn.M) _ (B.hb hh),wG (f:=f) B hmp r1 hlen e2 e1 k⟩
theorem BY(hok:p.ok=true)(tp:tH p K mg):∀ (n f:Nat) (d:fI) (fn:RL.Fn),p.Ds[f]?=some d->p.T[f]?=some fn->∀ fa fd,Fun K d.name d.name d.st fa fd->dO P w K mg base CX0 n fa fd d.ps (mj K (RL.aA p.T n) fn.mp f):=fun n f d fn a b fa fd F=>(ig hok tp n f d fn a b fa fd F).nor
end
noncomputable def spL(n:Nat)(p:PT')(f:Nat)(K:PySem.W.Frag):Sp:=spF K (RL.aA p.T n) f
theorem Dj{n:Nat}{p:PT'}{f:Nat}{K:PySem.W.Frag}{H:Hp}{a:Addr}{ns:List Int}(hO:qh H)(hS:SqL K H a (ns.map V.int))(h:RL.aA p.T n f [.scr (ns.map RL.D.int)]=some (.bl true)):spL n p f K [.ref a] H (fun v _=>v=.bl true) fun _ _ _=>False:=by
 refine⟨_,_,?_,h,fun v H' _ r=>aW r⟩
 refine ae.cons ?_ ae.nil
 rw[Rep]
 refine⟨a,ns.map V.int,rfl,?_,?_⟩
 ·rcases hS with(z | ⟨o,z⟩) | z
  ·rcases hO a with q | ⟨o,xs,q⟩
   ·rw[q]at z
    cases z
   ·rw[q]at z
    cases z
  ·exact .inl ⟨o,z⟩
  ·exact .inr (.inr z)
 ·clear hS h
  induction ns with
  | nil=>exact ae.nil
  | cons i r ih=>exact ae.cons aX ih
end RS
namespace K22
open PySem PySem.Spec PyProof.Rows L2
noncomputable def top(i:Nat):Stmt:=PySem.Challenge.pw_ribbonloft_k22_rows_of_hooks.main.body.getD i (.Pass ⟨0,0,0,0⟩)
noncomputable def Ds:List RS.fI:=[
 ⟨"is_number",top 19,["value"],["value"],false⟩,
 ⟨"is_peg_count",top 20,["value"],["value"],false⟩,
 ⟨"check_pegs",top 21,["pegs"],["pegs"],false⟩,
 ⟨"tie",top 23,["row", "one", "other"],["row", "one", "other"],false⟩,
 ⟨"pegs_of",top 25,["frame"],["frame"],false⟩,
 ⟨"plain",top 26,["pegs"],["pegs"],false⟩,
 ⟨"made",top 28,["pegs", "row"],["pegs", "row", "frame", "rings", "number"],false⟩,
 ⟨"hang_hook",top 29,["frame", "number"],["frame", "number", "left", "right"],false⟩,
 ⟨"is_hook",top 30,["pegs", "number"],["pegs", "number"],false⟩,
 ⟨"check_row",top 31,["pegs", "row"],["pegs", "row", "number"],false⟩,
 ⟨"_law_kin",top 33,["_law_e"],["_law_e", "_law_found", "_law_words", "_law_word_here", "_law_kin_here"],true⟩,
 ⟨"_law_mix",top 34,["_law_seed"],["_law_seed", "_law_one", "_law_two"],false⟩,
 ⟨"_law_raw",top 35,["_law_script", "_law_k"],["_law_script", "_law_k", "_law_cell", "_law_found", "_law_turn"],false⟩,
 ⟨"_law_digits",top 36,["_law_script", "_law_k", "_law_sizes"],["_law_script", "_law_k", "_law_sizes", "_law_rest", "_law_found", "_law_size"],false⟩,
 ⟨"_law_hooks",top 37,["_law_script", "_law_k", "_law_pegs", "_law_size"],["_law_script", "_law_k", "_law_pegs", "_law_size", "_law_found", "_law_start", "_law_steps", "_law_step", "_law_number"],false⟩,
 ⟨"_law_same",top 38,["_law_told", "_law_due"],["_law_told", "_law_due", "_law_one", "_law_other"],false⟩,
 ⟨"_law_plain",top 39,["_law_pegs"],["_law_pegs", "_law_peg"],false⟩,
 ⟨"_law_rings_by",top 40,["_law_high", "_law_low", "_law_inner"],["_law_high", "_law_low", "_law_inner", "_law_pegs", "_law_head", "_law_peg", "_law_other", "_law_one", "_law_keep", "_law_go"],false⟩,
 ⟨"_law_hung",top 41,["_law_high", "_law_low"],["_law_high", "_law_low", "_law_pegs", "_law_near", "_law_peg", "_law_found", "_law_gone", "_law_here", "_law_turn"],false⟩,
 ⟨"_law_stacked",top 42,["_law_pegs", "_law_frames"],["_law_pegs", "_law_frames", "_law_frame", "_law_found", "_law_rings", "_law_more"],false⟩,
 ⟨"_law_hook",top 43,["_law_pegs", "_law_number"],["_law_pegs", "_law_number", "_law_found", "_law_start"],false⟩,
 ⟨"_law_made",top 44,["_law_pegs", "_law_line"],["_law_pegs", "_law_line", "_law_number"],false⟩,
 ⟨"_law_word",top 45,["_law_pegs", "_law_line"],["_law_pegs", "_law_line", "_law_word_here", "_law_e"],false⟩,
 ⟨"law",top 46,["_law_script"],["_law_script", "_law_k", "_law_pegs", "_law_line", "_law_handed", "_law_bad", "_law_at", "_law_few", "_law_most", "_law_far"],false⟩]
noncomputable def p:RS.PT':=⟨["ValueError", "all", "bool", "int", "isinstance", "len", "list", "max", "min", "range", "set", "str", "tuple", "zip"],[("MOST_PEGS",10)],Ds,T,["BadHook", "BadPegs", "RibbonError"],["BadFrame", "BadHalf", "BadHook", "BadName", "BadPage", "BadPegs", "BadTrade", "Full", "Hangs", "NoFrame", "NoNumber", "NoPlace", "NoStack", "NothingThere", "Taken"]⟩
theorem F3:p.ok=true:=by decide +kernel
theorem all1{P:List Value->Prop}(h:∀ a0,P [a0]):∀ us:List Value,us.length=1->P us
 | [a0],_=>h a0
theorem all2{P:List Value->Prop}(h:∀ a0 a1,P [a0,a1]):∀ us:List Value,us.length=2->P us
 | [a0,a1],_=>h a0 a1
theorem j0{P:List Value->Prop}(h:∀ a0 a1 a2,P [a0,a1,a2]):∀ us:List Value,us.length=3->P us
 | [a0,a1,a2],_=>h a0 a1 a2
theorem FO{P:List Value->Prop}(h:∀ a0 a1 a2 a3,P [a0,a1,a2,a3]):∀ us:List Value,us.length=4->P us
 | [a0,a1,a2,a3],_=>h a0 a1 a2 a3
structure bB(K:PySem.W.Frag)(mg:Str->Option Value)(x:Str)(st:Stmt):Prop where
 ex:∃ f fd,mg x=some (.ref f)/\Fun K x x st f fd/\PySem.W.keepIn K (.ref f)=true
theorem B5{K:PySem.W.Frag}{h:Heap}{mg:Str->Option Value}{x:Str}{st:Stmt}{f:Addr}{oc kV dc pm cd ct:Value}{od an:Option Addr}{sl:Array (Option Value)}(X:K.In h)(G:h.Ns mainGlobals mg)(a:PySem.W.nsIn K mainGlobals x=some (some (.ref f)))
 (l:K.lookup f=some ⟨oc,od,.func (PySem.W.fnOf x x (hW st) (cz st) (aK st) .none kV dc pm an cd ct),sl⟩)(c:PySem.W.codeIn K cd x=true)(k:PySem.W.keepIn K (.ref f)=true):bB K mg x st :=
 ⟨f,_,PySem.W.mg_of X G a,CF (st:=st) l c k,k⟩
structure tD(K:PySem.W.Frag)(mg:Str->Option Value):Prop where
 d19:bB K mg "is_number" (top 19)
 d20:bB K mg "is_peg_count" (top 20)
 d21:bB K mg "check_pegs" (top 21)
 d23:bB K mg "tie" (top 23)
 d25:bB K mg "pegs_of" (top 25)
 d26:bB K mg "plain" (top 26)
 d28:bB K mg "made" (top 28)
 d29:bB K mg "hang_hook" (top 29)
 d30:bB K mg "is_hook" (top 30)
 d31:bB K mg "check_row" (top 31)
 d33:bB K mg "_law_kin" (top 33)
 d34:bB K mg "_law_mix" (top 34)
 d35:bB K mg "_law_raw" (top 35)
 d36:bB K mg "_law_digits" (top 36)
 d37:bB K mg "_law_hooks" (top 37)
 d38:bB K mg "_law_same" (top 38)
 d39:bB K mg "_law_plain" (top 39)
 d40:bB K mg "_law_rings_by" (top 40)
 d41:bB K mg "_law_hung" (top 41)
 d42:bB K mg "_law_stacked" (top 42)
 d43:bB K mg "_law_hook" (top 43)
 d44:bB K mg "_law_made" (top 44)
 d45:bB K mg "_law_word" (top 45)
 d46:bB K mg "law" (top 46)
 pT:PySem.W.nsIn K mainGlobals "ValueError" = some none
 EO:PySem.W.nsIn K mainGlobals "all" = some none
 CJ:PySem.W.nsIn K mainGlobals "bool" = some none
 EM:PySem.W.nsIn K mainGlobals "int" = some none
 qF:PySem.W.nsIn K mainGlobals "isinstance" = some none
 EG:PySem.W.nsIn K mainGlobals "len" = some none
 BL:PySem.W.nsIn K mainGlobals "list" = some none
 Fo:PySem.W.nsIn K mainGlobals "max" = some none
 Fp:PySem.W.nsIn K mainGlobals "min" = some none
 Bf:PySem.W.nsIn K mainGlobals "range" = some none
 Fu:PySem.W.nsIn K mainGlobals "set" = some none
 E6:PySem.W.nsIn K mainGlobals "str" = some none
 Bu:PySem.W.nsIn K mainGlobals "tuple" = some none
 EV:PySem.W.nsIn K mainGlobals "zip" = some none
 rB:∃ t,PySem.W.nsIn K mainGlobals "MOST_PEGS" = some (some (.int 10 t))
 wF:∃ D,PySem.W.nsIn K mainGlobals "BadHook" = some (some (.ref D))/\RS.fm K "BadHook" D=true
 wj:∃ D,PySem.W.nsIn K mainGlobals "BadPegs" = some (some (.ref D))/\RS.fm K "BadPegs" D=true
 oq:∃ D,PySem.W.nsIn K mainGlobals "RibbonError" = some (some (.ref D))/\RS.fm K "RibbonError" D=true
 tO:∃ D,PySem.W.nsIn K mainGlobals "BadFrame" = some (some (.ref D))
 vm:∃ D,PySem.W.nsIn K mainGlobals "BadHalf" = some (some (.ref D))
 vD:∃ D,PySem.W.nsIn K mainGlobals "BadHook" = some (some (.ref D))
 wz:∃ D,PySem.W.nsIn K mainGlobals "BadName" = some (some (.ref D))
 vS:∃ D,PySem.W.nsIn K mainGlobals "BadPage" = some (some (.ref D))
 wO:∃ D,PySem.W.nsIn K mainGlobals "BadPegs" = some (some (.ref D))
 uD:∃ D,PySem.W.nsIn K mainGlobals "BadTrade" = some (some (.ref D))
 BW:∃ D,PySem.W.nsIn K mainGlobals "Full" = some (some (.ref D))
 A5:∃ D,PySem.W.nsIn K mainGlobals "Hangs" = some (some (.ref D))
 vC:∃ D,PySem.W.nsIn K mainGlobals "NoFrame" = some (some (.ref D))
 tU:∃ D,PySem.W.nsIn K mainGlobals "NoNumber" = some (some (.ref D))
 wW:∃ D,PySem.W.nsIn K mainGlobals "NoPlace" = some (some (.ref D))
 vL:∃ D,PySem.W.nsIn K mainGlobals "NoStack" = some (some (.ref D))
 mw:∃ D,PySem.W.nsIn K mainGlobals "NothingThere" = some (some (.ref D))
 Be:∃ D,PySem.W.nsIn K mainGlobals "Taken" = some (some (.ref D))
theorem DH{K:PySem.W.Frag}{h:Heap}{mg:Str->Option Value}(X:K.In h)(G:h.Ns mainGlobals mg)(A:tD K mg):RS.tH p K mg where
 defs:=by
  intro f d hf
  match f,hf with
  | 0,hf=>cases hf;obtain⟨fa,fd,h1,h2,h3⟩:=A.d19.ex;exact⟨fa,fd,h1,h2,h3,h2.binds (ps:=["value"]) (fun _ _ _ _ _ _=>all1 (fun _=>rfl))⟩
  | 1,hf=>cases hf;obtain⟨fa,fd,h1,h2,h3⟩:=A.d20.ex;exact⟨fa,fd,h1,h2,h3,h2.binds (ps:=["value"]) (fun _ _ _ _ _ _=>all1 (fun _=>rfl))⟩
  | 2,hf=>cases hf;obtain⟨fa,fd,h1,h2,h3⟩:=A.d21.ex;exact⟨fa,fd,h1,h2,h3,h2.binds (ps:=["pegs"]) (fun _ _ _ _ _ _=>all1 (fun _=>rfl))⟩
  | 3,hf=>cases hf;obtain⟨fa,fd,h1,h2,h3⟩:=A.d23.ex;exact⟨fa,fd,h1,h2,h3,h2.binds (ps:=["row", "one", "other"]) (fun _ _ _ _ _ _=>j0 (fun _ _ _=>rfl))⟩
  | 4,hf=>cases hf;obtain⟨fa,fd,h1,h2,h3⟩:=A.d25.ex;exact⟨fa,fd,h1,h2,h3,h2.binds (ps:=["frame"]) (fun _ _ _ _ _ _=>all1 (fun _=>rfl))⟩
  | 5,hf=>cases hf;obtain⟨fa,fd,h1,h2,h3⟩:=A.d26.ex;exact⟨fa,fd,h1,h2,h3,h2.binds (ps:=["pegs"]) (fun _ _ _ _ _ _=>all1 (fun _=>rfl))⟩
  | 6,hf=>cases hf;obtain⟨fa,fd,h1,h2,h3⟩:=A.d28.ex;exact⟨fa,fd,h1,h2,h3,h2.binds (ps:=["pegs", "row"]) (fun _ _ _ _ _ _=>all2 (fun _ _=>rfl))⟩
  | 7,hf=>cases hf;obtain⟨fa,fd,h1,h2,h3⟩:=A.d29.ex;exact⟨fa,fd,h1,h2,h3,h2.binds (ps:=["frame", "number"]) (fun _ _ _ _ _ _=>all2 (fun _ _=>rfl))⟩
  | 8,hf=>cases hf;obtain⟨fa,fd,h1,h2,h3⟩:=A.d30.ex;exact⟨fa,fd,h1,h2,h3,h2.binds (ps:=["pegs", "number"]) (fun _ _ _ _ _ _=>all2 (fun _ _=>rfl))⟩
  | 9,hf=>cases hf;obtain⟨fa,fd,h1,h2,h3⟩:=A.d31.ex;exact⟨fa,fd,h1,h2,h3,h2.binds (ps:=["pegs", "row"]) (fun _ _ _ _ _ _=>all2 (fun _ _=>rfl))⟩
  | 10,hf=>cases hf;obtain⟨fa,fd,h1,h2,h3⟩:=A.d33.ex;exact⟨fa,fd,h1,h2,h3,h2.binds (ps:=["_law_e"]) (fun _ _ _ _ _ _=>all1 (fun _=>rfl))⟩
  | 11,hf=>cases hf;obtain⟨fa,fd,h1,h2,h3⟩:=A.d34.ex;exact⟨fa,fd,h1,h2,h3,h2.binds (ps:=["_law_seed"]) (fun _ _ _ _ _ _=>all1 (fun _=>rfl))⟩
  | 12,hf=>cases hf;obtain⟨fa,fd,h1,h2,h3⟩:=A.d35.ex;exact⟨fa,fd,h1,h2,h3,h2.binds (ps:=["_law_script", "_law_k"]) (fun _ _ _ _ _ _=>all2 (fun _ _=>rfl))⟩
  | 13,hf=>cases hf;obtain⟨fa,fd,h1,h2,h3⟩:=A.d36.ex;exact⟨fa,fd,h1,h2,h3,h2.binds (ps:=["_law_script", "_law_k", "_law_sizes"]) (fun _ _ _ _ _ _=>j0 (fun _ _ _=>rfl))⟩
  | 14,hf=>cases hf;obtain⟨fa,fd,h1,h2,h3⟩:=A.d37.ex;exact⟨fa,fd,h1,h2,h3,h2.binds (ps:=["_law_script", "_law_k", "_law_pegs", "_law_size"]) (fun _ _ _ _ _ _=>FO (fun _ _ _ _=>rfl))⟩
  | 15,hf=>cases hf;obtain⟨fa,fd,h1,h2,h3⟩:=A.d38.ex;exact⟨fa,fd,h1,h2,h3,h2.binds (ps:=["_law_told", "_law_due"]) (fun _ _ _ _ _ _=>all2 (fun _ _=>rfl))⟩
  | 16,hf=>cases hf;obtain⟨fa,fd,h1,h2,h3⟩:=A.d39.ex;exact⟨fa,fd,h1,h2,h3,h2.binds (ps:=["_law_pegs"]) (fun _ _ _ _ _ _=>all1 (fun _=>rfl))⟩
  | 17,hf=>cases hf;obtain⟨fa,fd,h1,h2,h3⟩:=A.d40.ex;exact⟨fa,fd,h1,h2,h3,h2.binds (ps:=["_law_high", "_law_low", "_law_inner"]) (fun _ _ _ _ _ _=>j0 (fun _ _ _=>rfl))⟩
  | 18,hf=>cases hf;obtain⟨fa,fd,h1,h2,h3⟩:=A.d41.ex;exact⟨fa,fd,h1,h2,h3,h2.binds (ps:=["_law_high", "_law_low"]) (fun _ _ _ _ _ _=>all2 (fun _ _=>rfl))⟩
  | 19,hf=>cases hf;obtain⟨fa,fd,h1,h2,h3⟩:=A.d42.ex;exact⟨fa,fd,h1,h2,h3,h2.binds (ps:=["_law_pegs", "_law_frames"]) (fun _ _ _ _ _ _=>all2 (fun _ _=>rfl))⟩
  | 20,hf=>cases hf;obtain⟨fa,fd,h1,h2,h3⟩:=A.d43.ex;exact⟨fa,fd,h1,h2,h3,h2.binds (ps:=["_law_pegs", "_law_number"]) (fun _ _ _ _ _ _=>all2 (fun _ _=>rfl))⟩
  | 21,hf=>cases hf;obtain⟨fa,fd,h1,h2,h3⟩:=A.d44.ex;exact⟨fa,fd,h1,h2,h3,h2.binds (ps:=["_law_pegs", "_law_line"]) (fun _ _ _ _ _ _=>all2 (fun _ _=>rfl))⟩
  | 22,hf=>cases hf;obtain⟨fa,fd,h1,h2,h3⟩:=A.d45.ex;exact⟨fa,fd,h1,h2,h3,h2.binds (ps:=["_law_pegs", "_law_line"]) (fun _ _ _ _ _ _=>all2 (fun _ _=>rfl))⟩
  | 23,hf=>cases hf;obtain⟨fa,fd,h1,h2,h3⟩:=A.d46.ex;exact⟨fa,fd,h1,h2,h3,h2.binds (ps:=["_law_script"]) (fun _ _ _ _ _ _=>all1 (fun _=>rfl))⟩
  | f+24,hf=>cases hf
 blt:=by
  intro x hx
  simp only[p,List.mem_cons,List.mem_nil_iff,or_false]at hx
  rcases hx with rfl | rfl | rfl | rfl | rfl | rfl | rfl | rfl | rfl | rfl | rfl | rfl | rfl | rfl
  ·exact PySem.W.mg_none_of X G A.pT
  ·exact PySem.W.mg_none_of X G A.EO
  ·exact PySem.W.mg_none_of X G A.CJ
  ·exact PySem.W.mg_none_of X G A.EM
  ·exact PySem.W.mg_none_of X G A.qF
  ·exact PySem.W.mg_none_of X G A.EG
  ·exact PySem.W.mg_none_of X G A.BL
  ·exact PySem.W.mg_none_of X G A.Fo
  ·exact PySem.W.mg_none_of X G A.Fp
  ·exact PySem.W.mg_none_of X G A.Bf
  ·exact PySem.W.mg_none_of X G A.Fu
  ·exact PySem.W.mg_none_of X G A.E6
  ·exact PySem.W.mg_none_of X G A.Bu
  ·exact PySem.W.mg_none_of X G A.EV
 glb:=by
  intro x i hx
  obtain⟨t,ht⟩:=A.rB
  have e:x = "MOST_PEGS" /\ i=10:=by
   simp only[p,List.lookup]at hx
   split at hx
   ·rename_i he
    cases hx
    exact⟨by simpa using he,rfl⟩
   ·cases hx
  obtain⟨rfl,rfl⟩:=e
  exact⟨_,PySem.W.mg_of X G ht,t,rfl⟩
 cls:=by
  intro c hc
  have hc:c∈p.Xr:=by simpa using hc
  simp only[p,List.mem_cons,List.mem_nil_iff,or_false]at hc
  rcases hc with rfl | rfl | rfl
  ·obtain⟨D,a,b⟩:=A.wF;exact⟨D,PySem.W.mg_of X G a,⟨a,b⟩⟩
  ·obtain⟨D,a,b⟩:=A.wj;exact⟨D,PySem.W.mg_of X G a,⟨a,b⟩⟩
  ·obtain⟨D,a,b⟩:=A.oq;exact⟨D,PySem.W.mg_of X G a,⟨a,b⟩⟩
 ref:=by
  intro c hc
  have hc:c∈p.Xs:=by simpa using hc
  simp only[p,List.mem_cons,List.mem_nil_iff,or_false]at hc
  rcases hc with rfl | rfl | rfl | rfl | rfl | rfl | rfl | rfl | rfl | rfl | rfl | rfl | rfl | rfl | rfl
  ·obtain⟨D,a⟩:=A.tO;exact⟨D,PySem.W.mg_of X G a,a⟩
  ·obtain⟨D,a⟩:=A.vm;exact⟨D,PySem.W.mg_of X G a,a⟩
  ·obtain⟨D,a⟩:=A.vD;exact⟨D,PySem.W.mg_of X G a,a⟩
  ·obtain⟨D,a⟩:=A.wz;exact⟨D,PySem.W.mg_of X G a,a⟩
  ·obtain⟨D,a⟩:=A.vS;exact⟨D,PySem.W.mg_of X G a,a⟩
  ·obtain⟨D,a⟩:=A.wO;exact⟨D,PySem.W.mg_of X G a,a⟩
  ·obtain⟨D,a⟩:=A.uD;exact⟨D,PySem.W.mg_of X G a,a⟩
  ·obtain⟨D,a⟩:=A.BW;exact⟨D,PySem.W.mg_of X G a,a⟩
  ·obtain⟨D,a⟩:=A.A5;exact⟨D,PySem.W.mg_of X G a,a⟩
  ·obtain⟨D,a⟩:=A.vC;exact⟨D,PySem.W.mg_of X G a,a⟩
  ·obtain⟨D,a⟩:=A.tU;exact⟨D,PySem.W.mg_of X G a,a⟩
  ·obtain⟨D,a⟩:=A.wW;exact⟨D,PySem.W.mg_of X G a,a⟩
  ·obtain⟨D,a⟩:=A.vL;exact⟨D,PySem.W.mg_of X G a,a⟩
  ·obtain⟨D,a⟩:=A.mw;exact⟨D,PySem.W.mg_of X G a,a⟩
  ·obtain⟨D,a⟩:=A.Be;exact⟨D,PySem.W.mg_of X G a,a⟩
end K22
namespace PySem.W.Fast
theorem tw968972082905298976:True:=trivial
theorem tw3170283287978073152:True:=trivial
theorem tw15983931078102082656:True:=trivial
theorem tw10331458008722984160:True:=trivial
theorem tw2850474055701051712:True:=trivial
theorem tw3147444471888709984:True:=trivial
theorem tw15123020478245525888:True:=trivial
theorem tw4986210236914527808:True:=trivial
theorem tw7308388876801068640:True:=trivial
theorem tw12216364760176480896:True:=trivial
theorem tw524311822962116256:True:=trivial
theorem tw7816926570451165888:True:=trivial
theorem tw11573852068244247264:True:=trivial
theorem tw1740893459071079168:True:=trivial
theorem tw8392584331699681024:True:=trivial
theorem tw17529739269938994976:True:=trivial
theorem tw5367463685703418720:True:=trivial
theorem tw13350786307202192288:True:=trivial
theorem tw13761622298574218369:True:=trivial
theorem tw14605952362503679169:True:=trivial
theorem tw12983157191059799233:True:=trivial
theorem tw5918199687032525089:True:=trivial
theorem tw16550961418124595617:True:=trivial
theorem tw8119591136608715265:True:=trivial
theorem tw1537381370012772865:True:=trivial
theorem tw10822107141376285441:True:=trivial
theorem tw3397530949093496641:True:=trivial
theorem tw847050303273372577:True:=trivial
theorem tw1861663797272394818:True:=trivial
theorem tw6402128220298144866:True:=trivial
theorem tw13323026085146568866:True:=trivial
theorem tw2485318947709602978:True:=trivial
theorem tw14977002738139719874:True:=trivial
theorem tw9728910261637393634:True:=trivial
theorem tw16052304813469790658:True:=trivial
theorem tw5720310749027107426:True:=trivial
theorem tw6426472189642933858:True:=trivial
theorem tw14595048207372314274:True:=trivial
theorem tw1324394173030748898:True:=trivial
theorem tw2927998553071407970:True:=trivial
theorem tw10579301300290465666:True:=trivial
theorem tw1540391906346594210:True:=trivial
theorem tw19180514823604227:True:=trivial
theorem tw5492837687336032259:True:=trivial
theorem tw10873829981584965699:True:=trivial
theorem tw17563479563608585315:True:=trivial
theorem tw1068409870385609827:True:=trivial
theorem tw18176647419484356739:True:=trivial
theorem tw6822259196080425155:True:=trivial
theorem tw2652756443254837507:True:=trivial
theorem tw5478910468710620515:True:=trivial
theorem tw16350437552120603011:True:=trivial
theorem tw14499114478384944579:True:=trivial
theorem tw14967782205516545539:True:=trivial
theorem tw4995307194010030659:True:=trivial
theorem tw11817310030001658435:True:=trivial
theorem tw10528397084093963843:True:=trivial
theorem tw11574192656495580803:True:=trivial
theorem tw8810027893389815491:True:=trivial
theorem tw7458328049436850915:True:=trivial
theorem tw10068347060068682531:True:=trivial
theorem tw12923480313516006211:True:=trivial
theorem tw10669397092781449027:True:=trivial
theorem tw3107950187059283843:True:=trivial
theorem tw1248087916965646275:True:=trivial
theorem tw10215732505315072995:True:=trivial
theorem tw5679470463504122884:True:=trivial
theorem tw15513191491910904900:True:=trivial
theorem tw10361254759697899620:True:=trivial
theorem tw5684022796676415620:True:=trivial
theorem tw5766028701087306052:True:=trivial
theorem tw1043736607501240804:True:=trivial
theorem tw6154292917428491780:True:=trivial
theorem tw7025201875864672868:True:=trivial
theorem tw5341229006669736612:True:=trivial
theorem tw11925446719372690180:True:=trivial
theorem tw14427927556389850884:True:=trivial
theorem tw14949390518475733796:True:=trivial
theorem tw17574341900063044388:True:=trivial
theorem tw10848803010645892:True:=trivial
theorem tw1485251521164890020:True:=trivial
theorem tw4781948813688520644:True:=trivial
theorem tw4559001975215234053:True:=trivial
theorem tw15823775860900343845:True:=trivial
theorem tw13426670669841912869:True:=trivial
theorem tw10835534130911150149:True:=trivial
theorem tw9061671384553574501:True:=trivial
theorem tw11567622762245546245:True:=trivial
theorem tw1716378537279548709:True:=trivial
theorem tw4114032561968227781:True:=trivial
theorem tw14122185947010366981:True:=trivial
theorem tw3935696562379465253:True:=trivial
theorem tw7823039061843366597:True:=trivial
theorem tw6756399692297283333:True:=trivial
theorem tw15645578744511256325:True:=trivial
theorem tw10492837617931872101:True:=trivial
theorem tw905629367635601414:True:=trivial
theorem tw14282301392074899686:True:=trivial
theorem tw1630152112683062502:True:=trivial
theorem tw15713984392242305478:True:=trivial
theorem tw5227777340540382726:True:=trivial
theorem tw10941737927162007078:True:=trivial
theorem tw6574181566835019430:True:=trivial
theorem tw10906503592078296774:True:=trivial
theorem tw8105931255851251398:True:=trivial
theorem tw17076045300698975046:True:=trivial
theorem tw1857254427387168614:True:=trivial
theorem tw11708801329963088742:True:=trivial
theorem tw1049071140003526534:True:=trivial
theorem tw18261574307628311623:True:=trivial
theorem tw130795491244725415:True:=trivial
theorem tw13837203973413241063:True:=trivial
theorem tw6319195465144675559:True:=trivial
theorem tw7355477269372355847:True:=trivial
theorem tw10110061161268596071:True:=trivial
theorem tw18176700504601801159:True:=trivial
theorem tw7792138701713227431:True:=trivial
theorem tw2791591728329993031:True:=trivial
theorem tw17553816512495270727:True:=trivial
theorem tw17312915418793762631:True:=trivial
theorem tw13623156977489353575:True:=trivial
theorem tw7980239484725877864:True:=trivial
theorem tw16926341294727422088:True:=trivial
theorem tw9640175877473479848:True:=trivial
theorem tw17921951426838270184:True:=trivial
theorem tw10596317268795217192:True:=trivial
theorem tw2133099552563371336:True:=trivial
theorem tw12229989560833132904:True:=trivial
theorem tw2906330747520727752:True:=trivial
theorem tw12352711824211743464:True:=trivial
theorem tw12211189721367605992:True:=trivial
theorem tw2302351133087525704:True:=trivial
theorem tw8939048093080627144:True:=trivial
theorem tw921191699287899080:True:=trivial
theorem tw7805136651902568553:True:=trivial
theorem tw5237719287198750857:True:=trivial
theorem tw3715786230688708745:True:=trivial
theorem tw12370847702655498409:True:=trivial
theorem tw7426146472417605897:True:=trivial
theorem tw13961222415757396233:True:=trivial
theorem tw3619491022046907657:True:=trivial
theorem tw2872402254502970665:True:=trivial
theorem tw17320744043474542889:True:=trivial
theorem tw10572537691708071305:True:=trivial
theorem tw15637922792249659849:True:=trivial
theorem tw4553832649335822793:True:=trivial
theorem tw3623881574993007209:True:=trivial
theorem tw12802418831698180745:True:=trivial
theorem tw4633225547479438985:True:=trivial
theorem tw2795538245815198345:True:=trivial
theorem tw17988496182564251369:True:=trivial
theorem tw14604404689811427113:True:=trivial
theorem tw14792275336793680713:True:=trivial
theorem tw13412581249064470377:True:=trivial
theorem tw9634575129889793929:True:=trivial
theorem tw18297439093572252842:True:=trivial
theorem tw13538791263056855274:True:=trivial
theorem tw9339239306020971786:True:=trivial
theorem tw16788883041060496714:True:=trivial
theorem tw13646965882684545418:True:=trivial
theorem tw1404267595461083626:True:=trivial
theorem tw14349183242287421002:True:=trivial
theorem tw9152584712015792842:True:=trivial
theorem tw956488610657871754:True:=trivial
theorem tw15464233557488923594:True:=trivial
theorem tw6711303872425415755:True:=trivial
theorem tw11285322564892750955:True:=trivial
theorem tw9267242687774710955:True:=trivial
theorem tw13994484273538952651:True:=trivial
theorem tw13244157963319902699:True:=trivial
theorem tw9494926616994688523:True:=trivial
theorem tw6873861516831517227:True:=trivial
theorem tw12431423267213039211:True:=trivial
theorem tw17183906440928673451:True:=trivial
theorem tw15818587873390879403:True:=trivial
theorem tw11240013657580125899:True:=trivial
theorem tw1108615340054495051:True:=trivial
theorem tw11371219541303648203:True:=trivial
theorem tw12322808378213601259:True:=trivial
theorem tw12900899042639847403:True:=trivial
theorem tw5320935348152254476:True:=trivial
theorem tw1797448827404602380:True:=trivial
theorem tw1579405553035375788:True:=trivial
theorem tw15521206486560300300:True:=trivial
theorem tw10016504360305136908:True:=trivial
theorem tw6538965428768216364:True:=trivial
theorem tw6458067475675863436:True:=trivial
theorem tw12997470537059404204:True:=trivial
theorem tw1099982569154755212:True:=trivial
theorem tw10164924605846444748:True:=trivial
theorem tw2103217240111683308:True:=trivial
theorem tw16713593857367450348:True:=trivial
theorem tw13385106786101971724:True:=trivial
theorem tw16169205492584214284:True:=trivial
theorem tw862065065759354732:True:=trivial
theorem tw15197321635626560396:True:=trivial
theorem tw8343014971656006572:True:=trivial
theorem tw14896229977305199629:True:=trivial
theorem tw13143521115437167629:True:=trivial
theorem tw2622219535742906477:True:=trivial
theorem tw5345281295619841261:True:=trivial
theorem tw12679917335357756717:True:=trivial
theorem tw9332565539170231661:True:=trivial
theorem tw1162749540817923469:True:=trivial
theorem tw15857408977680630221:True:=trivial
theorem tw7970976545376032237:True:=trivial
theorem tw16101331997415434765:True:=trivial
theorem tw6460460846689613421:True:=trivial
theorem tw18048925300952177453:True:=trivial
theorem tw2019727210596975405:True:=trivial
theorem tw15515867453443519309:True:=trivial
theorem tw14808864093080762221:True:=trivial
theorem tw9244957004608077677:True:=trivial
theorem tw275502592430763949:True:=trivial
theorem tw14981439718148745165:True:=trivial
theorem tw9011596545010504942:True:=trivial
theorem tw5828438335727186222:True:=trivial
theorem tw16758963290459466062:True:=trivial
theorem tw7110078563510738254:True:=trivial
theorem tw6764246398957197678:True:=trivial
theorem tw7166289881323294190:True:=trivial
theorem tw2640998997434744398:True:=trivial
theorem tw17671754046064370318:True:=trivial
theorem tw9254583976561097422:True:=trivial
theorem tw16896006810226058222:True:=trivial
theorem tw3631434519972254799:True:=trivial
theorem tw813231846645628047:True:=trivial
theorem tw13426421950017231023:True:=trivial
theorem tw14995001801831741647:True:=trivial
theorem tw12049568307500217615:True:=trivial
theorem tw6963779426275921199:True:=trivial
theorem tw7373622778704297263:True:=trivial
theorem tw15180178752873276911:True:=trivial
theorem tw13486038508914156143:True:=trivial
theorem tw16039598950293264175:True:=trivial
theorem tw2103767693231823727:True:=trivial
theorem tw4242665122100237199:True:=trivial
theorem tw10346637286722980815:True:=trivial
theorem tw4675426294460648464:True:=trivial
theorem tw15482224790239940624:True:=trivial
theorem tw13975052510304788496:True:=trivial
theorem tw15166698055692784784:True:=trivial
theorem tw8323241331591201008:True:=trivial
theorem tw809228870653891888:True:=trivial
theorem tw10855233579262930352:True:=trivial
theorem tw2551645339783492016:True:=trivial
theorem tw7115705491417017808:True:=trivial
theorem tw13181620176674932176:True:=trivial
theorem tw1610863527436898800:True:=trivial
theorem tw9367300385950347792:True:=trivial
theorem tw16894734569272517232:True:=trivial
theorem tw16248282257733550768:True:=trivial
theorem tw4371995856052516688:True:=trivial
theorem tw13489516553884809329:True:=trivial
theorem tw2562286042061436049:True:=trivial
theorem tw5324703560032698705:True:=trivial
theorem tw17867376579455540721:True:=trivial
theorem tw2229652838154961521:True:=trivial
theorem tw9869397115789446833:True:=trivial
theorem tw16542371717657496369:True:=trivial
theorem tw2987738823957059409:True:=trivial
theorem tw9069423801896312914:True:=trivial
theorem tw15918113631078362194:True:=trivial
theorem tw6177714342375043186:True:=trivial
theorem tw16920938766798140530:True:=trivial
theorem tw16645454369572420754:True:=trivial
theorem tw14074891991798549714:True:=trivial
theorem tw4554654131487194578:True:=trivial
theorem tw13219001422819185106:True:=trivial
theorem tw15409505790096242130:True:=trivial
theorem tw15585704470233787986:True:=trivial
theorem tw1614584835788745330:True:=trivial
theorem tw17938063600554711762:True:=trivial
theorem tw17461116109091155666:True:=trivial
theorem tw985350221112793810:True:=trivial
theorem tw512357393515296498:True:=trivial
theorem tw14648195448192402290:True:=trivial
theorem tw11430769141523301266:True:=trivial
theorem tw9640395720377135123:True:=trivial
theorem tw6980440392814643283:True:=trivial
theorem tw12200603698929192019:True:=trivial
theorem tw13762821673766274163:True:=trivial
theorem tw1986175913489870995:True:=trivial
theorem tw9636099765310671091:True:=trivial
theorem tw15867088010130203955:True:=trivial
theorem tw9964241602152402259:True:=trivial
theorem tw9237121324815743347:True:=trivial
theorem tw5532921418387537331:True:=trivial
theorem tw15848554240078905811:True:=trivial
theorem tw3422435985347293683:True:=trivial
theorem tw17193597119533134611:True:=trivial
theorem tw4713794132854370227:True:=trivial
theorem tw1783348098841573492:True:=trivial
theorem tw17061531885577418932:True:=trivial
theorem tw2652879407698221268:True:=trivial
theorem tw6862003972872046868:True:=trivial
theorem tw6223728479311836468:True:=trivial
theorem tw1667160218685336020:True:=trivial
theorem tw6591999479307804180:True:=trivial
theorem tw16696219380464836180:True:=trivial
theorem tw8568286220896224980:True:=trivial
theorem tw676516563898308308:True:=trivial
theorem tw14080884127207808788:True:=trivial
theorem tw4874700444385202996:True:=trivial
theorem tw17582444946137501524:True:=trivial
theorem tw10028044651600256948:True:=trivial
theorem tw9835250745253112756:True:=trivial
theorem tw16925442332352736212:True:=trivial
theorem tw13554106994795522101:True:=trivial
theorem tw2639656724290964565:True:=trivial
theorem tw18051795337009704085:True:=trivial
theorem tw704568110539398325:True:=trivial
theorem tw17452862159748196533:True:=trivial
theorem tw1136320374195223733:True:=trivial
theorem tw8078610162543199477:True:=trivial
theorem tw11535958409765120373:True:=trivial
theorem tw11835925317872881045:True:=trivial
theorem tw7754706514132535893:True:=trivial
theorem tw4504141884529573461:True:=trivial
theorem tw13745738255150819957:True:=trivial
theorem tw18124494152686745205:True:=trivial
theorem tw17870566259049135733:True:=trivial
theorem tw13978660054701119125:True:=trivial
theorem tw4973708301961969301:True:=trivial
theorem tw18074268617384776341:True:=trivial
theorem tw15653622846371144405:True:=trivial
theorem tw8659475873777487605:True:=trivial
theorem tw14564169860459269877:True:=trivial
theorem tw11332575044978735861:True:=trivial
theorem tw16315608799888266005:True:=trivial
theorem tw9024534091233137525:True:=trivial
theorem tw8342313565847526261:True:=trivial
theorem tw8122992928063332309:True:=trivial
theorem tw54179369505357781:True:=trivial
theorem tw11837946941748761622:True:=trivial
theorem tw16539260059349094710:True:=trivial
theorem tw13562764694492019126:True:=trivial
theorem tw2239616201662616054:True:=trivial
theorem tw916574129210367510:True:=trivial
theorem tw14453732099158604374:True:=trivial
theorem tw16987525641196004022:True:=trivial
theorem tw14234330426171216630:True:=trivial
theorem tw8104700750212493174:True:=trivial
theorem tw2854236025587490774:True:=trivial
theorem tw15100601945756831031:True:=trivial
theorem tw138237641870711:True:=trivial
theorem tw9848718745420124535:True:=trivial
theorem tw13748336186881228215:True:=trivial
theorem tw12017504082985787927:True:=trivial
theorem tw3497164387150372439:True:=trivial
theorem tw17384140349806035607:True:=trivial
theorem tw4211216450421839575:True:=trivial
theorem tw12806454618361706231:True:=trivial
theorem tw2744654297694452535:True:=trivial
theorem tw1229316828751200055:True:=trivial
theorem tw3586138342872618839:True:=trivial
theorem tw1650923891303786327:True:=trivial
theorem tw1628194172483066807:True:=trivial
theorem tw18014402613377814487:True:=trivial
theorem tw7304127867647660023:True:=trivial
theorem tw1782322907264193784:True:=trivial
theorem tw7535047554886801688:True:=trivial
theorem tw11997289832852187480:True:=trivial
theorem tw15148058339027318104:True:=trivial
theorem tw3872139022229958040:True:=trivial
theorem tw10462952739593161240:True:=trivial
theorem tw1892262513471217240:True:=trivial
theorem tw6008976234447296184:True:=trivial
theorem tw12865396978640931608:True:=trivial
theorem tw15325977805375583064:True:=trivial
theorem tw6046004735038501816:True:=trivial
theorem tw12764504564934359992:True:=trivial
theorem tw13722299925880294425:True:=trivial
theorem tw4721808859986188569:True:=trivial
theorem tw9898615133347337753:True:=trivial
theorem tw12570725871934336537:True:=trivial
theorem tw12425316604187867801:True:=trivial
theorem tw6283174338703682233:True:=trivial
theorem tw6289208591735391097:True:=trivial
theorem tw2949293427475812313:True:=trivial
theorem tw4902780369030216730:True:=trivial
theorem tw1610750097073194042:True:=trivial
theorem tw1747667922170147898:True:=trivial
theorem tw10690871095322897498:True:=trivial
theorem tw13053587868072093914:True:=trivial
theorem tw2287942957554796794:True:=trivial
theorem tw12099918420348114234:True:=trivial
theorem tw2494356846258614618:True:=trivial
theorem tw2725501586589647354:True:=trivial
theorem tw644292432496810490:True:=trivial
theorem tw8120441219451041434:True:=trivial
theorem tw9273240875920848570:True:=trivial
theorem tw8910253817501356890:True:=trivial
theorem tw16403792495204786138:True:=trivial
theorem tw7861679136702998651:True:=trivial
theorem tw2505902250186809499:True:=trivial
theorem tw4602305276517818587:True:=trivial
theorem tw6361436997340165499:True:=trivial
theorem tw111558065280416187:True:=trivial
theorem tw8116544866601842235:True:=trivial
theorem tw9127578051893829211:True:=trivial
theorem tw3066562316304334683:True:=trivial
theorem tw4210898038920268667:True:=trivial
theorem tw18429129762963371995:True:=trivial
theorem tw15875260406170889244:True:=trivial
theorem tw4053110974341494844:True:=trivial
theorem tw7594875387288705148:True:=trivial
theorem tw7340110405569369276:True:=trivial
theorem tw5909358701449140508:True:=trivial
theorem tw3209602014696066364:True:=trivial
theorem tw7771102174302600540:True:=trivial
theorem tw17260181592416656828:True:=trivial
theorem tw14204076616304720412:True:=trivial
theorem tw16287727117326365276:True:=trivial
theorem tw11343116218128418492:True:=trivial
theorem tw10033210884275168988:True:=trivial
theorem tw10700740125533763356:True:=trivial
theorem tw14642533398991189884:True:=trivial
theorem tw13829029764203921308:True:=trivial
theorem tw18441043330194072476:True:=trivial
theorem tw9857280362661625820:True:=trivial
theorem tw6972169256068434908:True:=trivial
theorem tw1734858844256611357:True:=trivial
theorem tw7503875031774224445:True:=trivial
theorem tw7399199781844934717:True:=trivial
theorem tw16783751981417790653:True:=trivial
theorem tw12119598359224577245:True:=trivial
theorem tw4613499969257329981:True:=trivial
theorem tw401440708685686141:True:=trivial
theorem tw8182530786563582397:True:=trivial
theorem tw6857273686580701821:True:=trivial
theorem tw15067129200277439133:True:=trivial
theorem tw9988251882888351389:True:=trivial
theorem tw14104549676973359837:True:=trivial
theorem tw13255610789414552413:True:=trivial
theorem tw7149455940360328029:True:=trivial
theorem tw6979931801445906526:True:=trivial
theorem tw14783001150413122846:True:=trivial
theorem tw15019815969135169918:True:=trivial
theorem tw388153034316847518:True:=trivial
theorem tw15780523974920849886:True:=trivial
theorem tw14201370781901186526:True:=trivial
theorem tw9753228526518100478:True:=trivial
theorem tw11989012951871882782:True:=trivial
theorem tw742680532951335486:True:=trivial
theorem tw12281496239840647774:True:=trivial
theorem tw1367858613528604286:True:=trivial
theorem tw13154114122794879678:True:=trivial
theorem tw17456713595464760030:True:=trivial
theorem tw3044685691258413822:True:=trivial
theorem tw3975342273589308158:True:=trivial
theorem tw14104958793818643230:True:=trivial
theorem tw3221403152505147198:True:=trivial
theorem tw8055470531522805630:True:=trivial
theorem tw14806251716652899230:True:=trivial
theorem tw13087064085015749534:True:=trivial
theorem tw5151642507082735614:True:=trivial
theorem tw3178887516178549887:True:=trivial
theorem tw11840851019848922335:True:=trivial
theorem tw13053126663983418655:True:=trivial
theorem tw12826474853792578911:True:=trivial
theorem tw1179532913614420543:True:=trivial
theorem tw9729121654152883807:True:=trivial
theorem tw1852722854731154111:True:=trivial
theorem tw6760192266572003007:True:=trivial
theorem tw4725358795838083807:True:=trivial
theorem tw5876016293087336351:True:=trivial
theorem tw9658586875133122402:True:=trivial
end PySem.W.Fast
open PySem PySem.W PyProof.Rows
set_option maxRecDepth 100000 in
set_option maxHeartbeats 0 in
theorem PySem.Challenge.cw_ribbonloft_k22_rows_of_hooks_holds : PySem.Challenge.rw_ribbonloft_k22_rows_of_hooks.Holds := by
 w_on;o_law;k_head;(case hw=>w_witness2)
 k_fill
 refine L2.xD (l:=PySem.Challenge.rw_ribbonloft_k22_rows_of_hooks) (n:=63) (k:=30) (x := "_law_script") (CX:=L2.CX0) (sp:=RS.spL 30 K22.p 23) rfl (by decide) rfl ⟨rfl,by decide,by decide⟩ (fun w h Y=>PySem.W.kIn_of Y) ?F ?S ?C
 case F =>
  intro w mg fa h KX G hmg
  have T:K22.tD (L2.KOf KX) mg:=by
   dsimp only[L2.KOf]
   constructor
   iterate 24 (refine' K22.B5 KX G ?a ?l ?c ?k;(case a=>k_is);(case l=>k_is);(case c=>k_is);(case k=>k_is))
   iterate 14 k_is
   exact⟨_,by k_is⟩
   refine' ⟨_,?n,RS.rf ?c⟩;(case n=>k_is);(case c=>constructor;k_exc;(iterate 7 k_is);kit_is;(iterate 16 (refine' RS.oS ?n ?k ?s ?e;(case n=>k_is);(case k=>kit_is);(case s=>k_is);(case e=>decide +kernel))))
   refine' ⟨_,?n,RS.rf ?c⟩;(case n=>k_is);(case c=>constructor;k_exc;(iterate 7 k_is);kit_is;(iterate 16 (refine' RS.oS ?n ?k ?s ?e;(case n=>k_is);(case k=>kit_is);(case s=>k_is);(case e=>decide +kernel))))
   refine' ⟨_,?n,RS.rf ?c⟩;(case n=>k_is);(case c=>constructor;k_exc;(iterate 7 k_is);kit_is;(iterate 16 (refine' RS.oS ?n ?k ?s ?e;(case n=>k_is);(case k=>kit_is);(case s=>k_is);(case e=>decide +kernel))))
   exact⟨_,by k_is⟩
   exact⟨_,by k_is⟩
   exact⟨_,by k_is⟩
   exact⟨_,by k_is⟩
   exact⟨_,by k_is⟩
   exact⟨_,by k_is⟩
   exact⟨_,by k_is⟩
   exact⟨_,by k_is⟩
   exact⟨_,by k_is⟩
   exact⟨_,by k_is⟩
   exact⟨_,by k_is⟩
   exact⟨_,by k_is⟩
   exact⟨_,by k_is⟩
   exact⟨_,by k_is⟩
   exact⟨_,by k_is⟩
  have tp:=K22.DH KX G T
  obtain⟨fa',fd,h1,h2,h3,h4⟩:=tp.defs 23 _ rfl
  have e0:=hmg.symm.trans h1
  cases e0
  refine⟨fd,fun s u=>?_,fun base kb nb=>RS.BY K22.F3 tp 30 23 _ _ rfl rfl _ _ h2⟩
  obtain⟨oc,od,kV,doc,pm,an,cdv,ct,osl,e9,_,_⟩:=h2.ex
  subst e9
  exact .of_eq rfl
 case S=>exact fun K H a ns hl hO hS=>RS.Dj hO hS (K22.main ns hl)
 case C=>exact fun _ _ _ _ h=>h
