import PyProof.Rows.All
import Wide.All
import OpenK.AllK
import Wide.FinOn
import PyProof.EqAt
import PyProof.EqKinds
import PyProof.TupleCall
import PySem.Str
import PyProof.NeKinds
import PyProof.CompMap
import PyProof.CompFree
import PyProof.EnumMake
import PyProof.Draws
import PyProof.ListRange
import PyProof.ConsumeWalk
import PyProof.Rows.SetFrom
import PyProof.SetRoads
import PyProof.ZipIter
import PyProof.Rows.SumAny
import PyProof.Rows.SortWalk
import PyProof.Rows.SeqMore2
import PyProof.ExcAttrAll.ValueError
import PyProof.ExcBaseAll.ValueError
import PyProof.Rows.FStr
import PyProof.Rows.StrJoin2
import PySem.Challenge.RW_ribbonloft_k21_single_hooks
set_option Elab.async false
set_option linter.all false
set_option maxRecDepth 100000
set_option maxHeartbeats 4000000
set_option genSizeOf false
set_option genSizeOfSpec false
namespace RL
open PySem (Str)
abbrev Ky:=Sum Int Str
inductive D where
 | non
 | bl (b:Bool)
 | int (i:Int)
 | str (x:Str)
 | tup (xs:List D)
 | lst (xs:List D)
 | dK (ks:List Ky) (vs:List D)
 | dT (ks:List (List Ky)) (vs:List D)
 | scr (xs:List D)
 | exc (c:Str)
 deriving Inhabited
mutual
noncomputable def D.imm:D->Bool
 | .tup xs=>ay xs
 | .lst _=>false
 | .dK _ _=>false
 | .dT _ _=>false
 | .scr xs=>ay xs
 | _=>true
noncomputable def ay:List D->Bool
 | []=>true
 | d::r=>d.imm&&ay r
end
inductive Bop where | add | sub | mul | fdiv | mod | pow
 deriving DecidableEq
inductive Cop where | lt | le | gt | ge | eq | ne
 deriving DecidableEq
inductive Bi where | len | list | tuple | int | all | any | lenSet | sorted | sortedSet | abs | sum
 deriving DecidableEq
inductive Ty where | int | bool | list | tuple | str
 deriving DecidableEq
mutual
inductive E where
 | var (i:Nat)
 | cst (d:D)
 | glb (x:Str) (i:Int)
 | bin (o:Bop) (a b:E)
 | cmp (c:Cop) (a b:E)
 | chain (c c':Cop) (a b e:E)
 | isB (neg:Bool) (a:E) (b:Bool)
 | isN (neg:Bool) (a:E)
 | inn (neg:Bool) (a b:E)
 | inD (neg:Bool) (a b:E)
 | and (a b:E)
 | or (a b:E)
 | not (a:E)
 | ifx (t a b:E)
 | tup (es:Es)
 | lst (es:Es)
 | ix (a b:E)
 | ixD (a b:E)
 | slT (a b:E)
 | slF (a b:E)
 | rev (a:E)
 | call (f:Nat) (es:Es)
 | bi (b:Bi) (a:E)
 | max (a b:E)
 | min (a b:E)
 | dvm (a b:E)
 | get (a b c:E)
 | isi (a:E) (t:Ty)
 | rng1 (a:E)
 | rng2 (a b:E)
 | rng3 (c:Int) (a b:E)
 | neg (a:E)
 | comp (e:E) (tg:List Nat) (it:It) (c:E)
 | compA (e:E) (tg:List Nat) (it:It)
 | compL (e:E) (tg:List Nat) (it:It)
 | index (a b:E)
 | chain3 (c c' c'':Cop) (a b e g:E)
 | slB (a b c:E)
 | join (a:E)
 | isx (a:E) (c:Str)
 | dk0
 | dt0
inductive Es where
 | nil
 | cons (e:E) (es:Es)
inductive It where
 | seq (e:E)
 | rng1 (a:E)
 | rng2 (a b:E)
 | rng3 (c:Int) (a b:E)
 | chr (e:E)
 | enm (e:E)
 | zip (a b:E)
 | nope
end
mutual
inductive S where
 | asg (i:Nat) (e:E)
 | own (i:Nat) (e:E)
 | unp (is:List Nat) (e:E)
 | par (i j:Nat) (a b:E)
 | parO (i j:Nat) (a b:E)
 | app (i:Nat) (e:E)
 | put (i:Nat) (k e:E)
 | put2 (i:Nat) (k l a b:E)
 | pop (i j:Nat)
 | clr (i:Nat)
 | aug (i:Nat) (o:Bop) (e:E)
 | ife (t:E) (a b:Ss)
 | ifp (i:Nat) (e:E) (a b:Ss)
 | forr (tg:List Nat) (it:It) (b:Ss)
 | whil (t:E) (b:Ss)
 | mexc (f:Nat) (es:Es) (ps ms:List Nat)
 | maug (i f:Nat) (es:Es) (ps ms:List Nat)
 | ret (e:E)
 | exc (e:E)
 | never
 | rais (c:Str) (ps:Es)
 | tryc (b:Ss) (c:Str) (i:Nat) (h:Ss)
inductive Ss where
 | nil
 | cons (s:S) (r:Ss)
end
abbrev St:=List (Option D)
abbrev Cl:=Nat->List D->Option D
noncomputable def most:Nat:=100000
noncomputable def bW{α:Type}(xs:List α)(i:Int):Option α :=
 if 0<=i then xs[i.toNat]? else if -(xs.length:Int)<=i then xs[(i+xs.length).toNat]? else none
noncomputable def jE(n:Nat)(i:Int):Option Nat :=
 if 0<=i then(if i<n then some i.toNat else none)else if -(n:Int)<=i then some (i+n).toNat else none
noncomputable def cutAt(n:Nat)(i:Int):Nat:=if 0<=i then min i.toNat n else(i+n).toNat
noncomputable def aI:Bop->D->D->Option D
 | .add,.int a,.int b=>some (.int (a+b))
 | .add,.str a,.str b=>if a.length+b.length<=most then some (.str (a++b))else none
 | .add,.lst a,.lst b=>if a.length+b.length<=most then some (.lst (a++b))else none
 | .add,.tup a,.tup b=>if a.length+b.length<=most/\0<a.length then some (.tup (a++b))else none
 | .sub,.int a,.int b=>some (.int (a-b))
 | .mul,.int a,.int b=>if(-(2 ^ 64)<a/\a<2 ^ 64)\/(-(2 ^ 64)<b/\b<2 ^ 64)then some (.int (a*b))else none
 | .mul,.lst a,.int b=>if 0<=b/\b<=most/\a.length*b.toNat<=most then some (.lst (List.replicate b.toNat a).flatten)else none
 | .fdiv,.int a,.int b=>if 0<b/\b<2 ^ 200 then some (.int (a / b))else none
 | .mod,.int a,.int b=>if 0<b then some (.int (a%b))else none
 | .pow,.int a,.int b=>if 0<=b/\b<=1000/\a.natAbs<2 ^ 64 then some (.int (a ^ b.toNat))else none
 | _,_,_=>none
noncomputable def eqs(f:D->D->Option Bool):List D->List D->Option Bool
 | a::r,b::s=>(f a b).bind fun e=>(eqs f r s).map fun k=>e&&k
 | _,_=>some true
noncomputable def eqD:Nat->D->D->Option Bool
 | _,.int a,.int b=>some (a == b)
 | _,.str a,.str b=>some (a == b)
 | _,.bl a,.bl b=>some (a == b)
 | n+1,.tup a,.tup b=>(eqs (eqD n) a b).map fun k=>k&&a.length == b.length
 | n+1,.lst a,.lst b=>(eqs (eqD n) a b).map fun k=>k&&a.length == b.length
 | _,_,_=>none
noncomputable def bc:Cop->D->D->Option Bool
 | .lt,.int a,.int b=>some (decide (a<b))
 | .le,.int a,.int b=>some (decide (a<=b))
 | .gt,.int a,.int b=>some (decide (b<a))
 | .ge,.int a,.int b=>some (decide (b<=a))
 | .eq,a,b=>eqD 8 a b
 | .ne,a,b=>(eqD 8 a b).map not
 | _,_,_=>none
noncomputable def truth:D->Option Bool
 | .bl b=>some b
 | .lst xs=>some (!xs.isEmpty)
 | .tup xs=>some (!xs.isEmpty)
 | .int i=>some (i != 0)
 | _=>none
noncomputable def iZ:List D->Option (List Int)
 | []=>some []
 | .int i::r=>(iZ r).map (i :: ·)
 | _=>none
noncomputable def dh:List D->Option (List Bool)
 | []=>some []
 | .bl i::r=>(dh r).map (i :: ·)
 | _=>none
noncomputable def strs?:List D->Option (List Str)
 | []=>some []
 | .str i::r=>(strs? r).map (i :: ·)
 | _=>none
noncomputable def qC(a:Int):List Int->List Int
 | []=>[a]
 | b::r=>if a<=b then a::b::r else b::qC a r
noncomputable def sortI:List Int->List Int
 | []=>[]
 | a::r=>qC a (sortI r)
noncomputable def tm(xs:List Int):List Int:=xs.foldl (fun m k=>if m.any (· == k)then m else m++[k]) []
noncomputable def items:D->Option (List D)
 | .lst xs=>some xs
 | .tup xs=>some xs
 | _=>none
noncomputable def fO:D->Option (List D)
 | .lst xs=>some xs
 | .tup xs=>some xs
 | .str x=>some (x.cps.toList.map fun c=>.str ⟨#[c]⟩)
 | _=>none
noncomputable def biV:Bi->D->Option D
 | .len,.str x=>if x.length<=most then some (.int x.length)else none
 | .len,.dK ks _=>some (.int ks.length)
 | .len,.dT ks _=>some (.int ks.length)
 | .len,d=>(items d).map fun xs=>.int xs.length
 | .list,d=>(items d).map .lst
 | .tuple,d=>(items d).map .tup
 | .int,.bl b=>some (.int (if b then 1 else 0))
 | .int,.int i=>some (.int i)
 | .int,_=>none
 | .all,.lst xs=>(dh xs).map fun bs=>.bl (bs.all id)
 | .any,.lst xs=>(dh xs).map fun bs=>.bl (bs.any id)
 | .all,_=>none
 | .any,_=>none
 | .lenSet,.lst xs=>if xs.length<=1000 then(iZ xs).map fun is=>.int (tm is).length else none
 | .lenSet,_=>none
 | .sorted,.lst xs=>if xs.length<64 then(iZ xs).map fun is=>.lst ((sortI is).map .int)else none
 | .sorted,_=>none
 | .sortedSet,.lst xs=>(iZ xs).map fun is=>.lst ((sortI (tm is)).map .int)
 | .sortedSet,_=>none
 | .abs,.int i=>some (.int (if i<0 then -i else i))
 | .abs,_=>none
 | .sum,.lst xs=>(iZ xs).map fun is=>.int is.sum
 | .sum,_=>none
noncomputable def cG:Ty->D->Option Bool
 | .int,.int _=>some true
 | .int,.bl _=>some true
 | .bool,.bl _=>some true
 | .list,.lst _=>some true
 | .tuple,.tup _=>some true
 | .str,.str _=>some true
 | _,.non=>some false
 | _,.bl _=>some false
 | _,.int _=>some false
 | _,.str _=>some false
 | _,.tup _=>some false
 | _,.lst _=>some false
 | _,_=>none
noncomputable def keyOf:D->Option Ky
 | .int i=>some (.inl i)
 | .str x=>some (.inr x)
 | _=>none
noncomputable def keysOf:List D->Option (List Ky)
 | []=>some []
 | d::r=>(keyOf d).bind fun k=>(keysOf r).map (k :: ·)
noncomputable def hJ{κ:Type} [DecidableEq κ]:List κ->List D->κ->Option D
 | k::ks,v::vs,x=>if k=x then some v else hJ ks vs x
 | _,_,_=>none
noncomputable def putD{κ:Type} [DecidableEq κ](ks:List κ)(vs:List D)(x:κ)(d:D):List κ × List D :=
 if x∈ks then(ks,List.zipWith (fun k v=>if k=x then d else v) ks vs)else(ks++[x],vs++[d])
noncomputable def ixV:D->D->Option D
 | .lst xs,.int i=>bW xs i
 | .tup xs,.int i=>bW xs i
 | .str x,.int i=>if x.length<=most then(bW x.cps.toList i).map fun c=>.str ⟨#[c]⟩else none
 | _,_=>none
noncomputable def DB:D->D->Option D
 | .dK ks vs,k=>(keyOf k).bind (hJ ks vs)
 | .dT ks vs,.tup k=>(keysOf k).bind (hJ ks vs)
 | _,_=>none
noncomputable def D6:D->D->D->Option D
 | .dK ks vs,k,z=>(keyOf k).map fun q=>(hJ ks vs q).getD z
 | .dT ks vs,.tup k,z=>(keysOf k).map fun q=>(hJ ks vs q).getD z
 | _,_,_=>none
noncomputable def DI:D->D->Option Bool
 | .dK ks vs,k=>(keyOf k).map fun k=>(hJ ks vs k).isSome
 | .dT ks vs,.tup k=>(keysOf k).map fun k=>(hJ ks vs k).isSome
 | _,_=>none
noncomputable def flat:D->Bool
 | .int _=>true
 | .str _=>true
 | _=>false
noncomputable def eqF:D->D->Bool
 | .int a,.int b=>a == b
 | .str a,.str b=>a == b
 | _,_=>false
noncomputable def inV(a b:D):Option Bool :=
 (items b).bind fun xs=>if flat a&&xs.all flat then some (xs.any fun x=>eqF x a)else none
noncomputable def sx:D->D->Option D
 | .scr xs,.int k=>some (.lst (xs.take (cutAt xs.length k)))
 | .lst xs,.int k=>some (.lst (xs.take (cutAt xs.length k)))
 | .tup xs,.int k=>if cutAt xs.length k<xs.length then some (.tup (xs.take (cutAt xs.length k)))else none
 | _,_=>none
noncomputable def Dl:D->D->Option D
 | .lst xs,.int k=>some (.lst (xs.drop (cutAt xs.length k)))
 | .tup xs,.int k=>if 0<cutAt xs.length k then some (.tup (xs.drop (cutAt xs.length k)))else none
 | _,_=>none
noncomputable def DO:D->D->D->Option D
 | .lst xs,.int i,.int k=>some (.lst ((xs.take (cutAt xs.length k)).drop (cutAt xs.length i)))
 | .tup xs,.int i,.int k=>if 0<cutAt xs.length i\/cutAt xs.length k<xs.length then some (.tup ((xs.take (cutAt xs.length k)).drop (cutAt xs.length i)))else none
 | _,_,_=>none
noncomputable def bY(lo:Int):Nat->List D
 | 0=>[]
 | n+1=>.int lo::bY (lo+1) n
noncomputable def fQ(c lo:Int):Nat->List D
 | 0=>[]
 | n+1=>.int lo::fQ c (lo+c) n
noncomputable def cB(c a b:Int):Nat:=(if c > 0 then(if a<b then(b-a-1) / c+1 else 0)else(if a > b then(a-b-1) / (-c)+1 else 0)).toNat
noncomputable def cP:D->D->Option (List D)
 | .int a,.int b=>if(b-a).toNat<=most/\-(2 ^ 60)<=a/\a<2 ^ 60/\-(2 ^ 60)<=b/\b<2 ^ 60 then some (bY a (b-a).toNat)else none
 | _,_=>none
noncomputable def xj(c:Int):D->D->Option (List D)
 | .int a,.int b=>if c≠0/\-(2 ^ 60)<c/\c<2 ^ 60/\cB c a b<=most/\-(2 ^ 60)<=a/\a<2 ^ 60/\-(2 ^ 60)<=b/\b<2 ^ 60 then some (fQ c a (cB c a b))else none
 | _,_=>none
noncomputable def dk(i:Int):List D->List D
 | []=>[]
 | d::r=>.tup [.int i,d]::dk (i+1) r
noncomputable def dW:List D->List D->List D
 | a::r,b::s=>.tup [a,b]::dW r s
 | _,_=>[]
noncomputable def bj:List Nat->List D->St->Option St
 | [],[],σ=>some σ
 | i::is,d::ds,σ=>bj is ds (σ.set i (some d))
 | _,_,_=>none
noncomputable def aT(tg:List Nat)(d:D)(σ:St):Option St :=
 match tg with
 | [i]=>some (σ.set i (some d))
 | tg=>match d with
  | .tup ds=>bj tg ds σ
  | .lst ds=>bj tg ds σ
  | _=>none
noncomputable def j8(y:Option D)(ys:List D):Option (List D) :=
 match y with
 | some e=>if e.imm then some (e::ys)else none
 | none=>some ys
noncomputable def cz(f:St->Option (Option D))(tg:List Nat)(σ:St):List D->Option (List D)
 | []=>some []
 | d::r=>(aT tg d σ).bind fun σ1=>(f σ1).bind fun y=>(cz f tg σ r).bind (j8 y)
noncomputable def aO:D->Bool
 | .lst xs=>ay xs
 | .dK _ vs=>ay vs
 | .dT _ vs=>ay vs
 | _=>false
noncomputable def Ay(f:St->Option D)(fr:Bool)(tg:List Nat)(σ:St):List D->Option (List D)
 | []=>some []
 | d::r=>(aT tg d σ).bind fun σ1=>(f σ1).bind fun y=>if aO y&&fr then(Ay f fr tg σ r).map (y :: ·)else none
noncomputable def fits(xs:List D):Option (List D):=if xs.length<=most then some xs else none
noncomputable def aC:E->Bool
 | .lst _=>true
 | .tup _=>true
 | .comp _ _ _ _=>true
 | .compA _ _ _=>true
 | .compL _ _ _=>true
 | .bin _ _ _=>true
 | .slT _ _=>true
 | .slF _ _=>true
 | .slB _ _ _=>true
 | .rev _=>true
 | .call _ _=>true
 | .bi _ _=>true
 | .rng1 _=>true
 | .rng2 _ _=>true
 | .rng3 _ _ _=>true
 | .dk0=>true
 | .dt0=>true
 | _=>false
noncomputable def c7(n c:Str):Bool:=n == c || c == "RibbonError" || c == "ValueError"
mutual
noncomputable def ev(cl:Cl)(σ:St):E->Option D
 | .var i=>(σ[i]?).bind id
 | .cst d=>some d
 | .glb _ i=>some (.int i)
 | .bin o a b=>(ev cl σ a).bind fun x=>(ev cl σ b).bind fun y=>aI o x y
 | .cmp c a b=>(ev cl σ a).bind fun x=>(ev cl σ b).bind fun y=>(bc c x y).map .bl
 | .chain c c' a b e=>(ev cl σ a).bind fun x=>(ev cl σ b).bind fun y=>(bc c x y).bind fun k=>if k then(ev cl σ e).bind fun z=>(bc c' y z).map .bl else some (.bl false)
 | .isB neg a b=>(ev cl σ a).bind fun x=>match x with
  | .bl k=>some (.bl (if neg then !decide (k=b)else decide (k=b)))
  | _=>none
 | .isN neg a=>(ev cl σ a).bind fun x=>match x with
  | .non=>some (.bl (!neg))
  | .dK _ _=>none
  | .dT _ _=>none
  | _=>some (.bl neg)
 | .inn neg a b=>(ev cl σ a).bind fun x=>(ev cl σ b).bind fun y=>(inV x y).map fun k=>.bl (if neg then !k else k)
 | .inD neg a b=>(ev cl σ a).bind fun x=>(ev cl σ b).bind fun y=>(DI y x).map fun k=>.bl (if neg then !k else k)
 | .and a b=>(ev cl σ a).bind fun x=>match x with
  | .bl true=>ev cl σ b
  | .bl false=>some (.bl false)
  | _=>none
 | .or a b=>(ev cl σ a).bind fun x=>match x with
  | .bl false=>ev cl σ b
  | .bl true=>some (.bl true)
  | _=>none
 | .not a=>((ev cl σ a).bind truth).map fun k=>.bl (!k)
 | .ifx t a b=>((ev cl σ t).bind truth).bind fun k=>if k then ev cl σ a else ev cl σ b
 | .tup es=>(evs cl σ es).map .tup
 | .lst es=>(evs cl σ es).map .lst
 | .ix a b=>(ev cl σ a).bind fun x=>(ev cl σ b).bind fun y=>ixV x y
 | .ixD a b=>(ev cl σ a).bind fun x=>(ev cl σ b).bind fun y=>DB x y
 | .slT a b=>(ev cl σ a).bind fun x=>(ev cl σ b).bind fun y=>sx x y
 | .slF a b=>(ev cl σ a).bind fun x=>(ev cl σ b).bind fun y=>Dl x y
 | .rev a=>(ev cl σ a).bind fun x=>match x with
  | .lst xs=>some (.lst xs.reverse)
  | .tup xs=>some (.tup xs.reverse)
  | _=>none
 | .call f es=>(evs cl σ es).bind fun ds=>cl f ds
 | .bi b a=>(ev cl σ a).bind fun x=>biV b x
 | .max a b=>(ev cl σ a).bind fun x=>(ev cl σ b).bind fun y=>match x,y with
  | .int i,.int j=>some (.int (if j > i then j else i))
  | _,_=>none
 | .min a b=>(ev cl σ a).bind fun x=>(ev cl σ b).bind fun y=>match x,y with
  | .int i,.int j=>some (.int (if j<i then j else i))
  | _,_=>none
 | .dvm a b=>(ev cl σ a).bind fun x=>(ev cl σ b).bind fun y=>match x,y with
  | .int i,.int j=>if 0<j/\j<1073741824 then some (.tup [.int (i / j),.int (i%j)])else none
  | _,_=>none
 | .get a b c=>(ev cl σ a).bind fun x=>(ev cl σ b).bind fun y=>(ev cl σ c).bind fun z=>D6 x y z
 | .isi a t=>(ev cl σ a).bind fun x=>(cG t x).map .bl
 | .rng1 a=>(ev cl σ a).bind fun x=>(cP (.int 0) x).map .lst
 | .rng2 a b=>(ev cl σ a).bind fun x=>(ev cl σ b).bind fun y=>(cP x y).map .lst
 | .rng3 c a b=>(ev cl σ a).bind fun x=>(ev cl σ b).bind fun y=>(xj c x y).map .lst
 | .neg a=>(ev cl σ a).bind fun x=>match x with
  | .int i=>some (.int (-i))
  | _=>none
 | .comp e tg it c=>(bq cl σ it).bind fun ds=>(fits ds).bind fun ds=>(cz (fun σ1=>((ev cl σ1 c).bind truth).bind fun k=>if k then(ev cl σ1 e).map some else some none) tg σ ds).map .lst
 | .compA e tg it=>(bq cl σ it).bind fun ds=>(fits ds).bind fun ds=>(cz (fun σ1=>(ev cl σ1 e).map some) tg σ ds).map .lst
 | .compL e tg it=>(bq cl σ it).bind fun ds=>(fits ds).bind fun ds=>(Ay (fun σ1=>ev cl σ1 e) (aC e) tg σ ds).map .lst
 | .index a b=>(ev cl σ a).bind fun x=>(ev cl σ b).bind fun y=>match x,y with
  | .lst xs,.int i=>(iZ xs).bind fun is=>if i∈is then some (.int (is.idxOf i))else none
  | _,_=>none
 | .join a=>(ev cl σ a).bind fun x=>match x with
  | .lst xs=>(strs? xs).bind fun ss=>if ss.length<=most/\ss.all (fun s=>s.length<=100)then some (.str ⟨(ss.flatMap fun s=>s.cps.toList).toArray⟩)else none
  | _=>none
 | .chain3 c c' c'' a b e g=>(ev cl σ a).bind fun x=>(ev cl σ b).bind fun y=>(bc c x y).bind fun k=>if k then(ev cl σ e).bind fun z=>(bc c' y z).bind fun k'=>if k' then(ev cl σ g).bind fun w=>(bc c'' z w).map .bl else some (.bl false)else some (.bl false)
 | .slB a b c=>(ev cl σ a).bind fun x=>(ev cl σ b).bind fun y=>(ev cl σ c).bind fun z=>DO x y z
 | .isx a c=>(ev cl σ a).bind fun x=>match x with
  | .exc n=>some (.bl (c7 n c))
  | _=>none
 | .dk0=>some (.dK [] [])
 | .dt0=>some (.dT [] [])
noncomputable def evs(cl:Cl)(σ:St):Es->Option (List D)
 | .nil=>some []
 | .cons e es=>(ev cl σ e).bind fun d=>(evs cl σ es).map (d :: ·)
noncomputable def bq(cl:Cl)(σ:St):It->Option (List D)
 | .seq e=>(ev cl σ e).bind items
 | .rng1 a=>(ev cl σ a).bind fun x=>cP (.int 0) x
 | .rng2 a b=>(ev cl σ a).bind fun x=>(ev cl σ b).bind fun y=>cP x y
 | .rng3 c a b=>(ev cl σ a).bind fun x=>(ev cl σ b).bind fun y=>xj c x y
 | .chr e=>(ev cl σ e).bind fun x=>match x with
  | .str x=>fO (.str x)
  | _=>none
 | .enm e=>(ev cl σ e).bind fun x=>(fO x).map (dk 0)
 | .zip a b=>(ev cl σ a).bind fun x=>(ev cl σ b).bind fun y=>(items x).bind fun xs=>(items y).bind fun ys=>if xs.length=ys.length then some (dW xs ys)else none
 | .nope=>none
end
noncomputable def clX(cl:Cl)(f:Nat)(ds:List D):Option Str:=(cl (f+1000) ds).bind fun d=>match d with
 | .str x=>some x
 | _=>none
mutual
noncomputable def evX(cl:Cl)(σ:St):E->Option Str
 | .call f es=>match evs cl σ es with
  | some ds=>clX cl f ds
  | none=>nR cl σ es
 | .ix a _=>evX cl σ a
 | _=>none
noncomputable def nR(cl:Cl)(σ:St):Es->Option Str
 | .nil=>none
 | .cons e es=>match ev cl σ e with
  | some _=>nR cl σ es
  | none=>evX cl σ e
end
noncomputable def written:D->Bool
 | .int i=>decide (i.natAbs<2 ^ 1900)
 | _=>false
inductive Out where
 | nx
 | rt (d:D)
noncomputable def avE(M:List Nat):E->Bool
 | .var j=>!M.contains j
 | .ix a _=>avE M a
 | .call _ _=>true
 | .compL _ _ _=>true
 | .ifx _ a b=>avE M a&&avE M b
 | _=>false
noncomputable def oj(M:List Nat):It->Bool
 | .seq e=>avE M e || aC e
 | .enm e=>avE M e || aC e
 | .zip a b=>(avE M a || aC a)&&(avE M b || aC b)
 | _=>true
noncomputable def bt(M:List Nat)(e:E)(d:D):Bool :=
 d.imm || (aO d&&(aC e || match e with | .var i=>M.contains i | _=>false))
noncomputable def ba(M:List Nat)(e:E)(d:D):Bool:=d.imm || (aO d&&aC e) || avE M e
noncomputable def isVar:E->Bool
 | .var _=>true
 | _=>false
noncomputable def cI(M ps:List Nat):Nat->Es->List D->Bool
 | _,.nil,[]=>true
 | q,.cons e es,d::ds=>(if ps.contains q then isVar e else ba M e d)&&cI M ps (q+1) es ds
 | _,_,_=>false
noncomputable def gg:D->D->D->Option D
 | .lst xs,.int k,d=>(jE xs.length k).map fun j=>.lst (xs.set j d)
 | .dK ks vs,k,d=>(keyOf k).bind fun k=>if ks.length<most then some (.dK (putD ks vs k d).1 (putD ks vs k d).2)else none
 | .dT ks vs,.tup k,d=>(keysOf k).bind fun k=>if ks.length<most then some (.dT (putD ks vs k d).1 (putD ks vs k d).2)else none
 | _,_,_=>none
noncomputable def bb(f:St->Option (Out × St))(tg:List Nat):List D->St->Option (Out × St)
 | [],σ=>some (.nx,σ)
 | d::r,σ=>if d.imm then(aT tg d σ).bind fun σ1=>(f σ1).bind fun p=>match p.1 with
   | .nx=>bb f tg r p.2
   | .rt d=>some (.rt d,p.2)
  else none
noncomputable def whF(t:St->Option Bool)(f:St->Option (Out × St)):Nat->St->Option (Out × St)
 | 0,_=>none
 | n+1,σ=>(t σ).bind fun k=>if k then(f σ).bind fun p=>match p.1 with
   | .nx=>whF t f n p.2
   | .rt d=>some (.rt d,p.2)
  else some (.nx,σ)
noncomputable def cO(f:St->Option (Out × St))(fx:St->Option (Str × St))(tg:List Nat):List D->St->Option (Str × St)
 | [],_=>none
 | d::r,σ=>if d.imm then(aT tg d σ).bind fun σ1=>match f σ1 with
   | some p=>match p.1 with
    | .nx=>cO f fx tg r p.2
    | .rt _=>none
   | none=>fx σ1
  else none
mutual
noncomputable def evS(cl:Cl)(M:List Nat):S->St->Option (Out × St)
 | .asg i e,σ=>(ev cl σ e).bind fun d=>if ba M e d then some (.nx,σ.set i (some d))else none
 | .own i e,σ=>(ev cl σ e).bind fun d=>if aO d&&aC e then some (.nx,σ.set i (some d))else none
 | .unp is e,σ=>(ev cl σ e).bind fun d=>(items d).bind fun ds=>if ay ds then(bj is ds σ).map fun σ1=>(.nx,σ1)else none
 | .par i j a b,σ=>(ev cl σ a).bind fun x=>(ev cl σ b).bind fun y=>if x.imm&&y.imm then some (.nx,(σ.set i (some x)).set j (some y))else none
 | .parO i j a b,σ=>(ev cl σ a).bind fun x=>(ev cl σ b).bind fun y=>if(aO x&&aC a)&&(aO y&&aC b)then some (.nx,(σ.set i (some x)).set j (some y))else none
 | .app i e,σ=>(ev cl σ e).bind fun d=>((σ[i]?).bind id).bind fun l=>match l with
  | .lst xs=>if d.imm&&decide (xs.length<most)then some (.nx,σ.set i (some (.lst (xs++[d]))))else none
  | _=>none
 | .put i k e,σ=>(ev cl σ e).bind fun d=>(ev cl σ k).bind fun kk=>((σ[i]?).bind id).bind fun l=>if d.imm then(gg l kk d).map fun l'=>(.nx,σ.set i (some l'))else none
 | .put2 i k l a b,σ=>(ev cl σ a).bind fun x=>(ev cl σ b).bind fun y=>if x.imm&&y.imm then
   (ev cl σ k).bind fun kk=>((σ[i]?).bind id).bind fun c=>match c with
   | .lst _=>(gg c kk x).bind fun c1=>(ev cl (σ.set i (some c1)) l).bind fun ll=>(gg c1 ll y).map fun c2=>(.nx,(σ.set i (some c1)).set i (some c2))
   | _=>none
  else none
 | .pop i j,σ=>((σ[i]?).bind id).bind fun l=>match l with
  | .lst xs=>(xs[xs.length-1]?).map fun d=>(.nx,(σ.set i (some (.lst xs.dropLast))).set j (some d))
  | _=>none
 | .clr i,σ=>((σ[i]?).bind id).bind fun l=>match l with
  | .lst _=>some (.nx,σ.set i (some (.lst [])))
  | _=>none
 | .aug i o e,σ=>((σ[i]?).bind id).bind fun x=>(ev cl σ e).bind fun y=>match x,y with
  | .int a,.int b=>(aI o (.int a) (.int b)).map fun z=>(.nx,σ.set i (some z))
  | _,_=>none
 | .ife t a b,σ=>((ev cl σ t).bind truth).bind fun k=>if k then ag cl M a σ else ag cl M b σ
 | .ifp i e a b,σ=>((σ[i]?).bind id).bind fun l=>match l with
  | .lst xs=>(xs[xs.length-1]?).bind fun d=>(ev cl (σ.set i (some (.lst xs.dropLast))) e).bind fun y=>match d,y with
   | .int p,.int q=>if decide (p=q)then ag cl M b (σ.set i (some (.lst xs.dropLast)))else ag cl M a (σ.set i (some (.lst xs.dropLast)))
   | _,_=>none
  | _=>none
 | .forr tg it b,σ=>(bq cl σ it).bind fun ds=>bb (ag cl M b) tg ds σ
 | .whil t b,σ=>whF (fun σ=>(ev cl σ t).bind truth) (ag cl M b) most σ
 | .mexc f es ps ms,σ=>(evs cl σ es).bind fun ds=>if cI M ps 0 es ds then(cl f ds).bind fun r=>match r with
  | .tup (_::outs)=>(bj ms outs σ).map fun σ1=>(.nx,σ1)
  | _=>none
  else none
 | .maug i f es ps ms,σ=>((σ[i]?).bind id).bind fun x=>(evs cl σ es).bind fun ds=>if cI M ps 0 es ds then(cl f ds).bind fun r=>match r with
  | .tup (y::outs)=>match x,y with
   | .int a,.int b=>(bj ms outs σ).map fun σ1=>(.nx,σ1.set i (some (.int (a+b))))
   | _,_=>none
  | _=>none
  else none
 | .ret e,σ=>(ev cl σ e).bind fun d=>if bt M e d then some (.rt d,σ)else none
 | .exc e,σ=>(ev cl σ e).map fun _=>(.nx,σ)
 | .never,_=>none
 | .rais _ _,_=>none
 | .tryc b c i h,σ=>match ag cl M b σ with
  | some p=>some p
  | none=>(bG cl M b σ).bind fun q=>if c7 q.1 c then(ag cl M h (q.2.set i (some (.exc q.1)))).map fun r=>(r.1,r.2.set i none)else none
noncomputable def ag(cl:Cl)(M:List Nat):Ss->St->Option (Out × St)
 | .nil,σ=>some (.nx,σ)
 | .cons s r,σ=>(evS cl M s σ).bind fun p=>match p.1 with
  | .nx=>ag cl M r p.2
  | .rt d=>some (.rt d,p.2)
noncomputable def dP(cl:Cl)(M:List Nat):S->St->Option (Str × St)
 | .asg _ e,σ=>(evX cl σ e).map fun x=>(x,σ)
 | .own _ e,σ=>(evX cl σ e).map fun x=>(x,σ)
 | .unp _ e,σ=>(evX cl σ e).map fun x=>(x,σ)
 | .exc e,σ=>(evX cl σ e).map fun x=>(x,σ)
 | .ret e,σ=>(evX cl σ e).map fun x=>(x,σ)
 | .ife t a b,σ=>((ev cl σ t).bind truth).bind fun k=>if k then bG cl M a σ else bG cl M b σ
 | .forr tg it b,σ=>(bq cl σ it).bind fun ds=>cO (ag cl M b) (bG cl M b) tg ds σ
 | .rais c ps,σ=>(evs cl σ ps).bind fun ds=>if ds.all written then some (c,σ)else none
 | _,_=>none
noncomputable def bG(cl:Cl)(M:List Nat):Ss->St->Option (Str × St)
 | .nil,_=>none
 | .cons s r,σ=>match evS cl M s σ with
  | some p=>match p.1 with
   | .nx=>bG cl M r p.2
   | .rt _=>none
  | none=>dP cl M s σ
end
structure Fn where
 ps:Nat
 nn:Nat
 M:List Nat
 mp:List Nat
 body:Ss
noncomputable def cY(σ:St):List Nat->Option (List D)
 | []=>some []
 | i::is=>((σ[i]?).bind id).bind fun d=>(cY σ is).map (d :: ·)
noncomputable def aP(fn:Fn)(d:D)(σ:St):Option D :=
 if fn.mp.isEmpty then some d else if d.imm then(cY σ fn.mp).map fun os=>.tup (d::os)else none
noncomputable def aw(T:List Fn):Nat->Cl
 | 0,_,_=>none
 | n+1,f,ds=>match T[f]? with
  | some fn=>if ds.length=fn.ps then(ag (aw T n) fn.M fn.body (ds.map some++List.replicate (fn.nn-fn.ps) none)).bind fun p=>match p.1 with
   | .nx=>aP fn .non p.2
   | .rt d=>aP fn d p.2
   else none
  | none=>(T[f-1000]?).bind fun fn=>if ds.length=fn.ps/\fn.mp=[]then(bG (aw T n) fn.M fn.body (ds.map some++List.replicate (fn.nn-fn.ps) none)).map fun p=>.str p.1 else none
end RL
namespace RT
open RL
noncomputable def cx:Fn :=
 ⟨1,1,[],[],(.cons (.ret (.and (.isi (.var 0) .int) (.not (.isi (.var 0) .bool)))) .nil)⟩
noncomputable def bT(f_is_number:Nat):Fn :=
 ⟨1,1,[],[],(.cons (.ret (.and (.call f_is_number (.cons (.var 0) .nil)) (.chain .le .le (.cst (.int 1)) (.var 0) (.glb "MOST_PEGS" 10)))) .nil)⟩
noncomputable def bK(f_is_peg_count:Nat):Fn :=
 ⟨1,1,[],[],(.cons (.ife (.not (.call f_is_peg_count (.cons (.var 0) .nil))) (.cons (.rais "BadPegs" (.cons (.glb "MOST_PEGS" 10) .nil)) .nil) .nil) .nil)⟩
noncomputable def mD:Fn :=
 ⟨3,3,[0,0],[0],(.cons (.put 0 (.var 1) (.var 2)) (.cons (.put 0 (.var 2) (.var 1)) .nil))⟩
noncomputable def gc:Fn :=
 ⟨1,1,[],[],(.cons (.ret (.bin .fdiv (.bi .len (.var 0)) (.cst (.int 2)))) .nil)⟩
noncomputable def gI(f_check_pegs:Nat):Fn :=
 ⟨1,1,[],[],(.cons (.exc (.call f_check_pegs (.cons (.var 0) .nil))) (.cons (.ret (.bi .tuple (.bin .add (.rng2 (.var 0) (.bin .mul (.cst (.int 2)) (.var 0))) (.rng1 (.var 0))))) .nil))⟩
noncomputable def kI(f_hang_hook f_plain f_check_row:Nat):Ss :=
 (.cons (.maug 3 f_hang_hook (.cons (.var 2) (.cons (.var 4) .nil)) [0] [2]) .nil)
noncomputable def gN(f_hang_hook f_plain f_check_row:Nat):Fn :=
 ⟨2,5,[2],[],(.cons (.exc (.call f_check_row (.cons (.var 0) (.cons (.var 1) .nil)))) (.cons (.own 2 (.bi .list (.call f_plain (.cons (.var 0) .nil)))) (.cons (.asg 3 (.cst (.int 0))) (.cons (.forr [4] (.seq (.var 1)) (kI f_hang_hook f_plain f_check_row)) (.cons (.ret (.tup (.cons (.bi .tuple (.var 2)) (.cons (.var 3) .nil)))) .nil)))))⟩
noncomputable def d9(f_tie f_pegs_of:Nat):Fn :=
 ⟨2,4,[0,0],[0],(.cons (.asg 2 (.bin .add (.call f_pegs_of (.cons (.var 0) .nil)) (.var 1))) (.cons (.asg 3 (.bin .add (.var 2) (.cst (.int 1)))) (.cons (.ife (.cmp .eq (.ix (.var 0) (.var 2)) (.var 3)) (.cons (.ret (.cst (.int 1))) .nil) .nil) (.cons (.mexc f_tie (.cons (.var 0) (.cons (.ix (.var 0) (.var 2)) (.cons (.ix (.var 0) (.var 3)) .nil))) [0] [0]) (.cons (.mexc f_tie (.cons (.var 0) (.cons (.var 2) (.cons (.var 3) .nil))) [0] [0]) (.cons (.ret (.cst (.int 0))) .nil))))))⟩
noncomputable def de(f_is_number:Nat):Fn :=
 ⟨2,2,[],[],(.cons (.ret (.and (.call f_is_number (.cons (.var 1) .nil)) (.chain .le .le (.cst (.int 0)) (.var 1) (.bin .sub (.var 0) (.cst (.int 2)))))) .nil)⟩
noncomputable def cD(f_is_hook f_check_pegs:Nat):Ss :=
 (.cons (.ife (.not (.call f_is_hook (.cons (.var 0) (.cons (.var 2) .nil)))) (.cons (.rais "BadHook" (.cons (.var 2) (.cons (.var 0) .nil))) .nil) .nil) .nil)
noncomputable def cL(f_is_hook f_check_pegs:Nat):Fn :=
 ⟨2,3,[],[],(.cons (.exc (.call f_check_pegs (.cons (.var 0) .nil))) (.cons (.forr [2] (.seq (.var 1)) (cD f_is_hook f_check_pegs)) .nil))⟩
noncomputable def iO:Fn :=
 ⟨1,3,[],[],(.cons (.asg 1 (.bin .mod (.bin .add (.bin .mul (.var 0) (.cst (.int 48271))) (.cst (.int 11))) (.cst (.int 2147483647)))) (.cons (.asg 2 (.bin .mod (.bin .add (.bin .add (.bin .mul (.var 1) (.var 1)) (.bin .mul (.cst (.int 40692)) (.var 1))) (.var 0)) (.cst (.int 2147483399)))) (.cons (.ret (.bin .mod (.bin .add (.bin .add (.bin .mul (.var 2) (.var 2)) (.bin .mul (.cst (.int 69621)) (.var 2))) (.var 1)) (.cst (.int 2147483563)))) .nil)))⟩
noncomputable def i4(f_law_mix:Nat):Ss :=
 (.cons (.asg 3 (.bin .add (.bin .mul (.var 3) (.cst (.int 2147483563))) (.call f_law_mix (.cons (.bin .add (.bin .add (.var 2) (.bin .mul (.cst (.int 1009)) (.var 1))) (.bin .mul (.cst (.int 7919)) (.var 4))) .nil)))) .nil)
noncomputable def iM(f_law_mix:Nat):Fn :=
 ⟨2,5,[],[],(.cons (.asg 2 (.bin .add (.bin .mul (.cst (.int 7)) (.var 1)) (.cst (.int 3)))) (.cons (.ife (.cmp .gt (.bi .len (.var 0)) (.cst (.int 0))) (.cons (.asg 2 (.bin .add (.ix (.var 0) (.bin .mod (.var 1) (.bi .len (.var 0)))) (.bin .mul (.cst (.int 9973)) (.bin .fdiv (.var 1) (.bi .len (.var 0)))))) .nil) .nil) (.cons (.ife (.and (.cmp .lt (.var 1) (.bi .len (.var 0))) (.cmp .ge (.var 2) (.bin .pow (.cst (.int 10)) (.cst (.int 18))))) (.cons (.ret (.bin .sub (.var 2) (.bin .pow (.cst (.int 10)) (.cst (.int 18))))) .nil) .nil) (.cons (.asg 3 (.cst (.int 0))) (.cons (.forr [4] (.rng1 (.cst (.int 40))) (i4 f_law_mix)) (.cons (.ret (.var 3)) .nil))))))⟩
noncomputable def eS(f_law_raw:Nat):Ss :=
 (.cons (.app 4 (.bin .mod (.var 3) (.var 5))) (.cons (.asg 3 (.bin .fdiv (.var 3) (.var 5))) .nil))
noncomputable def ed(f_law_raw:Nat):Fn :=
 ⟨3,6,[4],[],(.cons (.asg 3 (.call f_law_raw (.cons (.var 0) (.cons (.var 1) .nil)))) (.cons (.own 4 (.lst .nil)) (.cons (.forr [5] (.seq (.var 2)) (eS f_law_raw)) (.cons (.ret (.var 4)) .nil))))⟩
noncomputable def fM(f_names_back:Nat):Fn :=
 ⟨1,2,[],[],(.cons (.ret (.and (.isi (.var 0) .tuple) (.bi .all (.compA (.call f_names_back (.cons (.var 0) (.cons (.var 1) .nil))) [1] (.rng1 (.bi .len (.var 0))))))) .nil)⟩
noncomputable def fK(f_is_number:Nat):Fn :=
 ⟨2,3,[],[],(.cons (.asg 2 (.ix (.var 0) (.var 1))) (.cons (.ret (.and (.call f_is_number (.cons (.var 2) .nil)) (.and (.chain .le .lt (.cst (.int 0)) (.var 2) (.bi .len (.var 0))) (.cmp .eq (.ix (.var 0) (.var 2)) (.var 1))))) .nil))⟩
noncomputable def bw:Ss :=
 (.cons (.ife (.cmp .gt (.var 3) (.var 2)) (.cons (.app 1 (.var 2)) .nil) (.cons (.ife (.cmp .eq (.var 3) (.var 2)) (.cons (.ife (.var 1) (.cons (.ret (.cst (.bl false))) .nil) .nil) .nil) (.cons (.ifp 1 (.var 3) (.cons (.ret (.cst (.bl false))) .nil) .nil) .nil)) .nil)) .nil)
noncomputable def e8:Fn :=
 ⟨1,4,[1],[],(.cons (.own 1 (.lst .nil)) (.cons (.forr [2,3] (.enm (.var 0)) (bw)) (.cons (.ret (.cst (.bl true))) .nil)))⟩
noncomputable def fh(f_is_uncrossed f_in_round f_is_pairing f_is_peg_count f_pegs_of:Nat):Fn :=
 ⟨1,5,[],[],(.cons (.asg 1 (.call f_pegs_of (.cons (.var 0) .nil))) (.cons (.ife (.or (.cmp .ne (.bi .len (.var 0)) (.bin .mul (.cst (.int 2)) (.var 1))) (.or (.not (.call f_is_peg_count (.cons (.var 1) .nil))) (.not (.call f_is_pairing (.cons (.var 0) .nil))))) (.cons (.ret (.cst (.bl false))) .nil) .nil) (.cons (.asg 2 (.comp (.var 3) [3,4] (.enm (.var 0)) (.cmp .eq (.var 3) (.var 4)))) (.cons (.ret (.and (.not (.var 2)) (.call f_is_uncrossed (.cons (.call f_in_round (.cons (.var 0) .nil)) .nil)))) .nil))))⟩
noncomputable def dC(f_is_frame:Nat):Fn :=
 ⟨1,1,[],[],(.cons (.ife (.not (.call f_is_frame (.cons (.var 0) .nil))) (.cons (.rais "BadFrame" .nil) .nil) .nil) .nil)⟩
noncomputable def cJ:Fn :=
 ⟨2,2,[],[],(.cons (.ret (.ifx (.cmp .lt (.var 1) (.var 0)) (.var 1) (.bin .sub (.bin .sub (.bin .mul (.cst (.int 3)) (.var 0)) (.cst (.int 1))) (.var 1)))) .nil)⟩
noncomputable def eY(f_moved f_round_place f_pegs_of:Nat):Fn :=
 ⟨1,3,[],[],(.cons (.asg 1 (.call f_pegs_of (.cons (.var 0) .nil))) (.cons (.ret (.call f_moved (.cons (.var 0) (.cons (.compA (.call f_round_place (.cons (.var 1) (.cons (.var 2) .nil))) [2] (.rng1 (.bin .mul (.cst (.int 2)) (.var 1)))) .nil)))) .nil))⟩
noncomputable def j0:Ss :=
 (.cons (.put 2 (.ix (.var 1) (.var 3)) (.ix (.var 1) (.var 4))) .nil)
noncomputable def iX:Fn :=
 ⟨2,5,[2],[],(.cons (.own 2 (.bin .mul (.lst (.cons (.cst (.int 0)) .nil)) (.bi .len (.var 0)))) (.cons (.forr [3,4] (.enm (.var 0)) (j0)) (.cons (.ret (.bi .tuple (.var 2))) .nil)))⟩
noncomputable def dA:Fn :=
 ⟨1,2,[],[],(.cons (.ret (.bi .tuple (.bin .add (.compA (.bin .add (.var 0) (.var 1)) [1] (.rng1 (.var 0))) (.rng1 (.var 0))))) .nil)⟩
noncomputable def jw(f_law_plain:Nat):Ss :=
 (.cons (.put 2 (.var 3) (.bin .add (.var 3) (.cst (.int 1)))) (.cons (.put 2 (.bin .add (.var 3) (.cst (.int 1))) (.var 3)) .nil))
noncomputable def eW(f_law_plain:Nat):Fn :=
 ⟨2,4,[2],[],(.cons (.own 2 (.bi .list (.call f_law_plain (.cons (.var 0) .nil)))) (.cons (.forr [3] (.seq (.tup (.cons (.var 1) (.cons (.bin .add (.var 0) (.var 1)) .nil)))) (jw f_law_plain)) (.cons (.ret (.bi .tuple (.var 2))) .nil)))⟩
noncomputable def cn(f_law_same:Nat):Fn :=
 ⟨2,4,[],[],(.cons (.ife (.isN false (.var 1)) (.cons (.ret (.isN false (.var 0))) .nil) .nil) (.cons (.ife (.or (.cmp .ne (.isi (.var 0) .bool) (.isi (.var 1) .bool)) (.cmp .ne (.isi (.var 0) .int) (.isi (.var 1) .int))) (.cons (.ret (.cst (.bl false))) .nil) .nil) (.cons (.ife (.or (.cmp .ne (.isi (.var 0) .list) (.isi (.var 1) .list)) (.cmp .ne (.isi (.var 0) .tuple) (.isi (.var 1) .tuple))) (.cons (.ret (.cst (.bl false))) .nil) .nil) (.cons (.ife (.and (.not (.isi (.var 1) .list)) (.not (.isi (.var 1) .tuple))) (.cons (.ret (.and (.cmp .eq (.isi (.var 0) .str) (.isi (.var 1) .str)) (.cmp .eq (.var 0) (.var 1)))) .nil) .nil) (.cons (.ret (.and (.cmp .eq (.bi .len (.var 0)) (.bi .len (.var 1))) (.bi .all (.compA (.call f_law_same (.cons (.var 2) (.cons (.var 3) .nil))) [2,3] (.zip (.var 0) (.var 1)))))) .nil)))))⟩
noncomputable def tU:Ss :=
 (.cons (.app 3 (.var 4)) (.cons (.asg 5 (.ifx (.cmp .eq (.bin .mod (.bi .len (.var 3)) (.cst (.int 2))) (.cst (.int 0))) (.var 0) (.var 1))) (.cons (.asg 4 (.ix (.var 5) (.var 4))) .nil)))
noncomputable def m9:Fn :=
 ⟨3,6,[3],[],(.cons (.own 3 (.lst (.cons (.var 2) .nil))) (.cons (.asg 4 (.ix (.var 1) (.var 2))) (.cons (.whil (.inn true (.var 4) (.tup (.cons (.ix (.var 3) (.neg (.cst (.int 1)))) (.cons (.var 2) .nil)))) (tU)) (.cons (.ret (.var 3)) .nil))))⟩
noncomputable def gq(f_mark f_run:Nat):Ss :=
 (.cons (.ife (.not (.ix (.var 2) (.var 3))) (.cons (.aug 4 .add (.cst (.int 1))) (.cons (.mexc f_mark (.cons (.var 2) (.cons (.call f_run (.cons (.var 0) (.cons (.var 1) (.cons (.var 3) .nil)))) .nil)) [0] [2]) .nil)) .nil) .nil)
noncomputable def gm(f_mark f_run:Nat):Ss :=
 (.cons (.ife (.cmp .eq (.ix (.var 0) (.var 3)) (.var 3)) (.cons (.mexc f_mark (.cons (.var 2) (.cons (.call f_run (.cons (.var 0) (.cons (.var 1) (.cons (.var 3) .nil)))) .nil)) [0] [2]) .nil) .nil) (.cons (.ife (.cmp .eq (.ix (.var 1) (.var 3)) (.var 3)) (.cons (.mexc f_mark (.cons (.var 2) (.cons (.call f_run (.cons (.var 1) (.cons (.var 0) (.cons (.var 3) .nil)))) .nil)) [0] [2]) .nil) .nil) .nil))
noncomputable def iw(f_mark f_run:Nat):Fn :=
 ⟨2,5,[2],[],(.cons (.own 2 (.bin .mul (.lst (.cons (.cst (.bl false)) .nil)) (.bi .len (.var 0)))) (.cons (.forr [3] (.rng1 (.bi .len (.var 0))) (gm f_mark f_run)) (.cons (.asg 4 (.cst (.int 0))) (.cons (.forr [3] (.rng1 (.bi .len (.var 0))) (gq f_mark f_run)) (.cons (.ret (.var 4)) .nil)))))⟩
noncomputable def qb:Ss :=
 (.cons (.put 0 (.var 2) (.cst (.bl true))) .nil)
noncomputable def oI:Fn :=
 ⟨2,3,[0,0],[0],(.cons (.forr [2] (.seq (.var 1)) (qb)) .nil)⟩
noncomputable def eK(f_check_frame:Nat):Fn :=
 ⟨2,2,[],[],(.cons (.exc (.call f_check_frame (.cons (.var 0) .nil))) (.cons (.exc (.call f_check_frame (.cons (.var 1) .nil))) (.cons (.ife (.cmp .ne (.bi .len (.var 0)) (.bi .len (.var 1))) (.cons (.rais "BadPegs" .nil) .nil) .nil) .nil)))⟩
noncomputable def t5(f_put_under f_check_two_frames:Nat):Fn :=
 ⟨2,2,[],[],(.cons (.exc (.call f_check_two_frames (.cons (.var 0) (.cons (.var 1) .nil)))) (.cons (.ret (.call f_put_under (.cons (.var 0) (.cons (.var 1) .nil)))) .nil))⟩
noncomputable def gr(f_rings_of f_run f_joints_between f_pegs_of:Nat):Fn :=
 ⟨2,10,[],[],(.cons (.asg 2 (.call f_pegs_of (.cons (.var 0) .nil))) (.cons (.asg 3 (.bin .add (.bi .list (.var 0)) (.compA (.bin .add (.bin .mul (.cst (.int 2)) (.var 2)) (.var 8)) [8] (.seq (.var 1))))) (.cons (.asg 4 (.call f_joints_between (.cons (.var 2) .nil))) (.cons (.asg 5 (.bin .add (.rng1 (.var 2)) (.rng2 (.bin .mul (.cst (.int 3)) (.var 2)) (.bin .mul (.cst (.int 4)) (.var 2))))) (.cons (.asg 6 (.compA (.ix (.call f_run (.cons (.var 4) (.cons (.var 3) (.cons (.var 8) .nil)))) (.neg (.cst (.int 1)))) [8] (.seq (.var 5)))) (.cons (.asg 7 (.bi .tuple (.compA (.ifx (.cmp .lt (.var 9) (.var 2)) (.var 9) (.bin .sub (.var 9) (.bin .mul (.cst (.int 2)) (.var 2)))) [9] (.seq (.var 6))))) (.cons (.ret (.tup (.cons (.var 7) (.cons (.call f_rings_of (.cons (.var 4) (.cons (.var 3) .nil))) .nil)))) .nil)))))))⟩
noncomputable def dM:Fn :=
 ⟨1,5,[],[],(.cons (.asg 1 (.rng1 (.var 0))) (.cons (.asg 2 (.rng2 (.var 0) (.bin .mul (.cst (.int 2)) (.var 0)))) (.cons (.asg 3 (.rng2 (.bin .mul (.cst (.int 2)) (.var 0)) (.bin .mul (.cst (.int 3)) (.var 0)))) (.cons (.asg 4 (.rng2 (.bin .mul (.cst (.int 3)) (.var 0)) (.bin .mul (.cst (.int 4)) (.var 0)))) (.cons (.ret (.bin .add (.bin .add (.bin .add (.var 1) (.var 3)) (.var 2)) (.var 4))) .nil)))))⟩
noncomputable def mT(f_made:Nat):Fn :=
 ⟨2,2,[],[],(.cons (.ret (.ix (.call f_made (.cons (.var 0) (.cons (.lst (.cons (.var 1) .nil)) .nil))) (.cst (.int 0)))) .nil)⟩
end RT
namespace M
noncomputable def hg(l r:Nat)(g:Nat->Nat):Nat->Nat:=fun x=>if g l=r then g x else if x=r then l else if x=l then r else if x=g r then g l else if x=g l then g r else g x
section
variable{l r s p q:Nat}{g:Nat->Nat}
theorem Av(e:g l=r):hg l r g=g:=by funext x;unfold hg;rw[if_pos e]
theorem Ah(hlr:l≠r)(h:∀ x,g (g x)=x)(n1:g l≠l)(n2:g r≠r)(x:Nat):hg l r g (hg l r g x)=x:=by
 by_cases e:g l=r
 ·rw[Av e];exact h x
 ·have k:∀ y,hg l r g y=if y=r then l else if y=l then r else if y=g r then g l else if y=g l then g r else g y:=fun y=>by unfold hg;rw[if_neg e]
  rw[k x,k]
  grind
theorem wF(hlr:l≠r)(h:∀ x,g (g x)=x)(n1:g l≠l)(n2:g r≠r){x:Nat}(nx:g x≠x):hg l r g x≠x:=by
 unfold hg;grind
end
end M
namespace RL
noncomputable def evF(cl:Cl)(fn:Fn)(ds:List D):Option D:=if ds.length=fn.ps then(ag cl fn.M fn.body (ds.map some++List.replicate (fn.nn-fn.ps) none)).bind fun p=>match p.1 with
  | .nx=>aP fn .non p.2
  | .rt d=>aP fn d p.2
  else none
theorem aq{T:List Fn}{n f:Nat}{fn:Fn}{ds:List D}(h:T[f]?=some fn):aw T (n+1) f ds=evF (aw T n) fn ds:=by
 rw[aw,h];rfl
noncomputable def L(xs:List Nat):List D:=xs.map fun(i:Nat)=>.int (i:Int)
theorem qv{f:St->Option (Out × St)}{tg:List Nat}(I:List D->St->Prop):∀ (ds done:List D) (σ:St),(∀ pre d post σ,done++ds=pre++d::post->I pre σ->d.imm=true/\∃ σ2,(aT tg d σ).bind f=some (.nx,σ2)/\I (pre++[d]) σ2)->I done σ->∃ σ',bb f tg ds σ=some (.nx,σ')/\I (done++ds) σ'
 | [],done,σ,_,h=>⟨σ,rfl,by simpa using h⟩
 | d::ds,done,σ,hs,h=>by
  obtain⟨im,σ2,h1,h3⟩:=hs done d ds σ rfl h
  obtain⟨σ',h4,h5⟩:=qv I ds (done++[d]) σ2 (fun pre e post σ he=>hs pre e post σ (by simpa using he)) h3
  refine⟨σ',?_,by simpa using h5⟩
  rw[bb,if_pos im]
  cases hb:aT tg d σ with
  | none=>rw[hb]at h1;cases h1
  |some σ1=>
   rw[hb]at h1
   simp only[Option.bind_some]at h1 ⊢
   rw[h1]
   exact h4
theorem qD{f:St->Option (Out × St)}{tg:List Nat}{ds:List D}{σ:St}(I:List D->St->Prop)(h0:I [] σ)(hs:∀ pre d post σ,ds=pre++d::post->I pre σ->d.imm=true/\∃ σ2,(aT tg d σ).bind f=some (.nx,σ2)/\I (pre++[d]) σ2):∃ σ',bb f tg ds σ=some (.nx,σ')/\I ds σ' :=
 qv I ds [] σ (by simpa using hs) h0
@[simp] theorem tf_lst {a:Es}:aC (.lst a)=true:=rfl
@[simp] theorem tf_tup {a:Es}:aC (.tup a)=true:=rfl
@[simp] theorem tf_comp {a:E} {b:List Nat} {c:It} {d:E}:aC (.comp a b c d)=true:=rfl
@[simp] theorem tf_compA {a:E} {b:List Nat} {c:It}:aC (.compA a b c)=true:=rfl
@[simp] theorem tf_bin {a:Bop} {b:E} {c:E}:aC (.bin a b c)=true:=rfl
@[simp] theorem tf_slT {a:E} {b:E}:aC (.slT a b)=true:=rfl
@[simp] theorem tf_slF {a:E} {b:E}:aC (.slF a b)=true:=rfl
@[simp] theorem tf_slB {a:E} {b:E} {c:E}:aC (.slB a b c)=true:=rfl
@[simp] theorem tf_rev {a:E}:aC (.rev a)=true:=rfl
@[simp] theorem tf_call {a:Nat} {b:Es}:aC (.call a b)=true:=rfl
@[simp] theorem tf_bi {a:Bi} {b:E}:aC (.bi a b)=true:=rfl
@[simp] theorem tf_rng1 {a:E}:aC (.rng1 a)=true:=rfl
@[simp] theorem tf_rng2 {a:E} {b:E}:aC (.rng2 a b)=true:=rfl
@[simp] theorem tf_rng3 {a:Int} {b:E} {c:E}:aC (.rng3 a b c)=true:=rfl
@[simp] theorem tf_dk0:aC .dk0=true:=rfl
@[simp] theorem tf_dt0:aC .dt0=true:=rfl
end RL
namespace RM
open RL RT
section basics
variable{a b:Int}
theorem fS:bc .lt (.int a) (.int b)=some (decide (a<b)):=rfl
theorem kS:bc .le (.int a) (.int b)=some (decide (a<=b)):=rfl
theorem qS:bc .gt (.int a) (.int b)=some (decide (b<a)):=rfl
theorem BO:bc .ge (.int a) (.int b)=some (decide (b<=a)):=rfl
theorem gf:bc .eq (.int a) (.int b)=some (a == b):=rfl
theorem AB:bc .ne (.int a) (.int b)=some (!(a == b)):=rfl
theorem c6:aI .add (.int a) (.int b)=some (.int (a+b)):=rfl
theorem cE:aI .sub (.int a) (.int b)=some (.int (a-b)):=rfl
theorem jh(h:0<b):aI .mod (.int a) (.int b)=some (.int (a%b)):=by dsimp only[aI];rw[if_pos h]
theorem xg(h:0<b)(h':b<2 ^ 200):aI .fdiv (.int a) (.int b)=some (.int (a / b)):=by dsimp only[aI];rw[if_pos ⟨h,h'⟩]
theorem cH(h1:-(2 ^ 64)<a)(h2:a<2 ^ 64):aI .mul (.int a) (.int b)=some (.int (a*b)):=by dsimp only[aI];rw[if_pos (.inl ⟨h1,h2⟩)]
theorem u9(h1:-(2 ^ 64)<b)(h2:b<2 ^ 64):aI .mul (.int a) (.int b)=some (.int (a*b)):=by dsimp only[aI];rw[if_pos (.inr ⟨h1,h2⟩)]
end basics
theorem qE{xs:List Nat}{pre post:List D}{d:D}(h:L xs=pre++d::post):∃ p x q,xs=p++x::q/\pre=L p/\d=.int (x:Nat)/\post=L q:=by
 unfold L at h
 obtain⟨p,r,rfl,h1,h2⟩:=List.map_eq_append_iff.mp h
 obtain⟨x,q,rfl,h3,h4⟩:=List.map_eq_cons_iff.mp h2
 exact⟨p,x,q,rfl,h1.symm,h3.symm,h4.symm⟩
theorem rS:∀ {a b:List Nat},L a=L b->a=b
 | [],[],_=>rfl
 | [],_::_,h=>by simp[L]at h
 | _::_,[],h=>by simp[L]at h
 | x::a,y::b,h=>by
  unfold L at h
  rw[List.map_cons,List.map_cons,List.cons.injEq]at h
  have h1:(x:Int)=y:=by injection h.1
  rw[rS (a:=a) (b:=b) h.2,Int.ofNat_inj.mp h1]
theorem fG{f:St->Option (Out × St)}{tg:List Nat}{xs:List Nat}{σ:St}(I:List Nat->St->Prop)(h0:I [] σ)(hs:∀ p x q σ,xs=p++x::q->I p σ->∃ σ2,(aT tg (.int (x:Nat)) σ).bind f=some (.nx,σ2)/\I (p++[x]) σ2):∃ σ',bb f tg (L xs) σ=some (.nx,σ')/\I xs σ':=by
 obtain⟨σ',e,p,hp,hi⟩:=qD (f:=f) (tg:=tg) (ds:=L xs) (σ:=σ) (fun pre σ=>∃ p,pre=L p/\I p σ) ⟨[],rfl,h0⟩ (by
  rintro pre d post σ hd ⟨p',hp',hi⟩
  obtain⟨p,x,q,rfl,rfl,rfl,rfl⟩:=qE hd
  have:=rS hp'
  subst this
  obtain⟨σ2,h1,h2⟩:=hs p x q σ rfl hi
  exact⟨rfl,σ2,h1,p++[x],by simp[L],h2⟩)
 have:=rS hp
 subst this
 exact⟨σ',e,hi⟩
theorem bC(xs:List Nat):(L xs).length=xs.length:=by simp[L]
theorem mI(xs:List Nat)(i:Nat):(L xs)[i]?=(xs[i]?).map fun(i:Nat)=>.int (i:Int):=by simp[L]
theorem x9(xs:List Nat)(i j:Nat):(L xs).set i (.int j)=L (xs.set i j):=by simp[L,List.map_set]
theorem bA:∀ xs:List Nat,ay (L xs)=true
 | []=>rfl
 | x::xs=>by
  show((D.int x).imm&&ay (L xs))=true
  rw[bA xs];rfl
theorem da(xs ys:List Nat):L (xs++ys)=L xs++L ys:=by simp[L]
theorem eD{α:Type}(xs:List α)(i:Nat):bW xs (i:Int)=xs[i]?:=by
 unfold bW
 rw[if_pos (Int.natCast_nonneg i)]
 rfl
theorem nO{n i:Nat}(h:i<n):jE n (i:Int)=some i:=by
 unfold jE
 rw[if_pos (Int.natCast_nonneg i),if_pos (by lia)]
 rfl
theorem jI(a:Nat):∀ n:Nat,bY (a:Int) n=L (List.range' a n)
 | 0=>rfl
 | n+1=>by
  rw[bY,List.range'_succ]
  have:=jI (a+1) n
  rw[show((a+1:Nat):Int)=(a:Int)+1 by lia]at this
  rw[this]
  rfl
theorem cZ{a b:Nat}(h1:a<=1000)(h2:b<=1000):cP (.int a) (.int b)=some (L (List.range' a (b-a))):=by
 dsimp only[cP]
 have:((b:Int)-a).toNat=b-a:=by lia
 rw[if_pos ⟨by unfold most;lia,by lia,by lia,by lia,by lia⟩,this,jI]
section
variable{cl:Cl}
theorem dB(i:Int):evF cl cx [.int i]=some (.bl true):=rfl
theorem fP{f:Nat}(h:∀ i:Int,cl f [.int i]=some (.bl true))(i:Int):evF cl (bT f) [.int i]=some (.bl (decide (1<=i/\i<=10))):=by
 simp[evF,bT,ag,evS,ev,evs,h,bc,bt,D.imm,aP]
 by_cases h1:1<=i<;>simp[h1,bt,D.imm,aP]
theorem gH{f:Nat}{i:Int}(h:cl f [.int i]=some (.bl true)):evF cl (bK f) [.int i]=some .non:=by
 simp[evF,bK,ag,evS,ev,evs,h,truth,aP]
theorem yI(xs:List Nat){i j:Nat}(hi:i<xs.length)(hj:j<xs.length):evF cl mD [.lst (L xs),.int i,.int j]=some (.tup [.non,.lst (L ((xs.set i j).set j i))]):=by
 simp[evF,mD,ag,evS,ev,evs,gg,jE,hi,hj,D.imm,aP,cY,bC,x9]
theorem pM(xs:List D):evF cl gc [.lst xs]=some (.int (xs.length / 2)):=rfl
theorem pb(xs:List D):evF cl gc [.tup xs]=some (.int (xs.length / 2)):=rfl
noncomputable def aM(n:Nat):List Nat:=List.range' n n++List.range' 0 n
theorem run_plain{f:Nat}{n:Nat}(hn:n<=10)(h:cl f [.int n]=some .non):evF cl (gI f) [.int n]=some (.tup (L (aM n))):=by
 have e1:=cZ (a:=n) (b:=2*n) (by lia) (by lia)
 rw[show 2*n-n=n by lia,show((2*n:Nat):Int)=2*(n:Int) by lia]at e1
 have e2:=cZ (a:=0) (b:=n) (by lia) (by lia)
 rw[Nat.sub_zero]at e2
 have e3:aI .mul (.int 2) (.int n)=some (.int (2*n)):=by
  dsimp only[aI]
  rw[if_pos (by lia)]
 have e4:aI .add (.lst (L (List.range' n n))) (.lst (L (List.range' 0 n)))=some (.lst (L (aM n))):=by
  dsimp only[aI]
  rw[if_pos (by simp[bC,most];lia),aM,da]
 simp only[Int.natCast_zero]at e2
 simp[evF,gI,ag,evS,ev,evs,h,e1,e2,e3,e4,biV,items,bt,D.imm,bA,aP]
theorem gj{f:Nat}(h:∀ i:Int,cl f [.int i]=some (.bl true))(n i:Int):evF cl (de f) [.int n,.int i]=some (.bl (decide (0<=i/\i<=n-2))):=by
 simp[evF,de,ag,evS,ev,evs,h,bc,aI]
 by_cases h1:0<=i<;>simp[h1,bt,D.imm,aP]
theorem mr{f g:Nat}{n:Nat}{row:List Nat}(h1:cl g [.int n]=some .non)(h2:∀ i∈row,cl f [.int n,.int i]=some (.bl true)):evF cl (cL f g) [.int n,.lst (L row)]=some .non:=by
 obtain⟨σ',e,o',rfl⟩:=qD (f:=ag cl [] (cD f g)) (tg:=[2]) (ds:=L row) (σ:=[some (.int n),some (.lst (L row)),none])
  (fun _ σ=>∃ o,σ=[some (.int n),some (.lst (L row)),o]) ⟨none,rfl⟩ (by
   rintro pre d post σ hd ⟨o,rfl⟩
   obtain⟨p,x,q,rfl,rfl,rfl,rfl⟩:=qE hd
   have hx:=h2 x (by simp)
   refine⟨rfl,[some (.int n),some (.lst (L (p++x::q))),some (.int x)],?_,⟨_,rfl⟩⟩
   simp[aT,cD,ag,evS,ev,evs,hx,truth])
 simp[evF,cL,ag,evS,ev,evs,h1,bq,items]
 simp[e,aP]
noncomputable def at'(f:List Nat)(x:Nat):Nat:=(f[x]?).getD x
noncomputable def dm(f:List Nat)(l:Nat):List Nat:=if at' f l=l+1 then f else(((f.set (at' f l) (at' f (l+1))).set (at' f (l+1)) (at' f l)).set l (l+1)).set (l+1) l
noncomputable def jS(f:List Nat)(l:Nat):Nat:=if at' f l=l+1 then 1 else 0
structure Frm(n:Nat)(f:List Nat):Prop where
 len:f.length=2*n
 lt:∀ x,x<2*n->at' f x<2*n
 inv:∀ x,at' f (at' f x)=x
 no:∀ x,x<2*n->at' f x≠x
theorem eu{f:List Nat}{x:Nat}(h:x<f.length):f[x]?=some (at' f x):=by simp[at',h]
theorem k6{f:List Nat}{x:Nat}(h:f.length<=x):at' f x=x:=by simp[at',h]
theorem ef{f:List Nat}{i j x:Nat}(h:i<f.length):at' (f.set i j) x=if x=i then j else at' f x:=by
 unfold at'
 rw[List.getElem?_set]
 by_cases e:i=x
 ·subst e
  simp[h]
 ·simp[e,Ne.symm e]
theorem kJ{n:Nat}{f:List Nat}(F:Frm n f){l:Nat}(hl:l+1<2*n):at' (dm f l)=M.hg l (l+1) (at' f):=by
 funext x
 unfold dm M.hg
 have a1:=F.lt l (by lia)
 have a2:=F.lt (l+1) hl
 have hlen:=F.len
 by_cases e:at' f l=l+1
 ·rw[if_pos e,if_pos e]
 ·rw[if_neg e,if_neg e,ef (by simp;lia),ef (by simp;lia),ef (by simp;lia),ef (by lia)]
theorem wC{f:List Nat}{l:Nat}:(dm f l).length=f.length:=by
 unfold dm
 split
 ·rfl
 ·simp
theorem nV{n:Nat}{f:List Nat}(F:Frm n f){l:Nat}(hl:l+1<2*n):Frm n (dm f l):=by
 have n1:=F.no l (by lia)
 have n2:=F.no (l+1) hl
 refine⟨by rw[wC];exact F.len,fun x hx=>?_,fun x=>?_,fun x hx=>?_⟩
 ·rw[kJ F hl]
  unfold M.hg
  have a1:=F.lt l (by lia)
  have a2:=F.lt (l+1) hl
  have a3:=F.lt x hx
  repeat' split
  all_goals lia
 ·rw[kJ F hl]
  exact M.Ah (by lia) F.inv n1 n2 x
 ·rw[kJ F hl]
  exact M.wF (by lia) F.inv n1 n2 (F.no x hx)
theorem Br{n:Nat}{f g:List Nat}(F:f.length=2*n)(G:g.length=2*n)(h:at' f=at' g):f=g:=by
 apply List.ext_getElem?
 intro i
 by_cases hi:i<2*n
 ·rw[eu (by lia),eu (by lia),h]
 ·rw[List.getElem?_eq_none (by lia),List.getElem?_eq_none (by lia)]
theorem my{f_tie f_pegs:Nat}{n:Nat}{f:List Nat}{i:Nat}(F:Frm n f)(hi:i+1<n)(hp:∀ xs:List D,cl f_pegs [.lst xs]=some (.int (xs.length / 2)))
 (ht:∀ (xs:List Nat) (i j:Nat),i<xs.length->j<xs.length->cl f_tie [.lst (L xs),.int i,.int j]=some (.tup [.non,.lst (L ((xs.set i j).set j i))])) :
  evF cl (d9 f_tie f_pegs) [.lst (L f),.int i]=some (.tup [.int (jS f (n+i)),.lst (L (dm f (n+i)))]):=by
 have hlen:=F.len
 have h2:((2*n:Nat):Int) / 2=n:=by lia
 have g1:((L f).length:Int) / 2=n:=by rw[bC,hlen];exact h2
 have hl:n+i+1<2*n:=by lia
 have k1:f[n+i]?=some (at' f (n+i)):=eu (by lia)
 have k2:f[n+i+1]?=some (at' f (n+i+1)):=eu (by lia)
 have p1:∀ k:Nat,bW (L f) ((n:Int)+(k:Int))=(f[n+k]?).map fun(i:Nat)=>.int (i:Int):=fun k=>by
  have:=eD (L f) (n+k)
  rw[show((n+k:Nat):Int)=(n:Int)+(k:Int) by lia]at this
  rw[this,mI]
 have p2:=p1 (i+1)
 rw[show(n:Int)+((i+1:Nat):Int)=(n:Int)+(i:Int)+1 by lia,show n+(i+1)=n+i+1 by lia]at p2
 have a1:=F.lt (n+i) (by lia)
 have a2:=F.lt (n+i+1) hl
 have t1:=ht f (at' f (n+i)) (at' f (n+i+1)) (by lia) (by lia)
 have t2:=ht ((f.set (at' f (n+i)) (at' f (n+i+1))).set (at' f (n+i+1)) (at' f (n+i))) (n+i) (n+i+1) (by simp;lia) (by simp;lia)
 rw[show((n+i:Nat):Int)=(n:Int)+(i:Int) by lia,show((n+i+1:Nat):Int)=(n:Int)+(i:Int)+1 by lia]at t2
 by_cases e:at' f (n+i)=n+i+1
 ·have e':((at' f (n+i):Nat):Int)=(n:Int)+(i:Int)+1:=by lia
  simp[evF,d9,ag,evS,ev,evs,hp,g1,aI,ba,D.imm,ixV,p1,p2,k1,k2,bc,eqD,truth,e',bt,aP,cY,jS,dm,e]
 ·have e':¬ ((at' f (n+i):Nat):Int)=(n:Int)+(i:Int)+1:=by lia
  simp[evF,d9,ag,evS,ev,evs,hp,g1,aI,ba,D.imm,ixV,p1,p2,k1,k2,bc,eqD,truth,e',bt,aP,cY,jS,dm,e,cI,isVar,t1,t2,bj]
end
end RM
namespace RL
section
variable{cl:Cl}{M:List Nat}{σ σ':St}{e t:E}{d:D}{r a b:Ss}{i j:Nat}{res:Option (Out × St)}
theorem aS:ag cl M .nil σ=some (.nx,σ):=by rw[ag]
theorem cR{s:S}(h:evS cl M s σ=some (.nx,σ'))(k:ag cl M r σ'=res):ag cl M (.cons s r) σ=res:=by
 rw[ag,h];exact k
theorem m8{s:S}(h:evS cl M s σ=some (.rt d,σ')):ag cl M (.cons s r) σ=some (.rt d,σ'):=by
 rw[ag,h];rfl
theorem aK(h:ev cl σ e=some d)(ok:ba M e d=true)(k:ag cl M r (σ.set i (some d))=res):ag cl M (.cons (.asg i e) r) σ=res :=
 cR (by rw[evS,h];show(if ba M e d=true then _ else _)=_;rw[if_pos ok]) k
theorem ko(h:ev cl σ e=some d)(ok:(aO d&&aC e)=true)(k:ag cl M r (σ.set i (some d))=res):ag cl M (.cons (.own i e) r) σ=res :=
 cR (by rw[evS,h];show(if(aO d&&aC e)=true then _ else _)=_;rw[if_pos ok]) k
theorem oM(h:ev cl σ e=some d)(k:ag cl M r σ=res):ag cl M (.cons (.exc e) r) σ=res :=
 cR (by rw[evS,h];rfl) k
theorem br(h:ev cl σ e=some d)(ok:bt M e d=true):ag cl M (.cons (.ret e) r) σ=some (.rt d,σ) :=
 m8 (by rw[evS,h];show(if bt M e d=true then _ else _)=_;rw[if_pos ok])
theorem eL(h:(ev cl σ t).bind truth=some true)(h1:ag cl M a σ=some (.nx,σ'))(k:ag cl M r σ'=res):ag cl M (.cons (.ife t a b) r) σ=res :=
 cR (by rw[evS,h];exact h1) k
theorem je(h:(ev cl σ t).bind truth=some true)(h1:ag cl M a σ=some (.rt d,σ')):ag cl M (.cons (.ife t a b) r) σ=some (.rt d,σ') :=
 m8 (by rw[evS,h];exact h1)
theorem ku(h:(ev cl σ t).bind truth=some false)(h1:ag cl M b σ=some (.nx,σ'))(k:ag cl M r σ'=res):ag cl M (.cons (.ife t a b) r) σ=res :=
 cR (by rw[evS,h];exact h1) k
theorem jc(h:(ev cl σ t).bind truth=some false)(h1:ag cl M b σ=some (.rt d,σ')):ag cl M (.cons (.ife t a b) r) σ=some (.rt d,σ') :=
 m8 (by rw[evS,h];exact h1)
theorem bR(h:(ev cl σ t).bind truth=some false)(k:ag cl M r σ=res):ag cl M (.cons (.ife t a .nil) r) σ=res:=ku h aS k
theorem uN{is:List Nat}{ds:List D}(h:ev cl σ e=some d)(hd:items d=some ds)(im:ay ds=true)(hs:bj is ds σ=some σ')(k:ag cl M r σ'=res):ag cl M (.cons (.unp is e) r) σ=res :=
 cR (by rw[evS,h,Option.bind_some,hd];show(if ay ds=true then _ else _)=_;rw[if_pos im,hs];rfl) k
theorem tf{xs:List D}(h:ev cl σ e=some d)(hi:(σ[i]?).bind id=some (.lst xs))(im:d.imm=true)(hl:xs.length<most)(k:ag cl M r (σ.set i (some (.lst (xs++[d]))))=res):ag cl M (.cons (.app i e) r) σ=res :=
 cR (by rw[evS,h,Option.bind_some,hi];show(if(d.imm&&decide (xs.length<most))=true then _ else _)=_;rw[if_pos (by rw[im,decide_eq_true hl];rfl)]) k
theorem B0{x kk l l':D}{e':E}(h:ev cl σ e'=some x)(h':ev cl σ e=some kk)(hi:(σ[i]?).bind id=some l)(im:x.imm=true)(hp:gg l kk x=some l')(k:ag cl M r (σ.set i (some l'))=res):ag cl M (.cons (.put i e e') r) σ=res :=
 cR (by rw[evS,h,Option.bind_some,h',Option.bind_some,hi,Option.bind_some,if_pos im,hp];rfl) k
theorem zR{x y z:Int}{o:Bop}(hi:(σ[i]?).bind id=some (.int x))(h:ev cl σ e=some (.int y))(hb:aI o (.int x) (.int y)=some (.int z))(k:ag cl M r (σ.set i (some (.int z)))=res):ag cl M (.cons (.aug i o e) r) σ=res :=
 cR (by rw[evS,hi,Option.bind_some,h];show Option.map _ (aI o (.int x) (.int y))=_;rw[hb];rfl) k
theorem gJ{tg:List Nat}{it:It}{ds:List D}{b:Ss}(h:bq cl σ it=some ds)(h1:bb (ag cl M b) tg ds σ=some (.nx,σ'))(k:ag cl M r σ'=res):ag cl M (.cons (.forr tg it b) r) σ=res :=
 cR (by rw[evS,h];exact h1) k
theorem yB{tg:List Nat}{it:It}{ds:List D}{b:Ss}(h:bq cl σ it=some ds)(h1:bb (ag cl M b) tg ds σ=some (.rt d,σ')):ag cl M (.cons (.forr tg it b) r) σ=some (.rt d,σ') :=
 m8 (by rw[evS,h];exact h1)
theorem BB{b:Ss}(h1:whF (fun σ=>(ev cl σ t).bind truth) (ag cl M b) most σ=some (.nx,σ'))(k:ag cl M r σ'=res):ag cl M (.cons (.whil t b) r) σ=res :=
 cR (by rw[evS];exact h1) k
theorem kK{f:Nat}{es:Es}{ps ms:List Nat}{ds outs:List D}(h:evs cl σ es=some ds)(ok:cI M ps 0 es ds=true)(hc:cl f ds=some (.tup (d::outs)))(hs:bj ms outs σ=some σ')(k:ag cl M r σ'=res):ag cl M (.cons (.mexc f es ps ms) r) σ=res :=
 cR (by rw[evS,h,Option.bind_some,if_pos ok,hc,Option.bind_some];show Option.map _ (bj ms outs σ)=_;rw[hs];rfl) k
theorem aa(h:(σ[i]?).bind id=some d):ev cl σ (.var i)=some d:=by rw[ev];exact h
theorem ao:ev cl σ (.cst d)=some d:=by rw[ev]
theorem x_call{f:Nat}{es:Es}{ds:List D}(h:evs cl σ es=some ds)(hc:cl f ds=some d):ev cl σ (.call f es)=some d:=by rw[ev,h];exact hc
theorem bJ:evs cl σ .nil=some []:=by rw[evs]
theorem aB{es:Es}{ds:List D}(h:ev cl σ e=some d)(hr:evs cl σ es=some ds):evs cl σ (.cons e es)=some (d::ds):=by rw[evs,h,Option.bind_some,hr];rfl
theorem i9{f:Nat}(h:ev cl σ e=some d){x:D}(hc:cl f [d]=some x):ev cl σ (.call f (.cons e .nil))=some x:=x_call (aB h bJ) hc
theorem dG{f:Nat}{e':E}{d' x:D}(h:ev cl σ e=some d)(h':ev cl σ e'=some d')(hc:cl f [d,d']=some x):ev cl σ (.call f (.cons e (.cons e' .nil)))=some x:=x_call (aB h (aB h' bJ)) hc
theorem l7{f:Nat}{e' e'':E}{d' d'' x:D}(h:ev cl σ e=some d)(h':ev cl σ e'=some d')(h'':ev cl σ e''=some d'')(hc:cl f [d,d',d'']=some x):ev cl σ (.call f (.cons e (.cons e' (.cons e'' .nil))))=some x:=x_call (aB h (aB h' (aB h'' bJ))) hc
theorem aA{o:Bop}{e':E}{x y:D}(h:ev cl σ e=some x)(h':ev cl σ e'=some y)(hb:aI o x y=some d):ev cl σ (.bin o e e')=some d:=by rw[ev,h,Option.bind_some,h'];exact hb
theorem aZ{o:Cop}{e':E}{x y:D}{k:Bool}(h:ev cl σ e=some x)(h':ev cl σ e'=some y)(hb:bc o x y=some k):ev cl σ (.cmp o e e')=some (.bl k):=by rw[ev,h,Option.bind_some,h',Option.bind_some,hb];rfl
theorem df{e':E}{x y:D}(h:ev cl σ e=some x)(h':ev cl σ e'=some y)(hb:ixV x y=some d):ev cl σ (.ix e e')=some d:=by rw[ev,h,Option.bind_some,h'];exact hb
theorem bQ{o:Bi}{x:D}(h:ev cl σ e=some x)(hb:biV o x=some d):ev cl σ (.bi o e)=some d:=by rw[ev,h];exact hb
theorem Cm{e':E}{x y:D}(h:ev cl σ e=some x)(h':ev cl σ e'=some y)(hb:sx x y=some d):ev cl σ (.slT e e')=some d:=by rw[ev,h,Option.bind_some,h'];exact hb
theorem CP{e':E}{x y:D}{n k:Bool}(h:ev cl σ e=some x)(h':ev cl σ e'=some y)(hb:inV x y=some k):ev cl σ (.inn n e e')=some (.bl (if n then !k else k)):=by rw[ev,h,Option.bind_some,h',Option.bind_some,hb];rfl
theorem c5{t:Ty}{x:D}{k:Bool}(h:ev cl σ e=some x)(hb:cG t x=some k):ev cl σ (.isi e t)=some (.bl k):=by rw[ev,h,Option.bind_some,hb];rfl
theorem C6{k:Int}(h:ev cl σ e=some (.int k)):ev cl σ (.neg e)=some (.int (-k)):=by rw[ev,h];rfl
theorem iW{c c':Cop}{e' e'':E}{x y z:D}{k:Bool}(h:ev cl σ e=some x)(h':ev cl σ e'=some y)(h'':ev cl σ e''=some z)(b1:bc c x y=some true)(b2:bc c' y z=some k):ev cl σ (.chain c c' e e' e'')=some (.bl k):=by rw[ev,h,Option.bind_some,h',Option.bind_some,b1,Option.bind_some,if_pos rfl,h'',Option.bind_some,b2];rfl
theorem nK{c c':Cop}{e' e'':E}{x y:D}(h:ev cl σ e=some x)(h':ev cl σ e'=some y)(b1:bc c x y=some false):ev cl σ (.chain c c' e e' e'')=some (.bl false):=by rw[ev,h,Option.bind_some,h',Option.bind_some,b1];rfl
theorem qK{x:D}{ds:List D}(h:ev cl σ e=some x)(hr:cP (.int 0) x=some ds):ev cl σ (.rng1 e)=some (.lst ds):=by rw[ev,h,Option.bind_some,hr];rfl
theorem jd{e':E}{x y:D}{ds:List D}(h:ev cl σ e=some x)(h':ev cl σ e'=some y)(hr:cP x y=some ds):ev cl σ (.rng2 e e')=some (.lst ds):=by rw[ev,h,Option.bind_some,h',Option.bind_some,hr];rfl
theorem eI{es:Es}{ds:List D}(h:evs cl σ es=some ds):ev cl σ (.lst es)=some (.lst ds):=by rw[ev,h];rfl
theorem rN{es:Es}{ds:List D}(h:evs cl σ es=some ds):ev cl σ (.tup es)=some (.tup ds):=by rw[ev,h];rfl
theorem dZ{e':E}(h:ev cl σ e=some (.bl true))(h':ev cl σ e'=some d):ev cl σ (.and e e')=some d:=by rw[ev,h];exact h'
theorem iA{e':E}(h:ev cl σ e=some (.bl false)):ev cl σ (.and e e')=some (.bl false):=by rw[ev,h];rfl
theorem zf{e':E}(h:ev cl σ e=some (.bl false))(h':ev cl σ e'=some d):ev cl σ (.or e e')=some d:=by rw[ev,h];exact h'
theorem CY{k:Bool}(h:(ev cl σ e).bind truth=some k):ev cl σ (.not e)=some (.bl (!k)):=by rw[ev,h];rfl
theorem cT{k:Bool}(h:ev cl σ e=some (.bl k)):ev cl σ (.not e)=some (.bl (!k)):=CY (by rw[h];rfl)
theorem mJ{t e':E}{k:Bool}(h:(ev cl σ t).bind truth=some k)(h':ev cl σ (if k then e else e')=some d):ev cl σ (.ifx t e e')=some d:=by
 rw[ev,h];cases k<;>exact h'
theorem bf{k:Bool}(h:ev cl σ e=some (.bl k)):(ev cl σ e).bind truth=some k:=by rw[h];rfl
theorem gO{tg:List Nat}{it:It}{ds ys:List D}(h:bq cl σ it=some ds)(hf:ds.length<=most)(hm:cz (fun σ1=>(ev cl σ1 e).map some) tg σ ds=some ys):ev cl σ (.compA e tg it)=some (.lst ys):=by
 rw[ev,h,Option.bind_some,fits,if_pos hf,Option.bind_some,hm];rfl
theorem iP{x:D}{ds:List D}(h:ev cl σ e=some x)(hr:cP (.int 0) x=some ds):bq cl σ (.rng1 e)=some ds:=by rw[bq,h];exact hr
theorem jT{x:D}{ds:List D}(h:ev cl σ e=some x)(hr:items x=some ds):bq cl σ (.seq e)=some ds:=by rw[bq,h];exact hr
theorem CZ{e':E}{x y:D}{xs ys:List D}(h:ev cl σ e=some x)(h':ev cl σ e'=some y)(hx:items x=some xs)(hy:items y=some ys)(hl:xs.length=ys.length):bq cl σ (.zip e e')=some (dW xs ys):=by rw[bq,h,Option.bind_some,h',Option.bind_some,hx,Option.bind_some,hy,Option.bind_some,if_pos hl]
theorem De{x:D}{n k:Bool}(hk:(match x with | .non=>some (D.bl (!n)) | .dK _ _=>none | .dT _ _=>none | _=>some (.bl n))=some (D.bl k))(h:ev cl σ e=some x):ev cl σ (.isN n e)=some (.bl k):=by rw[ev,h];exact hk
theorem xc{x:D}{ds:List D}(h:ev cl σ e=some x)(hr:fO x=some ds):bq cl σ (.enm e)=some (dk 0 ds):=by rw[bq,h,Option.bind_some,hr];rfl
end
theorem bh{cl:Cl}{fn:Fn}{ds:List D}{d:D}{σ':St}(hl:ds.length=fn.ps)(hm:fn.mp=[])(h:ag cl fn.M fn.body (ds.map some++List.replicate (fn.nn-fn.ps) none)=some (.rt d,σ')):evF cl fn ds=some d:=by
 unfold evF
 rw[if_pos hl,h]
 show aP fn d σ'=_
 unfold aP
 rw[hm]
 rfl
theorem Ap{cl:Cl}{fn:Fn}{ds:List D}{σ':St}(hl:ds.length=fn.ps)(hm:fn.mp=[])(h:ag cl fn.M fn.body (ds.map some++List.replicate (fn.nn-fn.ps) none)=some (.nx,σ')):evF cl fn ds=some .non:=by
 unfold evF
 rw[if_pos hl,h]
 show aP fn .non σ'=_
 unfold aP
 rw[hm]
 rfl
end RL
set_option maxHeartbeats 1000000
namespace RL
open PySem (Str)
noncomputable def Rx(cl:Cl)(σ:St)(e:E)(c:Str):Prop:=ev cl σ e=none/\evX cl σ e=some c
noncomputable def Rr(cl:Cl)(M:List Nat)(b:Ss)(σ:St)(c:Str)(σ':St):Prop:=ag cl M b σ=none/\bG cl M b σ=some (c,σ')
noncomputable def Rc(cl:Cl)(f:Nat)(ds:List D)(c:Str):Prop:=cl f ds=none/\cl (f+1000) ds=some (.str c)
section
variable{cl:Cl}{M:List Nat}{σ σ' σ1:St}{e t:E}{d:D}{r a b:Ss}{i j:Nat}{c:Str}
theorem DN{s:S}(h:evS cl M s σ=some (.nx,σ1))(k:Rr cl M r σ1 c σ'):Rr cl M (.cons s r) σ c σ':=by
 refine⟨?_,?_⟩
 ·rw[ag,h];exact k.1
 ·rw[bG,h];exact k.2
theorem gv{s:S}(h:evS cl M s σ=none)(k:dP cl M s σ=some (c,σ')):Rr cl M (.cons s r) σ c σ':=by
 refine⟨?_,?_⟩
 ·rw[ag,h];rfl
 ·rw[bG,h];exact k
theorem Ao{ps:Es}{ds:List D}(h:evs cl σ ps=some ds)(w:ds.all written=true):Rr cl M (.cons (.rais c ps) r) σ c σ:=gv (by rw[evS]) (by rw[dP,h,Option.bind_some,if_pos w])
theorem C5(h:Rx cl σ e c):Rr cl M (.cons (.exc e) r) σ c σ:=gv (by rw[evS,h.1];rfl) (by rw[dP,h.2];rfl)
theorem CS(h:Rx cl σ e c):Rr cl M (.cons (.asg i e) r) σ c σ:=gv (by rw[evS,h.1];rfl) (by rw[dP,h.2];rfl)
theorem C9(h:Rx cl σ e c):Rr cl M (.cons (.ret e) r) σ c σ:=gv (by rw[evS,h.1];rfl) (by rw[dP,h.2];rfl)
theorem CG(h:(ev cl σ t).bind truth=some true)(k:Rr cl M a σ c σ'):Rr cl M (.cons (.ife t a b) r) σ c σ':=gv (by rw[evS,h];exact k.1) (by rw[dP,h];exact k.2)
theorem Ej(h:ev cl σ e=some d)(k:Rr cl M r σ c σ'):Rr cl M (.cons (.exc e) r) σ c σ':=DN (by rw[evS,h];rfl) k
theorem C1{tg:List Nat}{it:It}{ds:List D}(h:bq cl σ it=some ds)(k1:bb (ag cl M b) tg ds σ=none)(k2:cO (ag cl M b) (bG cl M b) tg ds σ=some (c,σ')):Rr cl M (.cons (.forr tg it b) r) σ c σ':=gv (by rw[evS,h];exact k1) (by rw[dP,h];exact k2)
theorem Ag{f:Nat}{es:Es}{ds:List D}(h:evs cl σ es=some ds)(k:Rc cl f ds c):Rx cl σ (.call f es) c:=by
 refine⟨?_,?_⟩
 ·rw[ev,h];exact k.1
 ·rw[evX,h]
  show clX cl f ds=_
  unfold clX
  rw[k.2];rfl
theorem vX{f:Nat}{e':E}{d':D}(h:ev cl σ e=some d)(h':ev cl σ e'=some d')(k:Rc cl f [d,d'] c):Rx cl σ (.call f (.cons e (.cons e' .nil))) c:=Ag (aB h (aB h' bJ)) k
theorem DX{e':E}(h:Rx cl σ e c):Rx cl σ (.ix e e') c:=by
 refine⟨?_,?_⟩
 ·rw[ev,h.1];rfl
 ·rw[evX];exact h.2
theorem Cc{h:Ss}{res:Option (Out × St)}(h1:ag cl M b σ=some (.nx,σ1))(k:ag cl M r σ1=res):ag cl M (.cons (.tryc b c i h) r) σ=res:=cR (by rw[evS,h1]) k
theorem za{h:Ss}{n:Str}{σ2:St}{res:Option (Out × St)}(h1:Rr cl M b σ n σ1)(hs:c7 n c=true)(h2:ag cl M h (σ1.set i (some (.exc n)))=some (.nx,σ2))(k:ag cl M r (σ2.set i none)=res):ag cl M (.cons (.tryc b c i h) r) σ=res:=cR (by
 rw[evS,h1.1]
 show(bG cl M b σ).bind _=_
 rw[h1.2,Option.bind_some,if_pos hs,h2]
 rfl) k
end
theorem uC{f:St->Option (Out × St)}{fx:St->Option (Str × St)}{tg:List Nat}{c:Str}{post:List D}{d:D}(I:St->Prop):∀ (pre:List D) (σ:St),I σ->(∀ x∈pre,x.imm=true)->d.imm=true ->
  (∀ x∈pre,∀ σ,I σ->∃ σ1 σ2,aT tg x σ=some σ1/\f σ1=some (.nx,σ2)/\I σ2) ->
  (∀ σ,I σ->∃ σ1,aT tg d σ=some σ1/\f σ1=none/\∃ σ2,fx σ1=some (c,σ2)/\I σ2) ->
  bb f tg (pre++d::post) σ=none/\∃ σ',cO f fx tg (pre++d::post) σ=some (c,σ')/\I σ'
 | [],σ,hI,_,him,_,hd=>by
  obtain⟨σ1,e1,e2,σ2,e3,i2⟩:=hd σ hI
  refine⟨?_,σ2,?_,i2⟩
  ·show bb f tg (d::post) σ=none
   rw[bb,if_pos him,e1,Option.bind_some,e2];rfl
  ·show cO f fx tg (d::post) σ=_
   rw[cO,if_pos him,e1,Option.bind_some,e2];exact e3
 | x::pre,σ,hI,hp,him,ht,hd=>by
  obtain⟨σ1,σ2,e1,e2,i2⟩:=ht x (.head _) σ hI
  obtain⟨k1,σ',k2,i3⟩:=uC I pre σ2 i2 (fun y hy=>hp y (.tail _ hy)) him (fun y hy=>ht y (.tail _ hy)) hd
  refine⟨?_,σ',?_,i3⟩
  ·show bb f tg (x::(pre++d::post)) σ=none
   rw[bb,if_pos (hp x (.head _)),e1,Option.bind_some,e2];exact k1
  ·show cO f fx tg (x::(pre++d::post)) σ=_
   rw[cO,if_pos (hp x (.head _)),e1,Option.bind_some,e2];exact k2
theorem rm{T:List Fn}{f n:Nat}{fn:Fn}{ds:List D}{c:Str}{σ':St}(h:T[f]?=some fn)(hT:T.length<=1000)(hl:ds.length=fn.ps)(hm:fn.mp=[])(k:Rr (aw T n) fn.M fn.body (ds.map some++List.replicate (fn.nn-fn.ps) none) c σ'):Rc (aw T (n+1)) f ds c:=by
 refine⟨?_,?_⟩
 ·rw[aw,h]
  show(if ds.length=fn.ps then _ else none)=none
  rw[if_pos hl,k.1];rfl
 ·rw[aw,List.getElem?_eq_none (by omega)]
  show(T[f+1000-1000]?).bind _=_
  rw[Nat.add_sub_cancel,h,Option.bind_some,if_pos ⟨hl,hm⟩,k.2]
  rfl
end RL
namespace RT
open RL
noncomputable def iE:Fn :=
 ⟨1,5,[1],[],(.cons (.own 1 (.lst (.cons (.isx (.var 0) "BadPegs") (.cons (.isx (.var 0) "BadFrame") (.cons (.isx (.var 0) "BadHalf") (.cons (.isx (.var 0) "BadHook") .nil)))))) (.cons (.own 1 (.bin .add (.var 1) (.lst (.cons (.isx (.var 0) "BadName") (.cons (.isx (.var 0) "NoNumber") (.cons (.isx (.var 0) "NoFrame") (.cons (.isx (.var 0) "NoStack") .nil))))))) (.cons (.own 1 (.bin .add (.var 1) (.lst (.cons (.isx (.var 0) "NoPlace") (.cons (.isx (.var 0) "Taken") (.cons (.isx (.var 0) "Full") (.cons (.isx (.var 0) "NothingThere") .nil))))))) (.cons (.own 1 (.bin .add (.var 1) (.lst (.cons (.isx (.var 0) "BadTrade") (.cons (.isx (.var 0) "Hangs") (.cons (.isx (.var 0) "BadPage") .nil)))))) (.cons (.app 1 (.not (.isx (.var 0) "ValueError"))) (.cons (.asg 2 (.lst (.cons (.cst (.str "BadPegs")) (.cons (.cst (.str "BadFrame")) (.cons (.cst (.str "BadHalf")) (.cons (.cst (.str "BadHook")) (.cons (.cst (.str "BadName")) (.cons (.cst (.str "NoNumber")) (.cons (.cst (.str "NoFrame")) (.cons (.cst (.str "NoStack")) (.cons (.cst (.str "NoPlace")) .nil))))))))))) (.cons (.asg 2 (.bin .add (.var 2) (.lst (.cons (.cst (.str "Taken")) (.cons (.cst (.str "Full")) (.cons (.cst (.str "NothingThere")) (.cons (.cst (.str "BadTrade")) (.cons (.cst (.str "Hangs")) (.cons (.cst (.str "BadPage")) (.cons (.cst (.str "odd")) .nil)))))))))) (.cons (.ret (.join (.comp (.var 3) [3,4] (.zip (.var 2) (.var 1)) (.var 4)))) .nil))))))))⟩
end RT
namespace RM
open RL RT
theorem AH{cl:Cl}{c:PySem.Str}(h:c∈(["BadPegs", "BadFrame", "BadHalf", "BadHook", "BadName", "NoNumber", "NoFrame", "NoStack"]:List PySem.Str)):evF cl iE [.exc c]=some (.str c):=by
 simp only[List.mem_cons,List.not_mem_nil,or_false]at h
 rcases h with rfl | rfl | rfl | rfl | rfl | rfl | rfl | rfl<;>rfl
section
variable{cl:Cl}
noncomputable def hangs(n:Nat):List Nat->List Nat × Nat->List Nat × Nat
 | [],s=>s
 | i::row,s=>hangs n row (dm s.1 (n+i),s.2+jS s.1 (n+i))
theorem i8(n:Nat):∀ (a b:List Nat) (s:List Nat × Nat),hangs n (a++b) s=hangs n b (hangs n a s)
 | [],_,_=>rfl
 | i::a,b,s=>by
  rw[List.cons_append,hangs,hangs,i8 n a b]
theorem lB{n:Nat}:∀ {row:List Nat} {s:List Nat × Nat},(∀ i∈row,i+1<n)->Frm n s.1->Frm n (hangs n row s).1
 | [],_,_,F=>F
 | i::row,s,h,F=>by
  rw[hangs]
  have:=h i List.mem_cons_self
  exact lB (fun j hj=>h j (List.mem_cons_of_mem _ hj)) (nV F (by lia))
theorem plain_at(n x:Nat):at' (aM n) x=if x<n then n+x else if x<2*n then x-n else x:=by
 unfold at' aM
 by_cases h1:x<n
 ·rw[List.getElem?_append_left (by simpa using h1),if_pos h1]
  simp[h1]
 ·rw[List.getElem?_append_right (by simpa using h1),if_neg h1]
  by_cases h2:x<2*n
  ·rw[if_pos h2]
   simp[show x-n<n by lia]
  ·rw[if_neg h2]
   simp[show ¬ x-n<n by lia]
theorem fW(n:Nat):Frm n (aM n):=by
 refine⟨by simp[aM];lia,fun x hx=>?_,fun x=>?_,fun x hx=>?_⟩
 ·rw[plain_at];repeat' split
  all_goals lia
 ·rw[plain_at,plain_at];repeat' split
  all_goals lia
 ·rw[plain_at];repeat' split
  all_goals lia
theorem wD{hh pl cr:Nat}{n:Nat}{row:List Nat}(hn:n<=10)(hrow:∀ i∈row,i+1<n)(h1:cl cr [.int n,.lst (L row)]=some .non)(h2:cl pl [.int n]=some (.tup (L (aM n))))
 (h3:∀ (f:List Nat) (i:Nat),Frm n f->i+1<n->cl hh [.lst (L f),.int i]=some (.tup [.int (jS f (n+i)),.lst (L (dm f (n+i)))])) :
  evF cl (gN hh pl cr) [.int n,.lst (L row)]=some (.tup [.tup (L (hangs n row (aM n,0)).1),.int (hangs n row (aM n,0)).2]):=by
 obtain⟨σ',e,o',rfl⟩:=fG (f:=ag cl [2] (kI hh pl cr)) (tg:=[4]) (xs:=row) (σ:=[some (.int n),some (.lst (L row)),some (.lst (L (aM n))),some (.int 0),none])
  (fun p σ=>∃ o,σ=[some (.int n),some (.lst (L row)),some (.lst (L (hangs n p (aM n,0)).1)),some (.int (hangs n p (aM n,0)).2),o]) ⟨none,rfl⟩ (by
   rintro p x q σ rfl ⟨o,rfl⟩
   have F:Frm n (hangs n p (aM n,0)).1:=lB (fun i hi=>hrow i (by simp[hi])) (fW n)
   have hx:=h3 (hangs n p (aM n,0)).1 x F (hrow x (by simp))
   refine⟨[some (.int n),some (.lst (L (p++x::q))),some (.lst (L (hangs n (p++[x]) (aM n,0)).1)),some (.int (hangs n (p++[x]) (aM n,0)).2),some (.int x)],?_,_,rfl⟩
   simp[aT,kI,ag,evS,ev,evs,hx,cI,isVar,ba,D.imm,bj,i8,hangs])
 simp[evF,gN,ag,evS,ev,evs,h1,h2,bq,items,biV,aO,bA,ba,D.imm]
 simp[e,ev,evs,biV,items,bt,D.imm,ay,bA,aP]
end
noncomputable def LI(xs:List Int):List D:=xs.map D.int
theorem tB(xs:List Int):(LI xs).length=xs.length:=by simp[LI]
theorem tq:∀ xs:List Int,ay (LI xs)=true
 | []=>rfl
 | x::xs=>by
  show((D.int x).imm&&ay (LI xs))=true
  rw[tq xs];rfl
section
variable{cl:Cl}
theorem mod_lt{a b:Int}(h:0<b):0<=a%b/\a%b<b:=⟨Int.emod_nonneg _ (by lia),Int.emod_lt_of_pos _ h⟩
theorem zb(s:Int):∃ m:Int,evF cl iO [.int s]=some (.int m):=by
 have a1:=mod_lt (a:=s*48271+11) (b:=2147483647) (by decide)
 generalize h1:(s*48271+11)%2147483647=one at a1
 have a2:=mod_lt (a:=one*one+40692*one+s) (b:=2147483399) (by decide)
 generalize h2:(one*one+40692*one+s)%2147483399=two at a2
 exact⟨_,bh rfl rfl (aK (d:=.int one) (aA (aA (aA (aa rfl) ao (u9 (by decide) (by decide))) ao c6) ao (by rw[jh (by decide),h1])) rfl
  (aK (d:=.int two) (aA (aA (aA (aA (aa rfl) (aa rfl) (cH (by lia) (by lia))) (aA ao (aa rfl) (cH (by decide) (by decide))) c6) (aa rfl) c6) ao (by rw[jh (by decide),h2])) rfl
  (br (aA (aA (aA (aA (aa rfl) (aa rfl) (cH (by omega) (by omega))) (aA ao (aa rfl) (cH (by decide) (by decide))) c6) (aa rfl) c6) ao (jh (by decide))) rfl)))⟩
theorem yx{f:Nat}(h:∀ s:Int,∃ m:Int,cl f [.int s]=some (.int m)){ns:List Int}(hl:ns.length<=63){k:Nat}(hk:k<=1000):∃ r:Int,evF cl (iM f) [.lst (LI ns),.int k]=some (.int r):=by
 have pw:aI .pow (.int 10) (.int 18)=some (.int 1000000000000000000):=rfl
 have rest:∀ c:Int,∃ r σ',ag cl [] (.cons (.asg 3 (.cst (.int 0))) (.cons (.forr [4] (.rng1 (.cst (.int 40))) (i4 f)) (.cons (.ret (.var 3)) .nil))) [some (.lst (LI ns)),some (.int k),some (.int c),none,none]=some (.rt (.int r),σ'):=by
  intro c
  have hr:cP (.int 0) (.int 40)=some (L (List.range' 0 40)):=congrArg some (jI 0 40)
  obtain⟨σ',e,r,o,rfl⟩:=fG (f:=ag cl [] (i4 f)) (tg:=[4]) (xs:=List.range' 0 40) (σ:=[some (.lst (LI ns)),some (.int k),some (.int c),some (.int 0),none])
   (fun p σ=>∃ (r:Int) (o:Option D),σ=[some (.lst (LI ns)),some (.int k),some (.int c),some (.int r),o]) ⟨0,none,rfl⟩ (by
    rintro p x q σ hx ⟨r,o,rfl⟩
    obtain⟨m,hm⟩:=h (c+1009*k+7919*x)
    exact⟨_,aK (aA (aA (aa rfl) ao (u9 (by decide) (by decide))) (i9 (aA (aA (aa rfl) (aA ao (aa rfl) (cH (by decide) (by decide))) c6) (aA ao (aa rfl) (cH (by decide) (by decide))) c6) hm) c6) rfl aS,_,_,rfl⟩)
  exact⟨r,_,aK ao rfl (gJ (iP ao hr) e (br (aa rfl) rfl))⟩
 have len:biV .len (.lst (LI ns))=some (.int ns.length):=congrArg (fun n:Nat=>some (D.int n)) (tB ns)
 have first:ev cl [some (.lst (LI ns)),some (.int k),none,none,none] (.bin .add (.bin .mul (.cst (.int 7)) (.var 1)) (.cst (.int 3)))=some (.int (7*k+3)):=aA (aA ao (aa rfl) (cH (by decide) (by decide))) ao c6
 by_cases h0:0<ns.length
 ·have hmod:=mod_lt (a:=(k:Int)) (b:=(ns.length:Int)) (by lia)
  obtain⟨j,hj⟩:=Int.eq_ofNat_of_zero_le hmod.1
  have hjl:j<ns.length:=by lia
  have ix:ixV (.lst (LI ns)) (.int ((k:Int)%ns.length))=some (.int ns[j]):=by
   show bW (LI ns) _=_
   rw[hj,eD]
   simp[LI,hjl]
  obtain⟨r,σ',hr⟩:=rest (ns[j]+9973*((k:Int) / ns.length))
  generalize hc:ns[j]+9973*((k:Int) / ns.length)=cell at hr
  have cel:∀ {r':Ss} {res:Option (Out × St)},ag cl [] r' [some (.lst (LI ns)),some (.int k),some (.int cell),none,none]=res->ag cl [] (.cons (.asg 2 (.bin .add (.bin .mul (.cst (.int 7)) (.var 1)) (.cst (.int 3)))) (.cons (.ife (.cmp .gt (.bi .len (.var 0)) (.cst (.int 0))) (.cons (.asg 2 (.bin .add (.ix (.var 0) (.bin .mod (.var 1) (.bi .len (.var 0)))) (.bin .mul (.cst (.int 9973)) (.bin .fdiv (.var 1) (.bi .len (.var 0)))))) .nil) .nil) r')) [some (.lst (LI ns)),some (.int k),none,none,none]=res:=fun z =>
   aK first rfl (eL (bf (aZ (bQ (aa rfl) len) ao (by rw[qS,decide_eq_true (by lia)]))) (aK (d:=.int cell) (aA (df (aa rfl) (aA (aa rfl) (bQ (aa rfl) len) (jh (by lia))) ix) (aA ao (aA (aa rfl) (bQ (aa rfl) len) (xg (by lia) (by lia))) (cH (by decide) (by decide))) (by rw[c6,hc])) rfl aS) z)
  by_cases h1:k<ns.length
  ·have c1:bc .lt (.int (k:Nat)) (.int (ns.length:Nat))=some true:=by rw[fS,decide_eq_true (by lia)]
   by_cases h2:(1000000000000000000:Int)<=cell
   ·exact⟨_,bh rfl rfl (cel (je (bf (dZ (aZ (aa rfl) (bQ (aa rfl) len) c1) (aZ (aa rfl) (aA ao ao pw) (by rw[BO,decide_eq_true h2])))) (br (aA (aa rfl) (aA ao ao pw) cE) rfl)))⟩
   ·exact⟨r,bh rfl rfl (cel (bR (bf (dZ (aZ (aa rfl) (bQ (aa rfl) len) c1) (aZ (aa rfl) (aA ao ao pw) (by rw[BO,decide_eq_false h2])))) hr))⟩
  ·exact⟨r,bh rfl rfl (cel (bR (bf (iA (aZ (aa rfl) (bQ (aa rfl) len) (by rw[fS,decide_eq_false (by lia)])))) hr))⟩
 ·obtain⟨r,σ',hr⟩:=rest (7*k+3)
  exact⟨r,bh rfl rfl (aK first rfl (bR (bf (aZ (bQ (aa rfl) len) ao (by rw[qS,decide_eq_false (by lia)]))) (bR (bf (iA (aZ (aa rfl) (bQ (aa rfl) len) (by rw[fS,decide_eq_false (by lia)])))) hr)))⟩
end
section
variable{cl:Cl}
noncomputable def jA(ds sizes:List Nat):Prop:=ds.length=sizes.length/\∀ (i d s:Nat),ds[i]?=some d->sizes[i]?=some s->d<s
theorem jA.snoc{ds sizes:List Nat}{d s:Nat}(h:jA ds sizes)(hd:d<s):jA (ds++[d]) (sizes++[s]):=by
 refine⟨by simp[h.1],fun i x y h1 h2=>?_⟩
 by_cases hi:i<ds.length
 ·rw[List.getElem?_append_left hi]at h1
  rw[List.getElem?_append_left (by rw[<-h.1];exact hi)]at h2
  exact h.2 i x y h1 h2
 ·rw[List.getElem?_append_right (by lia)]at h1
  rw[List.getElem?_append_right (by rw[<-h.1];lia)]at h2
  rw[h.1]at h1
  cases hk:i-sizes.length with
  | zero=>rw[hk]at h1 h2;simp at h1 h2;lia
  | succ k=>rw[hk]at h1;simp at h1
theorem rG{f:Nat}{scr:D}{k:Nat}{sizes:List Nat}{r:Int}(h:cl f [scr,.int k]=some (.int r))(hp:∀ s∈sizes,0<s/\s<2 ^ 200)(hlen:sizes.length<=1000):∃ ds:List Nat,jA ds sizes/\evF cl (ed f) [scr,.int k,.lst (L sizes)]=some (.lst (L ds)):=by
 obtain⟨σ',e,r',ds,o,hds,rfl⟩:=fG (f:=ag cl [4] (eS f)) (tg:=[5]) (xs:=sizes) (σ:=[some scr,some (.int k),some (.lst (L sizes)),some (.int r),some (.lst []),none])
  (fun p σ=>∃ (r:Int) (ds:List Nat) (o:Option D),jA ds p/\σ=[some scr,some (.int k),some (.lst (L sizes)),some (.int r),some (.lst (L ds)),o]) ⟨r,[],none,⟨rfl,by simp⟩,rfl⟩ (by
   rintro p x q σ hx ⟨r,ds,o,hds,rfl⟩
   have hx0:=hp x (by rw[hx];simp)
   have hpl:p.length<1000:=by
    have:=congrArg List.length hx
    simp at this
    lia
   have hx1:(0:Int)<x:=by lia
   have hx2:(x:Int)<2 ^ 200:=by
    have:=hx0.2
    lia
   obtain⟨d,hd⟩:=Int.eq_ofNat_of_zero_le (Int.emod_nonneg r (show(x:Int)≠0 by lia))
   have hdx:d<x:=by
    have:=Int.emod_lt_of_pos r hx1
    lia
   refine⟨[some scr,some (.int k),some (.lst (L sizes)),some (.int (r / x)),some (.lst (L (ds++[d]))),some (.int x)],?_,_,_,_,hds.snoc hdx,rfl⟩
   have hl:(L ds).length<most:=by
    rw[bC,hds.1]
    unfold most
    lia
   simp[aT,eS,ag,evS,ev,jh hx1,xg hx1 hx2,hd,D.imm,hl,ba,da]
   rfl)
 refine⟨ds,hds,?_⟩
 simp[evF,ed,ag,evS,ev,evs,bq,items,h,ba,D.imm,aO,ay]
 simp[e,ev,bt,aO,bA,aP]
end
section
variable{cl:Cl}
end
section
variable{n:Nat}{f:List Nat}{l:Nat}
end
theorem pI{k:Nat}{g:Nat->Nat}{p q:List Nat}{x:Nat}(h:(List.range k).map g=p++x::q):p.length<k/\x=g p.length:=by
 have l:((List.range k).map g).length=(p++x::q).length:=by rw[h]
 have e:((List.range k).map g)[p.length]?=(p++x::q)[p.length]?:=by rw[h]
 simp at l e
 obtain⟨y,hy,e⟩:=e
 refine⟨by lia,?_⟩
 rw[List.getElem?_range (by lia)]at hy
 cases hy
 exact e.symm
noncomputable def rd(n q:Nat):Nat:=if q<n then q else 3*n-1-q
theorem h9{n q:Nat}(h:q<2*n):rd n q<2*n:=by unfold rd;split<;>omega
theorem jk{n q:Nat}(h:q<2*n):rd n (rd n q)=q:=by
 unfold rd
 by_cases e:q<n
 ·rw[if_pos e,if_pos e]
 ·rw[if_neg e,if_neg (by omega)]
  lia
theorem A9{n p q:Nat}(hp:p<2*n)(hq:q<2*n)(h:rd n p=rd n q):p=q:=by rw[<-jk hp,h,jk hq]
noncomputable def rnd(n:Nat)(f:List Nat)(q:Nat):Nat:=rd n (at' f (rd n q))
structure Val(n:Nat)(f:List Nat):Prop where
 frm:Frm n f
 nox:∀ q q',q<2*n->q'<2*n->¬ (q<q'/\q'<rnd n f q/\rnd n f q<rnd n f q')
noncomputable def nG(n:Nat):List Nat:=(List.range (2*n)).map (rd n)
theorem xP{n q:Nat}(h:q<2*n):ixV (.lst (L (nG n))) (.int (q:Int))=some (.int ((rd n q:Nat):Int)):=by
 show bW _ _=_
 rw[eD,mI]
 simp[nG,h]
theorem iD{f:List Nat}{i j:Nat}(h:i<f.length):gg (.lst (L f)) (.int (i:Int)) (.int (j:Int))=some (.lst (L (f.set i j))):=by
 dsimp only[gg]
 rw[bC,nO h]
 simp[x9]
theorem oV{F:St->Option (Option D)}{tg:List Nat}{σ:St}{g:Nat->D}(im:∀ x,(g x).imm=true):∀ xs:List Nat,(∀ x∈xs,(aT tg (.int (x:Nat)) σ).bind F=some (some (g x)))->cz F tg σ (L xs)=some (xs.map g)
 | [],_=>rfl
 | x::r,h=>by
  have a:=h x (by simp)
  have b:=oV im r (fun y hy=>h y (by simp[hy]))
  rw[show L (x::r)=.int x::L r from rfl,cz]
  cases hb:aT tg (.int (x:Nat)) σ with
  | none=>rw[hb]at a;cases a
  |some σ1=>
   rw[hb]at a
   simp only[Option.bind_some]at a ⊢
   rw[a,b]
   simp[j8,im]
theorem wm(xs:List Nat)(g:Nat->Nat):(xs.map fun x=>D.int (g x:Nat))=L (xs.map g):=by simp[L]
theorem sQ{xs:List Nat}(h:xs.length<=1000):fits (L xs)=some (L xs):=by
 unfold fits
 rw[if_pos (by rw[bC];unfold most;lia)]
theorem dR{n:Nat}(h:n<=1000):cP (.int 0) (.int n)=some (L (List.range n)):=by
 have e2:=cZ (a:=0) (b:=n) (by lia) h
 rw[Nat.sub_zero,<-List.range_eq_range']at e2
 exact e2
theorem kR{n:Nat}(hn:n<=100):evF cl dA [.int n]=some (.tup (L (aM n))):=by
 have e2:=dR (n:=n) (by lia)
 have e3:=oV (F:=fun σ1=>(ev cl σ1 (.bin .add (.var 0) (.var 1))).map some) (tg:=[1]) (σ:=[some (.int n),none]) (g:=fun x=>.int ((n+x:Nat):Int)) (fun _=>rfl) (List.range n) (by
  intro x _
  simp[aT,ev,c6])
 rw[wm]at e3
 have e4:aI .add (.lst (L ((List.range n).map fun x=>n+x))) (.lst (L (List.range n)))=some (.lst (L (aM n))):=by
  dsimp only[aI]
  rw[if_pos (by simp[bC,most];lia),aM,da]
  congr 3
  ·rw[List.range'_eq_map_range]
  ·rw[List.range_eq_range']
 have e5:=sQ (xs:=List.range n) (by simp;lia)
 simp only[evF,dA,ag,evS,ev,bq]
 simp[ev,e2,e5]
 simp[ev]at e3
 rw[e3]
 simp[e4,biV,items,bt,D.imm,bA,aP]
theorem m5{n:Nat}(hn:n<=10):evF cl dA [.int n]=some (.tup (L (aM n))):=kR (by lia)
noncomputable def aN(n i:Nat):List Nat:=dm (aM n) (n+i)
theorem fE{n i x:Nat}(h:i+1<n):at' (aN n i) x=if x=n+i+1 then n+i else if x=n+i then n+i+1 else if x=i+1 then i else if x=i then i+1 else if x<n then n+x else if x<2*n then x-n else x:=by
 have F:=fW n
 unfold aN dm
 have a1:at' (aM n) (n+i)=i:=by rw[plain_at,if_neg (by lia),if_pos (by lia)];lia
 have a2:at' (aM n) (n+i+1)=i+1:=by rw[plain_at,if_neg (by lia),if_pos (by lia)];lia
 have hl:=F.len
 rw[a1,a2,if_neg (by lia),ef (by simp;lia),ef (by simp;lia),ef (by simp;lia),ef (by lia),plain_at]
set_option synthInstance.maxSize 10000 in
set_option synthInstance.maxHeartbeats 0 in
theorem wz:∀ n,n<11->∀ i,i<n->i+1<n->∀ q,q<2*n->∀ q',q'<2*n->¬ (q<q'/\q'<rnd n (aN n i) q/\rnd n (aN n i) q<rnd n (aN n i) q'):=by decide +kernel
theorem jy{n i:Nat}(hn:n<=10)(h:i+1<n):Val n (aN n i):=⟨nV (fW n) (by lia),fun q q' h1 h2=>wz n (by lia) i (by lia) h q h1 q' h2⟩
theorem nc{fp:Nat}{n i:Nat}(hn:n<=10)(hi:i+1<n)(hp:cl fp [.int n]=some (.tup (L (aM n)))):evF cl (eW fp) [.int n,.int i]=some (.tup (L (aN n i))):=by
 have hl:=(fW n).len
 have e:aN n i=((((aM n).set i (i+1)).set (i+1) i).set (n+i) (n+i+1)).set (n+i+1) (n+i):=by
  unfold aN dm
  have a1:at' (aM n) (n+i)=i:=by rw[plain_at,if_neg (by lia),if_pos (by lia)];lia
  have a2:at' (aM n) (n+i+1)=i+1:=by rw[plain_at,if_neg (by lia),if_pos (by lia)];lia
  rw[a1,a2,if_neg (by lia)]
 have p1:=iD (f:=aM n) (i:=i) (j:=i+1) (by lia)
 have p2:=iD (f:=(aM n).set i (i+1)) (i:=i+1) (j:=i) (by simp;lia)
 have p3:=iD (f:=((aM n).set i (i+1)).set (i+1) i) (i:=n+i) (j:=n+i+1) (by simp;lia)
 have p4:=iD (f:=(((aM n).set i (i+1)).set (i+1) i).set (n+i) (n+i+1)) (i:=n+i+1) (j:=n+i) (by simp;lia)
 rw[<-e]at p4
 simp only[Int.natCast_add,Int.natCast_one]at p1 p2 p3 p4
 simp[evF,eW,ag,evS,ev,evs,hp,biV,items,aO,bA,bq,c6,bb,D.imm,aT,jw,p1,p2,p3,p4,bt,aP]
theorem half{xs:List D}{n:Nat}(h:xs.length=2*n):biV .len (.tup xs)=some (.int (2*n)):=by
 simp[biV,items,h]
section dicts
variable{κ:Type} [DecidableEq κ]
end dicts
noncomputable def pick(h l:List Nat)(b:Bool):List Nat:=if b then h else l
noncomputable def stp(n:Nat)(h l:List Nat)(s:Bool × Nat):Bool × Nat:=if s.1=decide (n<=s.2)then(!s.1,at' (pick h l (!s.1)) ((s.2+n)%(2*n)))else s
noncomputable def itr(n:Nat)(h l:List Nat):Nat->Bool × Nat->Bool × Nat
 | 0,s=>s
 | i+1,s=>stp n h l (itr n h l i s)
section
variable{fr n:Nat}{h l:List Nat}{ks:List (List Ky)}{vs:List D}{fnd:List Nat}
theorem Ba(hh:∀ x,x<2*n->at' h x<2*n)(hl:∀ x,x<2*n->at' l x<2*n){s:Bool × Nat}(hs:s.2<2*n):(stp n h l s).2<2*n:=by
 unfold stp
 split
 ·have m:(s.2+n)%(2*n)<2*n:=Nat.mod_lt _ (by lia)
  cases s.1
  ·exact hh _ m
  ·exact hl _ m
 ·exact hs
theorem oB(hh:∀ x,x<2*n->at' h x<2*n)(hl:∀ x,x<2*n->at' l x<2*n){s:Bool × Nat}(hs:s.2<2*n):∀ i,(itr n h l i s).2<2*n
 | 0=>hs
 | i+1=>Ba hh hl (oB hh hl hs i)
noncomputable def beg(n:Nat)(h l:List Nat)(p:Nat):Bool × Nat:=(decide (p<n),at' (pick h l (decide (p<n))) p)
noncomputable def aE(n:Nat)(h l:List Nat):List Nat:=(List.range (2*n)).map fun p=>(itr n h l (4*n) (beg n h l p)).2
end
section
variable{n:Nat}{h l inner:List Nat}
end
noncomputable def d7(n:Nat)(f:List Nat):List Nat:=(List.range (2*n)).map fun p=>if p<n then(if at' f p<n then at' f p else p+n)else(if at' f (p-n)<n then at' f (p-n)+n else p-n)
theorem nJ{n:Nat}{f:List Nat}{p:Nat}(h:p<2*n):at' (d7 n f) p=if p<n then(if at' f p<n then at' f p else p+n)else(if at' f (p-n)<n then at' f (p-n)+n else p-n):=by
 unfold d7
 rw[at']
 rw[List.getElem?_map,List.getElem?_range h]
 rfl
theorem fF{n:Nat}{h l:List Nat}{s:Bool × Nat}(hs:stp n h l s=s):∀ i,itr n h l i s=s
 | 0=>rfl
 | i+1=>by rw[itr,fF hs i,hs]
theorem lx{n:Nat}{h l:List Nat}{s t:Bool × Nat}(hs:stp n h l s=t)(ht:stp n h l t=t):∀ i,itr n h l (i+1) s=t
 | 0=>hs
 | i+1=>by rw[itr,lx hs ht i,ht]
section
variable{n:Nat}{f:List Nat}
end
theorem sJ{F:St->Option (Option D)}{tg:List Nat}{σ:St}{h g:Nat->D}{c:Nat->Bool}(im:∀ x,(g x).imm=true):∀ xs:List Nat,(∀ x∈xs,(aT tg (h x) σ).bind F=some (if c x then some (g x)else none))->cz F tg σ (xs.map h)=some ((xs.filter c).map g)
 | [],_=>rfl
 | x::r,hh=>by
  have a:=hh x (by simp)
  have b:=sJ im r (fun y hy=>hh y (by simp[hy]))
  rw[List.map_cons,cz]
  cases hb:aT tg (h x) σ with
  | none=>rw[hb]at a;cases a
  |some σ1=>
   rw[hb]at a
   simp only[Option.bind_some]at a ⊢
   rw[a,b]
   cases hc:c x<;>simp[j8,im,hc]
noncomputable def pr(f:List Nat)(p:Nat):D:=.tup [.int (p:Nat),.int (at' f p:Nat)]
theorem qQ:∀ (f:List Nat) (k:Nat),dk (k:Int) (L f)=(List.range f.length).map fun p=>.tup [.int ((k+p:Nat):Int),.int (at' f p:Nat)]
 | [],k=>rfl
 | x::r,k=>by
  rw[show L (x::r)=.int x::L r from rfl,dk,show(k:Int)+1=((k+1:Nat):Int) by lia,qQ r (k+1),List.length_cons,List.range_succ_eq_map,List.map_cons,List.map_map]
  congr 1
  apply List.map_congr_left
  intro p hp
  simp at hp
  have e:at' (x::r) (p+1)=at' r p:=by simp[at',hp]
  simp[e]
  lia
theorem pB{f:List Nat}{m:Nat}(h:f.length=m):dk 0 (L f)=(List.range m).map (pr f):=by
 have:=qQ f 0
 rw[h]at this
 simp only[Nat.zero_add]at this
 exact this
theorem sL{β:Type}{f:St->Option (Out × St)}{tg:List Nat}(g:β->D)(im:∀ b,(g b).imm=true)(I:List β->St->Prop):∀ (w done:List β) (σ:St),(∀ u b v σ,done++w=u++b::v->I u σ->∃ σ2,(aT tg (g b) σ).bind f=some (.nx,σ2)/\I (u++[b]) σ2)->I done σ->∃ σ',bb f tg (w.map g) σ=some (.nx,σ')/\I (done++w) σ'
 | [],done,σ,_,h=>⟨σ,rfl,by simpa using h⟩
 | b::w,done,σ,hs,h=>by
  obtain⟨σ2,h1,h3⟩:=hs done b w σ rfl h
  obtain⟨σ',h4,h5⟩:=sL g im I w (done++[b]) σ2 (fun pre e post σ he=>hs pre e post σ (by simpa using he)) h3
  refine⟨σ',?_,by simpa using h5⟩
  rw[List.map_cons,bb,if_pos (im b)]
  cases hb:aT tg (g b) σ with
  | none=>rw[hb]at h1;cases h1
  |some σ1=>
   rw[hb]at h1
   simp only[Option.bind_some]at h1 ⊢
   rw[h1]
   exact h4
section
variable{n:Nat}{f:List Nat}
theorem kr{p:Nat}(hp:p<2*n):evF cl cJ [.int n,.int (p:Nat)]=some (.int (rd n p:Nat)):=by
 have e1:aI .mul (.int 3) (.int n)=some (.int (3*n)):=cH (by decide) (by decide)
 by_cases c:p<n
 ·have c1:decide ((p:Int)<n)=true:=by simp;lia
  simp[evF,cJ,ag,evS,ev,fS,c1,truth,bt,D.imm,aP,rd,c]
 ·have c1:decide ((p:Int)<n)=false:=by simp;lia
  simp[evF,cJ,ag,evS,ev,fS,c1,truth,e1,cE,bt,D.imm,aP,rd,c]
  lia
theorem uM{T:D}{to:Nat->Nat}(hn:n<=10)(F:Frm n f)(hT:∀ p:Nat,p<2*n->ixV T (.int (p:Nat))=some (.int (to p:Nat)))(hlt:∀ p,p<2*n->to p<2*n)(inj:∀ p q,p<2*n->q<2*n->to p=to q->p=q) :
  ∃ E:List Nat,E.length=2*n/\(∀ p,p<2*n->at' E (to p)=to (at' f p))/\evF cl iX [.tup (L f),T]=some (.tup (L E)):=by
 have ln:=half (xs:=L f) (n:=n) (by rw[bC,F.len])
 have en:=pB F.len
 have e0:aI .mul (.lst [.int 0]) (.int (2*(n:Int)))=some (.lst (L (List.replicate (2*n) 0))):=by
  dsimp only[aI]
  rw[if_pos ⟨by lia,by unfold most;lia,by simp[most];lia⟩]
  have:(2*(n:Int)).toNat=2*n:=by lia
  rw[this]
  simp[L]
 obtain⟨σ',e,E,o3,o4,rfl,El,EE⟩:=sL (f:=ag cl [2] j0) (tg:=[3,4]) (pr f) (fun _=>rfl)
  (fun u σ=>∃ (E:List Nat) (o3 o4:Option D),σ=[some (.tup (L f)),some T,some (.lst (L E)),o3,o4]/\E.length=2*n/\∀ p∈u,at' E (to p)=to (at' f p))
  (List.range (2*n)) [] [some (.tup (L f)),some T,some (.lst (L (List.replicate (2*n) 0))),none,none] (by
   rintro u p v σ hu ⟨E,o3,o4,rfl,El,EE⟩
   have hp:p<2*n:=by
    have:p∈List.range (2*n):=by
     simp only[List.nil_append]at hu
     rw[hu];simp
    simpa using this
   have hpu:∀ x∈u,x<2*n/\x≠p:=by
    intro x hx
    simp only[List.nil_append]at hu
    have nd:(List.range (2*n)).Nodup:=List.nodup_range
    have m:x∈List.range (2*n):=by rw[hu];simp[hx]
    rw[hu,List.nodup_append]at nd
    exact⟨by simpa using m,nd.2.2 x hx p (by simp)⟩
   have t1:=hT p hp
   have t2:=hT (at' f p) (F.lt p hp)
   have pt:=iD (f:=E) (i:=to p) (j:=to (at' f p)) (by have:=hlt p hp;lia)
   refine⟨_,?_,E.set (to p) (to (at' f p)),some (.int (p:Nat)),some (.int (at' f p:Nat)),rfl,by simp[El],fun x hx=>?_⟩
   ·simp[aT,bj,pr,j0,ag,evS,ev,t1,t2,D.imm,pt]
   ·rw[ef (by have:=hlt p hp;lia)]
    simp at hx
    rcases hx with hx | rfl
    ·rw[if_neg (fun c=>(hpu x hx).2 (inj x p (hpu x hx).1 hp c))]
     exact EE x hx
    ·rw[if_pos rfl])
  ⟨_,none,none,rfl,by simp,by simp⟩
 refine⟨E,El,fun p hp=>EE p (by simp[hp]),?_⟩
 simp only[evF,iX,ag,evS,ev,evs,bq]
 simp[ev,evs,ln,e0,aO,bA,fO,en]
 rw[e]
 simp[ag,evS,ev,biV,items,bt,D.imm,bA,aP]
theorem nt{fm frp fpo:Nat}(hn:n<=10)(F:Frm n f)(hpo:∀ xs:List D,cl fpo [.tup xs]=some (.int (xs.length / 2)))(hrp:∀ p:Nat,p<2*n->cl frp [.int n,.int (p:Nat)]=some (.int (rd n p:Nat)))
 (hm:∃ E:List Nat,E.length=2*n/\(∀ p,p<2*n->at' E (rd n p)=rd n (at' f p))/\cl fm [.tup (L f),.lst (L (nG n))]=some (.tup (L E))) :
  ∃ E:List Nat,E.length=2*n/\(∀ q,q<2*n->at' E q=rnd n f q)/\evF cl (eY fm frp fpo) [.tup (L f)]=some (.tup (L E)):=by
 obtain⟨E,El,EE,hm⟩:=hm
 refine⟨E,El,fun q hq=>?_,?_⟩
 ·have:=EE (rd n q) (h9 hq)
  rw[jk hq]at this
  exact this
 ·have e1:aI .mul (.int 2) (.int n)=some (.int (2*n)):=cH (by decide) (by decide)
  have r2:=dR (n:=2*n) (by lia)
  rw[show((2*n:Nat):Int)=2*(n:Int) by lia]at r2
  have ft:=sQ (xs:=List.range (2*n)) (by simp;lia)
  have po:=hpo (L f)
  rw[bC,F.len,show(((2*n:Nat):Int) / 2)=(n:Int) by lia]at po
  have mc:=oV (F:=fun σ1=>(ev cl σ1 (.call frp (.cons (.var 1) (.cons (.var 2) .nil)))).map some) (tg:=[2]) (σ:=[some (.tup (L f)),some (.int n),none]) (g:=fun p=>.int (rd n p:Nat)) (fun _=>rfl) (List.range (2*n)) (by
   intro x hx
   simp at hx
   have:=hrp x hx
   simp[aT,ev,evs,this])
  rw[wm,show(List.range (2*n)).map (fun p=>rd n p)=nG n from rfl]at mc
  simp only[evF,eY,ag,evS,ev,evs,bq]
  simp[ev,evs,po,ba,D.imm,e1,r2,ft]
  simp[ev,evs]at mc
  rw[mc]
  simp[hm,bt,D.imm,bA,aP]
end
structure Op(r:Nat->Nat)(k:Nat)(W:List Nat):Prop where
 up:W.Pairwise (·<·)
 mem:∀ p,p∈W↔p<k/\k<=r p
section
variable{r:Nat->Nat}{m k:Nat}{W:List Nat}
theorem Op.push(O:Op r k W)(inv:∀ q,q<m->r (r q)=q)(hk:k<m)(h:k<r k):Op r (k+1) (W++[k]):=by
 refine⟨?_,fun p=>?_⟩
 ·rw[List.pairwise_append]
  exact⟨O.up,by simp,fun a ha b hb=>by simp at hb;have:=(O.mem a).mp ha;lia⟩
 ·simp only[List.mem_append,List.mem_singleton,O.mem]
  constructor
  ·rintro(⟨a,b⟩ | rfl)
   ·refine⟨by lia,?_⟩
    by_cases c:r p=k
    ·have:=inv p (by lia)
     rw[c]at this
     lia
    ·lia
   ·lia
  ·rintro⟨a,b⟩
   by_cases c:p=k
   ·exact .inr c
   ·exact .inl ⟨by lia,by lia⟩
end
section
variable{n:Nat}{f:List Nat}
theorem nL{fu fi fp fc fo:Nat}(h1:1<=n)(hn:n<=10)(V:Val n f)(hpo:∀ xs:List D,cl fo [.tup xs]=some (.int (xs.length / 2)))(hc:cl fc [.int n]=some (.bl true))(hp:cl fp [.tup (L f)]=some (.bl true))
 (hi:∃ E:List Nat,E.length=2*n/\(∀ q,q<2*n->at' E q=rnd n f q)/\cl fi [.tup (L f)]=some (.tup (L E)))
 (hu:∀ E:List Nat,E.length=2*n->(∀ q,q<2*n->at' E (at' E q)=q)->(∀ q,q<2*n->at' E q≠q)->(∀ q q',q<2*n->q'<2*n->¬ (q<q'/\q'<at' E q/\at' E q<at' E q'))->(∀ q,q<2*n->at' E q<2*n)->cl fu [.tup (L E)]=some (.bl true)) :
  evF cl (fh fu fi fp fc fo) [.tup (L f)]=some (.bl true):=by
 have F:=V.frm
 obtain⟨E,El,Ea,hi⟩:=hi
 have rl:∀ q,q<2*n->rnd n f q<2*n:=fun q hq=>h9 (F.lt _ (h9 hq))
 have hu:=hu E El (fun q hq=>by
   rw[Ea q hq,Ea _ (rl q hq)]
   unfold rnd
   rw[jk (F.lt _ (h9 hq)),F.inv,jk hq]) (fun q hq e=>by
   rw[Ea q hq]at e
   unfold rnd at e
   have:=congrArg (rd n) e
   rw[jk (F.lt _ (h9 hq))]at this
   exact F.no _ (h9 hq) this) (fun q q' h h'=>by
   rw[Ea q h,Ea q' h']
   exact V.nox q q' h h') (fun q hq=>by rw[Ea q hq];exact rl q hq)
 have e1:aI .mul (.int 2) (.int n)=some (.int (2*n)):=cH (by decide) (by decide)
 have ln:=half (xs:=L f) (n:=n) (by rw[bC,F.len])
 have po:=hpo (L f)
 rw[bC,F.len,show(((2*n:Nat):Int) / 2)=(n:Int) by lia]at po
 have en:=pB F.len
 have ft:fits ((List.range (2*n)).map (pr f))=some ((List.range (2*n)).map (pr f)):=by
  unfold fits
  rw[if_pos (by simp[most];lia)]
 have mc:=sJ (F:=fun σ1=>((ev cl σ1 (.cmp .eq (.var 3) (.var 4))).bind truth).bind fun k=>if k then(ev cl σ1 (.var 3)).map some else some none) (tg:=[3,4]) (σ:=[some (.tup (L f)),some (.int n),none,none,none]) (h:=pr f) (g:=fun p=>.int (p:Nat)) (c:=fun _=>false) (fun _=>rfl) (List.range (2*n)) (by
  intro x hx
  simp at hx
  have c2:((x:Int) == (at' f x:Nat))=false:=beq_eq_false_iff_ne.mpr (by have:=F.no x hx;lia)
  simp[aT,bj,pr,ev,gf,c2,truth])
 rw[show(List.range (2*n)).filter (fun _=>false)=[]from List.filter_eq_nil_iff.mpr (by simp),List.map_nil]at mc
 have ne0:bc .ne (.int (2*(n:Int))) (.int (2*(n:Int)))=some false:=by
  rw[AB]
  simp
 simp only[evF,fh,ag,evS,ev,evs,bq]
 simp[ev,evs,po,ba,D.imm,ln,e1,ne0,hc,hp,truth,ag,evS,bq,fO,en,ft]
 simp[ev]at mc
 rw[mc]
 simp[ag,evS,ev,evs,aO,ay,hi,hu,truth,bt,D.imm,aP,avE]
theorem kC{fi:Nat}{x:D}(h:cl fi [x]=some (.bl true)):evF cl (dC fi) [x]=some .non:=by
 simp[evF,dC,ag,evS,ev,evs,h,truth,aP]
end
theorem kg{β:Type}{F:St->Option (Option D)}{tg:List Nat}{σ:St}{h g:β->D}(im:∀ x,(g x).imm=true):∀ xs:List β,(∀ x∈xs,(aT tg (h x) σ).bind F=some (some (g x)))->cz F tg σ (xs.map h)=some (xs.map g)
 | [],_=>rfl
 | x::r,hh=>by
  have a:=hh x (by simp)
  have b:=kg im r (fun y hy=>hh y (by simp[hy]))
  rw[List.map_cons,cz]
  cases hb:aT tg (h x) σ with
  | none=>rw[hb]at a;cases a
  |some σ1=>
   rw[hb]at a
   simp only[Option.bind_some]at a ⊢
   rw[a,b]
   simp[j8,im]
theorem mC(x:Bool):bc .ne (.bl x) (.bl x)=some false:=by cases x<;>rfl
theorem xq(x:Bool):bc .eq (.bl x) (.bl x)=some true:=by cases x<;>rfl
section
variable{fs:Nat}{d:D}{kb ki kl kt:Bool}{res:Option (Out × St)}{r:Ss}
theorem kD(hN:(match d with | .non=>some (D.bl (!false)) | .dK _ _=>none | .dT _ _=>none | _=>some (.bl false))=some (D.bl false))(hb:cG .bool d=some kb)(hi:cG .int d=some ki)(hl:cG .list d=some kl)(ht:cG .tuple d=some kt)
 (k:ag cl [] r [some d,some d,none,none]=res):ag cl [] (.cons (.ife (.isN false (.var 1)) (.cons (.ret (.isN false (.var 0))) .nil) .nil) (.cons (.ife (.or (.cmp .ne (.isi (.var 0) .bool) (.isi (.var 1) .bool)) (.cmp .ne (.isi (.var 0) .int) (.isi (.var 1) .int))) (.cons (.ret (.cst (.bl false))) .nil) .nil) (.cons (.ife (.or (.cmp .ne (.isi (.var 0) .list) (.isi (.var 1) .list)) (.cmp .ne (.isi (.var 0) .tuple) (.isi (.var 1) .tuple))) (.cons (.ret (.cst (.bl false))) .nil) .nil) r))) [some d,some d,none,none]=res :=
 bR (bf (De hN (aa rfl))) (bR (bf (zf (aZ (c5 (aa rfl) hb) (c5 (aa rfl) hb) (mC _)) (aZ (c5 (aa rfl) hi) (c5 (aa rfl) hi) (mC _)))) (bR (bf (zf (aZ (c5 (aa rfl) hl) (c5 (aa rfl) hl) (mC _)) (aZ (c5 (aa rfl) ht) (c5 (aa rfl) ht) (mC _)))) k))
theorem iI{ks:Bool}(hN:(match d with | .non=>some (D.bl (!false)) | .dK _ _=>none | .dT _ _=>none | _=>some (.bl false))=some (D.bl false))(hb:cG .bool d=some kb)(hi:cG .int d=some ki)(hl:cG .list d=some false)(ht:cG .tuple d=some false)(hs:cG .str d=some ks)(he:bc .eq d d=some true):evF cl (cn fs) [d,d]=some (.bl true) :=
 bh rfl rfl (kD hN hb hi hl ht (je (bf (dZ (cT (c5 (aa rfl) hl)) (cT (c5 (aa rfl) ht)))) (br (dZ (aZ (c5 (aa rfl) hs) (c5 (aa rfl) hs) (xq _)) (aZ (aa rfl) (aa rfl) he)) rfl)))
end
theorem same_int{fs:Nat}(a:Int):evF cl (cn fs) [.int a,.int a]=some (.bl true):=iI rfl rfl rfl rfl rfl rfl (by rw[gf,beq_self_eq_true])
theorem j9:∀ xs:List D,dW xs xs=xs.map fun x=>.tup [x,x]
 | []=>rfl
 | x::r=>by simp[dW,j9 r]
theorem uA{β:Type}:∀ xs:List β,dh (xs.map fun _=>D.bl true)=some (xs.map fun _=>true)
 | []=>rfl
 | x::r=>by simp[dh,uA r]
theorem nZ{fs:Nat}{d:D}{xs:List D}(hd:d=.tup xs\/d=.lst xs)(hl:xs.length<=1000)(h:∀ x∈xs,cl fs [x,x]=some (.bl true)):evF cl (cn fs) [d,d]=some (.bl true):=by
 have al:biV .all (.lst (xs.map fun _=>.bl true))=some (.bl true):=by
  simp only[biV,uA]
  simp
 have mc:=kg (F:=fun σ1=>(ev cl σ1 (.call fs (.cons (.var 2) (.cons (.var 3) .nil)))).map some) (tg:=[2,3]) (σ:=[some d,some d,none,none]) (h:=fun x=>.tup [x,x]) (g:=fun _=>.bl true) (fun _=>rfl) xs (by
  intro x hx
  show(ev cl [some d,some d,some x,some x] (.call fs (.cons (.var 2) (.cons (.var 3) .nil)))).map some=_
  rw[dG (aa rfl) (aa rfl) (h x hx)]
  rfl)
 have it:items d=some xs:=by rcases hd with rfl | rfl<;>rfl
 have ln:biV .len d=some (.int xs.length):=by rcases hd with rfl | rfl<;>rfl
 have lq:bc .eq (.int (xs.length:Int)) (.int (xs.length:Int))=some true:=by simp[gf]
 have lz:(dW xs xs).length<=most:=by rw[j9,List.length_map];unfold most;lia
 rw[<-j9]at mc
 have tl:∀ {res:Option (Out × St)},some (Out.rt (.bl true),[some d,some d,none,none])=res->ag cl [] (.cons (.ret (.and (.cmp .eq (.bi .len (.var 0)) (.bi .len (.var 1))) (.bi .all (.compA (.call fs (.cons (.var 2) (.cons (.var 3) .nil))) [2,3] (.zip (.var 0) (.var 1)))))) .nil) [some d,some d,none,none]=res:=fun e=>(br (dZ (aZ (bQ (aa rfl) ln) (bQ (aa rfl) ln) lq) (bQ (gO (CZ (aa rfl) (aa rfl) it it rfl) lz mc) al)) rfl).trans e
 rcases hd with rfl | rfl
 ·exact bh rfl rfl (kD rfl rfl rfl rfl rfl (bR (bf (dZ (cT (k:=false) (c5 (aa rfl) rfl)) (cT (k:=true) (c5 (aa rfl) rfl)))) (tl rfl)))
 ·exact bh rfl rfl (kD rfl rfl rfl rfl rfl (bR (bf (iA (cT (k:=true) (c5 (aa rfl) rfl)))) (tl rfl)))
end RM
set_option maxHeartbeats 1000000
namespace RM
open RL RT
theorem uR{β:Type}{f:St->Option (Out × St)}{tg:List Nat}{d:D}{B:Prop}(g:β->D)(im:∀ b,(g b).imm=true)(I:List β->St->Prop):∀ (w done:List β) (σ:St),(∀ u b v σ,done++w=u++b::v->I u σ->(∃ σ2,(aT tg (g b) σ).bind f=some (.nx,σ2)/\I (u++[b]) σ2)\/(B/\∃ σ2,(aT tg (g b) σ).bind f=some (.rt d,σ2)))->I done σ->(∃ σ',bb f tg (w.map g) σ=some (.nx,σ')/\I (done++w) σ')\/(B/\∃ σ',bb f tg (w.map g) σ=some (.rt d,σ'))
 | [],done,σ,_,h=>.inl ⟨σ,rfl,by simpa using h⟩
 | b::w,done,σ,hs,h=>by
  rcases hs done b w σ rfl h with⟨σ2,h1,h3⟩ | ⟨hB,σ2,h1⟩
  ·have go:∀ {r:Option (Out × St)},bb f tg (w.map g) σ2=r->bb f tg ((b::w).map g) σ=r:=fun {r} e=>by
    rw[List.map_cons,bb,if_pos (im b)]
    cases hb:aT tg (g b) σ with
    | none=>rw[hb]at h1;cases h1
    |some σ1=>
     rw[hb]at h1
     simp only[Option.bind_some]at h1 ⊢
     rw[h1]
     exact e
   rcases uR (d:=d) (B:=B) g im I w (done++[b]) σ2 (fun pre e post σ he=>hs pre e post σ (by simpa using he)) h3 with⟨σ',h4,h5⟩ | ⟨hB,σ',h4⟩
   ·exact .inl ⟨σ',go h4,by simpa using h5⟩
   ·exact .inr ⟨hB,σ',go h4⟩
  ·refine .inr ⟨hB,σ2,?_⟩
   rw[List.map_cons,bb,if_pos (im b)]
   cases hb:aT tg (g b) σ with
   | none=>rw[hb]at h1;cases h1
   |some σ1=>
    rw[hb]at h1
    simp only[Option.bind_some]at h1 ⊢
    rw[h1]
    rfl
theorem uy{cl:Cl}{M:List Nat}{σ:St}{i:Nat}{e:E}{a b r:Ss}{xs:List D}{p q:Int}{res:Option (Out × St)}(hi:(σ[i]?).bind id=some (.lst (xs++[.int p])))(h:ev cl (σ.set i (some (.lst xs))) e=some (.int q))(k:ag cl M (.cons (.ife (.cst (.bl (decide (p=q)))) b a) r) (σ.set i (some (.lst xs)))=res):ag cl M (.cons (.ifp i e a b) r) σ=res:=by
 have l:evS cl M (.ifp i e a b) σ=if decide (p=q)=true then ag cl M b (σ.set i (some (.lst xs)))else ag cl M a (σ.set i (some (.lst xs))):=by
  rw[evS,hi,Option.bind_some]
  show((xs++[D.int p])[(xs++[D.int p]).length-1]?).bind _=_
  rw[show(xs++[D.int p])[(xs++[D.int p]).length-1]?=some (.int p) by simp,Option.bind_some,List.dropLast_concat,h]
  rfl
 have r':evS cl M (.ife (.cst (.bl (decide (p=q)))) b a) (σ.set i (some (.lst xs)))=if decide (p=q)=true then ag cl M b (σ.set i (some (.lst xs)))else ag cl M a (σ.set i (some (.lst xs))):=by
  rw[evS,ao]
  rfl
 rw[ag,r',<-l,<-ag]at k
 exact k
noncomputable def Nx(r:Nat->Nat)(m:Nat):Prop:=∀ q q',q<q'->q'<r q->r q<m->¬ (r q<r q'\/r q'=q')
structure Oq(r:Nat->Nat)(k:Nat)(W:List Nat):Prop extends Op r k W where
 nx:Nx r k
 al:∀ q q',q<q'->q'<k->k<=r q->r q'≠q'
section
variable{r:Nat->Nat}{m k:Nat}{W:List Nat}
theorem Oq.push(O:Oq r k W)(inv:∀ q,q<m->r (r q)=q)(hk:k<m)(h:k<r k):Oq r (k+1) (W++[k]) where
 toOp:=O.toOp.push inv hk h
 nx:=fun q q' h1 h2 h3=>by
  by_cases c:r q=k
  ·exfalso
   have:=inv q (by lia)
   rw[c]at this
   lia
  ·exact O.nx q q' h1 h2 (by lia)
 al:=fun q q' h1 h2 h3=>by
  by_cases c:q'=k
  ·subst c;lia
  ·exact O.al q q' h1 (by lia) (by lia)
theorem Oq.alone(O:Oq r k [])(inv:∀ q,q<m->r (r q)=q)(hk:k<m)(h:r k=k):Oq r (k+1) []:=by
 have no:∀ q,q<k->k<=r q->False:=fun q h1 h2=>by
  have:=(O.mem q).mpr ⟨h1,h2⟩
  cases this
 refine⟨⟨.nil,fun p=>⟨fun h=>(by cases h),fun⟨a,b⟩=>?_⟩⟩,fun q q' h1 h2 h3=>?_,fun q q' h1 h2 h3=>?_⟩
 ·by_cases c:p=k
  ·subst c;lia
  ·exact(no p (by lia) (by lia)).elim
 ·by_cases c:r q=k
  ·exfalso
   have:=inv q (by lia)
   rw[c,h]at this
   lia
  ·exact O.nx q q' h1 h2 (by lia)
 ·exact(no q (by lia) (by lia)).elim
theorem Oq.pop{W0:List Nat}(O:Oq r k (W0++[r k]))(inv:∀ q,q<m->r (r q)=q)(hk:k<m)(h:r k<k):Oq r (k+1) W0:=by
 have up:=O.up
 rw[List.pairwise_append]at up
 refine⟨⟨up.1,fun p=>?_⟩,fun q q' h1 h2 h3=>?_,fun q q' h1 h2 h3=>?_⟩
 ·constructor
  ·intro hp
   have lt:=up.2.2 p hp (r k) (by simp)
   have:=(O.mem p).mp (by simp[hp])
   refine⟨by lia,?_⟩
   by_cases c:r p=k
   ·have i:=inv p (by lia)
    rw[c]at i
    lia
   ·lia
  ·rintro⟨a,b⟩
   have pk:p≠k:=by rintro rfl;lia
   have:=(O.mem p).mpr ⟨by lia,by lia⟩
   simp at this
   rcases this with h | h
   ·exact h
   ·rw[h,inv k hk]at b
    lia
 ·by_cases c:r q=k
  ·have i:=inv q (by lia)
   rw[c]at i
   subst i
   rintro(z | z)
   ·have mq:=(O.mem q').mpr ⟨by lia,by lia⟩
    simp at mq
    rcases mq with mq | mq
    ·have:=up.2.2 q' mq (r k) (by simp)
     lia
    ·lia
   ·exact O.al (r k) q' h1 (by lia) (by lia) z
  ·exact O.nx q q' h1 h2 (by lia)
 ·by_cases c:q'=k
  ·subst c;lia
  ·exact O.al q q' h1 (by lia) (by lia)
end
theorem yS{cl:Cl}{m:Nat}{E:List Nat}(hm:m<=1000)(El:E.length=m)(inv:∀ q,q<m->at' E (at' E q)=q)(lt:∀ q,q<m->at' E q<m):∃ b:Bool,evF cl e8 [.tup (L E)]=some (.bl b)/\(b=true->Nx (at' E) m)/\(Nx (at' E) m->b=true):=by
 have en:=pB El
 have st:=uR (B:=¬ Nx (at' E) m) (f:=ag cl [1] bw) (tg:=[2,3]) (d:=.bl false) (pr E) (fun _=>rfl)
  (fun u σ=>∃ (W:List Nat) (o2 o3:Option D),σ=[some (.tup (L E)),some (.lst (L W)),o2,o3]/\Oq (at' E) u.length W/\W.length<=u.length)
  (List.range m) [] [some (.tup (L E)),some (.lst (L [])),none,none] (by
   rintro u p v σ hu ⟨W,o2,o3,rfl,O,Wl⟩
   obtain⟨hk,hp⟩:=pI (g:=id) (by simpa using hu)
   simp only[id]at hp
   subst hp
   have ml:(L W).length<most:=by rw[bC];unfold most;lia
   by_cases c:u.length<at' E u.length
   ·refine .inl ⟨_,show ag cl [1] bw [some (.tup (L E)),some (.lst (L W)),some (.int (u.length:Nat)),some (.int (at' E u.length:Nat))]=some (.nx,_)from eL (bf (aZ (k:=true) (aa rfl) (aa rfl) (by rw[qS,decide_eq_true (by lia)]))) (tf (aa rfl) rfl rfl ml aS) aS,W++[u.length],some (.int (u.length:Nat)),some (.int (at' E u.length:Nat)),?_,?_,?_⟩
    ·rw[da];rfl
    ·rw[List.length_append];exact O.push inv hk c
    ·simp;lia
   ·have cg:(ev cl [some (.tup (L E)),some (.lst (L W)),some (.int (u.length:Nat)),some (.int (at' E u.length:Nat))] (.cmp .gt (.var 3) (.var 2))).bind truth=some false:=bf (aZ (k:=false) (aa rfl) (aa rfl) (by rw[qS,decide_eq_false (by lia)]))
    by_cases c2:at' E u.length=u.length
    ·have ce:(ev cl [some (.tup (L E)),some (.lst (L W)),some (.int (u.length:Nat)),some (.int (at' E u.length:Nat))] (.cmp .eq (.var 3) (.var 2))).bind truth=some true:=bf (aZ (k:=true) (aa rfl) (aa rfl) (by rw[gf,c2,beq_self_eq_true]))
     cases W with
     |nil=>
      exact .inl ⟨_,show ag cl [1] bw [some (.tup (L E)),some (.lst (L [])),some (.int (u.length:Nat)),some (.int (at' E u.length:Nat))]=some (.nx,_)from ku cg (eL ce (bR (by rw[aa rfl];rfl) aS) aS) aS,[],_,_,rfl,by rw[List.length_append];exact O.alone inv hk c2,by simp⟩
     |cons w W=>
      exact .inr ⟨fun N=>by
       obtain⟨w1,w2⟩:=(O.mem w).mp (List.mem_cons_self ..)
       have wk:at' E w≠u.length:=fun z=>by
        have:=inv w (by lia)
        rw[z,c2]at this
        lia
       exact N w u.length w1 (by lia) (lt w (by lia)) (.inr c2),_,show ag cl [1] bw [some (.tup (L E)),some (.lst (L (w::W))),some (.int (u.length:Nat)),some (.int (at' E u.length:Nat))]=some (.rt (.bl false),_)from jc cg (je ce (je (by rw[aa rfl];rfl) (br ao rfl)))⟩
    ·have ce:(ev cl [some (.tup (L E)),some (.lst (L W)),some (.int (u.length:Nat)),some (.int (at' E u.length:Nat))] (.cmp .eq (.var 3) (.var 2))).bind truth=some false:=bf (aZ (k:=false) (aa rfl) (aa rfl) (by rw[gf,beq_eq_false_iff_ne.mpr (by lia)]))
     have m1:at' E u.length∈W:=(O.mem _).mpr ⟨by lia,by rw[inv _ hk];exact Nat.le_refl _⟩
     have ne:W≠[]:=List.ne_nil_of_mem m1
     have dl:=List.dropLast_concat_getLast ne
     generalize W.getLast ne=z at dl
     generalize W.dropLast=W0 at dl
     subst dl
     have hi:(([some (D.tup (L E)),some (.lst (L (W0++[z]))),some (.int (u.length:Nat)),some (.int (at' E u.length:Nat))]:St)[1]?).bind id=some (.lst (L W0++[.int (z:Nat)])):=by rw[da];rfl
     by_cases c3:z=at' E u.length
     ·refine .inl ⟨_,show ag cl [1] bw [some (.tup (L E)),some (.lst (L (W0++[z]))),some (.int (u.length:Nat)),some (.int (at' E u.length:Nat))]=some (.nx,_)from ku cg (ku ce (uy hi (aa rfl) (eL (by rw[ao,decide_eq_true (by lia)];rfl) aS aS)) aS) aS,W0,_,_,rfl,?_,?_⟩
      ·rw[List.length_append]
       subst c3
       exact O.pop inv hk (by lia)
      ·simp at Wl ⊢;lia
     ·exact .inr ⟨fun N=>by
       have up:=O.up
       rw[List.pairwise_append]at up
       have m0:at' E u.length∈W0:=by
        rcases List.mem_append.mp m1 with h | h
        ·exact h
        ·exact absurd (List.mem_singleton.mp h).symm c3
       have lz:=up.2.2 _ m0 z (by simp)
       have zz:=(O.mem z).mp (by simp)
       have zk:at' E z≠u.length:=fun q=>by
        have:=inv z (by lia)
        rw[q]at this
        exact c3 this.symm
       have i:=inv u.length hk
       exact N (at' E u.length) z lz (by rw[i];exact zz.1) (by rw[i];exact hk) (.inl (by rw[i];lia)),_,show ag cl [1] bw [some (.tup (L E)),some (.lst (L (W0++[z]))),some (.int (u.length:Nat)),some (.int (at' E u.length:Nat))]=some (.rt (.bl false),_)from jc cg (jc ce (uy hi (aa rfl) (jc (by rw[ao,decide_eq_false (by lia)];rfl) (br ao rfl))))⟩)
  ⟨[],none,none,rfl,⟨⟨by simp,by simp⟩,fun q q' _ _ h=>absurd h (Nat.not_lt_zero _),fun q q' _ h=>absurd h (Nat.not_lt_zero _)⟩,by simp⟩
 rw[<-en]at st
 rcases st with⟨σ',e,W,o2,o3,rfl,O,_⟩ | ⟨nN,σ',e⟩
 ·refine⟨true,bh rfl rfl (ko (eI bJ) rfl (gJ (xc (aa rfl) rfl) e (br ao rfl))),fun _=>?_,fun _=>rfl⟩
  have:=O.nx
  rw[List.nil_append,List.length_range]at this
  exact this
 ·exact⟨false,bh rfl rfl (ko (eI bJ) rfl (yB (xc (aa rfl) rfl) e)),(fun h=>by cases h),fun N=>absurd N nN⟩
end RM
set_option maxHeartbeats 1000000
namespace RM
open RL RT
noncomputable def xi(xs:List Int)(p:Nat):Int:=(xs[p]?).getD 0
noncomputable def nb(xs:List Int)(p:Nat):Bool:=decide (0<=xi xs p/\xi xs p<xs.length)&&decide (xi xs (xi xs p).toNat=p)
theorem xp{xs:List Int}{p:Nat}(h:p<xs.length):ixV (.tup (LI xs)) (.int (p:Nat))=some (.int (xi xs p)):=by
 show bW _ _=_
 rw[eD]
 simp[LI,xi,h]
theorem oR(xs:List Int):biV .len (.tup (LI xs))=some (.int (xs.length:Nat)):=congrArg (fun n:Nat=>some (D.int n)) (tB xs)
theorem bls{β:Type}(g:β->Bool):∀ xs:List β,dh (xs.map fun x=>D.bl (g x))=some (xs.map g)
 | []=>rfl
 | x::r=>by rw[List.map_cons,dh,bls g r];rfl
theorem yG{β:Type}(g:β->Bool)(xs:List β):biV .all (.lst (xs.map fun x=>D.bl (g x)))=some (.bl (xs.all g)):=by
 show(dh (xs.map fun x=>D.bl (g x))).map _=_
 rw[bls,Option.map_some,List.all_map]
 rfl
section
variable{cl:Cl}{xs:List Int}
theorem BA{fn:Nat}(hnum:∀ i:Int,cl fn [.int i]=some (.bl true)){p:Nat}(hp:p<xs.length):evF cl (fK fn) [.tup (LI xs),.int (p:Nat)]=some (.bl (nb xs p)):=by
 unfold nb
 have a1:ev cl [some (.tup (LI xs)),some (.int (p:Nat)),some (.int (xi xs p))] (.call fn (.cons (.var 2) .nil))=some (.bl true):=i9 (aa rfl) (hnum _)
 have as:∀ {res:Option (Out × St)} {r:Ss},ag cl [] r [some (.tup (LI xs)),some (.int (p:Nat)),some (.int (xi xs p))]=res->ag cl [] (.cons (.asg 2 (.ix (.var 0) (.var 1))) r) [some (.tup (LI xs)),some (.int (p:Nat)),none]=res:=fun h=>aK (df (aa rfl) (aa rfl) (xp hp)) rfl h
 by_cases c:0<=xi xs p/\xi xs p<xs.length
 ·rw[decide_eq_true c,Bool.true_and]
  obtain⟨j,hj⟩:=Int.eq_ofNat_of_zero_le c.1
  rw[hj]at c as a1 ⊢
  have i2:=xp (xs:=xs) (p:=j) (by lia)
  exact bh rfl rfl (as (br (dZ a1 (dZ (iW (k:=true) ao (aa rfl) (bQ (aa rfl) (oR xs)) (by rw[kS,decide_eq_true c.1]) (by rw[fS,decide_eq_true c.2])) (aZ (df (aa rfl) (aa rfl) i2) (aa rfl) (by
   rw[gf,Int.toNat_natCast]
   congr 1)))) rfl))
 ·rw[decide_eq_false c,Bool.false_and]
  by_cases c1:0<=xi xs p
  ·exact bh rfl rfl (as (br (dZ a1 (iA (iW (k:=false) ao (aa rfl) (bQ (aa rfl) (oR xs)) (by rw[kS,decide_eq_true c1]) (by rw[fS,decide_eq_false (fun z=>c ⟨c1,z⟩)])))) rfl))
  ·exact bh rfl rfl (as (br (dZ a1 (iA (nK ao (aa rfl) (by rw[kS,decide_eq_false c1])))) rfl))
theorem pN{fb:Nat}(hm:xs.length<=1000)(hb:∀ p:Nat,p<xs.length->cl fb [.tup (LI xs),.int (p:Nat)]=some (.bl (nb xs p))):evF cl (fM fb) [.tup (LI xs)]=some (.bl ((List.range xs.length).all (nb xs))):=by
 have mc:=kg (F:=fun σ1=>(ev cl σ1 (.call fb (.cons (.var 0) (.cons (.var 1) .nil)))).map some) (tg:=[1]) (σ:=[some (.tup (LI xs)),none]) (h:=fun p=>.int (p:Nat)) (g:=fun p=>.bl (nb xs p)) (fun _=>rfl) (List.range xs.length) (by
  intro p hp
  show(ev cl [some (.tup (LI xs)),some (.int (p:Nat))] (.call fb (.cons (.var 0) (.cons (.var 1) .nil)))).map some=_
  rw[dG (aa rfl) (aa rfl) (hb p (List.mem_range.mp hp))]
  rfl)
 exact bh rfl rfl (br (dZ (c5 (aa rfl) rfl) (bQ (gO (iP (bQ (aa rfl) (oR xs)) (dR hm)) (by rw[bC,List.length_range];unfold most;lia) mc) (yG _ _))) rfl)
theorem Du(f:List Nat):L f=LI (f.map Int.ofNat):=by unfold L LI;rw[List.map_map];rfl
theorem rQ{m:Nat}{h:List Nat}(len:h.length=m)(lt:∀ q,q<m->at' h q<m)(inv:∀ q,q<m->at' h (at' h q)=q):(List.range (h.map Int.ofNat).length).all (nb (h.map Int.ofNat))=true:=by
 have x1:∀ q,q<m->xi (h.map Int.ofNat) q=(at' h q:Nat):=fun q hq=>by simp[xi,at',show q<h.length by lia]
 rw[List.all_eq_true,List.length_map,len]
 intro q hq
 have hq:=List.mem_range.mp hq
 have l:=lt q hq
 unfold nb
 rw[x1 q hq,Int.toNat_natCast,x1 _ l,inv q hq,List.length_map,len]
 rw[decide_eq_true ⟨by lia,by lia⟩]
 simp
end
structure Dg(T:List Fn)(mx rw dg:Nat):Prop where
 DL:T[mx]?=some iO
 DA:T[rw]?=some (iM mx)
 DV:T[dg]?=some (ed rw)
theorem Dg.digits{T:List Fn}{mx rw dg:Nat}(h:Dg T mx rw dg){ns:List Int}(hl:ns.length<=63)(n:Nat){k:Nat}{sizes:List Nat}(hk:k<=1000)(hp:∀ s∈sizes,0<s/\s<2 ^ 200)(hz:sizes.length<=1000) :
  ∃ ds:List Nat,jA ds sizes/\aw T (n+3) dg [.lst (LI ns),.int k,.lst (L sizes)]=some (.lst (L ds)):=by
 obtain⟨r,hr⟩:=yx (cl:=aw T (n+1)) (f:=mx) (fun s=>by
  obtain⟨m,hm⟩:=zb (cl:=aw T n) s
  exact⟨m,(aq h.DL).trans hm⟩) hl hk
 obtain⟨ds,h1,h2⟩:=rG (cl:=aw T (n+2)) (f:=rw) ((aq h.DA).trans hr) hp hz
 exact⟨ds,h1,(aq h.DV).trans h2⟩
section
variable{T:List Fn}{mx rw dg pl hk ci ft tx rg hu ov fr:Nat}
end
structure Ck(T:List Fn)(nu pc pa nb un if' cf po rp ir mv:Nat):Prop where
 Di:T[nu]?=some cx
 Dk:T[pc]?=some (bT nu)
 Dm:T[pa]?=some (fM nb)
 D0:T[nb]?=some (fK nu)
 DC:T[un]?=some e8
 C7:T[if']?=some (fh un ir pa pc po)
 DT:T[cf]?=some (dC if')
 BY:T[po]?=some gc
 Dv:T[rp]?=some cJ
 DH:T[ir]?=some (eY mv rp po)
 D5:T[mv]?=some iX
section
variable{T:List Fn}{nu pc pa nb un if' cf po rp ir mv:Nat}
theorem Ck.num(h:Ck T nu pc pa nb un if' cf po rp ir mv)(n:Nat)(i:Int):aw T (n+1) nu [.int i]=some (.bl true):=(aq h.Di).trans (dB i)
theorem Ck.Bh(h:Ck T nu pc pa nb un if' cf po rp ir mv)(n:Nat)(i:Int):aw T (n+2) pc [.int i]=some (.bl (decide (1<=i/\i<=10))):=(aq h.Dk).trans (fP (h.num n) i)
theorem Ck.of(h:Ck T nu pc pa nb un if' cf po rp ir mv)(n:Nat)(xs:List D):aw T (n+1) po [.tup xs]=some (.int (xs.length / 2)):=(aq h.BY).trans (pb xs)
theorem Ck.ofL(h:Ck T nu pc pa nb un if' cf po rp ir mv)(n:Nat)(xs:List D):aw T (n+1) po [.lst xs]=some (.int (xs.length / 2)):=(aq h.BY).trans (pM xs)
theorem Ck.half(h:Ck T nu pc pa nb un if' cf po rp ir mv)(n:Nat){k:Nat}{f:List Nat}(hf:f.length=2*k):aw T (n+1) po [.tup (L f)]=some (.int k):=by
 rw[h.of,bC,hf]
 congr 2
 lia
theorem Ck.place(h:Ck T nu pc pa nb un if' cf po rp ir mv)(n:Nat){k p:Nat}(hp:p<2*k):aw T (n+1) rp [.int k,.int (p:Nat)]=some (.int (rd k p:Nat)):=(aq h.Dv).trans (kr hp)
theorem Ck.move(h:Ck T nu pc pa nb un if' cf po rp ir mv)(n:Nat){k:Nat}{f:List Nat}{U:D}{to:Nat->Nat}(hk:k<=10)(F:Frm k f)(hT:∀ p:Nat,p<2*k->ixV U (.int (p:Nat))=some (.int (to p:Nat)))(hlt:∀ p,p<2*k->to p<2*k)(inj:∀ p q,p<2*k->q<2*k->to p=to q->p=q) :
  ∃ E:List Nat,E.length=2*k/\(∀ p,p<2*k->at' E (to p)=to (at' f p))/\aw T (n+1) mv [.tup (L f),U]=some (.tup (L E)):=by
 obtain⟨E,h1,h2,h3⟩:=uM (cl:=aw T n) (T:=U) (to:=to) hk F hT hlt inj
 exact⟨E,h1,h2,(aq h.D5).trans h3⟩
theorem Ck.round(h:Ck T nu pc pa nb un if' cf po rp ir mv)(n:Nat){k:Nat}{f:List Nat}(hk:k<=10)(F:Frm k f):∃ E:List Nat,E.length=2*k/\(∀ q,q<2*k->at' E q=rnd k f q)/\aw T (n+2) ir [.tup (L f)]=some (.tup (L E)):=by
 obtain⟨E,h1,h2,h3⟩:=nt (cl:=aw T (n+1)) (fm:=mv) (frp:=rp) (fpo:=po) hk F (h.of n) (fun p hp=>h.place n hp) (h.move n (U:=.lst (L (nG k))) (to:=rd k) hk F (fun p hp=>xP hp) (fun p hp=>h9 hp) (fun p q hp hq h=>A9 hp hq h))
 exact⟨E,h1,h2,(aq h.DH).trans h3⟩
theorem Ck.frame(h:Ck T nu pc pa nb un if' cf po rp ir mv)(n:Nat){k:Nat}{f:List Nat}(h1:1<=k)(hk:k<=10)(V:Val k f):aw T (n+4) if' [.tup (L f)]=some (.bl true) :=
 (aq h.C7).trans (nL h1 hk V (h.of (n+2)) (by rw[h.Bh (n+1),decide_eq_true (by lia)])
  (by
   have F:=V.frm
   have p:=(aq (n:=n+2) h.Dm).trans (pN (xs:=f.map Int.ofNat) (by rw[List.length_map,F.len];lia) fun q hq=>(aq h.D0).trans (BA (h.num n) hq))
   rw[rQ F.len F.lt (fun q _=>F.inv q),<-Du]at p
   exact p)
  (h.round (n+1) hk V.frm) (fun E a b c d l=>(aq h.DC).trans (by
   obtain⟨w,e,_,hb⟩:=yS (cl:=aw T (n+2)) (m:=2*k) (by lia) a b l
   rw[hb fun q q' x y z w=>by
    have:=d q q' (by lia) (by lia)
    have:=c q' (by lia)
    lia]at e
   exact e)))
theorem Ck.check(h:Ck T nu pc pa nb un if' cf po rp ir mv)(n:Nat){k:Nat}{f:List Nat}(h1:1<=k)(hk:k<=10)(V:Val k f):aw T (n+5) cf [.tup (L f)]=some .non:=(aq h.DT).trans (kC (h.frame n h1 hk V))
theorem Ck.xo(h:Ck T nu pc pa nb un if' cf po rp ir mv){cp:Nat}(hcp:T[cp]?=some (bK pc))(n:Nat){k:Nat}(h1:1<=k)(hk:k<=10):aw T (n+3) cp [.int k]=some .non:=(aq hcp).trans (gH (by rw[h.Bh,decide_eq_true (by lia)]))
theorem Ck.plain(h:Ck T nu pc pa nb un if' cf po rp ir mv){cp pl:Nat}(hcp:T[cp]?=some (bK pc))(hpl:T[pl]?=some (gI cp))(n:Nat){k:Nat}(h1:1<=k)(hk:k<=10):aw T (n+4) pl [.int k]=some (.tup (L (aM k))):=(aq hpl).trans (run_plain hk (h.xo hcp n h1 hk))
end
inductive Pl:Nat->D->Prop
 | int (n:Nat) (i:Int):Pl n (.int i)
 | bl (n:Nat) (b:Bool):Pl n (.bl b)
 | str (n:Nat) (x:PySem.Str):Pl n (.str x)
 | tup (n:Nat) (xs:List D) (hl:xs.length<=1000) (h:∀ x∈xs,Pl n x):Pl (n+1) (.tup xs)
 | lst (n:Nat) (xs:List D) (hl:xs.length<=1000) (h:∀ x∈xs,Pl n x):Pl (n+1) (.lst xs)
theorem qk{cl:Cl}{fs:Nat}(a:Bool):evF cl (cn fs) [.bl a,.bl a]=some (.bl true):=iI rfl rfl rfl rfl rfl rfl (xq a)
theorem same_str{cl:Cl}{fs:Nat}(x:PySem.Str):evF cl (cn fs) [.str x,.str x]=some (.bl true):=iI rfl rfl rfl rfl rfl rfl (show some (x == x)=some true by rw[beq_self_eq_true])
theorem sameAll{T:List Fn}{sm:Nat}(h:T[sm]?=some (cn sm)):∀ (k n:Nat) (d:D),Pl k d->k<=n->aw T (n+1) sm [d,d]=some (.bl true):=by
 intro k
 induction k with
 |zero=>
  intro n d p _
  cases p with
  | int=>exact(aq h).trans (same_int _)
  | bl=>exact(aq h).trans (qk _)
  | str=>exact(aq h).trans (same_str _)
 |succ k ih=>
  intro n d p hn
  cases p with
  | int=>exact(aq h).trans (same_int _)
  | bl=>exact(aq h).trans (qk _)
  | str=>exact(aq h).trans (same_str _)
  |tup _ xs hl hx=>
   obtain⟨m,rfl⟩:∃ m,n=m+1:=⟨n-1,by lia⟩
   exact(aq h).trans (nZ (.inl rfl) hl fun x hd=>ih m x (hx x hd) (by lia))
  |lst _ xs hl hx=>
   obtain⟨m,rfl⟩:∃ m,n=m+1:=⟨n-1,by lia⟩
   exact(aq h).trans (nZ (.inr rfl) hl fun x hd=>ih m x (hx x hd) (by lia))
theorem Pl.L{n:Nat}{xs:List Nat}(h:xs.length<=1000):Pl (n+1) (.tup (L xs)):=.tup _ _ (by rw[bC];exact h) fun x hx=>by
 obtain⟨a,_,rfl⟩:=List.mem_map.mp hx
 exact .int _ _
theorem zK{n:Nat}{f g:List Nat}(hf:f.length=n)(hg:g.length=n)(h:∀ x,x<n->at' f x=at' g x):f=g:=by
 refine List.ext_getElem? fun x=>?_
 by_cases hx:x<n
 ·rw[eu (by lia),eu (by lia),h x hx]
 ·rw[List.getElem?_eq_none (by lia),List.getElem?_eq_none (by lia)]
theorem jz:∀ {a b:List Nat},a.Nodup->(∀ x∈a,x∈b)->a.length<=b.length
 | [],_,_,_=>Nat.zero_le _
 | x::r,b,hn,h=>by
  rw[List.nodup_cons]at hn
  have hx:=h x List.mem_cons_self
  have:=jz (a:=r) (b:=b.erase x) hn.2 fun y hy=>(List.mem_erase_of_ne (fun e=>hn.1 (by rw[<-e];exact hy))).mpr (h y (List.mem_cons_of_mem _ hy))
  rw[List.length_erase_of_mem hx]at this
  have:0<b.length:=List.length_pos_of_mem hx
  simp only[List.length_cons]
  lia
theorem j7{f:D->D->Option Bool}:∀ xs:List D,(∀ x∈xs,f x x=some true)->eqs f xs xs=some true
 | [],_=>rfl
 | x::r,h=>by
  rw[eqs,h x List.mem_cons_self,Option.bind_some,j7 r fun y hy=>h y (List.mem_cons_of_mem _ hy)]
  rfl
theorem CH:∀ (k n:Nat) (d:D),Pl k d->k<=n->eqD n d d=some true:=by
 intro k
 induction k with
 |zero=>
  intro n d p _
  cases p with
  | int i=>cases n<;>simp[eqD]
  | bl i=>cases n<;>simp[eqD]
  | str i=>cases n<;>simp[eqD]
 |succ k ih=>
  intro n d p hn
  obtain⟨m,rfl⟩:∃ m,n=m+1:=⟨n-1,by lia⟩
  cases p with
  | int i=>simp[eqD]
  | bl i=>simp[eqD]
  | str i=>simp[eqD]
  | tup _ xs hl h=>rw[eqD,j7 xs fun x hx=>ih m x (h x hx) (by lia)];simp
  | lst _ xs hl h=>rw[eqD,j7 xs fun x hx=>ih m x (h x hx) (by lia)];simp
theorem Cw{k:Nat}{d:D}(p:Pl k d)(h:k<=8):bc .ne d d=some false:=by
 show(eqD 8 d d).map not=some false
 rw[CH k 8 d p h];rfl
theorem CO{ns:List Int}(hl:ns.length<=63):sx (.scr (LI ns)) (.int 63)=some (.lst (LI ns)):=by
 show some (D.lst ((LI ns).take (cutAt (LI ns).length 63)))=_
 rw[List.take_of_length_le]
 have:(LI ns).length=ns.length:=by simp[LI]
 rw[this]
 unfold cutAt
 rw[if_pos (by decide)]
 have:(63:Int).toNat=63:=rfl
 lia
theorem wb{cl:Cl}{m N:Nat}{M:List Nat}{B:Ss}{ns:List Int}(hl:ns.length<=63)(hN:N<=1000)
 (turn:∀ (k:Nat) (os:List (Option D)),k<N->os.length=m->∃ os',os'.length=m+1/\ag cl M B (some (.lst (LI ns))::some (.int (k:Nat))::os)=some (.nx,some (.lst (LI ns))::os')) :
  evF cl ⟨1,m+2,M,[],.cons (.asg 0 (.slT (.var 0) (.cst (.int 63)))) (.cons (.forr [1] (.rng1 (.cst (.int (N:Nat)))) B) (.cons (.ret (.cst (.bl true))) .nil))⟩ [.scr (LI ns)]=some (.bl true):=by
 have e1:=dR (n:=N) hN
 obtain⟨σ',e,os,hos,rfl⟩:=fG (f:=ag cl M B) (tg:=[1]) (xs:=List.range N) (σ:=some (.lst (LI ns))::List.replicate (m+1) none) (fun _ σ=>∃ os:List (Option D),os.length=m+1/\σ=some (.lst (LI ns))::os) ⟨_,by simp,rfl⟩ (by
  rintro p x q σ hx ⟨os,ho,rfl⟩
  have hxN:x<N:=by
   have:x∈List.range N:=by rw[hx];simp
   simpa using this
  cases os with
  | nil=>simp at ho
  |cons o os=>
   obtain⟨os',h1,h2⟩:=turn x os hxN (by simpa using ho)
   exact⟨_,by simpa[aT]using h2,os',h1,rfl⟩)
 exact bh rfl rfl (aK (Cm (aa rfl) ao (CO hl)) (by simp[ba,D.imm,aO,tq]) (gJ (iP ao e1) e (br ao rfl)))
section
variable{cl:Cl}{n:Nat}{f:List Nat}
end
section
variable{T:List Fn}{nu pc pa nb un if' cf po rp ir mv:Nat}
end
end RM
set_option maxHeartbeats 1000000
namespace RT
open RL
end RT
namespace RM
open RL RT
section
variable{cl:Cl}{n:Nat}{f:List Nat}
end
structure Two(m:Nat)(a b:Nat->Nat):Prop where
 al:∀ x,x<m->a x<m
 bl:∀ x,x<m->b x<m
 ai:∀ x,x<m->a (a x)=x
 bi:∀ x,x<m->b (b x)=x
theorem Two.swap{m:Nat}{a b:Nat->Nat}(T:Two m a b):Two m b a:=⟨T.bl,T.al,T.bi,T.ai⟩
noncomputable def wk(a b:Nat->Nat)(x:Nat):Nat->Nat
 | 0=>x
 | k+1=>if k%2=0 then b (wk a b x k)else a (wk a b x k)
noncomputable def Stp(a b:Nat->Nat)(x k:Nat):Prop:=wk a b x (k+1)=wk a b x k\/wk a b x (k+1)=x
noncomputable instance{a b:Nat->Nat}{x k:Nat}:Decidable (Stp a b x k):=inferInstanceAs (Decidable (_\/_))
section
variable{m:Nat}{a b:Nat->Nat}{x:Nat}
theorem cQ{k:Nat}(h:k%2=0):wk a b x (k+1)=b (wk a b x k):=by rw[wk,if_pos h]
theorem fw{k:Nat}(h:k%2=1):wk a b x (k+1)=a (wk a b x k):=by rw[wk,if_neg (by lia)]
theorem fv(T:Two m a b)(hx:x<m):∀ k,wk a b x k<m
 | 0=>hx
 | k+1=>by
  rw[wk]
  split
  ·exact T.bl _ (fv T hx k)
  ·exact T.al _ (fv T hx k)
theorem gw(T:Two m a b)(hx:x<m)(k:Nat):(if k%2=0 then b (wk a b x (k+1))else a (wk a b x (k+1)))=wk a b x k:=by
 have h:=fv T hx k
 rw[wk]
 split
 ·exact T.bi _ h
 ·exact T.ai _ h
theorem Aa(T:Two m a b)(hx:x<m){i j:Nat}(hp:i%2=j%2)(h:wk a b x (i+1)=wk a b x (j+1)):wk a b x i=wk a b x j:=by
 rw[<-gw T hx i,<-gw T hx j,h,hp]
theorem pU(T:Two m a b)(hx:x<m){k:Nat}(hs:∀ j,j<k->¬ Stp a b x j){d:Nat}(hd:d%2=1):∀ i,i+(d+1)<=k->wk a b x i≠wk a b x (i+(d+1))
 | 0,hk,h=>hs d (by lia) (.inr (by rw[Nat.zero_add]at h;exact h.symm))
 | i+1,hk,h=>pU T hx hs hd i (by lia) (Aa T hx (i:=i) (j:=i+(d+1)) (by lia) (by rw[h];congr 1;lia))
theorem tM(T:Two m a b)(hx:x<m){k:Nat}(hs:∀ j,j<k->¬ Stp a b x j):∀ (c i:Nat),i+(2*c+1)<=k->wk a b x i≠wk a b x (i+(2*c+1))
 | 0,i,hk,h=>hs i (by lia) (.inl h.symm)
 | c+1,i,hk,h=>by
  refine tM T hx hs c (i+1) (by lia) ?_
  have h1:=gw T hx (i+(2*c+2))
  rw[show i+(2*c+2)+1=i+(2*(c+1)+1) by lia,<-h]at h1
  have h2:wk a b x (i+1)=if(i+(2*c+2))%2=0 then b (wk a b x i)else a (wk a b x i):=by
   rw[wk]
   have:(i+(2*c+2))%2=i%2:=by lia
   rw[this]
  rw[h2,h1]
  congr 1
  lia
theorem jY(T:Two m a b)(hx:x<m){k:Nat}(hs:∀ j,j<k->¬ Stp a b x j){i j:Nat}(hij:i<j)(hj:j<=k):wk a b x i≠wk a b x j:=by
 obtain⟨d,rfl⟩:∃ d,j=i+(d+1):=⟨j-i-1,by lia⟩
 by_cases c:d%2=1
 ·exact pU T hx hs c i hj
 ·obtain⟨e,rfl⟩:∃ e,d=2*e:=⟨d / 2,by lia⟩
  exact tM T hx hs e i hj
theorem least{P:Nat->Prop} [DecidablePred P]:∀ n,P n->∃ k,k<=n/\P k/\∀ j,j<k->¬ P j:=by
 intro n
 induction n using Nat.strongRecOn with
 |_ n ih=>
  intro h
  by_cases c:∃ j,j<n/\P j
  ·obtain⟨j,hj,hp⟩:=c
   obtain⟨k,h1,h2,h3⟩:=ih j hj hp
   exact⟨k,by lia,h2,h3⟩
  ·exact⟨n,Nat.le_refl _,h,fun j hj hp=>c ⟨j,hj,hp⟩⟩
theorem jC(T:Two m a b)(hx:x<m):∃ k,k<m/\Stp a b x k/\∀ j,j<k->¬ Stp a b x j:=by
 by_cases c:∃ k,k<m/\Stp a b x k
 ·obtain⟨k,h1,h2⟩:=c
  obtain⟨j,h3,h4,h5⟩:=least k h2
  exact⟨j,by lia,h4,h5⟩
 ·exfalso
  have hs:∀ j,j<m->¬ Stp a b x j:=fun j hj h=>c ⟨j,hj,h⟩
  have nd:((List.range (m+1)).map (wk a b x)).Nodup:=by
   rw[List.nodup_iff_pairwise_ne,List.pairwise_map]
   refine List.Pairwise.imp_of_mem ?_ (List.pairwise_lt_range (n:=m+1))
   intro i j hi hj hlt
   exact jY T hx hs hlt (by have:=List.mem_range.mp hj;lia)
  have:=jz nd (b:=List.range m) fun y hy=>by
   obtain⟨i,_,rfl⟩:=List.mem_map.mp hy
   exact List.mem_range.mpr (fv T hx i)
  simp at this
  lia
inductive Cn (a b:Nat->Nat) (x:Nat):Nat->Prop
 | refl:Cn a b x x
 | sa {y:Nat}:Cn a b x y->Cn a b x (a y)
 | sb {y:Nat}:Cn a b x y->Cn a b x (b y)
theorem Cn.lt(T:Two m a b)(hx:x<m){y:Nat}(h:Cn a b x y):y<m:=by
 induction h with
 | refl=>exact hx
 | sa _ ih=>exact T.al _ ih
 | sb _ ih=>exact T.bl _ ih
theorem Cn.trans{y z:Nat}(h:Cn a b x y)(h':Cn a b y z):Cn a b x z:=by
 induction h' with
 | refl=>exact h
 | sa _ ih=>exact .sa ih
 | sb _ ih=>exact .sb ih
theorem Cn.symm(T:Two m a b)(hx:x<m){y:Nat}(h:Cn a b x y):Cn a b y x:=by
 induction h with
 | refl=>exact .refl
 |@sa y h ih=>
  have:=Cn.sa (a:=a) (b:=b) (Cn.refl (x:=a y))
  rw[T.ai _ (h.lt T hx)]at this
  exact this.trans ih
 |@sb y h ih=>
  have:=Cn.sb (a:=a) (b:=b) (Cn.refl (x:=b y))
  rw[T.bi _ (h.lt T hx)]at this
  exact this.trans ih
theorem Cn.flip{y:Nat}(h:Cn a b x y):Cn b a x y:=by
 induction h with
 | refl=>exact .refl
 | sa _ ih=>exact .sb ih
 | sb _ ih=>exact .sa ih
theorem jW:∀ k,Cn a b x (wk a b x k)
 | 0=>.refl
 | k+1=>by
  rw[wk]
  split
  ·exact .sb (jW k)
  ·exact .sa (jW k)
theorem pZ(T:Two m a b)(hx:x<m){k:Nat}(st:Stp a b x k)(hs:∀ j,j<k->¬ Stp a b x j)(h:a x=x\/∀ y,Cn a b x y->a y≠y/\b y≠y){y:Nat}(hy:Cn a b x y):∃ i,i<=k/\wk a b x i=y:=by
 have bx:∃ i,i<=k/\wk a b x i=b x:=by
  by_cases c:k=0
  ·subst c
   refine⟨0,Nat.le_refl _,?_⟩
   rcases st with st | st
   ·rw[cQ rfl]at st;exact st.symm
   ·rw[cQ rfl]at st;exact st.symm
  ·exact⟨1,by lia,cQ rfl⟩
 have key:∀ j,0<j->j<=k->(∃ i,i<=k/\wk a b x i=a (wk a b x j))/\∃ i,i<=k/\wk a b x i=b (wk a b x j):=by
  intro j h0 hj
  have prev:=gw T hx (j-1)
  rw[show j-1+1=j by omega]at prev
  have next:∃ i,i<=k/\wk a b x i=wk a b x (j+1):=by
   by_cases c:j<k
   ·exact⟨j+1,by lia,rfl⟩
   ·have:j=k:=by lia
    subst this
    rcases st with st | st
    ·exact⟨j,Nat.le_refl _,st.symm⟩
    ·exact⟨0,by lia,st.symm⟩
  by_cases c:j%2=0
  ·rw[if_neg (by lia)]at prev
   rw[cQ c]at next
   exact⟨⟨j-1,by lia,prev.symm⟩,next⟩
  ·rw[if_pos (by lia)]at prev
   rw[fw (by lia)]at next
   exact⟨next,⟨j-1,by omega,prev.symm⟩⟩
 have ax:∃ i,i<=k/\wk a b x i=a x:=by
  rcases h with h | h
  ·exact⟨0,by lia,h.symm⟩
  ·rcases st with st | st
   ·exfalso
    have hc:=h _ (jW k)
    by_cases c:k%2=0
    ·rw[cQ c]at st;exact hc.2 st
    ·rw[fw (by lia)]at st;exact hc.1 st
   ·by_cases c:k%2=0
    ·exfalso
     rw[cQ c]at st
     have e:wk a b x k=b x:=by
      have:=congrArg b st
      rw[T.bi _ (fv T hx k)]at this
      exact this
     by_cases k0:k=0
     ·subst k0
      exact(h x .refl).2 e.symm
     ·have:wk a b x 1=b x:=cQ rfl
      exact jY T hx hs (i:=1) (j:=k) (by lia) (Nat.le_refl _) (by rw[this,e])
    ·rw[fw (by lia)]at st
     exact⟨k,Nat.le_refl _,by
      have:=congrArg a st
      rw[T.ai _ (fv T hx k)]at this
      exact this⟩
 induction hy with
 | refl=>exact⟨0,by lia,rfl⟩
 |sa _ ih=>
  obtain⟨i,hi,rfl⟩:=ih
  by_cases c:i=0
  ·subst c;exact ax
  ·exact(key i (by lia) hi).1
 |sb _ ih=>
  obtain⟨i,hi,rfl⟩:=ih
  by_cases c:i=0
  ·subst c;exact bx
  ·exact(key i (by lia) hi).2
theorem l3(T:Two m a b)(hx:x<m){k:Nat}(st:Stp a b x k)(hs:∀ j,j<k->¬ Stp a b x j)(hb:∀ y,y<m->b y≠y)(ha:a x=x):k%2=1/\a (wk a b x k)=wk a b x k:=by
 have lk:=fv T hx k
 by_cases c:k%2=0
 ·exfalso
  rcases st with st | st
  ·rw[cQ c]at st
   exact hb _ lk st
  ·rw[cQ c]at st
   have e:wk a b x k=b x:=by
    have:=congrArg b st
    rw[T.bi _ lk]at this
    exact this
   by_cases k0:k=0
   ·subst k0
    exact hb x hx e.symm
   ·have:wk a b x 1=b x:=cQ rfl
    exact jY T hx hs (i:=1) (j:=k) (by lia) (Nat.le_refl _) (by rw[this,e])
 ·refine⟨by lia,?_⟩
  rcases st with st | st
  ·rw[fw (by lia)]at st;exact st
  ·exfalso
   rw[fw (by lia)]at st
   have e:wk a b x k=x:=by rw[<-T.ai _ lk,st,ha]
   exact jY T hx hs (i:=0) (j:=k) (by lia) (Nat.le_refl _) e.symm
end
structure dn(m:Nat)(a b:Nat->Nat)(S:List Nat):Prop where
 lt:∀ s∈S,s<m
 nd:S.Pairwise fun s t=>¬ Cn a b s t
 ring:∀ s∈S,∀ y,Cn a b s y->a y≠y/\b y≠y
 all:∀ x,x<m->(∃ s,s<m/\(a s=s\/b s=s)/\Cn a b s x)\/∃ s∈S,Cn a b s x
theorem dn.le{m:Nat}{a b:Nat->Nat}(T:Two m a b){S S':List Nat}(R:dn m a b S)(R':dn m a b S'):S.length<=S'.length:=by
 have pick:∀ s∈S,∃ t∈S',Cn a b t s:=fun s hs=>by
  rcases R'.all s (R.lt s hs)with⟨q,h1,h2,h3⟩ | h
  ·exfalso
   have:=R.ring s hs q (h3.symm T h1)
   rcases h2 with h2 | h2
   ·exact this.1 h2
   ·exact this.2 h2
  ·exact h
 have:∀ s,∃ t,s∈S->t∈S'/\Cn a b t s:=fun s=>by
  by_cases hs:s∈S
  ·obtain⟨t,h1,h2⟩:=pick s hs
   exact⟨t,fun _=>⟨h1,h2⟩⟩
  ·exact⟨0,fun z=>absurd z hs⟩
 obtain⟨g,hg⟩:=Classical.axiomOfChoice this
 have nd:(S.map g).Nodup:=by
  rw[List.nodup_iff_pairwise_ne,List.pairwise_map]
  refine List.Pairwise.imp_of_mem ?_ R.nd
  intro s t hs ht hn e
  obtain⟨h1,h2⟩:=hg s hs
  obtain⟨h3,h4⟩:=hg t ht
  rw[<-e]at h4
  exact hn ((h2.symm T (R'.lt _ h1)).trans h4)
 have:=jz nd (b:=S') fun y hy=>by
  obtain⟨s,hs,rfl⟩:=List.mem_map.mp hy
  exact(hg s hs).1
 simpa using this
theorem dn.one{m:Nat}{a b:Nat->Nat}(T:Two m a b){S S':List Nat}(R:dn m a b S)(R':dn m a b S'):S.length=S'.length:=Nat.le_antisymm (R.le T R') (R'.le T R)
theorem xu{t:St->Option Bool}{f:St->Option (Out × St)}{σ:Nat->St}{k:Nat}(h1:∀ i,i<k->t (σ i)=some true/\f (σ i)=some (.nx,σ (i+1)))(h2:t (σ k)=some false):∀ (d i fuel:Nat),i+d=k->d<fuel->whF t f fuel (σ i)=some (.nx,σ k)
 | 0,i,0,_,h=>by lia
 | 0,i,fuel+1,hi,_=>by
  have:i=k:=by lia
  subst this
  rw[whF,h2]
  rfl
 | d+1,i,0,_,h=>by lia
 | d+1,i,fuel+1,hi,hf=>by
  obtain⟨e1,e2⟩:=h1 i (by lia)
  rw[whF,e1,Option.bind_some,if_pos rfl,e2,Option.bind_some]
  exact xu h1 h2 d (i+1) fuel (by lia) (by lia)
section
variable{cl:Cl}{m x:Nat}{a b:Nat->Nat}{A B:D}
noncomputable def wH(A B:D):Nat->Option D
 | 0=>none
 | t+1=>some (if t%2=0 then A else B)
noncomputable def wks(a b:Nat->Nat)(x k:Nat):List Nat:=(List.range (k+1)).map (wk a b x)
theorem wd(k:Nat):wks a b x (k+1)=wks a b x k++[wk a b x (k+1)]:=by
 unfold wks
 rw[List.range_succ,List.map_append]
 rfl
theorem nr(k:Nat):ixV (.lst (L (wks a b x k))) (.int (-1))=some (.int (wk a b x k:Nat)):=by
 show bW (L (wks a b x k)) (-1)=_
 unfold bW
 have hl:(L (wks a b x k)).length=k+1:=by simp[L,wks]
 rw[if_neg (by decide),if_pos (by rw[hl];lia),hl,show((-1:Int)+((k+1:Nat):Int)).toNat=k by lia,mI]
 simp[wks]
theorem AQ{σ:St}:ev cl σ (.neg (.cst (.int 1)))=some (.int (-1)):=C6 ao
theorem qd(T:Two m a b)(hm:m<=1000)(hA:∀ x:Nat,x<m->ixV A (.int (x:Nat))=some (.int (a x:Nat)))(hB:∀ x:Nat,x<m->ixV B (.int (x:Nat))=some (.int (b x:Nat)))(hx:x<m) :
  ∃ k,k<m/\Stp a b x k/\(∀ j,j<k->¬ Stp a b x j)/\evF cl m9 [A,B,.int (x:Nat)]=some (.lst (L (wks a b x k))):=by
 obtain⟨k,hk,st,hs⟩:=jC T hx
 refine⟨k,hk,st,hs,?_⟩
 have cond:∀ (i:Nat) (o:Option D),(ev cl [some A,some B,some (.int (x:Nat)),some (.lst (L (wks a b x i))),some (.int (wk a b x (i+1):Nat)),o] (.inn true (.var 4) (.tup (.cons (.ix (.var 3) (.neg (.cst (.int 1)))) (.cons (.var 2) .nil))))).bind truth=some (!decide (Stp a b x i)):=fun i o=>by
  have hv:inV (.int (wk a b x (i+1):Nat)) (.tup [.int (wk a b x i:Nat),.int (x:Nat)])=some (decide (Stp a b x i)):=by
   show(if(flat (.int (wk a b x (i+1):Nat))&&[D.int (wk a b x i:Nat),.int (x:Nat)].all flat)=true then some ([D.int (wk a b x i:Nat),.int (x:Nat)].any fun y=>eqF y (.int (wk a b x (i+1):Nat)))else none)=_
   rw[if_pos (by simp[flat])]
   congr 1
   simp only[List.any_cons,List.any_nil,eqF,Bool.or_false]
   unfold Stp
   rw[Bool.eq_iff_iff]
   simp only[Bool.or_eq_true,beq_iff_eq,decide_eq_true_eq,Int.ofNat_inj]
   exact⟨fun h=>decide_eq_true (h.imp Eq.symm Eq.symm),fun h=>(of_decide_eq_true h).imp Eq.symm Eq.symm⟩
  exact bf (CP (n:=true) (aa rfl) (rN (aB (df (aa rfl) AQ (nr i)) (aB (aa rfl) bJ))) hv)
 have wh:=xu (t:=fun σ=>(ev cl σ (.inn true (.var 4) (.tup (.cons (.ix (.var 3) (.neg (.cst (.int 1)))) (.cons (.var 2) .nil))))).bind truth) (f:=ag cl [3] tU) (σ:=fun i=>[some A,some B,some (.int (x:Nat)),some (.lst (L (wks a b x i))),some (.int (wk a b x (i+1):Nat)),wH A B i]) (k:=k) (fun i hi=>by
  refine⟨by rw[cond];simp[hs i hi],?_⟩
  have hl:(L (wks a b x i)).length<most:=by simp[L,wks,most];lia
  have ha:L (wks a b x i)++[D.int (wk a b x (i+1):Nat)]=L (wks a b x (i+1)):=by rw[wd,da];rfl
  have ln:biV .len (.lst (L (wks a b x (i+1))))=some (.int ((i+2:Nat):Int)):=by
   show some (D.int ((L (wks a b x (i+1))).length:Nat))=_
   simp[L,wks]
   lia
  have md:aI .mod (.int ((i+2:Nat):Int)) (.int 2)=some (.int (((i+2)%2:Nat):Int)):=by rw[jh (by decide)];simp
  have lt:=fv T hx (i+1)
  refine tf (aa rfl) rfl rfl hl ?_
  rw[ha]
  by_cases c:i%2=0
  ·have h0:bc .eq (.int (((i+2)%2:Nat):Int)) (.int 0)=some true:=by
    rw[show(i+2)%2=0 by lia];rfl
   refine aK (d:=A) (mJ (k:=true) (bf (aZ (aA (bQ (aa rfl) ln) ao md) ao h0)) (aa rfl)) (by simp[ba,avE]) (aK (df (aa rfl) (aa rfl) (hA _ lt)) rfl ?_)
   rw[aS]
   show some (Out.nx,[some A,some B,some (D.int (x:Nat)),some (.lst (L (wks a b x (i+1)))),some (.int (a (wk a b x (i+1)):Nat)),some A])=_
   rw[<-fw (a:=a) (b:=b) (x:=x) (k:=i+1) (by lia)]
   simp[wH,c]
  ·have h0:bc .eq (.int (((i+2)%2:Nat):Int)) (.int 0)=some false:=by
    rw[show(i+2)%2=1 by lia];rfl
   refine aK (d:=B) (mJ (k:=false) (bf (aZ (aA (bQ (aa rfl) ln) ao md) ao h0)) (aa rfl)) (by simp[ba,avE]) (aK (df (aa rfl) (aa rfl) (hB _ lt)) rfl ?_)
   rw[aS]
   show some (Out.nx,[some A,some B,some (D.int (x:Nat)),some (.lst (L (wks a b x (i+1)))),some (.int (b (wk a b x (i+1)):Nat)),some B])=_
   rw[<-cQ (a:=a) (b:=b) (x:=x) (k:=i+1) (by lia)]
   simp[wH,c]) (by rw[cond];simp[st]) k 0 most (by lia) (by unfold most;lia)
 have w1:wk a b x (0+1)=b x:=cQ rfl
 rw[w1]at wh
 exact bh rfl rfl (ko (d:=.lst (L (wks a b x 0))) (eI (aB (aa rfl) bJ)) rfl (aK (df (aa rfl) (aa rfl) (hB x hx)) rfl (BB wh (br (aa rfl) (by simp[bt,aO,bA,m9])))))
end
theorem zN{cl:Cl}{fn:Fn}{ds:List D}{σ':St}{o:D}(hl:ds.length=fn.ps)(hm:fn.mp=[0])(h:ag cl fn.M fn.body (ds.map some++List.replicate (fn.nn-fn.ps) none)=some (.nx,σ'))(ho:(σ'[0]?).bind id=some o):evF cl fn ds=some (.tup [.non,o]):=by
 unfold evF
 rw[if_pos hl,h]
 show aP fn .non σ'=_
 unfold aP
 rw[hm]
 show(if D.non.imm=true then Option.map _ (cY σ' [0])else none)=_
 rw[if_pos (show D.non.imm=true from rfl),cY,ho]
 rfl
noncomputable def BL(s:List Bool):List D:=s.map D.bl
theorem sV:∀ s:List Bool,ay (BL s)=true
 | []=>rfl
 | x::r=>by
  show((D.bl x).imm&&ay (BL r))=true
  rw[sV r];rfl
noncomputable def Sn(m:Nat)(s:List Bool)(P:Nat->Prop):Prop:=s.length=m/\∀ y,y<m->(s[y]?=some true↔P y)
theorem Sn.set{m:Nat}{s:List Bool}{P:Nat->Prop}(h:Sn m s P){p:Nat}(hp:p<m):Sn m (s.set p true) (fun y=>P y\/y=p):=by
 obtain⟨h1,h2⟩:=h
 refine⟨by simp[h1],fun y hy=>?_⟩
 rw[List.getElem?_set]
 by_cases c:p=y
 ·subst c
  rw[if_pos rfl,if_pos (by lia)]
  exact⟨fun _=>.inr rfl,fun _=>rfl⟩
 ·rw[if_neg c,h2 y hy]
  exact⟨.inl,fun z=>z.resolve_right fun e=>c e.symm⟩
theorem Sn.congr{m:Nat}{s:List Bool}{P Q:Nat->Prop}(h:Sn m s P)(e:∀ y,y<m->(P y↔Q y)):Sn m s Q:=⟨h.1,fun y hy=>(h.2 y hy).trans (e y hy)⟩
section
variable{cl:Cl}{m:Nat}{a b:Nat->Nat}{A B:D}
theorem wu{s:List Bool}{P:Nat->Prop}(h:Sn m s P){ps:List Nat}(hp:∀ p∈ps,p<m):∃ s',Sn m s' (fun y=>P y\/y∈ps)/\evF cl oI [.lst (BL s),.lst (L ps)]=some (.tup [.non,.lst (BL s')]):=by
 obtain⟨σ',e,s',o,rfl,hs⟩:=fG (f:=ag cl [0,0] qb) (tg:=[2]) (xs:=ps) (σ:=[some (.lst (BL s)),some (.lst (L ps)),none]) (fun u σ=>∃ (s':List Bool) (o:Option D),σ=[some (.lst (BL s')),some (.lst (L ps)),o]/\Sn m s' fun y=>P y\/y∈u) ⟨s,none,rfl,h.congr fun y _=>by simp⟩ (by
  rintro u p v σ hu ⟨s',o,rfl,hs⟩
  have hpm:=hp p (by rw[hu];simp)
  have hl:(BL s').length=m:=by simp[BL,hs.1]
  have hput:gg (.lst (BL s')) (.int (p:Nat)) (.bl true)=some (.lst (BL (s'.set p true))):=by
   show Option.map (fun j=>D.lst ((BL s').set j (.bl true))) (jE (BL s').length (p:Int))=_
   rw[hl,nO hpm]
   simp[BL,List.map_set]
  refine⟨_,B0 (cl:=cl) (M:=[0,0]) (r:=.nil) ao (aa rfl) rfl rfl hput aS,s'.set p true,_,rfl,(hs.set hpm).congr fun y _=>by simp[or_assoc]⟩)
 exact⟨s',hs,zN rfl rfl (gJ (jT (aa rfl) rfl) e aS) rfl⟩
theorem yN{s:List Bool}{P:Nat->Prop}(h:Sn m s P){p:Nat}(hp:p<m):∃ v:Bool,ixV (.lst (BL s)) (.int (p:Nat))=some (.bl v)/\(v=true↔P p):=by
 have hl:p<s.length:=by rw[h.1];exact hp
 refine⟨s[p],?_,?_⟩
 ·show bW (BL s) (p:Int)=_
  rw[eD]
  simp[BL,hl]
 ·rw[<-h.2 p hp,List.getElem?_eq_getElem hl]
  simp
noncomputable def Pth(m:Nat)(a b:Nat->Nat)(y:Nat):Prop:=∃ s,s<m/\(a s=s\/b s=s)/\Cn a b s y
theorem qI{x k y:Nat}:y∈wks a b x k↔∃ i,i<=k/\wk a b x i=y:=by
 unfold wks
 rw[List.mem_map]
 constructor
 ·rintro⟨i,hi,e⟩
  exact⟨i,by have:=List.mem_range.mp hi;lia,e⟩
 ·rintro⟨i,hi,e⟩
  exact⟨i,List.mem_range.mpr (by lia),e⟩
theorem kM{fr:Nat}(T:Two m a b)(hr:∀ x:Nat,x<m->∃ k,k<m/\Stp a b x k/\(∀ j,j<k->¬ Stp a b x j)/\cl fr [A,B,.int (x:Nat)]=some (.lst (L (wks a b x k)))){x:Nat}(hx:x<m)(h:a x=x\/∀ y,Cn a b x y->a y≠y/\b y≠y) :
  ∃ ps:List Nat,(∀ p∈ps,p<m)/\(∀ y,y∈ps↔Cn a b x y)/\cl fr [A,B,.int (x:Nat)]=some (.lst (L ps)):=by
 obtain⟨k,_,st,hs,e⟩:=hr x hx
 refine⟨_,fun p hp=>?_,fun y=>?_,e⟩
 ·obtain⟨i,_,rfl⟩:=qI.mp hp
  exact fv T hx i
 ·rw[qI]
  exact⟨fun⟨i,_,e⟩=>e▸jW i,fun hy=>pZ T hx st hs h hy⟩
theorem oK{fm fr:Nat}(T:Two m a b)(hm:m<=1000)(lA:biV .len A=some (.int (m:Nat)))
 (hA:∀ x:Nat,x<m->ixV A (.int (x:Nat))=some (.int (a x:Nat)))(hB:∀ x:Nat,x<m->ixV B (.int (x:Nat))=some (.int (b x:Nat)))
 (hr:∀ x:Nat,x<m->∃ k,k<m/\Stp a b x k/\(∀ j,j<k->¬ Stp a b x j)/\cl fr [A,B,.int (x:Nat)]=some (.lst (L (wks a b x k))))
 (hr':∀ x:Nat,x<m->∃ k,k<m/\Stp b a x k/\(∀ j,j<k->¬ Stp b a x j)/\cl fr [B,A,.int (x:Nat)]=some (.lst (L (wks b a x k))))
 (hk:∀ (s:List Bool) (P:Nat->Prop) (ps:List Nat),Sn m s P->(∀ p∈ps,p<m)->∃ s',Sn m s' (fun y=>P y\/y∈ps)/\cl fm [.lst (BL s),.lst (L ps)]=some (.tup [.non,.lst (BL s')])) :
  ∃ S:List Nat,dn m a b S/\evF cl (iw fm fr) [A,B]=some (.int (S.length:Nat)):=by
 have e1:=dR (n:=m) hm
 obtain⟨σ1,l1,s1,o1,rfl,hs1⟩:=fG (f:=ag cl [2] (gm fm fr)) (tg:=[3]) (xs:=List.range m) (σ:=[some A,some B,some (.lst (BL (List.replicate m false))),none,none]) (fun u σ=>∃ (s:List Bool) (o:Option D),σ=[some A,some B,some (.lst (BL s)),o,none]/\Sn m s fun y=>∃ x,x∈u/\(a x=x\/b x=x)/\Cn a b x y)
  ⟨_,none,rfl,by simp,fun y hy=>by
   simp[List.getElem?_replicate,hy]⟩ (by
  rintro u x v σ hu ⟨s,o,rfl,hs⟩
  have hx:x<m:=by
   have:x∈List.range m:=by rw[hu];simp
   simpa using this
  show ∃ σ2,ag cl [2] (gm fm fr) [some A,some B,some (.lst (BL s)),some (.int (x:Nat)),none]=some (.nx,σ2)/\_
  obtain⟨s2,hs2,k2⟩:∃ s2,Sn m s2 (fun y=>(∃ x,x∈u/\(a x=x\/b x=x)/\Cn a b x y)\/(a x=x/\Cn a b x y))/\∀ (r:Ss) (res:Option (Out × St)),ag cl [2] r [some A,some B,some (.lst (BL s2)),some (.int (x:Nat)),none]=res->ag cl [2] (.cons (.ife (.cmp .eq (.ix (.var 0) (.var 3)) (.var 3)) (.cons (.mexc fm (.cons (.var 2) (.cons (.call fr (.cons (.var 0) (.cons (.var 1) (.cons (.var 3) .nil)))) .nil)) [0] [2]) .nil) .nil) r) [some A,some B,some (.lst (BL s)),some (.int (x:Nat)),none]=res:=by
   by_cases c:a x=x
   ·obtain⟨ps,p1,p2,p3⟩:=kM T hr hx (.inl c)
    obtain⟨s',hs',e⟩:=hk s _ ps hs p1
    refine⟨s',hs'.congr fun y _=>by rw[p2];simp[c],fun r res k=>eL (bf (aZ (df (aa rfl) (aa rfl) (hA x hx)) (aa rfl) (by rw[gf,c];simp))) (kK (aB (aa rfl) (aB (l7 (aa rfl) (aa rfl) (aa rfl) p3) bJ)) (by simp[cI,isVar,ba,D.imm,aO,bA]) e rfl aS) k⟩
   ·refine⟨s,hs.congr fun y _=>by simp[c],fun r res k=>bR (bf (aZ (df (aa rfl) (aa rfl) (hA x hx)) (aa rfl) (by rw[gf];congr 1;simp;lia))) k⟩
  obtain⟨s3,hs3,k3⟩:∃ s3,Sn m s3 (fun y=>((∃ x,x∈u/\(a x=x\/b x=x)/\Cn a b x y)\/(a x=x/\Cn a b x y))\/(b x=x/\Cn a b x y))/\ag cl [2] (.cons (.ife (.cmp .eq (.ix (.var 1) (.var 3)) (.var 3)) (.cons (.mexc fm (.cons (.var 2) (.cons (.call fr (.cons (.var 1) (.cons (.var 0) (.cons (.var 3) .nil)))) .nil)) [0] [2]) .nil) .nil) .nil) [some A,some B,some (.lst (BL s2)),some (.int (x:Nat)),none]=some (.nx,[some A,some B,some (.lst (BL s3)),some (.int (x:Nat)),none]):=by
   by_cases c:b x=x
   ·obtain⟨ps,p1,p2,p3⟩:=kM T.swap hr' hx (.inl c)
    obtain⟨s',hs',e⟩:=hk s2 _ ps hs2 p1
    refine⟨s',hs'.congr fun y _=>?_,eL (bf (aZ (df (aa rfl) (aa rfl) (hB x hx)) (aa rfl) (by rw[gf,c];simp))) (kK (aB (aa rfl) (aB (l7 (aa rfl) (aa rfl) (aa rfl) p3) bJ)) (by simp[cI,isVar,ba,D.imm,aO,bA]) e rfl aS) aS⟩
    rw[p2]
    have:Cn b a x y↔Cn a b x y:=⟨Cn.flip,Cn.flip⟩
    simp[c,this]
   ·exact⟨s2,hs2.congr fun y _=>by simp[c],bR (bf (aZ (df (aa rfl) (aa rfl) (hB x hx)) (aa rfl) (by rw[gf];congr 1;simp;lia))) aS⟩
  refine⟨_,k2 _ _ k3,s3,_,rfl,hs3.congr fun y _=>?_⟩
  constructor
  ·rintro((⟨z,h1,h2,h3⟩ | ⟨h1,h2⟩) | ⟨h1,h2⟩)
   ·exact⟨z,by simp[h1],h2,h3⟩
   ·exact⟨x,by simp,.inl h1,h2⟩
   ·exact⟨x,by simp,.inr h1,h2⟩
  ·rintro⟨z,h1,h2,h3⟩
   rcases List.mem_append.mp h1 with h1 | h1
   ·exact .inl (.inl ⟨z,h1,h2,h3⟩)
   ·have:z=x:=by simpa using h1
    subst this
    rcases h2 with h2 | h2
    ·exact .inl (.inr ⟨h2,h3⟩)
    ·exact .inr ⟨h2,h3⟩)
 have hs1':Sn m s1 (Pth m a b):=hs1.congr fun y _=>⟨fun⟨x,h1,h2,h3⟩=>⟨x,by simpa using h1,h2,h3⟩,fun⟨x,h1,h2,h3⟩=>⟨x,by simpa using h1,h2,h3⟩⟩
 obtain⟨σ2,l2,s2,o2,S,rfl,hs2,c1,c2,c3,c4⟩:=fG (f:=ag cl [2] (gq fm fr)) (tg:=[3]) (xs:=List.range m) (σ:=[some A,some B,some (.lst (BL s1)),o1,some (.int ((([]:List Nat).length:Nat):Int))]) (fun u σ=>∃ (s:List Bool) (o:Option D) (S:List Nat),σ=[some A,some B,some (.lst (BL s)),o,some (.int (S.length:Nat))]/\Sn m s (fun y=>Pth m a b y\/∃ t∈S,Cn a b t y)/\(∀ t∈S,t<m)/\(S.Pairwise fun t t'=>¬ Cn a b t t')/\(∀ t∈S,¬ Pth m a b t)/\∀ y∈u,Pth m a b y\/∃ t∈S,Cn a b t y)
  ⟨s1,o1,[],rfl,hs1'.congr fun y _=>by simp,by simp,.nil,by simp,by simp⟩ (by
  rintro u x v σ hu ⟨s,o,S,rfl,hs,c1,c2,c3,c4⟩
  have hx:x<m:=by
   have:x∈List.range m:=by rw[hu];simp
   simpa using this
  show ∃ σ2,ag cl [2] (gq fm fr) [some A,some B,some (.lst (BL s)),some (.int (x:Nat)),some (.int (S.length:Nat))]=some (.nx,σ2)/\_
  obtain⟨w,w1,w2⟩:=yN hs hx
  cases w with
  |true=>
   refine⟨_,bR (bf (cT (df (aa rfl) (aa rfl) w1))) aS,s,_,S,rfl,hs,c1,c2,c3,fun y hy=>?_⟩
   rcases List.mem_append.mp hy with hy | hy
   ·exact c4 y hy
   ·have:y=x:=by simpa using hy
    subst this
    exact w2.mp rfl
  |false=>
   have hn:¬ (Pth m a b x\/∃ t∈S,Cn a b t x):=fun z=>Bool.noConfusion (w2.mpr z)
   have np:¬ Pth m a b x:=fun z=>hn (.inl z)
   have ring:∀ y,Cn a b x y->a y≠y/\b y≠y:=fun y hy=>⟨fun e=>np ⟨y,hy.lt T hx,.inl e,hy.symm T hx⟩,fun e=>np ⟨y,hy.lt T hx,.inr e,hy.symm T hx⟩⟩
   obtain⟨ps,p1,p2,p3⟩:=kM T hr hx (.inr ring)
   obtain⟨s',hs',e⟩:=hk s _ ps hs p1
   refine⟨_,eL (bf (cT (df (aa rfl) (aa rfl) w1))) (zR rfl ao c6 (kK (aB (aa rfl) (aB (l7 (aa rfl) (aa rfl) (aa rfl) p3) bJ)) (by simp[cI,isVar,ba,D.imm,aO,bA]) e rfl aS)) aS,s',_,S++[x],by simp;rfl,hs'.congr fun y _=>?_,fun t ht=>?_,?_,fun t ht=>?_,fun y hy=>?_⟩
   ·rw[p2]
    constructor
    ·rintro((h | ⟨t,h1,h2⟩) | h)
     ·exact .inl h
     ·exact .inr ⟨t,by simp[h1],h2⟩
     ·exact .inr ⟨x,by simp,h⟩
    ·rintro(h | ⟨t,h1,h2⟩)
     ·exact .inl (.inl h)
     ·rcases List.mem_append.mp h1 with h1 | h1
      ·exact .inl (.inr ⟨t,h1,h2⟩)
      ·have:t=x:=by simpa using h1
       subst this
       exact .inr h2
   ·rcases List.mem_append.mp ht with ht | ht
    ·exact c1 t ht
    ·have:t=x:=by simpa using ht
     subst this
     exact hx
   ·rw[List.pairwise_append]
    refine⟨c2,by simp,fun t ht t' ht' z=>?_⟩
    have:t'=x:=by simpa using ht'
    subst this
    exact hn (.inr ⟨t,ht,z⟩)
   ·rcases List.mem_append.mp ht with ht | ht
    ·exact c3 t ht
    ·have:t=x:=by simpa using ht
     subst this
     exact np
   ·rcases List.mem_append.mp hy with hy | hy
    ·rcases c4 y hy with h | ⟨t,h1,h2⟩
     ·exact .inl h
     ·exact .inr ⟨t,by simp[h1],h2⟩
    ·have:y=x:=by simpa using hy
     subst this
     exact .inr ⟨y,by simp,.refl⟩)
 refine⟨S,⟨c1,c2,fun t ht y hy=>⟨fun e=>c3 t ht ⟨y,hy.lt T (c1 t ht),.inl e,hy.symm T (c1 t ht)⟩,fun e=>c3 t ht ⟨y,hy.lt T (c1 t ht),.inr e,hy.symm T (c1 t ht)⟩⟩,fun x hx=>c4 x (by simpa using hx)⟩,?_⟩
 have e0:aI .mul (.lst [.bl false]) (.int (m:Nat))=some (.lst (BL (List.replicate m false))):=by
  dsimp only[aI]
  rw[if_pos ⟨by lia,by unfold most;lia,by simp[most];lia⟩]
  simp[BL]
 exact bh rfl rfl (ko (aA (eI (aB ao bJ)) (bQ (aa rfl) lA) e0) (by simp[aO,sV]) (gJ (iP (bQ (aa rfl) lA) e1) l1 (aK ao rfl (gJ (iP (bQ (aa rfl) lA) e1) l2 (br (aa rfl) rfl)))))
end
noncomputable def jn(n x:Nat):Nat:=if x<n then x else if x<2*n then x+n else if x<3*n then x-n else x
noncomputable def rb(n:Nat)(h l:List Nat)(x:Nat):Nat:=if x<2*n then at' h x else 2*n+at' l (x-2*n)
noncomputable def out(n p:Nat):Nat:=if p<n then p else p+2*n
section
variable{n:Nat}{h l:List Nat}
theorem two(F:Frm n h)(G:Frm n l):Two (4*n) (jn n) (rb n h l):=by
 refine⟨fun x hx=>?_,fun x hx=>?_,fun x hx=>?_,fun x hx=>?_⟩
 ·unfold jn;(repeat' split)<;>lia
 ·unfold rb
  split
  ·have:=F.lt x (by lia);lia
  ·have:=G.lt (x-2*n) (by omega);lia
 ·unfold jn;(repeat' split)<;>lia
 ·unfold rb
  by_cases c:x<2*n
  ·rw[if_pos c,if_pos (F.lt x c),F.inv]
  ·rw[if_neg c,if_neg (by lia),Nat.add_sub_cancel_left,G.inv]
   omega
theorem ig(F:Frm n h)(G:Frm n l){x:Nat}(hx:x<4*n):rb n h l x≠x:=by
 unfold rb
 split
 ·rename_i c
  exact F.no x c
 ·have:=G.no (x-2*n) (by omega)
  lia
theorem d8{p:Nat}(hp:p<2*n):out n p<4*n:=by unfold out;split<;>lia
theorem iB{p:Nat}(hp:p<2*n):jn n (out n p)=out n p:=by unfold out jn;(repeat' split)<;>lia
theorem ql{p q:Nat}(e:out n p=out n q)(hp:p<2*n)(hq:q<2*n):p=q:=by unfold out at e;(repeat' split at e)<;>lia
noncomputable def en2(n:Nat)(s:Bool × Nat):Nat:=if s.1 then s.2 else 2*n+s.2
theorem AW{s:Bool × Nat}(hs:s.2<2*n)(c:s.1=decide (n<=s.2)):en2 n (stp n h l s)=rb n h l (jn n (en2 n s)):=by
 obtain⟨b,q⟩:=s
 unfold stp
 rw[if_pos c]
 dsimp only at c hs ⊢
 rw[c]
 clear c
 by_cases c:n<=q
 ·have e:(q+n)%(2*n)=q-n:=by rw[Nat.mod_eq_sub_mod (by lia),Nat.mod_eq_of_lt (by omega)];lia
  have e2:jn n q=q+n:=by unfold jn;rw[if_neg (by lia),if_pos hs]
  simp only[c,decide_true,Bool.not_true,en2,pick,if_true,Bool.false_eq_true,if_false,e,e2,rb]
  rw[if_neg (by lia),show q+n-2*n=q-n by lia]
 ·have e:(q+n)%(2*n)=q+n:=Nat.mod_eq_of_lt (by lia)
  have e2:jn n (2*n+q)=n+q:=by unfold jn;rw[if_neg (by lia),if_neg (by lia),if_pos (by lia)];lia
  simp only[c,decide_false,Bool.not_false,en2,pick,if_true,Bool.false_eq_true,if_false,e,e2,rb]
  rw[if_pos (by lia),Nat.add_comm]
theorem r8{s:Bool × Nat}(hs:s.2<2*n):s.1=decide (n<=s.2)↔jn n (en2 n s)≠en2 n s:=by
 obtain⟨b,q⟩:=s
 dsimp only at hs
 cases b
 ·simp only[en2,Bool.false_eq_true,if_false]
  by_cases c:n<=q
  ·simp only[c,decide_true,Bool.false_eq_true,false_iff,Classical.not_not]
   unfold jn;rw[if_neg (by lia),if_neg (by lia),if_neg (by lia)]
  ·simp only[c,decide_false,true_iff]
   unfold jn;rw[if_neg (by lia),if_neg (by lia),if_pos (by lia)];lia
 ·simp only[en2,if_true]
  by_cases c:n<=q
  ·simp only[c,decide_true,true_iff]
   unfold jn;rw[if_neg (by lia),if_pos hs];lia
  ·simp only[c,decide_false,Bool.true_eq_false,false_iff,Classical.not_not]
   unfold jn;rw[if_pos (by lia)]
theorem xG{s:Bool × Nat}(c:¬ s.1=decide (n<=s.2)):stp n h l s=s:=by
 unfold stp
 rw[if_neg c]
theorem AE{p:Nat}(hp:p<2*n):en2 n (beg n h l p)=rb n h l (out n p):=by
 unfold beg en2 rb out pick
 by_cases c:p<n
 ·simp only[c,decide_true,if_true]
  rw[if_pos (by lia)]
 ·simp only[c,decide_false,Bool.false_eq_true,if_false]
  rw[if_neg (by lia),show p+2*n-2*n=p by lia]
theorem vz(F:Frm n h)(G:Frm n l){p k:Nat}(hp:p<2*n)(st:Stp (jn n) (rb n h l) (out n p) k)(hs:∀ j,j<k->¬ Stp (jn n) (rb n h l) (out n p) j) :
  ∀ j,en2 n (itr n h l j (beg n h l p))=wk (jn n) (rb n h l) (out n p) (if 2*j+1<=k then 2*j+1 else k):=by
 have T:=two F G
 obtain⟨k1,k2⟩:=l3 T (d8 hp) st hs (fun y hy=>ig F G hy) (iB hp)
 have blt:(beg n h l p).2<2*n:=by
  unfold beg pick
  dsimp only
  split
  ·exact F.lt p hp
  ·exact G.lt p hp
 intro j
 induction j with
 |zero=>
  rw[if_pos (by lia)]
  show en2 n (beg n h l p)=_
  rw[AE hp]
  exact(cQ (k:=0) rfl).symm
 |succ j ih=>
  have hl:=oB (fun x hx=>F.lt x hx) (fun x hx=>G.lt x hx) (h:=h) (l:=l) blt j
  show en2 n (stp n h l (itr n h l j (beg n h l p)))=_
  by_cases c:2*(j+1)+1<=k
  ·rw[if_pos (by lia)]at ih
   rw[if_pos c]
   have ne:jn n (en2 n (itr n h l j (beg n h l p)))≠en2 n (itr n h l j (beg n h l p)):=by
    rw[ih]
    intro e
    exact hs (2*j+1) (by lia) (.inl (by rw[fw (by lia)];exact e))
   rw[AW hl ((r8 hl).mpr ne),ih,<-fw (a:=jn n) (b:=rb n h l) (x:=out n p) (k:=2*j+1) (by lia),<-cQ (a:=jn n) (b:=rb n h l) (x:=out n p) (k:=2*j+1+1) (by lia)]
   congr 1
  ·rw[if_neg c]
   have e:(if 2*j+1<=k then 2*j+1 else k)=k:=by split<;>lia
   rw[e]at ih
   rw[xG (fun z=>(r8 hl).mp z (by rw[ih];exact k2)),ih]
theorem gd:(aE n h l).length=2*n:=by simp[aE]
theorem ot{p:Nat}(hp:p<2*n):at' (aE n h l) p=(itr n h l (4*n) (beg n h l p)).2:=by simp[aE,at',hp]
theorem iF(F:Frm n h)(G:Frm n l){p k:Nat}(hp:p<2*n)(hk:k<4*n)(st:Stp (jn n) (rb n h l) (out n p) k)(hs:∀ j,j<k->¬ Stp (jn n) (rb n h l) (out n p) j) :
  at' (aE n h l) p<2*n/\wk (jn n) (rb n h l) (out n p) k=out n (at' (aE n h l) p):=by
 have T:=two F G
 obtain⟨k1,k2⟩:=l3 T (d8 hp) st hs (fun y hy=>ig F G hy) (iB hp)
 have w:=vz F G hp st hs (4*n)
 rw[show(if 2*(4*n)+1<=k then 2*(4*n)+1 else k)=k by split<;>lia]at w
 rw[ot hp]
 have blt:(beg n h l p).2<2*n:=by
  unfold beg pick
  dsimp only
  split
  ·exact F.lt p hp
  ·exact G.lt p hp
 have hl:=oB (fun x hx=>F.lt x hx) (fun x hx=>G.lt x hx) (h:=h) (l:=l) blt (4*n)
 refine⟨hl,?_⟩
 rw[<-w]
 have no:¬ (itr n h l (4*n) (beg n h l p)).1=decide (n<=(itr n h l (4*n) (beg n h l p)).2):=fun z=>(r8 hl).mp z (by rw[w];exact k2)
 generalize itr n h l (4*n) (beg n h l p)=s at *
 obtain⟨b,q⟩:=s
 unfold en2 out
 dsimp only at no hl ⊢
 cases b
 ·rw[if_neg (by decide)]
  have:¬ q<n:=fun c=>no (by simp[show ¬ n<=q by lia])
  rw[if_neg this];lia
 ·rw[if_pos rfl]
  have:q<n:=by
   apply Classical.byContradiction
   intro c
   exact no (by simp[show n<=q by lia])
  rw[if_pos this]
theorem found_iff(F:Frm n h)(G:Frm n l){p q:Nat}(hp:p<2*n)(hq:q<2*n)(ne:p≠q):at' (aE n h l) p=q↔Cn (jn n) (rb n h l) (out n p) (out n q):=by
 have T:=two F G
 obtain⟨k,hk,st,hs⟩:=jC T (d8 hp)
 obtain⟨e1,e2⟩:=iF F G hp hk st hs
 constructor
 ·intro e
  rw[<-e,<-e2]
  exact jW k
 ·intro c
  obtain⟨i,hi,e⟩:=pZ T (d8 hp) st hs (.inl (iB hp)) c
  have fx:jn n (wk (jn n) (rb n h l) (out n p) i)=wk (jn n) (rb n h l) (out n p) i:=by rw[e];exact iB hq
  have ik:i=k:=by
   apply Classical.byContradiction
   intro z
   have i0:i≠0:=fun z=>by
    subst z
    exact ne (ql e hp hq)
   by_cases c:i%2=1
   ·exact hs i (by lia) (.inl (by rw[fw c];exact fx))
   ·have:=gw T (d8 hp) (i-1)
    rw[show i-1+1=i by lia,if_neg (by lia),fx]at this
    exact hs (i-1) (by lia) (.inl (by rw[show i-1+1=i by lia];exact this))
  subst ik
  rw[e2]at e
  exact(ql e e1 hq)
theorem tX(F:Frm n h)(G:Frm n l):Frm n (aE n h l):=by
 have T:=two F G
 have lt:∀ p,p<2*n->at' (aE n h l) p<2*n/\at' (aE n h l) p≠p:=fun p hp=>by
  obtain⟨k,hk,st,hs⟩:=jC T (d8 hp)
  obtain⟨e1,e2⟩:=iF F G hp hk st hs
  obtain⟨k1,k2⟩:=l3 T (d8 hp) st hs (fun y hy=>ig F G hy) (iB hp)
  refine⟨e1,fun e=>?_⟩
  rw[e]at e2
  exact jY T (d8 hp) hs (i:=0) (j:=k) (by lia) (Nat.le_refl _) e2.symm
 refine⟨gd,fun p hp=>(lt p hp).1,fun p=>?_,fun p hp=>(lt p hp).2⟩
 by_cases hp:p<2*n
 ·obtain⟨l1,l2⟩:=lt p hp
  have c:=(found_iff F G hp l1 (Ne.symm l2)).mp rfl
  exact(found_iff F G l1 hp l2).mpr (c.symm T (d8 hp))
 ·rw[k6 (f:=aE n h l) (x:=p) (by rw[gd];lia),k6 (by rw[gd];lia)]
end
section
variable{cl:Cl}{n:Nat}{h l:List Nat}
theorem kT{β:Type}{σ:St}{e:E}{i:Nat}{u g:β->D}(im:∀ x,(g x).imm=true)(xs:List β)(h:∀ x∈xs,ev cl (σ.set i (some (u x))) e=some (g x)):cz (fun σ1=>(ev cl σ1 e).map some) [i] σ (xs.map u)=some (xs.map g) :=
 kg im xs fun x hx=>by
  show Option.map some (ev cl (σ.set i (some (u x))) e)=_
  rw[h x hx]
  rfl
theorem yf{σ:St}{e:E}{i:Nat}{g:Nat->D}(im:∀ x,(g x).imm=true)(xs:List Nat)(h:∀ x∈xs,ev cl (σ.set i (some (.int (x:Nat)))) e=some (g x)):cz (fun σ1=>(ev cl σ1 e).map some) [i] σ (L xs)=some (xs.map g) :=
 kT im xs h
noncomputable def jL(n:Nat):List Nat:=List.range n++List.range' (2*n) n++List.range' n n++List.range' (3*n) n
noncomputable def rbL(n:Nat)(h l:List Nat):List Nat:=h++l.map fun x=>2*n+x
theorem tZ:(jL n).length=4*n:=by simp[jL];lia
theorem Bg{x:Nat}(hx:x<4*n):(jL n)[x]?=some (jn n x):=by
 unfold jL jn
 by_cases c1:x<n
 ·rw[if_pos c1,List.append_assoc,List.append_assoc,List.getElem?_append_left (by simpa using c1),List.getElem?_range c1]
 ·rw[if_neg c1]
  by_cases c2:x<2*n
  ·rw[if_pos c2,List.append_assoc,List.append_assoc,List.getElem?_append_right (by simp;lia),List.length_range,List.getElem?_append_left (by simp;omega),List.getElem?_range' (by omega)]
   congr 1;lia
  ·rw[if_neg c2]
   by_cases c3:x<3*n
   ·rw[if_pos c3,List.getElem?_append_left (by simp;lia),List.getElem?_append_right (by simp;lia)]
    simp only[List.length_append,List.length_range,List.length_range']
    rw[List.getElem?_range' (by omega)]
    congr 1;lia
   ·rw[if_neg c3,List.getElem?_append_right (by simp;lia)]
    simp only[List.length_append,List.length_range,List.length_range']
    rw[List.getElem?_range' (by omega)]
    congr 1;lia
theorem Cs{x:Nat}(hx:x<4*n):at' (jL n) x=jn n x:=by
 unfold at'
 rw[Bg hx]
 rfl
theorem pT(F:Frm n h)(G:Frm n l):(rbL n h l).length=4*n:=by simp[rbL,F.len,G.len];lia
theorem zP(F:Frm n h)(G:Frm n l){x:Nat}(hx:x<4*n):at' (rbL n h l) x=rb n h l x:=by
 unfold rb rbL
 by_cases c:x<2*n
 ·rw[if_pos c]
  unfold at'
  rw[List.getElem?_append_left (by rw[F.len];exact c)]
 ·rw[if_neg c]
  unfold at'
  rw[List.getElem?_append_right (by rw[F.len];lia),F.len,List.getElem?_map]
  have:x-2*n<l.length:=by rw[G.len];omega
  simp[this]
theorem sU{f:List Nat}{x:Nat}(hx:x<f.length):ixV (.lst (L f)) (.int (x:Nat))=some (.int (at' f x:Nat)):=by
 show bW (L f) (x:Int)=_
 rw[eD,mI,eu hx]
 rfl
theorem eV{k:Nat}(hk:k<100)(n:Nat):aI .mul (.int (k:Nat)) (.int (n:Nat))=some (.int ((k*n:Nat):Int)):=by
 rw[cH (by lia) (by lia)]
 simp
theorem qZ(hn:n<=10):evF cl dM [.int (n:Nat)]=some (.lst (L (jL n))):=by
 have a1:=dR (n:=n) (by lia)
 have a2:=cZ (a:=n) (b:=2*n) (by lia) (by lia)
 have a3:=cZ (a:=2*n) (b:=3*n) (by lia) (by lia)
 have a4:=cZ (a:=3*n) (b:=4*n) (by lia) (by lia)
 rw[show 2*n-n=n by lia]at a2
 rw[show 3*n-2*n=n by lia]at a3
 rw[show 4*n-3*n=n by lia]at a4
 have ad:∀ xs ys:List Nat,xs.length+ys.length<=1000->aI .add (.lst (L xs)) (.lst (L ys))=some (.lst (L (xs++ys))):=fun xs ys hl=>by
  show(if(L xs).length+(L ys).length<=most then some (D.lst (L xs++L ys))else none)=_
  rw[if_pos (by rw[bC,bC];unfold most;lia),da]
 have im:∀ (e:E) (xs:List Nat),aC e=true->ba [] e (.lst (L xs))=true:=fun e xs ht=>by simp[ba,D.imm,aO,bA,ht]
 refine bh rfl rfl (aK (qK (aa rfl) a1) (im _ _ rfl) (aK (jd (aa rfl) (aA ao (aa rfl) (eV (k:=2) (by decide) n)) a2) (im _ _ rfl) (aK (jd (aA ao (aa rfl) (eV (k:=2) (by decide) n)) (aA ao (aa rfl) (eV (k:=3) (by decide) n)) a3) (im _ _ rfl) (aK (jd (aA ao (aa rfl) (eV (k:=3) (by decide) n)) (aA ao (aa rfl) (eV (k:=4) (by decide) n)) a4) (im _ _ rfl) (br (d:=.lst (L (jL n))) (aA (aA (aA (aa rfl) (aa rfl) (ad _ _ ?_)) (aa rfl) (ad _ _ ?_)) (aa rfl) (ad _ _ ?_)) ?_)))))
 ·simp;lia
 ·simp;lia
 ·simp;lia
 ·simp[bt,aO,bA]
theorem m3{fg fr fj fo:Nat}{r:Nat}(h1:1<=n)(hn:n<=10)(F:Frm n h)(G:Frm n l)(ho:cl fo [.tup (L h)]=some (.int (n:Nat)))(hj:cl fj [.int (n:Nat)]=some (.lst (L (jL n))))
 (hr:∀ x:Nat,x<4*n->∃ k,k<4*n/\Stp (jn n) (rb n h l) x k/\(∀ j,j<k->¬ Stp (jn n) (rb n h l) x j)/\cl fr [.lst (L (jL n)),.lst (L (rbL n h l)),.int (x:Nat)]=some (.lst (L (wks (jn n) (rb n h l) x k))))
 (hg:cl fg [.lst (L (jL n)),.lst (L (rbL n h l))]=some (.int (r:Nat))):evF cl (gr fg fr fj fo) [.tup (L h),.tup (L l)]=some (.tup [.tup (L (aE n h l)),.int (r:Nat)]):=by
 have lm:∀ xs:List Nat,xs.length<=1000->(L xs).length<=most:=fun xs hl=>by rw[bC];unfold most;lia
 have ad:∀ xs ys:List Nat,xs.length+ys.length<=1000->aI .add (.lst (L xs)) (.lst (L ys))=some (.lst (L (xs++ys))):=fun xs ys hl=>by
  show(if(L xs).length+(L ys).length<=most then some (D.lst (L xs++L ys))else none)=_
  rw[if_pos (by rw[bC,bC];unfold most;lia),da]
 have im:∀ (e:E) (xs:List Nat),aC e=true->ba [] e (.lst (L xs))=true:=fun e xs ht=>by simp[ba,D.imm,aO,bA,ht]
 have a1:=dR (n:=n) (by lia)
 have a4:=cZ (a:=3*n) (b:=4*n) (by lia) (by lia)
 rw[show 4*n-3*n=n by lia]at a4
 have oL:List.range n++List.range' (3*n) n=(List.range (2*n)).map (out n):=by
  rw[show 2*n=n+n by lia,List.range_add,List.map_append]
  congr 1
  ·rw[<-List.map_id (List.range n),List.map_map]
   refine List.map_congr_left fun p hp=>?_
   unfold out
   rw[Function.comp,id,if_pos (List.mem_range.mp hp)]
  ·rw[List.range'_eq_map_range,List.map_map]
   refine List.map_congr_left fun p hp=>?_
   unfold out
   simp only[Function.comp]
   rw[if_neg (by lia)]
   lia
 have l4:(rbL n h l).length<=1000:=by rw[pT F G];lia
 have c1:cz (fun σ1=>(ev cl σ1 (.bin .add (.bin .mul (.cst (.int 2)) (.var 2)) (.var 8))).map some) [8] [some (.tup (L h)),some (.tup (L l)),some (.int (n:Nat)),none,none,none,none,none,none,none] (L l)=some (L (l.map fun x=>2*n+x)):=by
  rw[yf (g:=fun x=>.int ((2*n+x:Nat):Int)) (fun _=>rfl),wm]
  exact fun x _=>aA (aA ao (aa rfl) (eV (k:=2) (by decide) n)) (aa rfl) (show aI .add (.int ((2*n:Nat):Int)) (.int (x:Nat))=some (.int ((2*n+x:Nat):Int)) by rw[c6];simp)
 have c2:cz (fun σ1=>(ev cl σ1 (.ix (.call fr (.cons (.var 4) (.cons (.var 3) (.cons (.var 8) .nil)))) (.neg (.cst (.int 1))))).map some) [8] [some (.tup (L h)),some (.tup (L l)),some (.int (n:Nat)),some (.lst (L (rbL n h l))),some (.lst (L (jL n))),some (.lst (L ((List.range (2*n)).map (out n)))),none,none,none,none] (L ((List.range (2*n)).map (out n)))=some (L ((List.range (2*n)).map fun p=>out n (at' (aE n h l) p))):=by
  have e:L ((List.range (2*n)).map (out n))=(List.range (2*n)).map fun p=>D.int (out n p:Nat):=by simp[L]
  rw[e,kT (g:=fun p=>.int ((out n (at' (aE n h l) p):Nat):Int)) (fun _=>rfl)]
  ·simp[L]
  ·intro p hp
   rw[List.mem_range]at hp
   obtain⟨k,k1,k2,k3,k4⟩:=hr (out n p) (d8 hp)
   obtain⟨e1,e2⟩:=iF F G hp k1 k2 k3
   rw[<-e2]
   exact df (l7 (aa rfl) (aa rfl) (aa rfl) k4) AQ (nr k)
 have c3:cz (fun σ1=>(ev cl σ1 (.ifx (.cmp .lt (.var 9) (.var 2)) (.var 9) (.bin .sub (.var 9) (.bin .mul (.cst (.int 2)) (.var 2))))).map some) [9] [some (.tup (L h)),some (.tup (L l)),some (.int (n:Nat)),some (.lst (L (rbL n h l))),some (.lst (L (jL n))),some (.lst (L ((List.range (2*n)).map (out n)))),some (.lst (L ((List.range (2*n)).map fun p=>out n (at' (aE n h l) p)))),none,none,none] (L ((List.range (2*n)).map fun p=>out n (at' (aE n h l) p)))=some (L (aE n h l)):=by
  have e:L ((List.range (2*n)).map fun p=>out n (at' (aE n h l) p))=(List.range (2*n)).map fun p=>D.int (out n (at' (aE n h l) p):Nat):=by simp[L]
  have e':aE n h l=(List.range (2*n)).map (at' (aE n h l)):=zK gd (by simp) fun x hx=>by simp[at',hx]
  have FF:=tX F G
  rw[e,kT (g:=fun p=>.int ((at' (aE n h l) p:Nat):Int)) (fun _=>rfl)]
  ·conv=>rhs;rw[e']
   simp[L]
  ·intro p hp
   rw[List.mem_range]at hp
   have hl:=FF.lt p hp
   by_cases c:at' (aE n h l) p<n
   ·have eo:out n (at' (aE n h l) p)=at' (aE n h l) p:=by unfold out;rw[if_pos c]
    have v:∀ {σ:St},(σ[9]?).bind id=some (D.int (out n (at' (aE n h l) p):Nat))->ev cl σ (.var 9)=some (.int (at' (aE n h l) p:Nat)):=fun h=>by rw[aa h,eo]
    exact mJ (k:=true) (bf (aZ (aa rfl) (aa rfl) (by rw[fS,decide_eq_true (by lia)]))) (v rfl)
   ·have eo:out n (at' (aE n h l) p)=at' (aE n h l) p+2*n:=by unfold out;rw[if_neg c]
    exact mJ (k:=false) (bf (aZ (aa rfl) (aa rfl) (by rw[fS,decide_eq_false (by lia)]))) (aA (aa rfl) (aA ao (aa rfl) (eV (k:=2) (by decide) n)) (by rw[cE,eo];congr 2;lia))
 have ll:(L l).length<=most:=lm l (by rw[G.len];lia)
 exact bh rfl rfl (aK (i9 (aa rfl) ho) rfl (aK (d:=.lst (L (rbL n h l))) (aA (bQ (aa rfl) rfl) (gO (jT (aa rfl) rfl) ll c1) (ad _ _ (by simp[F.len,G.len];lia))) (im _ _ rfl) (aK (i9 (aa rfl) hj) (im _ _ rfl) (aK (d:=.lst (L ((List.range (2*n)).map (out n)))) (aA (qK (aa rfl) a1) (jd (aA ao (aa rfl) (eV (k:=3) (by decide) n)) (aA ao (aa rfl) (eV (k:=4) (by decide) n)) a4) (by rw[ad _ _ (by simp;lia),oL])) (im _ _ rfl) (aK (gO (jT (aa rfl) rfl) (lm _ (by simp;lia)) c2) (im _ _ rfl) (aK (bQ (gO (jT (aa rfl) rfl) (lm _ (by simp;lia)) c3) rfl) (by simp[ba,D.imm,bA]) (br (rN (aB (aa rfl) (aB (dG (aa rfl) (aa rfl) hg) bJ))) (by simp[bt,D.imm,ay,bA]))))))))
end
section
variable{n:Nat}{h l:List Nat}
theorem Pth.step{m:Nat}{a b:Nat->Nat}{x y:Nat}(h:Pth m a b x)(c:Cn a b x y):Pth m a b y:=by
 obtain⟨s,h1,h2,h3⟩:=h
 exact⟨s,h1,h2,h3.trans c⟩
theorem rq{m:Nat}(hm:m<n):jn n (n+m)=2*n+m:=by unfold jn;rw[if_neg (by lia),if_pos (by lia)];lia
theorem An{m:Nat}(hm:m<n):jn n (2*n+m)=n+m:=by unfold jn;rw[if_neg (by lia),if_neg (by lia),if_pos (by lia)];lia
theorem Co{a b:Nat->Nat}{x y:Nat}(e:a x=y):Cn a b x y:=by rw[<-e];exact .sa .refl
theorem wc(F:Frm n h)(G:Frm n l){x:Nat}(hx:x<4*n)(np:¬ Pth (4*n) (jn n) (rb n h l) x):∃ m,m<n/\(x=n+m\/x=2*n+m)/\¬ Pth (4*n) (jn n) (rb n h l) (n+m):=by
 have no:jn n x≠x:=fun e=>np ⟨x,hx,.inl e,.refl⟩
 by_cases c:x<2*n
 ·have:n<=x:=by
   apply Classical.byContradiction
   intro z
   exact no (by unfold jn;rw[if_pos (by lia)])
  exact⟨x-n,by omega,.inl (by lia),by rw[show n+(x-n)=x by lia];exact np⟩
 ·have:x<3*n:=by
   apply Classical.byContradiction
   intro z
   exact no (by unfold jn;rw[if_neg (by lia),if_neg (by lia),if_neg (by lia)])
  refine⟨x-2*n,by omega,.inr (by lia),fun z=>np (z.step ?_)⟩
  have:=rq (n:=n) (m:=x-2*n) (by omega)
  rw[show 2*n+(x-2*n)=x by lia]at this
  exact Co this
end
section
variable{cl:Cl}{n:Nat}{h l inner:List Nat}
end
structure Hg(T:List Fn)(cf po rn mk rg jb pu c2 hu:Nat):Prop where
 A8:T[rn]?=some m9
 Eg:T[mk]?=some oI
 DY:T[rg]?=some (iw mk rn)
 Dp:T[jb]?=some dM
 DJ:T[pu]?=some (gr rg rn jb po)
 Dr:T[c2]?=some (eK cf)
 Dj:T[hu]?=some (t5 pu c2)
section
variable{T:List Fn}{nu pc pa nb un if' cf po rp ir mv rn mk rg jb pu c2 hu:Nat}
theorem Hg.under(H:Hg T cf po rn mk rg jb pu c2 hu)(C:Ck T nu pc pa nb un if' cf po rp ir mv)(n:Nat){k:Nat}{f g:List Nat}(h1:1<=k)(hk:k<=10)(F:Frm k f)(G:Frm k g) :
  ∃ S:List Nat,dn (4*k) (jn k) (rb k f g) S/\aw T (n+3) pu [.tup (L f),.tup (L g)]=some (.tup [.tup (L (aE k f g)),.int (S.length:Nat)]):=by
 have T2:=two F G
 have hj:∀ x:Nat,x<4*k->ixV (.lst (L (jL k))) (.int (x:Nat))=some (.int (jn k x:Nat)):=fun x hx=>by rw[sU (by rw[tZ];exact hx),Cs hx]
 have hb:∀ x:Nat,x<4*k->ixV (.lst (L (rbL k f g))) (.int (x:Nat))=some (.int (rb k f g x:Nat)):=fun x hx=>by rw[sU (by rw[pT F G];exact hx),zP F G hx]
 have r1:∀ (n x:Nat),x<4*k->∃ i,i<4*k/\Stp (jn k) (rb k f g) x i/\(∀ j,j<i->¬ Stp (jn k) (rb k f g) x j)/\aw T (n+1) rn [.lst (L (jL k)),.lst (L (rbL k f g)),.int (x:Nat)]=some (.lst (L (wks (jn k) (rb k f g) x i))):=fun n x hx=>by
  obtain⟨i,a1,a2,a3,a4⟩:=qd (cl:=aw T n) T2 (by lia) hj hb hx
  exact⟨i,a1,a2,a3,(aq H.A8).trans a4⟩
 have r2:∀ (n x:Nat),x<4*k->∃ i,i<4*k/\Stp (rb k f g) (jn k) x i/\(∀ j,j<i->¬ Stp (rb k f g) (jn k) x j)/\aw T (n+1) rn [.lst (L (rbL k f g)),.lst (L (jL k)),.int (x:Nat)]=some (.lst (L (wks (rb k f g) (jn k) x i))):=fun n x hx=>by
  obtain⟨i,a1,a2,a3,a4⟩:=qd (cl:=aw T n) T2.swap (by lia) hb hj hx
  exact⟨i,a1,a2,a3,(aq H.A8).trans a4⟩
 obtain⟨S,R,e⟩:=oK (cl:=aw T (n+1)) (fm:=mk) (fr:=rn) T2 (by lia) (A:=.lst (L (jL k))) (B:=.lst (L (rbL k f g))) (by
  show some (D.int ((L (jL k)).length:Nat))=_
  rw[bC,tZ]) hj hb (r1 n) (r2 n) (fun s P ps hs hp=>by
  obtain⟨s',b1,b2⟩:=wu (cl:=aw T n) hs hp
  exact⟨s',b1,(aq H.Eg).trans b2⟩)
 exact⟨S,R,(aq H.DJ).trans (m3 h1 hk F G (C.half (n+1) F.len) ((aq H.Dp).trans (qZ hk)) (r1 (n+1)) ((aq H.DY).trans e))⟩
theorem Hg.D4(H:Hg T cf po rn mk rg jb pu c2 hu)(C:Ck T nu pc pa nb un if' cf po rp ir mv)(n:Nat){k:Nat}{f g:List Nat}(h1:1<=k)(hk:k<=10)(V:Val k f)(W:Val k g) :
  ∃ S:List Nat,dn (4*k) (jn k) (rb k f g) S/\aw T (n+7) hu [.tup (L f),.tup (L g)]=some (.tup [.tup (L (aE k f g)),.int (S.length:Nat)]):=by
 obtain⟨S,R,e⟩:=H.under C (n+3) h1 hk V.frm W.frm
 refine⟨S,R,(aq H.Dj).trans ?_⟩
 have ck2:aw T (n+6) c2 [.tup (L f),.tup (L g)]=some .non:=by
  refine(aq H.Dr).trans (Ap rfl rfl (oM (i9 (aa rfl) (C.check n h1 hk V)) (oM (i9 (aa rfl) (C.check n h1 hk W)) (bR (bf (aZ (bQ (aa rfl) (half (n:=k) (by rw[bC,V.frm.len]))) (bQ (aa rfl) (half (n:=k) (by rw[bC,W.frm.len]))) (by rw[AB];simp))) aS))))
 exact bh rfl rfl (oM (dG (aa rfl) (aa rfl) ck2) (br (dG (aa rfl) (aa rfl) e) (by simp[bt,D.imm,ay,bA])))
end
section
variable{T:List Fn}{mx rw dg pl hk ci ft tx rg hu ov fr:Nat}
end
section
variable{n:Nat}{f:List Nat}
end
section
variable{n:Nat}{h l:List Nat}
set_option synthInstance.maxSize 10000 in
set_option synthInstance.maxHeartbeats 0 in
end
section
variable{n:Nat}{h l:List Nat}
set_option synthInstance.maxSize 10000 in
set_option synthInstance.maxHeartbeats 0 in
end
section
variable{T:List Fn}{mx rw dg pl hk ci ft tx rg hu ov fr:Nat}
end
section
variable{M N:Nat}{a a' b c f o:Nat->Nat}
end
section
variable{m m':Nat}{a b a' b':Nat->Nat}
end
section
variable{n:Nat}{h l f:List Nat}
end
section
variable{n:Nat}{h m l:List Nat}
theorem rh{f g:List Nat}{p:Nat}(hp:p<2*n):rb n f g p=at' f p:=by unfold rb;rw[if_pos hp]
theorem x5{f g:List Nat}{p:Nat}:rb n f g (2*n+p)=2*n+at' g p:=by unfold rb;rw[if_neg (by lia),show 2*n+p-2*n=p by lia]
set_option synthInstance.maxSize 10000 in
set_option synthInstance.maxHeartbeats 0 in
set_option synthInstance.maxSize 10000 in
set_option synthInstance.maxHeartbeats 0 in
end
end RM
set_option maxHeartbeats 1000000
namespace RM
open RL RT
section
variable{n:Nat}{f g h l:List Nat}
theorem kn{x:Nat}(c:x<n):stp n h l (true,x)=(true,x):=by
 unfold stp
 rw[if_neg (by simp;exact c)]
theorem tO{x:Nat}(c:¬ x<n):stp n h l (false,x)=(false,x):=by
 unfold stp
 rw[if_neg (by simp;lia)]
theorem BS{x:Nat}(c:¬ x<n)(d:x<2*n):stp n h l (true,x)=(false,at' l (x-n)):=by
 unfold stp
 rw[if_pos (by simp;lia)]
 show(false,at' l ((x+n)%(2*n)))=_
 rw[show(x+n)%(2*n)=x-n by rw[Nat.mod_eq_sub_mod (by lia),Nat.mod_eq_of_lt (by omega)];lia]
theorem uz{x:Nat}(c:x<n):stp n h l (false,x)=(true,at' h (x+n)):=by
 unfold stp
 rw[if_pos (by simp;exact c)]
 show(true,at' h ((x+n)%(2*n)))=_
 rw[Nat.mod_eq_of_lt (by lia)]
theorem A0(h1:1<=n)(F:Frm n f)(G:Frm n g)(s:∀ p,p<n->at' f p<n->at' g p=at' f p):aE n (d7 n f) g=g:=by
 have q:∀ x,x<n->¬ at' f x<n->(∀ i,(itr n (d7 n f) g (i+1) (false,at' g x)).2=at' g x):=by
  intro x hx nx i
  by_cases c:at' g x<n
  ·have k:¬ at' f (at' g x)<n:=fun k=>by
    have:=s _ c k
    rw[G.inv]at this
    have e:=F.inv (at' g x)
    rw[<-this]at e
    lia
   have e:stp n (d7 n f) g (false,at' g x)=(true,at' g x):=by
    rw[uz c,nJ (by lia),if_neg (by lia),show at' g x+n-n=at' g x by lia,if_neg k]
   rw[lx e (kn c)]
  ·rw[fF (tO c)]
 apply Br (n:=n) (by simp[aE]) G.len
 funext p
 by_cases hp:p<2*n
 ·rw[show at' (aE n (d7 n f) g) p=(itr n (d7 n f) g (4*n) (beg n (d7 n f) g p)).2 by simp[aE,at',hp],show 4*n=(4*n-2)+2 by lia]
  by_cases c:p<n
  ·rw[show beg n (d7 n f) g p=(true,at' (d7 n f) p) by simp[beg,c,pick],nJ hp,if_pos c]
   by_cases d:at' f p<n
   ·rw[if_pos d,fF (kn d),s p c d]
   ·rw[if_neg d]
    have e:stp n (d7 n f) g (true,p+n)=(false,at' g p):=by rw[BS (by lia) (by lia),show p+n-n=p by lia]
    have step:∀ i,itr n (d7 n f) g (i+1) (true,p+n)=itr n (d7 n f) g i (false,at' g p):=fun i=>by
     induction i with
     | zero=>exact e
     | succ i ih=>rw[itr,ih];rfl
    rw[step]
    exact q p c d _
  ·rw[show beg n (d7 n f) g p=(false,at' g p) by simp[beg,c,pick]]
   by_cases d:at' g p<n
   ·have k:¬ at' f (at' g p)<n:=fun k=>by
     have:=s _ d k
     rw[G.inv]at this
     lia
    have e:stp n (d7 n f) g (false,at' g p)=(true,at' g p):=by
     rw[uz d,nJ (by lia),if_neg (by lia),show at' g p+n-n=at' g p by lia,if_neg k]
    rw[lx e (kn d)]
   ·rw[fF (tO d)]
 ·rw[k6 (by simp[aE];lia),k6 (by rw[G.len];lia)]
end
end RM
set_option maxHeartbeats 1000000
namespace RT
open RL
end RT
namespace RM
open RL RT
section
variable{T:List Fn}{nu pc pa nb un if' cf po rp ir mv rn mk rg jb pu c2 hu:Nat}
end
end RM
set_option maxHeartbeats 1000000
namespace RM
open RL RT
noncomputable def rgN(n:Nat)(h l:List Nat):Nat:=Classical.epsilon fun r=>∃ S,dn (4*n) (jn n) (rb n h l) S/\S.length=r
section
variable{n:Nat}{h l h' l':List Nat}
theorem xh(F:Frm n h)(G:Frm n l){S:List Nat}(R:dn (4*n) (jn n) (rb n h l) S):rgN n h l=S.length:=by
 have:=Classical.epsilon_spec (p:=fun r=>∃ S,dn (4*n) (jn n) (rb n h l) S/\S.length=r) ⟨_,S,R,rfl⟩
 obtain⟨S',R',e⟩:=this
 exact e.symm.trans (R'.one (two F G) R)
set_option synthInstance.maxSize 10000 in
set_option synthInstance.maxHeartbeats 0 in
end
end RM
set_option maxHeartbeats 1000000
namespace RT
open RL
end RT
namespace RM
open RL RT
section
variable{cl:Cl}{n:Nat}{f:List Nat}
end
section
variable{T:List Fn}{nu pc pa nb un if' cf po rp ir mv:Nat}
end
section
variable{n:Nat}{f:List Nat}
end
noncomputable def Has(n:Nat)(a b:List Nat):Prop:=∀ p,p<n->at' a p<n->at' b p=at' a p
section
variable{n:Nat}{a b h l:List Nat}
theorem tF(hp:∀ p,p<n->at' h p<n->p<2*n):Has n h (aE n h l):=fun p c d=>by
 rw[ot (by lia),show beg n h l p=(true,at' h p) by simp[beg,c,pick],fF (kn d)]
end
end RM
set_option maxHeartbeats 1000000
namespace RM
open RL RT
theorem yF:∀ n,n<11->∀ i,i<n->i+1<n->d7 n (aN n i)=aN n i:=by decide +kernel
section
variable{n i:Nat}{f:List Nat}
theorem nC(hi:i+1<n)(F:Frm n f):Has n (aN n i) f↔at' f i=i+1:=by
 constructor
 ·intro H
  have e:at' (aN n i) i=i+1:=by
   rw[fE hi,if_neg (by omega),if_neg (by omega),if_neg (by omega),if_pos rfl]
  have:=H i (by omega) (by omega)
  omega
 ·intro e p hp c
  rw[fE hi,if_neg (by omega),if_neg (by omega)]at c ⊢
  by_cases c1:p=i+1
  ·rw[if_pos c1,c1,<-e,F.inv]
  ·rw[if_neg c1]at c ⊢
   by_cases c2:p=i
   ·rw[if_pos c2,c2]
    exact e
   ·rw[if_neg c2,if_pos hp]at c
    omega
theorem sC(hn:n<=10)(hi:i+1<n)(F:Frm n f):aE n (aN n i) f=f↔at' f i=i+1:=by
 constructor
 ·intro e
  have H:Has n (aN n i) (aE n (aN n i) f):=tF fun _ _ _=>by omega
  rw[e]at H
  exact(nC hi F).mp H
 ·intro e
  have:=A0 (n:=n) (f:=aN n i) (by omega) (jy hn hi).frm F ((nC hi F).mpr e)
  rw[yF n (by omega) i (by omega) hi]at this
  exact this
theorem rH(hn:n<=10)(hi:i+1<n)(F:Frm n f)(e:at' f i=i+1):dn (4*n) (jn n) (rb n (aN n i) f) [n+i]:=by
 have G:=(jy hn hi).frm
 have e':at' f (i+1)=i:=by rw[<-e,F.inv]
 have h1:at' (aN n i) (n+i)=n+i+1:=by rw[fE hi,if_neg (by omega),if_pos rfl]
 have h2:at' (aN n i) (n+(i+1))=n+i:=by rw[fE hi,if_pos (by omega)]
 have b1:rb n (aN n i) f (n+i)=n+(i+1):=by rw[rh (by omega),h1];rfl
 have i1:i<n:=by omega
 have j1:=rq i1
 have j2:=rq hi
 have j3:=An i1
 have j4:=An hi
 have cls:∀ y,Cn (jn n) (rb n (aN n i) f) (n+i) y->y=n+i\/y=n+(i+1)\/y=2*n+i\/y=2*n+(i+1):=by
  intro y h
  induction h with
  | refl=>exact .inl rfl
  |sa _ ih=>
   rcases ih with rfl | rfl | rfl | rfl
   ·exact .inr (.inr (.inl j1))
   ·exact .inr (.inr (.inr j2))
   ·exact .inl j3
   ·exact .inr (.inl j4)
  |sb _ ih=>
   rcases ih with rfl | rfl | rfl | rfl
   ·exact .inr (.inl b1)
   ·exact .inl (by rw[rh (by omega),h2])
   ·exact .inr (.inr (.inr (by rw[x5,e])))
   ·exact .inr (.inr (.inl (by rw[x5,e'])))
 refine⟨fun s hs=>?_,List.pairwise_singleton _ _,fun s hs y hy=>?_,fun x hx=>?_⟩
 ·rw[List.mem_singleton.mp hs];omega
 ·rw[List.mem_singleton.mp hs]at hy
  have c:=cls y hy
  have n0:0<n:=by omega
  rcases c with rfl | rfl | rfl | rfl
  ·exact⟨by rw[j1];omega,ig G F (by omega)⟩
  ·exact⟨by rw[j2];omega,ig G F (by omega)⟩
  ·exact⟨by rw[j3];omega,ig G F (by omega)⟩
  ·exact⟨by rw[j4];omega,ig G F (by omega)⟩
 ·by_cases np:Pth (4*n) (jn n) (rb n (aN n i) f) x
  ·exact .inl np
  ·obtain⟨m,hm,cm,nm⟩:=wc G F hx np
   have cm:Cn (jn n) (rb n (aN n i) f) (n+m) x:=by
    rcases cm with rfl | rfl
    ·exact .refl
    ·have:=Cn.sa (a:=jn n) (b:=rb n (aN n i) f) (x:=n+m) .refl
     rw[rq hm]at this
     exact this
   by_cases c1:m=i
   ·subst c1
    exact .inr ⟨n+m,List.mem_singleton.mpr rfl,cm⟩
   ·by_cases c2:m=i+1
    ·subst c2
     refine .inr ⟨n+i,List.mem_singleton.mpr rfl,Cn.trans ?_ cm⟩
     have:=Cn.sb (a:=jn n) (b:=rb n (aN n i) f) (x:=n+i) .refl
     rw[b1]at this
     exact this
    ·refine absurd ⟨m,by omega,.inl ?_,?_⟩ nm
     ·unfold jn
      rw[if_pos hm]
     ·have:=Cn.sb (a:=jn n) (b:=rb n (aN n i) f) (x:=m) .refl
      rw[rh (by omega),fE hi,if_neg (by omega),if_neg (by omega),if_neg c2,if_neg c1,if_pos hm]at this
      exact this
end
section
variable{T:List Fn}{nu pc pa nb un if' cf po rp ir mv:Nat}
theorem Ck.hook(C:Ck T nu pc pa nb un if' cf po rp ir mv){cp pl ti hh ish cr md ho:Nat}(hcp:T[cp]?=some (bK pc))(hpl:T[pl]?=some (gI cp))(hti:T[ti]?=some mD)(hhh:T[hh]?=some (d9 ti po))(his:T[ish]?=some (de nu))(hcr:T[cr]?=some (cL ish cp))(hmd:T[md]?=some (gN hh pl cr))(hho:T[ho]?=some (mT md))
 (n:Nat){k i:Nat}(h1:1<=k)(hk:k<=10)(hi:i+1<k):aw T (n+6) ho [.int (k:Nat),.int (i:Nat)]=some (.tup (L (aN k i))):=by
 have row:∀ j∈[i],j+1<k:=fun j hj=>by rw[List.mem_singleton.mp hj];exact hi
 have e1:aw T (n+4) cr [.int (k:Nat),.lst (L [i])]=some .non:=(aq hcr).trans (mr (C.xo hcp n h1 hk) fun j hj=>(aq his).trans ((gj (C.num (n+1)) _ _).trans (by have:=row j hj;rw[decide_eq_true (by omega)])))
 have e2:aw T (n+5) md [.int (k:Nat),.lst (L [i])]=_:=(aq hmd).trans (wD hk row e1 (C.plain hcp hpl n h1 hk) fun f j F hj=>(aq hhh).trans (my F hj (C.ofL (n+2)) fun xs a b ha hb=>(aq hti).trans (yI xs ha hb)))
 exact(aq hho).trans (bh rfl rfl (br (df (dG (aa rfl) (eI (aB (aa rfl) bJ)) e2) ao rfl) (by unfold bt;rw[show ∀ x:List Nat,(D.tup (L x)).imm=ay (L x)from fun _=>rfl,bA];rfl)))
end
end RM
set_option maxHeartbeats 1000000
namespace RM
open RL RT
section
variable{cl:Cl}
theorem uD{n:Nat}(h:n<=100):written (.int (n:Nat))=true:=by
 show decide (_<_)=true
 rw[decide_eq_true_eq]
 refine Nat.lt_of_le_of_lt (show((n:Int)).natAbs<=100 by omega) (Nat.lt_of_lt_of_le (show 100<2 ^ 7 by decide) (Nat.pow_le_pow_right (by decide) (by decide)))
theorem sF{z:Int}(h:z.natAbs<2 ^ 200):written (.int z)=true:=by
 show decide (_<_)=true
 rw[decide_eq_true_eq]
 exact Nat.lt_of_lt_of_le h (Nat.pow_le_pow_right (by decide) (by decide))
theorem pK{f g n:Nat}{pre:List Nat}{z:Int}{post:List D}(hn:n<=100)(h1:cl g [.int n]=some .non)(h2:∀ i∈pre,cl f [.int n,.int (i:Nat)]=some (.bl true))(h3:cl f [.int n,.int z]=some (.bl false))(hz:z.natAbs<2 ^ 200) :
  ∃ σ',Rr cl [] (cL f g).body [some (.int n),some (.lst (L pre ++ .int z::post)),none] "BadHook" σ':=by
 obtain⟨k1,σ',k2,_⟩:=uC (f:=ag cl [] (cD f g)) (fx:=bG cl [] (cD f g)) (tg:=[2]) (c := "BadHook") (post:=post) (d:=.int z) (fun σ=>∃ o,σ=[some (.int n),some (.lst (L pre ++ .int z::post)),o]) (L pre) [some (.int n),some (.lst (L pre ++ .int z::post)),none] ⟨none,rfl⟩ (fun x hx=>by
  obtain⟨a,_,rfl⟩:=List.mem_map.mp hx
  rfl) rfl (by
  rintro x hx σ ⟨o,rfl⟩
  obtain⟨a,ha,rfl⟩:=List.mem_map.mp hx
  refine⟨_,_,rfl,bR (bf (cT (dG (aa rfl) (aa rfl) (h2 a ha)))) aS,⟨_,rfl⟩⟩) (by
  rintro σ ⟨o,rfl⟩
  have r:Rr cl [] (cD f g) [some (.int n),some (.lst (L pre ++ .int z::post)),some (.int z)] "BadHook" _:=CG (bf (cT (dG (aa rfl) (aa rfl) h3))) (Ao (aB (aa rfl) (aB (aa rfl) bJ)) (by
   rw[List.all_cons,List.all_cons,sF hz,uD hn];rfl))
  exact⟨_,rfl,r.1,_,r.2,⟨_,rfl⟩⟩)
 exact⟨σ',Ej (i9 (aa rfl) h1) (C1 (jT (aa rfl) rfl) k1 k2)⟩
theorem zX{hh pl cr:Nat}{a b:D}{c:PySem.Str}(h:Rc cl cr [a,b] c):∃ σ',Rr cl [2] (gN hh pl cr).body [some a,some b,none,none,none] c σ':=⟨_,C5 (vX (aa rfl) (aa rfl) h)⟩
end
section
variable{T:List Fn}{nu pc:Nat}
theorem yQ{ish n:Nat}{k:Nat}{z:Int}(hnu:T[nu]?=some cx)(his:T[ish]?=some (de nu))(hz:¬ (0<=z/\z<k-1)):aw T (n+2) ish [.int (k:Nat),.int z]=some (.bl false):=by
 refine(aq his).trans ((gj (fun i=>(aq hnu).trans (dB i)) _ _).trans ?_)
 rw[decide_eq_false (by omega)]
theorem xQ{ish n:Nat}{k i:Nat}(hnu:T[nu]?=some cx)(his:T[ish]?=some (de nu))(hi:i+1<k):aw T (n+2) ish [.int (k:Nat),.int (i:Nat)]=some (.bl true):=by
 refine(aq his).trans ((gj (fun i=>(aq hnu).trans (dB i)) _ _).trans ?_)
 rw[decide_eq_true (by omega)]
theorem Ak{cp n:Nat}{k:Nat}(hnu:T[nu]?=some cx)(hpc:T[pc]?=some (bT nu))(hcp:T[cp]?=some (bK pc))(h1:1<=k)(hk:k<=10):aw T (n+3) cp [.int (k:Nat)]=some .non:=by
 refine(aq hcp).trans (gH ((aq hpc).trans ((fP (fun i=>(aq hnu).trans (dB i)) _).trans ?_)))
 rw[decide_eq_true (by omega)]
theorem pL{ish cp cr hh pl md n:Nat}{k:Nat}{pre:List Nat}{z:Int}{post:List D}(hT:T.length<=1000)(hnu:T[nu]?=some cx)(hpc:T[pc]?=some (bT nu))(hcp:T[cp]?=some (bK pc))(his:T[ish]?=some (de nu))(hcr:T[cr]?=some (cL ish cp))(hmd:T[md]?=some (gN hh pl cr))(h1:1<=k)(hk:k<=10)(hp:∀ i∈pre,i+1<k)(hz:¬ (0<=z/\z<k-1))(hw:z.natAbs<2 ^ 200) :
  Rc (aw T (n+5)) md [.int (k:Nat),.lst (L pre ++ .int z::post)] "BadHook" := by
 obtain⟨σ1,r1⟩:=pK (cl:=aw T (n+3)) (f:=ish) (g:=cp) (n:=k) (pre:=pre) (post:=post) (by omega) (Ak hnu hpc hcp h1 hk) (fun i hi=>xQ hnu his (hp i hi)) (yQ hnu his hz) hw
 have c1:Rc (aw T (n+4)) cr [.int (k:Nat),.lst (L pre ++ .int z::post)] "BadHook" := rm hcr hT rfl rfl r1
 obtain⟨σ2,r2⟩:=zX (hh:=hh) (pl:=pl) c1
 exact rm hmd hT rfl rfl r2
end
theorem x8:aI .pow (.int 10) (.int 29)=some (.int ((10 ^ 29:Nat):Int)):=by
 dsimp only[aI]
 rw[if_pos (by decide)]
 rfl
end RM
set_option maxHeartbeats 1000000
namespace K21
open RL RT
noncomputable def gS(f_hook f_law_kin:Nat):Fn :=
 ⟨2,4,[],[],(.cons (.asg 2 (.cst .non)) (.cons (.tryc (.cons (.asg 2 (.call f_hook (.cons (.var 0) (.cons (.var 1) .nil)))) .nil) "RibbonError" 3 (.cons (.asg 2 (.call f_law_kin (.cons (.var 3) .nil))) .nil)) (.cons (.ret (.var 2)) .nil)))⟩
noncomputable def zj(f_law_same f_law_word f_hung f_law_hook f_law_digits:Nat):Ss :=
 (.cons (.unp [2,5,3,6] (.call f_law_digits (.cons (.var 0) (.cons (.var 1) (.cons (.lst (.cons (.cst (.int 10)) (.cons (.cst (.int 5)) (.cons (.cst (.int 12)) (.cons (.bin .pow (.cst (.int 10)) (.cst (.int 29))) .nil))))) .nil))))) (.cons (.asg 2 (.bin .add (.cst (.int 1)) (.var 2))) (.cons (.asg 3 (.ix (.lst (.cons (.var 3) (.cons (.bin .sub (.var 3) (.cst (.int 1))) (.cons (.bin .sub (.var 2) (.cst (.int 2))) (.cons (.bin .add (.bin .sub (.var 2) (.cst (.int 1))) (.var 6)) (.cons (.bin .sub (.bin .sub (.cst (.int 0)) (.cst (.int 1))) (.var 6)) .nil)))))) (.var 5))) (.cons (.asg 4 (.cst (.str "BadHook"))) (.cons (.ife (.chain .le .lt (.cst (.int 0)) (.var 3) (.bin .sub (.var 2) (.cst (.int 1)))) (.cons (.asg 4 (.call f_law_hook (.cons (.var 2) (.cons (.var 3) .nil)))) (.cons (.ife (.cmp .ne (.call f_hung (.cons (.var 4) (.cons (.var 4) .nil))) (.tup (.cons (.var 4) (.cons (.cst (.int 1)) .nil)))) (.cons (.ret (.cst (.bl false))) .nil) .nil) .nil)) .nil) (.cons (.ife (.not (.call f_law_same (.cons (.call f_law_word (.cons (.var 2) (.cons (.var 3) .nil))) (.cons (.var 4) .nil)))) (.cons (.ret (.cst (.bl false))) .nil) .nil) .nil))))))
noncomputable def xr(f_law_same f_law_word f_hung f_law_hook f_law_digits:Nat):Fn :=
 ⟨1,7,[],[],(.cons (.asg 0 (.slT (.var 0) (.cst (.int 63)))) (.cons (.forr [1] (.rng1 (.cst (.int 8))) (zj f_law_same f_law_word f_hung f_law_hook f_law_digits)) (.cons (.ret (.cst (.bl true))) .nil)))⟩
noncomputable def T:List Fn:=[cx,bT 0,bK 1,fM 4,fK 0,e8,mD,m9,iw 9 7,oI,fh 5 16 3 1 13,dC 10,eK 11,gc,gI 2,cJ,eY 17 15 13,iX,mT 19,gN 20 14 22,d9 6 13,de 0,cL 21 2,t5 24 12,gr 8 7 25 13,dM,iE,iO,iM 27,ed 28,dA,eW 30,cn 32,gS 18 26,xr 32 33 23 31 29]
open RM
theorem C3{α:Type}:∀ {os:List α},os.length=5->∃ a b c d e,os=[a,b,c,d,e]
 | [a,b,c,d,e],_=>⟨a,b,c,d,e,rfl⟩
theorem Ct{ds:List Nat}{a b c d:Nat}(h:jA ds [a,b,c,d]):∃ x y z w,ds=[x,y,z,w]/\x<a/\y<b/\z<c/\w<d:=by
 obtain⟨h1,h2⟩:=h
 match ds,h1 with
 | [x,y,z,w],_=>exact⟨x,y,z,w,rfl,h2 0 x a rfl rfl,h2 1 y b rfl rfl,h2 2 z c rfl rfl,h2 3 w d rfl rfl⟩
theorem ck:Ck T 0 1 3 4 5 10 11 13 15 16 17:=⟨rfl,rfl,rfl,rfl,rfl,rfl,rfl,rfl,rfl,rfl,rfl⟩
theorem dg:Dg T 27 28 29:=⟨rfl,rfl,rfl⟩
theorem hg:Hg T 11 13 7 9 8 25 24 12 23:=⟨rfl,rfl,rfl,rfl,rfl,rfl,rfl⟩
theorem drawn{m n far w:Nat}(hw:w<5)(hm:m<12)(hn:n<=10)(hf:far<10 ^ 29):∃ z:Int,ixV (.lst [.int (m:Nat),.int ((m:Nat)-1),.int ((n:Nat)-2),.int ((n:Nat)-1+(far:Nat)),.int (0-1-(far:Nat))]) (.int (w:Nat))=some (.int z)/\z.natAbs<2 ^ 200:=by
 have b:∀ z:Int,z.natAbs<=100+far->z.natAbs<2 ^ 200:=fun z h=>Nat.lt_of_le_of_lt h (Nat.lt_trans (show 100+far<100+10 ^ 29 by omega) (by decide))
 match w,hw with
 | 0,_=>exact⟨_,rfl,b _ (by omega)⟩
 | 1,_=>exact⟨_,rfl,b _ (by omega)⟩
 | 2,_=>exact⟨_,rfl,b _ (by omega)⟩
 | 3,_=>exact⟨_,rfl,b _ (by omega)⟩
 | 4,_=>exact⟨_,rfl,b _ (by omega)⟩
theorem vB{n:Nat}{z:Int}(h1:1<=n)(h2:n<=10)(hz:¬ (0<=z/\z<n-1))(hw:z.natAbs<2 ^ 200):aw T 29 33 [.int (n:Nat),.int z]=some (.str "BadHook"):=by
 have r:Rc (aw T 27) 19 [.int (n:Nat),.lst [.int z]] "BadHook" := pL (nu:=0) (pc:=1) (cp:=2) (ish:=21) (cr:=22) (hh:=20) (pl:=14) (n:=22) (pre:=[]) (post:=[]) (by decide) rfl rfl rfl rfl rfl rfl h1 h2 (fun i hi=>nomatch hi) hz hw
 have r1:Rc (aw T 28) 18 [.int (n:Nat),.int z] "BadHook" := rm (fn:=mT 19) rfl (by decide) rfl rfl (C9 (DX (vX (aa rfl) (eI (aB (aa rfl) bJ)) r)))
 have k:aw T 28 26 [.exc "BadHook"]=some (.str "BadHook"):=(aq (fn:=iE) rfl).trans (AH (by decide))
 exact(aq (fn:=gS 18 26) rfl).trans (bh rfl rfl (aK ao rfl (za (CS (vX (aa rfl) (aa rfl) r1)) rfl (aK (i9 (aa rfl) k) rfl aS) (br (aa rfl) rfl))))
theorem xM{n i:Nat}(h1:1<=n)(h2:n<=10)(hi:i+1<n):aw T 29 33 [.int (n:Nat),.int (i:Nat)]=some (.tup (L (aN n i))):=by
 have e:=ck.hook (cp:=2) (pl:=14) (ti:=6) (hh:=20) (ish:=21) (cr:=22) (md:=19) (ho:=18) rfl rfl rfl rfl rfl rfl rfl rfl 22 h1 h2 hi
 have im:(D.tup (L (aN n i))).imm=true:=bA _
 exact(aq (fn:=gS 18 26) rfl).trans (bh rfl rfl (aK ao rfl (Cc (aK (dG (aa rfl) (aa rfl) e) (by unfold ba;rw[im];rfl) aS) (br (aa rfl) (by unfold bt;rw[im];rfl)))))
theorem main(ns:List Int)(hl:ns.length<=63):aw T 30 34 [.scr (ns.map D.int)]=some (.bl true):=by
 refine(aq (fn:=xr 32 33 23 31 29) rfl).trans (wb (m:=5) (N:=8) hl (by decide) fun k os hk ho=>?_)
 obtain⟨o2,o3,o4,o5,o6,rfl⟩:=C3 ho
 obtain⟨ds,hd,e1⟩:=dg.digits hl 26 (k:=k) (sizes:=[10,5,12,10 ^ 29]) (by omega) (by
  intro s hs
  simp only[List.mem_cons,List.not_mem_nil,or_false]at hs
  rcases hs with rfl | rfl | rfl | rfl<;>decide) (by decide)
 obtain⟨p,w,m,far,rfl,hp,hw,hm,hf⟩:=Ct hd
 have n1:1<=1+p:=by omega
 have n2:1+p<=10:=by omega
 have e0:aI .add (.int 1) (.int (p:Nat))=some (.int ((1+p:Nat):Int)):=rfl
 obtain⟨z,ez,bz⟩:=drawn (n:=1+p) hw hm n2 hf
 generalize 1+p=n at *
 have sl:(x:PySem.Str)->aw T 29 32 [.str x,.str x]=some (.bl true):=fun x=>(aq (fn:=cn 32) rfl).trans (same_str x)
 by_cases c:0<=z/\z<n-1
 ·obtain⟨i,rfl⟩:∃ i:Nat,z=i:=⟨z.toNat,by omega⟩
  have hi:i+1<n:=by omega
  have V:=jy n2 hi
  have t:at' (aN n i) i=i+1:=by rw[fE hi,if_neg (by omega),if_neg (by omega),if_neg (by omega),if_pos rfl]
  have hf':=(sC n2 hi V.frm).mpr t
  have hr:=xh V.frm V.frm (rH n2 hi V.frm t)
  have eh:aw T 29 23 [.tup (L (aN n i)),.tup (L (aN n i))]=some (.tup [.tup (L (aN n i)),.int 1]):=by
   obtain⟨S,R,e⟩:=hg.D4 ck 22 n1 n2 V V
   rw[hf',<-xh V.frm V.frm R,hr]at e
   exact e
  have lh:aw T 29 31 [.int (n:Nat),.int (i:Nat)]=some (.tup (L (aN n i))):=(aq (fn:=eW 30) rfl).trans (nc n2 hi ((aq (fn:=dA) rfl).trans (m5 n2)))
  have im:(D.tup (L (aN n i))).imm=true:=bA _
  have ll:(aN n i).length<=1000:=by rw[V.frm.len];omega
  have P1:Pl 1 (.tup (L (aN n i))):=Pl.L ll
  have P2:Pl 2 (.tup [.tup (L (aN n i)),.int 1]):=.tup _ _ (show 2<=1000 by decide) fun x hx=>by
   simp only[List.mem_cons,List.not_mem_nil,or_false]at hx
   rcases hx with rfl | rfl
   ·exact Pl.L ll
   ·exact .int _ _
  have sm:=sameAll (T:=T) (sm:=32) rfl _ 28 _ P1 (by decide)
  refine⟨_,?_,uN (l7 (aa rfl) (aa rfl) (eI (aB ao (aB ao (aB ao (aB (aA ao ao x8) bJ))))) e1) rfl rfl rfl
   (aK (aA ao (aa rfl) e0) rfl
   (aK (df (eI (aB (aa rfl) (aB (aA (aa rfl) ao cE) (aB (aA (aa rfl) ao cE) (aB (aA (aA (aa rfl) ao cE) (aa rfl) c6) (aB (aA (aA ao ao cE) (aa rfl) cE) bJ)))))) (aa rfl) ez) rfl
   (aK ao rfl
   (eL (bf (iW (k:=true) ao (aa rfl) (aA (aa rfl) ao cE) (by rw[kS,decide_eq_true c.1]) (by rw[fS,decide_eq_true c.2])))
    (aK (dG (aa rfl) (aa rfl) lh) (by unfold ba;rw[im];rfl)
    (bR (bf (aZ (dG (aa rfl) (aa rfl) eh) (rN (aB (aa rfl) (aB ao bJ))) (Cw P2 (by decide)))) aS))
   (bR (bf (cT (dG (dG (aa rfl) (aa rfl) (xM n1 n2 hi)) (aa rfl) sm))) aS)))))⟩
  rfl
 ·refine⟨_,?_,uN (l7 (aa rfl) (aa rfl) (eI (aB ao (aB ao (aB ao (aB (aA ao ao x8) bJ))))) e1) rfl rfl rfl
   (aK (aA ao (aa rfl) e0) rfl
   (aK (df (eI (aB (aa rfl) (aB (aA (aa rfl) ao cE) (aB (aA (aa rfl) ao cE) (aB (aA (aA (aa rfl) ao cE) (aa rfl) c6) (aB (aA (aA ao ao cE) (aa rfl) cE) bJ)))))) (aa rfl) ez) rfl
   (aK ao rfl
   (bR (by
    by_cases c1:0<=z
    ·exact bf (iW (k:=false) ao (aa rfl) (aA (aa rfl) ao cE) (by rw[kS,decide_eq_true c1]) (by rw[fS,decide_eq_false (fun h=>c ⟨c1,h⟩)]))
    ·exact bf (nK ao (aa rfl) (by rw[kS,decide_eq_false c1])))
   (bR (bf (cT (dG (dG (aa rfl) (aa rfl) (vB n1 n2 c bz)) (aa rfl) (sl _)))) aS)))))⟩
  rfl
end K21
namespace L2
open PySem PySem.Spec PyProof.Rows
abbrev Key:=Sum Int Str
def iS:Key->Value->Bool
 | .inl k,v=>Value.isInt k v
 | .inr x,v=>Value.isStrOf x v
def DU(w:World):Key->Int
 | .inl k=>hashInt k
 | .inr x=>hashStr w x
theorem bF:∀ {k:Key} {v:Value},iS k v=true->(∃ i t,k=Sum.inl i/\v=Value.int i t)\/(∃ x t,k=Sum.inr x/\v=Value.str x t)
 | .inl i,v,h=>by
  obtain⟨t,e⟩:=Value.isInt_shape (k:=i) (v:=v) h
  exact .inl ⟨i,t,rfl,e⟩
 | .inr x,v,h=>by
  obtain⟨t,e⟩:=Value.isStrOf_shape (x:=x) (v:=v) h
  exact .inr ⟨x,t,rfl,e⟩
theorem uP(i:Int)(t:Tok):iS (.inl i) (.int i t)=true:=by simp[iS,Value.isInt]
theorem sY(x:Str)(t:Tok):iS (.inr x) (.str x t)=true:=by simp[iS,Value.isStrOf]
theorem AD(a b:Int):decide ((Sum.inl a:Key)=Sum.inl b)=(a == b):=by
 by_cases e:a=b
 ·subst e;simp
 ·have h:¬ (Sum.inl a:Key)=Sum.inl b:=fun q=>e (Sum.inl.inj q)
  rw[decide_eq_false h]
  exact(beq_eq_false_iff_ne.mpr e).symm
theorem Bk(a b:Str):decide ((Sum.inr a:Key)=Sum.inr b)=decide (a=b):=by
 by_cases e:a=b
 ·subst e;simp
 ·have h:¬ (Sum.inr a:Key)=Sum.inr b:=fun q=>e (Sum.inr.inj q)
  rw[decide_eq_false h,decide_eq_false e]
theorem AL(a:Int)(b:Str):decide ((Sum.inl a:Key)=Sum.inr b)=false:=decide_eq_false (fun q=>nomatch q)
theorem A4(a:Str)(b:Int):decide ((Sum.inr a:Key)=Sum.inl b)=false:=decide_eq_false (fun q=>nomatch q)
def bN(prog:Program)(w:World):PySem.KeyKind prog w Key where
 is:=iS
 hash:=DU w
 inj:=fun v a b ha hb=>by
  rcases bF ha with⟨i,t,rfl,rfl⟩ | ⟨x,t,rfl,rfl⟩
  ·rcases bF hb with⟨j,u,rfl,e⟩ | ⟨y,u,rfl,e⟩
   ·injection e with e1 _;rw[e1]
   ·exact nomatch e
  ·rcases bF hb with⟨j,u,rfl,e⟩ | ⟨y,u,rfl,e⟩
   ·exact nomatch e
   ·injection e with e1 _;rw[e1]
 byValue:=fun k v h=>by
  rcases bF h with⟨i,t,rfl,rfl⟩ | ⟨x,t,rfl,rfl⟩<;>rfl
 pyHash:=fun hv h=>by
  rcases bF hv with⟨i,t,rfl,rfl⟩ | ⟨x,t,rfl,rfl⟩
  ·exact wpAny_pyHash_int h
  ·exact wpAny_pyHash_str h
 eqBool:=fun hu hv h=>by
  rcases bF hu with⟨i,t,rfl,rfl⟩ | ⟨x,t,rfl,rfl⟩
  ·rcases bF hv with⟨j,u,rfl,rfl⟩ | ⟨y,u,rfl,rfl⟩
   ·rw[AD]at h;exact wpAny_eqBool_int h
   ·rw[AL]at h;exact SeqAt.EqAt.int_str i t y u _ _ _ _ h
  ·rcases bF hv with⟨j,u,rfl,rfl⟩ | ⟨y,u,rfl,rfl⟩
   ·rw[A4]at h;exact SeqAt.EqAt.str_int x t j u _ _ _ _ h
   ·rw[Bk]at h;exact wpAny_eqBool_str h
 «strs»:=fun k x t v h=>by
  rcases bF h with⟨i,u,rfl,e⟩ | ⟨y,u,rfl,e⟩
  ·exact nomatch e
  ·injection e with e1 _
   subst e1
   cases v<;>rfl
theorem pF(prog:Program)(w:World)(i:Int)(t:Tok):(bN prog w).is (.inl i) (.int i t)=true:=uP i t
theorem pJ(prog:Program)(w:World)(x:Str)(t:Tok):(bN prog w).is (.inr x) (.str x t)=true:=sY x t
inductive V where
 | non | bl (b:Bool) | int (i:Int) | str (x:Str) | byt (b:Array UInt8) | flt (b:UInt64) | ref (a:Addr) | ty (n:String)
 deriving DecidableEq
def RelV:V->Value->Prop
 | .non,u=>u=Value.none
 | .bl b,u=>u=Value.bool b
 | .int i,u=>∃ t,u=Value.int i t
 | .str x,u=>∃ t,u=Value.str x t
 | .byt b,u=>∃ t,u=Value.bytes b t
 | .flt b,u=>∃ t,u=Value.float b t
 | .ref a,u=>u=Value.ref a
 | .ty n,u=>u=Value.type n
abbrev Vals:List V->List Value->Prop:=Paired RelV
theorem Vals.length{xs:List V}{us:List Value}(r:Vals xs us):xs.length=us.length:=Paired.length r
theorem Vals.get:∀ {xs:List V} {us:List Value} {i:Nat} {x:V},Vals xs us->xs[i]?=some x->∃ u,us[i]?=some u/\RelV x u
 | _,_,_,_,.nil,e=>by simp at e
 | _,_,0,_,.cons r _,e=>by simp at e;subst e;exact⟨_,rfl,r⟩
 | _,_,i+1,x,.cons _ t,e=>by
  obtain⟨u,h1,h2⟩:=Vals.get (i:=i) (x:=x) t (by simpa using e)
  exact⟨u,by simpa using h1,h2⟩
theorem Vals.set{x:V}{u:Value}(r:RelV x u):∀ {xs:List V} {us:List Value} (i:Nat),Vals xs us->Vals (xs.set i x) (us.set i u)
 | _,_,_,.nil=>.nil
 | _,_,0,.cons _ t=>.cons r t
 | _,_,i+1,.cons q t=>.cons q (Vals.set r i t)
theorem Vals.append:∀ {xs ys:List V} {us ws:List Value},Vals xs us->Vals ys ws->Vals (xs++ys) (us++ws)
 | _,_,_,_,.nil,s=>s
 | _,_,_,_,.cons r t,s=>.cons r (Vals.append t s)
theorem Vals.take:∀ {xs:List V} {us:List Value} (n:Nat),Vals xs us->Vals (xs.take n) (us.take n)
 | _,_,0,_=>.nil
 | _,_,_+1,.nil=>.nil
 | _,_,n+1,.cons r t=>.cons r (Vals.take n t)
theorem Vals.drop:∀ {xs:List V} {us:List Value} (n:Nat),Vals xs us->Vals (xs.drop n) (us.drop n)
 | _,_,0,r=>r
 | _,_,_+1,.nil=>.nil
 | _,_,n+1,.cons _ t=>Vals.drop n t
def kN:Option V->Option Value->Prop
 | some v,some u=>RelV v u
 | none,none=>True
 | _,_=>False
def KV{κ:Type}:List (κ × V)->List (κ × Value)->Prop:=Paired fun(p:κ × V) (q:κ × Value)=>p.1=q.1/\RelV p.2 q.2
def kV:Key->V
 | .inl i=>.int i
 | .inr x=>.str x
inductive HO where
  | lst (xs:List V)
  | tup (xs:List V)
  | dK (kvs:List (Key × V)) | dT (kvs:List (List Key × V))
  | set (S:Int->Bool) (n:Nat)
  | ins (C dx:Addr) (fs:List (Str × V))
  | own (x:Addr)
  | xd (fs:List (Str × V))
  | met (f x:Addr)
  | rng (lo hi:Int)
  | frz (o:Obj) (u:HO)
  | tbl (ps:Array Value)
  | ext (φ:Heap->Prop)
abbrev Hp:=Addr->Option HO
def upd(H:Hp)(a:Addr)(o:HO):Hp:=fun b=>if b=a then some o else H b
theorem aW{H:Hp}{a:Addr}{o:HO}:upd H a o a=some o:=by unfold upd;rw[if_pos rfl]
theorem aF{H:Hp}{a b:Addr}{o:HO}(h:b≠a):upd H a o b=H b:=by unfold upd;rw[if_neg h]
theorem mE{H:Hp}{a b:Addr}{o u:HO}(h:H a=some o)(h':H b=some u)(d:o≠u):a≠b:=by
 intro e;subst e;rw[h]at h';exact d (Option.some.inj h')
theorem aG{H:Hp}{a b:Addr}{o:HO}(h:H a=some o)(h':H b=none):a≠b:=by
 intro e;subst e;rw[h]at h';cases h'
section
variable(P:Program)(w:World)
def bg(H:Hp)(h:Heap)(a:Addr):HO->Prop
 | .lst xs=>xs.length<=sizeLine/\∃ (its:List Value) (n:Nat),Vals xs its/\h.get? a=some { cls:=.type "list",data:=.seq its.toArray n }
 | .tup xs=>xs.length<=sizeLine/\∃ its:List Value,Vals xs its/\IsTup h a its.toArray
 | .dK kvs=>kvs.length<=sizeLine/\(a == sysModules)=false/\∃ vs,KV kvs vs/\h.DictOf (bN P w) a vs
 | .dT kvs=>kvs.length<=sizeLine/\(a == sysModules)=false/\∃ xs:List (List Key × Addr × Value),
   Paired (fun(p:List Key × V) (q:List Key × Addr × Value)=>p.1=q.1/\H q.2.1=some (.tup (p.1.map kV))/\RelV p.2 q.2.2) kvs xs /\
   ∃ o es ep,h.get? a=some o/\o.ExactDict/\o.data=.dict es ep/\es.toList=xs.map (entryOfKey (tupleKind (bN P w)))/\(xs.map (·.1)).Nodup
 | .set S n=>h.SetOf (intKind P w) a S n
 | .ins C dx fs=>H dx=some (.own a)/\fs.length<=1000/\dx≠a/\h.get? a=some (PySem.W.instObj C dx) /\
   ∃ mA,h.Ns1 dx mA/\(∀ f,kN (fs.lookup f) (mA f))/\PySem.Within mA (fs.map (·.1))
 | .own _=>∃ o,h.get? a=some o
 | .xd fs=>∃ mA,h.Ns1 a mA/\∀ f,kN (fs.lookup f) (mA f)
 | .rng lo hi=>∃ t u v,h.get? a=some { cls:=.type "range",data:=.fields #[.int lo t,.int hi u,.int 1 v] }
 | .frz o u=>h.get? a=some o/\bg H h a u
 | .tbl ps=>h.get? a=some { cls:=.none,data:=.fields ps }
 | .met f x=>h.get? a=some (PySem.W.methodObj (.ref f) (.ref x))
 | .ext φ=>φ h/\(∃ o,h.get? a=some o)/\∀ h1 h2:Heap,φ h1->(∀ o,h1.get? a=some o->h2.get? a=some o)->φ h2
def HOk(H:Hp)(h:Heap):Prop:=∀ a o,H a=some o->bg P w H h a o
end
section
variable{P:Program}{w:World}{H H':Hp}{h h':Heap}{a:Addr}{o:HO}
theorem bg.lt(x:bg P w H h a o):a<h.objs.size:=by
 cases o with
 | lst xs=>obtain⟨_,_,_,_,e⟩:=x;exact Heap.lt_size e
 | tup xs=>obtain⟨_,_,_,p⟩:=x;exact p.lt
 | dK kvs=>obtain⟨_,_,_,_,o,_,_,e,_⟩:=x;exact Heap.lt_size e
 | dT kvs=>obtain⟨_,_,_,_,o,_,_,e,_⟩:=x;exact Heap.lt_size e
 | set S n=>obtain⟨o,_,_,_,e,_⟩:=x;exact Heap.lt_size e
 | ins C dx fs=>obtain⟨_,_,_,e,_⟩:=x;exact Heap.lt_size e
 | own y=>obtain⟨_,e⟩:=x;exact Heap.lt_size e
 | xd fs=>obtain⟨_,⟨_,_,_,e,_⟩,_⟩:=x;exact Heap.lt_size e
 | rng lo hi=>obtain⟨_,_,_,e⟩:=x;exact Heap.lt_size e
 | frz ob u=>obtain⟨e,_⟩:=x;exact Heap.lt_size e
 | tbl ps=>exact Heap.lt_size (show h.get? a=some _ from x)
 | met f y=>exact Heap.lt_size (show h.get? a=some _ from x)
 | ext φ=>obtain⟨_,⟨_,e⟩,_⟩:=x;exact Heap.lt_size e
theorem Paired.v8{α β:Type}{F G:α->β->Prop}:∀ {l₁:List α} {l₂:List β},Paired F l₁ l₂->(∀ a b,F a b->G a b)->Paired G l₁ l₂
 | _,_,.nil,_=>.nil
 | _,_,.cons r t,f=>.cons (f _ _ r) (Paired.v8 t f)
theorem bg.il(x:bg P w H h a o)(k:∀ b u,(b=a\/H b=some (.own a))->h.get? b=some u->h'.get? b=some u)
 (ho:∀ b,H b=some (.own a)->H' b=some (.own a))(ht:∀ b xs,H b=some (.tup xs)->H' b=some (.tup xs)):bg P w H' h' a o:=by
 induction o with
 | lst xs=>obtain⟨z,its,n,r,e⟩:=x;exact⟨z,its,n,r,k _ _ (.inl rfl) e⟩
 | tup xs=>obtain⟨z,its,r,ob,e,c⟩:=x;exact⟨z,its,r,ob,k _ _ (.inl rfl) e,c⟩
 | dK kvs=>obtain⟨z,y,vs,r,ob,es,ep,e,c⟩:=x;exact⟨z,y,vs,r,ob,es,ep,k _ _ (.inl rfl) e,c⟩
 |dT kvs=>
  obtain⟨z,y,xs,r,ob,es,ep,e,c⟩:=x
  exact⟨z,y,xs,Paired.v8 r fun p q z=>⟨z.1,ht _ _ z.2.1,z.2.2⟩,ob,es,ep,k _ _ (.inl rfl) e,c⟩
 | set S n=>obtain⟨ob,es,ep,t,e,c⟩:=x;exact⟨ob,es,ep,t,k _ _ (.inl rfl) e,c⟩
 |ins C dx fs=>
  obtain⟨d,z,ne,e,mA,⟨od,es,ep,e2,c⟩,r⟩:=x
  exact⟨ho _ d,z,ne,k _ _ (.inl rfl) e,mA,⟨od,es,ep,k _ _ (.inr d) e2,c⟩,r⟩
 | own y=>obtain⟨ob,e⟩:=x;exact⟨ob,k _ _ (.inl rfl) e⟩
 | xd fs=>obtain⟨mA,⟨od,es,ep,e,c⟩,r⟩:=x;exact⟨mA,⟨od,es,ep,k _ _ (.inl rfl) e,c⟩,r⟩
 | rng lo hi=>obtain⟨t,u,v,e⟩:=x;exact⟨t,u,v,k _ _ (.inl rfl) e⟩
 | frz ob u ih=>obtain⟨e,q⟩:=x;exact⟨k _ _ (.inl rfl) e,ih q⟩
 |tbl ps=>
  have e:h.get? a=some { cls:=.none,data:=.fields ps }:=x
  show h'.get? a=some { cls:=.none,data:=.fields ps }
  exact k a _ (.inl rfl) e
 |met f y=>
  have e:h.get? a=some (PySem.W.methodObj (.ref f) (.ref y)):=x
  show h'.get? a=some (PySem.W.methodObj (.ref f) (.ref y))
  exact k a _ (.inl rfl) e
 | ext φ=>obtain⟨p,⟨o,e⟩,st⟩:=x;exact⟨st _ _ p fun o q=>k _ _ (.inl rfl) q,⟨o,k _ _ (.inl rfl) e⟩,st⟩
theorem HOk.lt(x:HOk P w H h)(e:H a=some o):a<h.objs.size:=(x a o e).lt
theorem HOk.fresh(x:HOk P w H h)(e:h.objs.size<=a):H a=none:=by
 cases q:H a with
 | none=>rfl
 | some u=>exact absurd (Nat.lt_of_lt_of_le (x.lt q) e) (Nat.lt_irrefl _)
theorem HOk.kept(x:HOk P w H h)(k:∀ b u,h.get? b=some u->h'.get? b=some u):HOk P w H h':=fun a o e =>
 (x a o e).il (fun b u _ q=>k b u q) (fun _ q=>q) fun _ _ q=>q
theorem HOk.laid(x:HOk P w H h)(k:∀ b u,h.get? b=some u->h'.get? b=some u)(hp:h.objs.size<=a)(new:bg P w (upd H a o) h' a o):HOk P w (upd H a o) h':=fun b u e=>by
 have hn:=x.fresh hp
 by_cases hb:b=a
 ·subst hb;rw[aW]at e;cases e;exact new
 ·rw[aF hb]at e
  exact(x b u e).il (fun c v _ q=>k c v q) (fun c q=>by rw[aF (aG q hn)];exact q) fun c xs q=>by rw[aF (aG q hn)];exact q
end
def Rd(H:Hp)(a:Addr)(u:HO):Prop:=H a=some u\/∃ o,H a=some (.frz o u)
theorem Rd.ok{P:Program}{w:World}{H:Hp}{h:Heap}{a:Addr}{u:HO}(r:Rd H a u)(x:HOk P w H h):bg P w H h a u:=by
 rcases r with r | ⟨o,r⟩
 ·exact x a u r
 ·obtain⟨_,q⟩:=x a _ r
  exact q
def Mut:Option HO->Prop
 | some (.lst _)=>True
 | some (.dK _)=>True
 | some (.dT _)=>True
 | some (.set _ _)=>True
 | some (.ins _ _ _)=>True
 | some (.ext _)=>True
 | _=>False
section
variable{P:Program}{w:World}{H:Hp}{h h':Heap}{x e:Addr}{o':HO}
theorem HOk.write(ok:HOk P w H h)(mu:Mut (H x))(he:e=x\/H e=some (.own x))(k:∀ b u,b≠e->h.get? b=some u->h'.get? b=some u)(heo:∃ u,h'.get? e=some u)
 (new:bg P w (upd H x o') h' x o'):HOk P w (upd H x o') h':=fun b u q=>by
 have nown:∀ c y,H c=some (.own y)->c≠x:=fun c y r z=>by subst z;rw[r]at mu;exact mu
 have ntup:∀ c xs,H c=some (.tup xs)->c≠x:=fun c xs r z=>by subst z;rw[r]at mu;exact mu
 by_cases hb:b=x
 ·subst hb;rw[aW]at q;cases q;exact new
 ·rw[aF hb]at q
  by_cases hbe:b=e
  ·have q':H b=some (.own x):=by
    rcases he with z | z
    ·exact absurd (hbe.trans z) hb
    ·rw[hbe];exact z
   rw[q]at q';cases q'
   obtain⟨v,hv⟩:=heo
   exact⟨v,by rw[hbe];exact hv⟩
  ·refine(ok b u q).il (fun c v hc r=>k c v ?_ r) (fun c r=>by rw[aF (nown c b r)];exact r) fun c xs r=>by rw[aF (ntup c xs r)];exact r
   rcases hc with rfl | hc
   ·exact hbe
   ·rintro rfl
    rcases he with z | z
    ·exact nown c b hc z
    ·rw[hc]at z;cases z;exact hb rfl
end
structure Un(fs ex:List Addr)(H H':Hp)(h h':Heap):Prop where
 keep:∀ b o,h.get? b=some o->H b=none->b∉fs->b∉ex->h'.get? b=some o
 slot:∀ b o,h.get? b=some o->H b=none->b∈fs->b∉ex->∃ sl,h'.get? b=some { o with slots:=sl }
 free:∀ b o,h.get? b=some o->H b=none->b∉ex->H' b=none
 there:∀ b o,h.get? b=some o->b∉ex->∃ o',h'.get? b=some o'
 dE:∀ b xs,H b=some (.tup xs)->H' b=some (.tup xs)
 cC:∀ b o u,H b=some (.frz o u)->H' b=some (.frz o u)
 dI:∀ b ps,H b=some (.tbl ps)->∃ more,H' b=some (.tbl (ps++more))
section
variable{fs fs' ex ex':List Addr}{H H1 H2:Hp}{h h1 h2 h':Heap}{a x e:Addr}{o:HO}
theorem Un.any(u:Un fs ex H H1 h h1){b:Addr}{ob:Obj}(q:h.get? b=some ob)(n:H b=none)(hx:b∉ex):∃ sl,h1.get? b=some { ob with slots:=sl }:=by
 by_cases hb:b∈fs
 ·exact u.slot b ob q n hb hx
 ·exact⟨ob.slots,u.keep b ob q n hb hx⟩
theorem Un.kept(k:∀ b u,h.get? b=some u->h'.get? b=some u):Un fs ex H H h h' :=
 ⟨fun b ob q _ _ _=>k b ob q,fun b ob q _ _ _=>⟨ob.slots,k b ob q⟩,fun _ _ _ n _=>n,fun b ob q _=>⟨ob,k b ob q⟩,fun _ _ q=>q,fun _ _ _ q=>q,fun _ ps q=>⟨#[],by rw[q];simp⟩⟩
theorem Un.refl:Un fs ex H H h h:=Un.kept fun _ _ q=>q
theorem Un.laid(k:∀ b u,h.get? b=some u->h'.get? b=some u)(hp:h.objs.size<=a)(hn:H a=none):Un fs ex H (upd H a o) h h' where
 keep:=fun b u q _ _ _=>k b u q
 slot:=fun b u q _ _ _=>⟨u.slots,k b u q⟩
 free:=fun b u q n _=>by rw[aF (Nat.ne_of_lt (Nat.lt_of_lt_of_le (Heap.lt_size q) hp))];exact n
 there:=fun b u q _=>⟨u,k b u q⟩
 dE:=fun b xs q=>by rw[aF (aG q hn)];exact q
 cC:=fun b u xs q=>by rw[aF (aG q hn)];exact q
 dI:=fun b ps q=>⟨#[],by rw[aF (aG q hn),q];simp⟩
theorem Un.write(mu:Mut (H x))(he:e=x\/H e=some (.own x))(k:∀ b u,b≠e->h.get? b=some u->h'.get? b=some u)(heo:∃ u,h'.get? e=some u):Un fs ex H (upd H x o) h h':=by
 have hx:∀ b,H b=none->b≠x:=fun b n z=>by subst z;rw[n]at mu;exact mu
 have hb:∀ b,H b=none->b≠e:=fun b n z=>by
  subst z
  rcases he with r | r
  ·exact hx b n r
  ·rw[n]at r;cases r
 have hm:∀ b u,H b=some u->¬ Mut (some u)->b≠x:=fun b u q nm z=>by subst z;rw[q]at mu;exact nm mu
 refine⟨fun b u q n _ _=>k b u (hb b n) q,fun b u q n _ _=>⟨u.slots,k b u (hb b n) q⟩,fun b u q n _=>by rw[aF (hx b n)];exact n,fun b u q _=>?_,
  fun b xs q=>by rw[aF (hm b _ q fun z=>z)];exact q,fun b u xs q=>by rw[aF (hm b _ q fun z=>z)];exact q,fun b ps q=>⟨#[],by rw[aF (hm b _ q fun z=>z),q];simp⟩⟩
 by_cases hbe:b=e
 ·subst hbe;exact heo
 ·exact⟨u,k b u hbe q⟩
end
def trk(h:Heap)(H:Hp):List Addr:=(List.range h.objs.size).filter fun a=>(H a).isSome
def iz(h:Heap)(H:Hp):Heap:=PySem.W.hideAll h (trk h H)
theorem u5(h:Heap)(H:Hp):(iz h H).objs.size=h.objs.size:=PySem.W.hideAll_size _ _
theorem wK{h:Heap}{H:Hp}{b:Addr}{o:Obj}(e:h.get? b=some o)(n:H b=none):(iz h H).get? b=some o :=
 PySem.W.hideAll_get _ e fun hm=>by
  have q:(H b).isSome=true:=(List.mem_filter.mp hm).2
  rw[n]at q;simp at q
theorem yg{h:Heap}{H:Hp}{b:Addr}{o:Obj}(e:(iz h H).get? b=some o):h.get? b=some o/\H b=none:=by
 have e':h.get? b=some o:=PySem.W.of_hideAll (trk h H) e
 refine⟨e',?_⟩
 cases q:H b with
 | none=>rfl
 |some x=>
  have hm:b∈trk h H:=List.mem_filter.mpr ⟨List.mem_range.mpr (Heap.lt_size e'),by simp[q]⟩
  have z:(iz h H).get? b=none:=PySem.W.hideAll_none (trk h H) hm
  rw[z]at e;cases e
structure Mod(K:PySem.W.Frag)(mg:Str->Option Value)(base:Heap):Prop where
 kin:K.In base
 glob:base.Ns mainGlobals mg
 blt:∃ mb,base.Ns builtinsNs mb/\∀ x:Str,x ≠ "__name__" -> mb x=bootBuiltins x
 nolimit:base.NoLimit
structure Cx where
 prog:Program
 w:World
 K:PySem.W.Frag
 mg:Str->Option Value
 base:Heap
 A:Around
 N:List Str
 s₀:Shared
 H₀:Hp
 env:Env
 outer:List Env
 stack:List Env
 ex:List Addr
 fn:Str->Bool
 calm:Bool
 pn:List (Addr × Obj)
 xe:Value->Shared->Prop
def frs(l:List Env):List Addr:=l.filterMap (·.frame)
abbrev Cx.fs(X:Cx):List Addr:=frs X.outer
def Vis(sc:Scope)(x:Str):Prop:=sc.names.lookup x=some .local\/sc.names.lookup x=some .cell\/sc.names.lookup x=some .free
def Loc(sc:Scope)(x:Str):Prop:=sc.names.lookup x=some .local\/sc.names.lookup x=some .cell
def Look(env:Env)(h:Heap)(m:Str->Option Value)(x:Str)(u:Value):Prop :=
 (env.kindOf x=some .local/\m x=some u)\/((env.kindOf x=some .cell\/env.kindOf x=some .free)/\∃ c,env.cells.lookup x=some c/\h.IsCell c (some u))
def HX(X:Cx):Prop:=X.A.handled=none\/∃ h o u vs,X.A.handled=some (.ref h)/\X.H₀ h=some (.frz o u)/\o.data=.fields vs/\vs[2]?=some .none
structure Cx.Ok(X:Cx):Prop where
 mod:Mod X.K X.mg X.base
 kind:X.env.scope.kind=.function
 glob:X.env.globals=mainGlobals
 blt:X.env.builtins=builtinsNs
 above:X.s₀.heap.objs.size<=X.env.locals
 inj:∀ x y c,X.env.cells.lookup x=some c->X.env.cells.lookup y=some c->x=y
 has:∀ x,(X.env.kindOf x=some .cell\/X.env.kindOf x=some .free)->∃ c,X.env.cells.lookup x=some c
 cab:∀ x c,X.fn x=true->X.env.cells.lookup x=some c->X.s₀.heap.objs.size<=c
 hd:(X.calm=true->X.A.handled=none)/\HX X
 frames:X.A.frames=some X.stack
 stk:X.stack=X.outer\/(X.stack=X.env::X.outer/\X.env.frame=some X.env.locals)
 exf:∀ b∈X.ex,b≠X.env.locals/\∀ x c,X.env.cells.lookup x=some c->c≠b
 bs:∀ b o,X.base.get? b=some o->X.s₀.heap.get? b=some o/\X.H₀ b=none
 bsz:X.base.objs.size<=X.s₀.heap.objs.size
 iy:∀ b o,X.base.get? b=some o->b∉X.ex
 gY:∀ b∈X.ex,b∉X.fs
 cV:X.s₀.heap.FunFrames X.base X.outer
 frf:∀ b∈X.fs,X.H₀ b=none
structure Inv(X:Cx)(pins:List (Addr × Obj))(σ:List (Option V))(H:Hp)(s:Shared):Prop where
 ok:X.Ok
 os:s.os=X.s₀.os
 bare:AllBare s.gens
 base:Un X.fs X.ex X.H₀ H X.s₀.heap s.heap
 loc:∃ m,s.heap.Ns X.env.locals m/\∀ (i:Nat) (x:Str) (v:V),X.N[i]?=some x->σ[i]?=some (some v)->Vis X.env.scope x->∃ u,RelV v u/\Look X.env s.heap m x u
 cell:∀ x c,X.env.cells.lookup x=some c->∃ v,s.heap.IsCell c v
 free:H X.env.locals=none
 bZ:∀ x c,X.env.cells.lookup x=some c->H c=none
 pin:∀ p∈X.pn++pins,s.heap.get? p.1=some p.2/\H p.1=none/\p.1≠X.env.locals/\p.1∉X.fs/\∀ v,p.2.data≠.cell v
 hok:HOk X.prog X.w H s.heap
 len:σ.length=X.N.length
section
variable{X:Cx}{pins:List (Addr × Obj)}{σ:List (Option V)}{H H':Hp}{s:Shared}{h':Heap}
theorem Cx.Ok.Dh(ok:X.Ok){b:Addr}{o:Obj}(e:X.base.get? b=some o):b∉X.fs:=fun hb=>by
 have:=(ok.cV.mem hb).1
 rw[e]at this;cases this
theorem Inv.bs(I:Inv X pins σ H s):∀ b o,X.base.get? b=some o->s.heap.get? b=some o/\H b=none:=fun b o e =>
 ⟨I.base.keep b o (I.ok.bs b o e).1 (I.ok.bs b o e).2 (I.ok.Dh e) (I.ok.iy b o e),I.base.free b o (I.ok.bs b o e).1 (I.ok.bs b o e).2 (I.ok.iy b o e)⟩
theorem Inv.bk(I:Inv X pins σ H s):∀ b o,X.base.get? b=some o->s.heap.get? b=some o:=fun b o e=>(I.bs b o e).1
theorem Inv.mod(I:Inv X pins σ H s):Mod X.K X.mg X.base:=I.ok.mod
theorem Inv.kIn(I:Inv X pins σ H s):X.K.In s.heap:=I.ok.mod.kin.keeps I.bk
theorem Inv.lt(I:Inv X pins σ H s):X.env.locals<s.heap.objs.size:=let ⟨_,hn,_⟩:=I.loc;hn.lt
theorem Inv.sz(I:Inv X pins σ H s):X.s₀.heap.objs.size<=s.heap.objs.size:=Nat.le_trans I.ok.above (Nat.le_of_lt I.lt)
theorem Inv.D9(I:Inv X pins σ H s){a:Addr}(h:s.heap.objs.size<=a):a∉X.fs:=fun hb=>by
 obtain⟨_,o,ho,_⟩:=I.ok.cV.mem hb
 exact absurd (Nat.lt_of_lt_of_le (Heap.lt_size ho) (Nat.le_trans I.sz h)) (Nat.lt_irrefl _)
theorem Inv.cne(I:Inv X pins σ H s):∀ x c,X.env.cells.lookup x=some c->c≠X.env.locals:=fun x c e z=>by
 obtain⟨v,o,ho,hd⟩:=I.cell x c e
 obtain⟨m,⟨o',es,ep,ho',hd',_⟩,_⟩:=I.loc
 rw[z,ho']at ho;cases ho;rw[hd']at hd;cases hd
theorem Inv.cV(I:Inv X pins σ H s):s.heap.FunFrames X.base X.outer:=by
 have all:∀ (l:List Env),(∀ b∈frs l,b∈X.fs)->X.s₀.heap.FunFrames X.base l->s.heap.FunFrames X.base l:=by
  intro l
  induction l with
  | nil=>intro _ _;trivial
  |cons env r ih=>
   intro hs hl
   obtain⟨hk,⟨L,o,hf,hn,ho,hd⟩,hr⟩:=hl
   have hL:L∈X.fs:=hs L (by unfold frs;rw[List.filterMap_cons,hf];exact List.mem_cons_self)
   obtain⟨sl,e⟩:=I.base.slot L o ho (I.ok.frf L hL) hL fun z=>I.ok.gY L z hL
   exact⟨hk,⟨L,_,hf,hn,e,hd⟩,ih (fun b hb=>hs b (by unfold frs;rw[List.filterMap_cons,hf];exact List.mem_cons_of_mem _ hb)) hr⟩
 exact all X.outer (fun _ hb=>hb) I.ok.cV
theorem Inv.stack(I:Inv X pins σ H s):s.heap.FunFrames X.base X.stack:=by
 rcases I.ok.stk with e | ⟨e,hf⟩
 ·rw[e];exact I.cV
 ·rw[e]
  obtain⟨m,hn,_⟩:=I.loc
  refine .cons (by rw[I.ok.kind];decide) hf hn ?_ I.cV
  exact Heap.get?_none_of_le (Nat.le_trans I.ok.bsz I.ok.above)
theorem Inv.nQ(I:Inv X pins σ H s):∀ b∈frs X.stack,b∈X.env.locals::X.fs:=fun b hb=>by
 rcases I.ok.stk with e | ⟨e,hf⟩
 ·rw[e]at hb;exact List.mem_cons_of_mem _ hb
 ·rw[e]at hb
  unfold frs at hb
  rw[List.filterMap_cons,hf]at hb
  exact hb
theorem Inv.jg(I:Inv X pins σ H s):∀ b∈frs X.stack,H b=none:=fun b hb=>by
 rcases List.mem_cons.mp (I.nQ b hb)with e | hb
 ·rw[e];exact I.free
 ·obtain⟨_,o,ho,_⟩:=I.ok.cV.mem hb
  exact I.base.free b o ho (I.ok.frf b hb) fun z=>I.ok.gY b z hb
theorem Inv.step{g':Array GenState}{t':Nat}{d':Drawn}{ch:List Addr}(I:Inv X pins σ H s)
 (hch:∀ b∈ch,(b∈X.ex\/X.s₀.heap.objs.size<=b)/\b≠X.env.locals/\(∀ x c,X.env.cells.lookup x=some c->c≠b)/\∀ p∈X.pn++pins,p.1≠b)
 (keep:∀ b o,b≠X.env.locals->b∉X.fs->b∉ch->s.heap.get? b=some o->H b=none->h'.get? b=some o)
 (slot:∀ b o,b≠X.env.locals->b∈X.fs->b∉ch->s.heap.get? b=some o->H b=none->∃ sl,h'.get? b=some { o with slots:=sl })(free:∀ b o,b∉ch->s.heap.get? b=some o->H b=none->H' b=none)
 (there:∀ b o,b∉ch->s.heap.get? b=some o->∃ o',h'.get? b=some o')
 (dE:∀ b xs,H b=some (.tup xs)->H' b=some (.tup xs))(cC:∀ b o u,H b=some (.frz o u)->H' b=some (.frz o u))(dI:∀ b ps,H b=some (.tbl ps)->∃ more,H' b=some (.tbl (ps++more)))
 (ns:∀ m,s.heap.Ns X.env.locals m->h'.Ns X.env.locals m)(hok:HOk X.prog X.w H' h')(hg:AllBare g') :
  Inv X pins σ H' { s with heap:=h',gens:=g',drawn:=d',toks:=t' }:=by
 have neL:∀ b o,X.s₀.heap.get? b=some o->b≠X.env.locals:=fun b o e=>Nat.ne_of_lt (Nat.lt_of_lt_of_le (Heap.lt_size e) I.ok.above)
 have neC:∀ b o,X.s₀.heap.get? b=some o->b∉X.ex->b∉ch:=fun b o e hx hb=>by
  rcases(hch b hb).1 with z | z
  ·exact hx z
  ·exact absurd (Nat.lt_of_lt_of_le (Heap.lt_size e) z) (Nat.lt_irrefl _)
 have cellK:∀ x c,X.env.cells.lookup x=some c->∀ v,s.heap.IsCell c v->h'.IsCell c v:=fun x c e v ⟨o,ho,hd⟩=>by
  have nch:c∉ch:=fun z=>(hch c z).2.2.1 x c e rfl
  by_cases hc:c∈X.fs
  ·obtain⟨sl,q⟩:=slot c o (I.cne x c e) hc nch ho (I.bZ x c e)
   exact⟨_,q,hd⟩
  ·exact⟨o,keep c o (I.cne x c e) hc nch ho (I.bZ x c e),hd⟩
 refine⟨I.ok,I.os,hg,⟨fun b o e n hb hx=>?_,fun b o e n hb hx=>?_,fun b o e n hx=>?_,fun b o e hx=>?_,fun b xs e=>dE b xs (I.base.dE b xs e),fun b o xs e=>cC b o xs (I.base.cC b o xs e),fun b ps e=>?_⟩,?_,fun x c e=>?_,?_,fun x c e=>?_,fun p hp=>?_,hok,I.len⟩
 ·exact keep b o (neL b o e) hb (neC b o e hx) (I.base.keep b o e n hb hx) (I.base.free b o e n hx)
 ·obtain⟨sl,e1⟩:=I.base.slot b o e n hb hx
  obtain⟨sl',e2⟩:=slot b _ (neL b o e) hb (neC b o e hx) e1 (I.base.free b o e n hx)
  exact⟨sl',e2⟩
 ·obtain⟨o',e1⟩:=I.base.there b o e hx
  exact free b o' (neC b o e hx) e1 (I.base.free b o e n hx)
 ·obtain⟨o',e1⟩:=I.base.there b o e hx
  exact there b o' (neC b o e hx) e1
 ·obtain⟨m1,e1⟩:=I.base.dI b ps e
  obtain⟨m2,e2⟩:=dI b _ e1
  exact⟨m1++m2,by rw[e2,Array.append_assoc]⟩
 ·obtain⟨m,hn,hl⟩:=I.loc
  refine⟨m,ns m hn,fun i x v e1 e2 e3=>?_⟩
  obtain⟨u,r,l⟩:=hl i x v e1 e2 e3
  refine⟨u,r,?_⟩
  rcases l with l | ⟨k,c,e,z⟩
  ·exact .inl l
  ·exact .inr ⟨k,c,e,cellK x c e _ z⟩
 ·obtain⟨v,z⟩:=I.cell x c e
  exact⟨v,cellK x c e v z⟩
 ·obtain⟨m,⟨o,_,_,ho,_⟩,_⟩:=I.loc
  exact free _ o (fun z=>(hch _ z).2.1 rfl) ho I.free
 ·obtain⟨v,o,ho,hd⟩:=I.cell x c e
  exact free c o (fun z=>(hch c z).2.2.1 x c e rfl) ho (I.bZ x c e)
 ·obtain⟨e,n,ne,nf,d⟩:=I.pin p hp
  have nch:p.1∉ch:=fun z=>(hch p.1 z).2.2.2 p hp rfl
  exact⟨keep p.1 p.2 ne nf nch e n,free p.1 p.2 nch e n,ne,nf,d⟩
theorem Inv.un{t':Nat}(I:Inv X pins σ H s)(u:Un X.fs [] H H' s.heap h')(hok:HOk X.prog X.w H' h'):Inv X pins σ H' { s with heap:=h',toks:=t' }:=by
 obtain⟨m,⟨o,es,ep,ho,r⟩,_⟩:=id I.loc
 obtain⟨sl,hL⟩:=u.any ho I.free (by simp)
 exact I.step (g':=s.gens) (d':=s.drawn) (ch:=[]) (fun _ z=>nomatch z) (fun b o _ hb _ e n=>u.keep b o e n hb (by simp)) (fun b o _ hb _ e n=>u.slot b o e n hb (by simp)) (fun b o _ e n=>u.free b o e n (by simp)) (fun b o _ e=>u.there b o e (by simp)) u.dE u.cC u.dI (fun m' hm=>by
  obtain⟨o',es',ep',ho',r'⟩:=hm
  rw[ho]at ho';cases ho'
  exact⟨_,es',ep',hL,r'⟩) hok I.bare
theorem Inv.call{g':Array GenState}{t':Nat}{d':Drawn}{ch:List Addr}(I:Inv X pins σ H s)(u:Un (frs X.stack) ch H H' s.heap h')(hok:HOk X.prog X.w H' h')(hg:AllBare g')
 (hch:∀ b∈ch,(b∈X.ex\/X.s₀.heap.objs.size<=b)/\b≠X.env.locals/\(∀ x c,X.env.cells.lookup x=some c->c≠b)/\∀ p∈X.pn++pins,p.1≠b) :
  Inv X pins σ H' { s with heap:=h',gens:=g',drawn:=d',toks:=t' }:=by
 obtain⟨m,⟨o,es,ep,ho,r⟩,_⟩:=id I.loc
 obtain⟨sl,hL⟩:=u.any ho I.free fun z=>(hch _ z).2.1 rfl
 exact I.step (ch:=ch) hch (fun b o hL hb hc e n=>u.keep b o e n (fun z=>(List.mem_cons.mp (I.nQ b z)).elim hL hb) hc) (fun b o _ _ hc e n=>u.any e n hc) (fun b o hc e n=>u.free b o e n hc) (fun b o hc e=>u.there b o e hc) u.dE u.cC u.dI (fun m' hm=>by
  obtain⟨o',es',ep',ho',r'⟩:=hm
  rw[ho]at ho';cases ho'
  exact⟨_,es',ep',hL,r'⟩) hok hg
theorem Inv.turned{t':Nat}{it:Addr}(I:Inv X pins σ H s)(k:∀ b o,b≠it->s.heap.get? b=some o->h'.get? b=some o)(hn:H it=none)(hL:it≠X.env.locals)
 (h1:it∈X.ex\/X.s₀.heap.objs.size<=it)(h2:∀ x c,X.env.cells.lookup x=some c->c≠it)(h3:∀ p∈X.pn++pins,p.1≠it):Inv X pins σ H { s with heap:=h',toks:=t' }:=by
 have nit:∀ b u,H b=some u->b≠it:=fun b u e z=>by rw[z,hn]at e;cases e
 refine I.step (g':=s.gens) (d':=s.drawn) (ch:=[it]) (fun b hb=>?_) (fun b o _ _ hc e _=>k b o (fun z=>hc (by simp[z])) e) (fun b o _ _ hc e _=>⟨o.slots,k b o (fun z=>hc (by simp[z])) e⟩) (fun _ _ _ _ n=>n)
  (fun b o hc e=>⟨o,k b o (fun z=>hc (by simp[z])) e⟩) (fun _ _ e=>e) (fun _ _ _ e=>e) (fun b ps e=>⟨#[],by rw[e];simp⟩) (fun m hm=>?_) (fun b u e=>?_) I.bare
 ·have e:b=it:=by simpa using hb
  subst e
  exact⟨h1,hL,h2,h3⟩
 ·obtain⟨o,es,ep,ho,r⟩:=hm
  exact⟨o,es,ep,k _ o (Ne.symm hL) ho,r⟩
 ·refine(I.hok b u e).il (fun c v hc q=>k c v ?_ q) (fun _ q=>q) fun _ _ q=>q
  rcases hc with z | z
  ·rw[z];exact nit b u e
  ·exact nit c _ z
theorem Inv.tok(I:Inv X pins σ H s)(t:Nat):Inv X pins σ H { s with toks:=t }:=I.un (h':=s.heap) (t':=t) Un.refl I.hok
theorem Inv.kept{t':Nat}(I:Inv X pins σ H s)(k:∀ b u,s.heap.get? b=some u->h'.get? b=some u):Inv X pins σ H { s with heap:=h',toks:=t' }:=I.un (Un.kept k) (I.hok.kept k)
theorem Inv.laid{a:Addr}{o:HO}{t':Nat}(I:Inv X pins σ H s)(k:∀ b u,s.heap.get? b=some u->h'.get? b=some u)(hp:s.heap.objs.size<=a)(new:bg X.prog X.w (upd H a o) h' a o) :
  Inv X pins σ (upd H a o) { s with heap:=h',toks:=t' }:=I.un (Un.laid k hp (I.hok.fresh hp)) (I.hok.laid k hp new)
theorem Inv.write{x e:Addr}{o:HO}{t':Nat}(I:Inv X pins σ H s)(mu:Mut (H x))(he:e=x\/H e=some (.own x))(k:∀ b u,b≠e->s.heap.get? b=some u->h'.get? b=some u)(heo:∃ u,h'.get? e=some u)
 (new:bg X.prog X.w (upd H x o) h' x o):Inv X pins σ (upd H x o) { s with heap:=h',toks:=t' }:=I.un (Un.write mu he k heo) (I.hok.write mu he k heo new)
theorem Inv.weak{σ':List (Option V)}(I:Inv X pins σ H s)(hl:σ'.length=σ.length)(w:∀ (i:Nat) v,σ'[i]?=some (some v)->σ[i]?=some (some v)):Inv X pins σ' H s :=
 ⟨I.ok,I.os,I.bare,I.base,let ⟨m,hn,hl'⟩:=I.loc;⟨m,hn,fun i x v e1 e2 e3=>hl' i x v e1 (w i v e2) e3⟩,I.cell,I.free,I.bZ,I.pin,I.hok,hl.trans I.len⟩
theorem Inv.pX{pins':List (Addr × Obj)}(I:Inv X pins σ H s)(h:∀ p∈pins',s.heap.get? p.1=some p.2/\H p.1=none/\p.1≠X.env.locals/\p.1∉X.fs/\∀ v,p.2.data≠.cell v):Inv X pins' σ H s :=
 ⟨I.ok,I.os,I.bare,I.base,I.loc,I.cell,I.free,I.bZ,fun p hp=>(List.mem_append.mp hp).elim (fun z=>I.pin p (List.mem_append_left _ z)) (h p),I.hok,I.len⟩
theorem jB{N:List Str}(hN:N.Nodup){i j:Nat}{x:Str}(a:N[i]?=some x)(b:N[j]?=some x):i=j:=by
 obtain⟨h1,e1⟩:=List.getElem?_eq_some_iff.mp a
 obtain⟨h2,e2⟩:=List.getElem?_eq_some_iff.mp b
 exact(List.getElem_inj hN).mp (e1.trans e2.symm)
theorem lX{M:Model}{A:Around}{E:Value->Shared->Prop}{i:Nat}{x:Str}{v:V}{u:Value}{Q:Unit->Shared->Prop}(I:Inv X pins σ H s)(hN:X.N.Nodup)(hi:X.N[i]?=some x)(hx:Loc X.env.scope x)(r:RelV v u)
 (h:∀ s',Inv X pins (σ.set i (some v)) H s'->(∃ a,Heap.SameBut a s.heap s'.heap/\(a=X.env.locals\/X.env.cells.lookup x=some a))->Q () s')(hf:X.fn x=true\/X.env.scope.names.lookup x=some .local:=by first | exact .inl rfl | exact .inr rfl | assumption):wpAny M A (storeName X.env x u) Q E s:=by
 obtain⟨m,hn,hl⟩:=id I.loc
 have hcls:(X.env.scope.kind == .class || (X.env.scope.kind == .module&&X.env.locals != X.env.globals))=false:=by rw[I.ok.kind];rfl
 have hiσ:i<σ.length:=by rw[I.len];exact(List.getElem?_eq_some_iff.mp hi).1
 have cne:=I.cne
 have tracked:∀ {a:Addr} {h':Heap},(∃ o,s.heap.get? a=some o/\H a=none)->Heap.SameBut a s.heap h'->HOk X.prog X.w H h':=fun {a h'} ha hs b ob e=>by
  obtain⟨_,_,hfree⟩:=ha
  refine(I.hok b ob e).il (fun c w' hc q=>(hs.2 c ?_).trans q) (fun _ q=>q) fun _ _ q=>q
  rintro rfl
  rcases hc with rfl | hc
  ·rw[hfree]at e;cases e
  ·rw[hfree]at hc;cases hc
 rcases hx with hk | hk
 ·refine wpAny_storeName_local hk hn (fun h' hn' hs=>?_) hcls
  obtain⟨oL,_,_,hoL,_⟩:=id hn
  refine h _ ⟨I.ok,I.os,I.bare,⟨fun b o e n hb hx=>?_,fun b o e n hb hx=>?_,I.base.free,fun b o e hx=>?_,I.base.dE,I.base.cC,I.base.dI⟩,⟨_,hn',fun j y v' e1 e2 e3=>?_⟩,fun y c e=>?_,I.free,I.bZ,fun p hp=>?_,tracked ⟨oL,hoL,I.free⟩ hs,by simpa using I.len⟩ ⟨_,hs,.inl rfl⟩
  ·exact(hs.2 b (Nat.ne_of_lt (Nat.lt_of_lt_of_le (Heap.lt_size e) I.ok.above))).trans (I.base.keep b o e n hb hx)
  ·obtain⟨sl,e1⟩:=I.base.slot b o e n hb hx
   exact⟨sl,(hs.2 b (Nat.ne_of_lt (Nat.lt_of_lt_of_le (Heap.lt_size e) I.ok.above))).trans e1⟩
  ·obtain⟨o',e1⟩:=I.base.there b o e hx
   exact⟨o',(hs.2 b (Nat.ne_of_lt (Nat.lt_of_lt_of_le (Heap.lt_size e) I.ok.above))).trans e1⟩
  ·by_cases hj:j=i
   ·subst hj
    rw[hi]at e1;cases e1
    rw[List.getElem?_set_self hiσ]at e2
    cases e2
    exact⟨u,r,.inl ⟨hk,by simp⟩⟩
   ·rw[List.getElem?_set_ne (Ne.symm hj)]at e2
    obtain⟨u',r',q⟩:=hl j y v' e1 e2 e3
    refine⟨u',r',?_⟩
    rcases q with⟨k,e⟩ | ⟨k,c,e,z⟩
    ·refine .inl ⟨k,?_⟩
     have:y≠x:=fun e=>hj (jB hN e1 (e▸hi))
     simp[this,e]
    ·exact .inr ⟨k,c,e,z.sameBut hs (cne y c e)⟩
  ·obtain⟨w',z⟩:=I.cell y c e
   exact⟨w',z.sameBut hs (cne y c e)⟩
  ·obtain⟨e,n,ne,nf,d⟩:=I.pin p hp
   exact⟨(hs.2 p.1 ne).trans e,n,ne,nf,d⟩
 ·have hfn:X.fn x=true:=by
   rcases hf with z | z
   ·exact z
   ·rw[z]at hk;cases hk
  obtain⟨c,hc⟩:=I.ok.has x (.inl hk)
  obtain⟨w',z⟩:=I.cell x c hc
  refine wpAny_storeName_cell I.ok.kind hk hc z (fun h' hc' hs=>?_)
  obtain⟨oc,hoc,hocd⟩:=id z
  refine h { s with heap:=h' } ⟨I.ok,I.os,I.bare,⟨fun b o e n hb hx=>?_,fun b o e n hb hx=>?_,I.base.free,fun b o e hx=>?_,I.base.dE,I.base.cC,I.base.dI⟩,⟨m,hn.sameBut hs (Ne.symm (cne x c hc)),fun j y v' e1 e2 e3=>?_⟩,fun y c' e=>?_,I.free,I.bZ,fun p hp=>?_,tracked ⟨oc,hoc,I.bZ x c hc⟩ hs,by simpa using I.len⟩ ⟨c,hs,.inr hc⟩
  ·exact(hs.2 b (Nat.ne_of_lt (Nat.lt_of_lt_of_le (Heap.lt_size e) (I.ok.cab x c hfn hc)))).trans (I.base.keep b o e n hb hx)
  ·obtain⟨sl,e1⟩:=I.base.slot b o e n hb hx
   exact⟨sl,(hs.2 b (Nat.ne_of_lt (Nat.lt_of_lt_of_le (Heap.lt_size e) (I.ok.cab x c hfn hc)))).trans e1⟩
  ·obtain⟨o',e1⟩:=I.base.there b o e hx
   exact⟨o',(hs.2 b (Nat.ne_of_lt (Nat.lt_of_lt_of_le (Heap.lt_size e) (I.ok.cab x c hfn hc)))).trans e1⟩
  ·by_cases hj:j=i
   ·subst hj
    rw[hi]at e1;cases e1
    rw[List.getElem?_set_self hiσ]at e2
    cases e2
    exact⟨u,r,.inr ⟨.inl hk,c,hc,hc'⟩⟩
   ·rw[List.getElem?_set_ne (Ne.symm hj)]at e2
    obtain⟨u',r',q⟩:=hl j y v' e1 e2 e3
    refine⟨u',r',?_⟩
    rcases q with q | ⟨k,c',e,z'⟩
    ·exact .inl q
    ·refine .inr ⟨k,c',e,z'.sameBut hs ?_⟩
     rintro rfl
     exact hj (jB hN e1 (I.ok.inj _ _ _ e hc▸hi))
  ·by_cases hcc:c'=c
   ·subst hcc;exact⟨_,hc'⟩
   ·obtain⟨w2,z2⟩:=I.cell y c' e
    exact⟨w2,z2.sameBut hs hcc⟩
  ·obtain⟨e,n,ne,nf,d⟩:=I.pin p hp
   refine⟨(hs.2 p.1 ?_).trans e,n,ne,nf,d⟩
   intro q
   rw[q,hoc]at e
   have q':oc=p.2:=Option.some.inj e
   exact d w' (by rw[<-q'];exact hocd)
theorem h8{M:Model}{A:Around}{E:Value->Shared->Prop}{i:Nat}{x:Str}{v:V}{u:Value}{Q:Unit->Shared->Prop}(I:Inv X pins σ H s)(hN:X.N.Nodup)(hi:X.N[i]?=some x)(hx:Loc X.env.scope x)(r:RelV v u)
 (h:∀ s',Inv X pins (σ.set i (some v)) H s'->Q () s')(hf:X.fn x=true\/X.env.scope.names.lookup x=some .local:=by first | exact .inl rfl | exact .inr rfl | assumption):wpAny M A (storeName X.env x u) Q E s :=
 lX I hN hi hx r (fun s' I' _=>h s' I') hf
theorem Inv.r0{s':Shared}{ch:List Addr}(I:Inv X pins σ H s)(ho:s'.os=s.os)(u:Un (frs X.stack) ch H H' s.heap s'.heap)(hok:HOk X.prog X.w H' s'.heap)(hg:AllBare s'.gens)
 (hch:∀ b∈ch,(b∈X.ex\/X.s₀.heap.objs.size<=b)/\b≠X.env.locals/\(∀ x c,X.env.cells.lookup x=some c->c≠b)/\∀ p∈X.pn++pins,p.1≠b):Inv X pins σ H' s':=by
 obtain⟨h',g',d',t',o'⟩:=s'
 have e:o'=s.os:=ho
 subst e
 exact I.call (g':=g') (t':=t') (d':=d') u hok hg hch
end
abbrev XK:=Value->Option Addr->Hp->Prop
abbrev St:=List (Option V)
abbrev VK:=V->Hp->Prop
abbrev TE:=St->Hp->VK->Prop
abbrev TT:=St->Hp->(Bool->Hp->Prop)->Prop
abbrev TA:=St->Hp->(List V->Hp->Prop)->Prop
structure Ends where
 nx:St->Hp->Prop
 rt:VK
 bk:St->Hp->Prop:=fun _ _=>False
 ct:St->Hp->Prop:=fun _ _=>False
abbrev TS:=Ends->St->Hp->Prop
def EP(X:Cx)(pins:List (Addr × Obj))(σ:St)(Q:VK)(u:Value)(s':Shared):Prop:=∃ v H',Inv X pins σ H' s'/\RelV v u/\Q v H'
def TP(X:Cx)(pins:List (Addr × Obj))(σ:St)(Q:Bool->Hp->Prop)(b:Bool)(s':Shared):Prop:=∃ H',Inv X pins σ H' s'/\Q b H'
def AP(X:Cx)(pins:List (Addr × Obj))(σ:St)(Q:List V->Hp->Prop)(us:List Value)(s':Shared):Prop:=∃ vs H',Inv X pins σ H' s'/\Vals vs us/\Q vs H'
def SP(X:Cx)(pins:List (Addr × Obj))(D:Ends)(f:Flow)(s':Shared):Prop :=
 match f with
 | .next=>∃ σ' H',Inv X pins σ' H' s'/\D.nx σ' H'
 | .brk=>∃ σ' H',Inv X pins σ' H' s'/\D.bk σ' H'
 | .cont=>∃ σ' H',Inv X pins σ' H' s'/\D.ct σ' H'
 | .ret u=>∃ v σ' H',Inv X pins σ' H' s'/\RelV v u/\D.rt v H'
def PE(X:Cx)(e:Expr)(t:TE):Prop :=
 ∀ (pins:List (Addr × Obj)) (s:Shared) (σ:St) (H:Hp) (Q:VK),Inv X pins σ H s->t σ H Q->wpAny (model X.prog X.w) X.A (eval e X.env) (EP X pins σ Q) X.xe s
def PT(X:Cx)(e:Expr)(t:TT):Prop :=
 ∀ (pins:List (Addr × Obj)) (s:Shared) (σ:St) (H:Hp) (Q:Bool->Hp->Prop),Inv X pins σ H s->t σ H Q->wpAny (model X.prog X.w) X.A (isTrue e X.env (eval e X.env)) (TP X pins σ Q) X.xe s
def PW(X:Cx)(e:Expr)(t:TT):Prop :=
 ∀ (whole:Sem Value) (pins:List (Addr × Obj)) (s:Shared) (σ:St) (H:Hp) (Q:Bool->Hp->Prop),Inv X pins σ H s->t σ H Q->wpAny (model X.prog X.w) X.A (isTrue e X.env whole) (TP X pins σ Q) X.xe s
theorem PW.pt{X:Cx}{e:Expr}{t:TT}(h:PW X e t):PT X e t:=h _
def PA(X:Cx)(es:List Expr)(t:TA):Prop :=
 ∀ (pos:Pos) (pins:List (Addr × Obj)) (s:Shared) (σ:St) (H:Hp) (Q:List V->Hp->Prop),Inv X pins σ H s->t σ H Q->wpAny (model X.prog X.w) X.A (spliced (backTo pos (starEach es X.env))) (AP X pins σ Q) X.xe s
def PS(X:Cx)(st:Stmt)(t:TS):Prop :=
 ∀ (pins:List (Addr × Obj)) (s:Shared) (σ:St) (H:Hp) (D:Ends),Inv X pins σ H s->t D σ H->wpAny (model X.prog X.w) X.A (exec st X.env) (SP X pins D) X.xe s
def PSs(X:Cx)(st:List Stmt)(t:TS):Prop :=
 ∀ (pins:List (Addr × Obj)) (s:Shared) (σ:St) (H:Hp) (D:Ends),Inv X pins σ H s->t D σ H->wpAny (model X.prog X.w) X.A (execs st X.env) (SP X pins D) X.xe s
theorem thn{α:Type}{t:Sem α}{Q Q':α->Shared->Prop}{M:Model}{A:Around}{E:Value->Shared->Prop}{s:Shared}(h:wpAny M A t Q E s)(hQ:∀ a s,Q a s->Q' a s):wpAny M A t Q' E s:=wpAny_mono h hQ fun _ _ x=>x
section
variable{X:Cx}
def i7(i:Nat):TE:=fun σ H Q=>∃ v,σ[i]?=some (some v)/\Q v H
def tC(v:V):TE:=fun _ H Q=>Q v H
theorem gB{i:Nat}{x:Str}{pos:Pos}(hN:X.N[i]?=some x)(hv:Vis X.env.scope x)(hd:(x == ("__debug__" : Str))=false:=by decide)(hcd:(x == ("__classdict__" : Str))=false:=by decide):PE X (.Name x pos) (i7 i):=by
 intro pins s σ H Q I h
 obtain⟨v,e,h⟩:=h
 obtain⟨m,hn,hl⟩:=I.loc
 obtain⟨u,r,l⟩:=hl i x v hN e hv
 have fin:EP X pins σ Q u s:=⟨v,H,I,r,h⟩
 rcases l with⟨hk,hm⟩ | ⟨hk,c,hc,hcell⟩
 ·exact wpAny_Name (wpAny_loadName_local I.ok.kind hk hn hm fin) hd
 ·rcases hk with hk | hk
  ·exact wpAny_Name (wpAny_loadName_cell I.ok.kind hk hc hcell fin) hd
  ·exact wpAny_Name (wpAny_loadName_free I.ok.kind hk hc hcell fin hcd) hd
theorem Bs{i j pos}:PE X (.Constant (.int i) j pos) (tC (.int i)):=fun _ _ _ H _ I h=>wpAny_Constant_int ⟨.int i,H,I.tok _,⟨_,rfl⟩,h⟩
theorem CK{b j pos}:PE X (.Constant (.bool b) j pos) (tC (.bl b)):=fun _ _ _ H _ I h=>Constant_bool ⟨.bl b,H,I,rfl,h⟩
theorem oY{j pos}:PE X (.Constant .none j pos) (tC .non):=fun _ _ _ H _ I h=>Constant_none ⟨.non,H,I,rfl,h⟩
theorem nI{x j pos}:PE X (.Constant (.str x) j pos) (tC (.str x)):=fun _ _ _ H _ I h=>Calls.Constant_str ⟨.str x,H,I.tok _,⟨_,rfl⟩,h⟩
def Gl(X:Cx)(x:Str):Prop:=X.env.kindOf x=some .globalImplicit
theorem fD{E:Value->Shared->Prop}{pins:List (Addr × Obj)}{s:Shared}{σ:St}{H:Hp}{x:Str}{u:Value}{pos:Pos}{Q:Value->Shared->Prop}(I:Inv X pins σ H s)(hg:Gl X x)(hm:X.mg x=some u)(h:Q u s)
 (hd:(x == ("__debug__" : Str))=false:=by decide):wpAny (model X.prog X.w) X.A (eval (.Name x pos) X.env) Q E s :=
 Calls.Name_function_global I.ok.kind hg (Calls.loadGlobal_global (by rw[I.ok.glob];exact I.mod.glob.keeps I.bk) hm h) hd
theorem fT{E:Value->Shared->Prop}{pins:List (Addr × Obj)}{s:Shared}{σ:St}{H:Hp}{x:Str}{u:Value}{pos:Pos}{Q:Value->Shared->Prop}(I:Inv X pins σ H s)(hg:Gl X x)(hm:X.mg x=none)(hv:bootBuiltins x=some u)(h:Q u s)
 (hn:x ≠ "__name__" := by decide)(hd:(x == ("__debug__" : Str))=false:=by decide):wpAny (model X.prog X.w) X.A (eval (.Name x pos) X.env) Q E s:=by
 obtain⟨mb,h1,h2⟩:=I.mod.blt
 exact Calls.Name_function_global I.ok.kind hg (Calls.loadGlobal_builtin (by rw[I.ok.glob];exact I.mod.glob.keeps I.bk) hm (by rw[I.ok.blt];exact h1.keeps I.bk) ((h2 x hn).trans hv) h) hd
theorem qA{x:Str}{v:V}{u:Value}{pos:Pos}(hg:Gl X x)(hm:X.mg x=some u)(r:RelV v u)(hd:(x == ("__debug__" : Str))=false:=by decide):PE X (.Name x pos) (tC v) :=
 fun _ _ _ H _ I h=>fD I hg hm ⟨v,H,I,r,h⟩ hd
theorem qe{x:Str}{v:V}{u:Value}{pos:Pos}(hg:Gl X x)(hm:X.mg x=none)(hv:bootBuiltins x=some u)(r:RelV v u)(hn:x ≠ "__name__" := by decide)(hd:(x == ("__debug__" : Str))=false:=by decide):PE X (.Name x pos) (tC v) :=
 fun _ _ _ H _ I h=>fT I hg hm hv ⟨v,H,I,r,h⟩ hn hd
variable{a b:Expr}{ta tb:TE}{pos:Pos}
variable{tA tB':TT}{rest:List Expr}
def Dw(t u:TT):TT:=fun σ H Q=>t σ H fun c H1=>if c=true then u σ H1 Q else Q false H1
def tOr(t u:TT):TT:=fun σ H Q=>t σ H fun c H1=>if c=true then Q true H1 else u σ H1 Q
def DF(t:TT):TT:=fun σ H Q=>t σ H fun c H1=>Q (!c) H1
theorem yj(ha:PT X a tA):PW X (.BoolOp .And [a] pos) tA:=by
 intro wh pins s σ H Q I h
 refine isTrue_and (thn (ha pins s σ H Q I h) fun c s1 e=>?_)
 cases c with
 | true=>exact isTrue_and_nil e
 | false=>exact e
theorem AO(ha:PT X a tA):PW X (.BoolOp .Or [a] pos) tA:=by
 intro wh pins s σ H Q I h
 refine isTrue_or (thn (ha pins s σ H Q I h) fun c s1 e=>?_)
 cases c with
 | false=>exact isTrue_or_nil e
 | true=>exact e
theorem zh(ha:PT X a tA)(hb:PW X (.BoolOp .And (b::rest) pos) tB'):PW X (.BoolOp .And (a::b::rest) pos) (Dw tA tB'):=by
 intro wh pins s σ H Q I h
 refine isTrue_and (thn (ha pins s σ H _ I h) fun c s1 ⟨H1,I1,q1⟩=>?_)
 cases c with
 | true=>exact hb wh pins s1 σ H1 Q I1 q1
 | false=>exact⟨H1,I1,q1⟩
theorem CN(ha:PT X a tA)(hb:PW X (.BoolOp .Or (b::rest) pos) tB'):PW X (.BoolOp .Or (a::b::rest) pos) (tOr tA tB'):=by
 intro wh pins s σ H Q I h
 refine isTrue_or (thn (ha pins s σ H _ I h) fun c s1 ⟨H1,I1,q1⟩=>?_)
 cases c with
 | true=>exact⟨H1,I1,q1⟩
 | false=>exact hb wh pins s1 σ H1 Q I1 q1
theorem Cd(ha:PT X a tA):PT X (.UnaryOp .Not a pos) (DF tA):=by
 intro pins s σ H Q I h
 exact isTrue_not (ha pins s σ H (fun c H1=>Q (!c) H1) I h)
def C0(ta tb:TE):TE:=fun σ H Q=>ta σ H fun x H1=>∃ c,x=.bl c/\if c=true then tb σ H1 Q else Q (.bl false) H1
def DW(ta tb:TE):TE:=fun σ H Q=>ta σ H fun x H1=>∃ c,x=.bl c/\if c=true then Q (.bl true) H1 else tb σ H1 Q
theorem Bo{op}{t:TE}(h:PE X a t):PE X (.BoolOp op [a] pos) t:=fun pins s σ H Q I hw=>BoolOp_one (h pins s σ H Q I hw)
theorem zZ(ha:PE X a ta)(hb:PE X (.BoolOp .And (b::rest) pos) tb):PE X (.BoolOp .And (a::b::rest) pos) (C0 ta tb):=by
 intro pins s σ H Q I h
 refine BoolOp_and (thn (ha pins s σ H _ I h) fun v s1 ⟨x,H1,I1,r1,q1⟩=>?_)
 obtain⟨c,rfl,q1⟩:=q1
 cases r1
 refine wpAny_truthy_bool ?_
 cases c with
 | true=>exact hb pins s1 σ H1 Q I1 q1
 | false=>exact⟨.bl false,H1,I1,rfl,q1⟩
theorem CD(ha:PE X a ta)(hb:PE X (.BoolOp .Or (b::rest) pos) tb):PE X (.BoolOp .Or (a::b::rest) pos) (DW ta tb):=by
 intro pins s σ H Q I h
 refine BoolOp_or (thn (ha pins s σ H _ I h) fun v s1 ⟨x,H1,I1,r1,q1⟩=>?_)
 obtain⟨c,rfl,q1⟩:=q1
 cases r1
 refine wpAny_truthy_bool ?_
 cases c with
 | false=>exact hb pins s1 σ H1 Q I1 q1
 | true=>exact⟨.bl true,H1,I1,rfl,q1⟩
def tIf(t:TT)(ta tb:TE):TE:=fun σ H Q=>t σ H fun c H1=>if c=true then ta σ H1 Q else tb σ H1 Q
theorem vM{c:Expr}(hc:PT X c tA)(ha:PE X a ta)(hb:PE X b tb):PE X (.IfExp c a b pos) (tIf tA ta tb):=by
 intro pins s σ H Q I h
 refine wpAny_IfExp (thn (hc pins s σ H _ I h) fun d s1 ⟨H1,I1,q1⟩=>?_)
 cases d with
 | true=>exact ha pins s1 σ H1 Q I1 q1
 | false=>exact hb pins s1 σ H1 Q I1 q1
end
def SqL(K:PySem.W.Frag)(H:Hp)(a:Addr)(xs:List V):Prop :=
 Rd H a (.lst xs) \/
  ∃ (o:Obj) (its:Array Value) (n:Nat),K.lookup a=some o/\o.cls=.type "list" /\ o.dict=none/\o.data=.seq its n/\its.size<=sizeLine/\Vals xs its.toList
def SqT(K:PySem.W.Frag)(H:Hp)(a:Addr)(xs:List V):Prop :=
 Rd H a (.tup xs) \/
  ∃ (o:Obj) (its:Array Value) (n:Nat),K.lookup a=some o/\o.cls=.type "tuple" /\ o.data=.seq its n/\its.size<=sizeLine/\Vals xs its.toList
def D8:Value->Option V
 | .none=>some .non
 | .bool b=>some (.bl b)
 | .int i _=>some (.int i)
 | .str x _=>some (.str x)
 | .bytes b _=>some (.byt b)
 | .float b _=>some (.flt b)
 | .ref a=>some (.ref a)
 | .type n=>some (.ty n)
 | _=>none
theorem RelV.abs{x:V}{u:Value}(r:RelV x u):D8 u=some x:=by
 cases x with
 | non=>cases r;rfl
 | bl _=>cases r;rfl
 | int _=>obtain⟨t,rfl⟩:=r;rfl
 | str _=>obtain⟨t,rfl⟩:=r;rfl
 | byt _=>obtain⟨t,rfl⟩:=r;rfl
 | flt _=>obtain⟨t,rfl⟩:=r;rfl
 | ref _=>cases r;rfl
 | ty _=>cases r;rfl
theorem RelV.inj{x y:V}{u:Value}(r:RelV x u)(q:RelV y u):x=y:=Option.some.inj (r.abs.symm.trans q.abs)
theorem Vals.inj:∀ {xs ys:List V} {us:List Value},Vals xs us->Vals ys us->xs=ys
 | _,_,_,.nil,.nil=>rfl
 | _,_,_,.cons r t,.cons r' t'=>by rw[r.inj r',Vals.inj t t']
section
variable{X:Cx}{pins:List (Addr × Obj)}{σ:St}{H:Hp}{s:Shared}{a:Addr}{xs ys:List V}
theorem SqL.of{K:PySem.W.Frag}(h:H a=some (.lst xs)):SqL K H a xs:=.inl (.inl h)
theorem SqT.of{K:PySem.W.Frag}(h:H a=some (.tup xs)):SqT K H a xs:=.inl (.inl h)
theorem Inv.list(I:Inv X pins σ H s)(h:SqL X.K H a xs):∃ its:List Value,Vals xs its/\PlainL s.heap a its.toArray/\xs.length<=sizeLine:=by
 rcases h with h | ⟨o,its,n,hk,hc,hd,hs,hz,r⟩
 ·obtain⟨z,its,n,r,e⟩:=h.ok I.hok
  exact⟨its,r,⟨_,n,e,rfl,rfl,rfl⟩,z⟩
 ·refine⟨its.toList,r,⟨o,n,I.kIn a o hk,hc,hd,by simpa using hs⟩,?_⟩
  have e:=r.length
  simp only[Array.length_toList]at e
  omega
theorem Inv.tuple(I:Inv X pins σ H s)(h:SqT X.K H a xs):∃ its:List Value,Vals xs its/\IsTup s.heap a its.toArray/\xs.length<=sizeLine:=by
 rcases h with h | ⟨o,its,n,hk,hc,hs,hz,r⟩
 ·obtain⟨z,its,r,p⟩:=h.ok I.hok
  exact⟨its,r,p,z⟩
 ·refine⟨its.toList,r,⟨o,I.kIn a o hk,hc,n,by simpa using hs⟩,?_⟩
  have e:=r.length
  simp only[Array.length_toList]at e
  omega
theorem Inv.wO(I:Inv X pins σ H s)(h:SqL X.K H a xs)(h':SqL X.K H a ys):xs=ys:=by
 obtain⟨its,r,⟨o,n,e,_,_,d⟩,_⟩:=I.list h
 obtain⟨its',r',⟨o',n',e',_,_,d'⟩,_⟩:=I.list h'
 rw[e]at e';cases e'
 rw[d]at d'
 injection d' with d1 _
 have:its=its':=by simpa using congrArg Array.toList d1
 subst this
 exact r.inj r'
theorem Inv.tQ(I:Inv X pins σ H s)(h:SqT X.K H a xs)(h':SqT X.K H a ys):xs=ys:=by
 obtain⟨its,r,⟨o,e,_,n,d⟩,_⟩:=I.tuple h
 obtain⟨its',r',⟨o',e',_,n',d'⟩,_⟩:=I.tuple h'
 rw[e]at e';cases e'
 rw[d]at d'
 injection d' with d1 _
 have:its=its':=by simpa using congrArg Array.toList d1
 subst this
 exact r.inj r'
end
abbrev Cx.dz(X:Cx)(E:Value->Shared->Prop):Cx:={ X with xe:=E }
abbrev Cx.nox(X:Cx):Cx:=X.dz fun _ _=>False
theorem Cx.Ok.dz{X:Cx}(ok:X.Ok)(E:Value->Shared->Prop):(X.dz E).Ok :=
 ⟨ok.mod,ok.kind,ok.glob,ok.blt,ok.above,ok.inj,ok.has,ok.cab,ok.hd,ok.frames,ok.stk,ok.exf,ok.bs,ok.bsz,ok.iy,ok.gY,ok.cV,ok.frf⟩
theorem Cx.Ok.cb{X:Cx}{E:Value->Shared->Prop}(ok:(X.dz E).Ok):X.Ok :=
 ⟨ok.mod,ok.kind,ok.glob,ok.blt,ok.above,ok.inj,ok.has,ok.cab,ok.hd,ok.frames,ok.stk,ok.exf,ok.bs,ok.bsz,ok.iy,ok.gY,ok.cV,ok.frf⟩
section
variable{X:Cx}{pins:List (Addr × Obj)}{σ:St}{H:Hp}{s:Shared}{E:Value->Shared->Prop}
theorem Inv.dz(I:Inv X pins σ H s)(E:Value->Shared->Prop):Inv (X.dz E) pins σ H s:=⟨I.ok.dz E,I.os,I.bare,I.base,I.loc,I.cell,I.free,I.bZ,I.pin,I.hok,I.len⟩
theorem Inv.cb(I:Inv (X.dz E) pins σ H s):Inv X pins σ H s:=⟨I.ok.cb,I.os,I.bare,I.base,I.loc,I.cell,I.free,I.bZ,I.pin,I.hok,I.len⟩
theorem SP.cb{D:Ends}{f:Flow}{s':Shared}(h:SP (X.dz E) pins D f s'):SP X pins D f s':=by
 cases f with
 | next=>obtain⟨σ',H',I,q⟩:=h;exact⟨σ',H',I.cb,q⟩
 | brk=>obtain⟨σ',H',I,q⟩:=h;exact⟨σ',H',I.cb,q⟩
 | cont=>obtain⟨σ',H',I,q⟩:=h;exact⟨σ',H',I.cb,q⟩
 | ret u=>obtain⟨v,σ',H',I,r,q⟩:=h;exact⟨v,σ',H',I.cb,r,q⟩
theorem PE.nox{e:Expr}{t:TE}(h:PE X.nox e t):PE X e t:=fun pins s σ H Q I hw =>
 wpAny_mono (h pins s σ H Q (I.dz _) hw) (fun _ _ ⟨v,H',I',r,q⟩=>⟨v,H',I'.cb,r,q⟩) fun _ _ z=>False.elim z
theorem PT.nox{e:Expr}{t:TT}(h:PT X.nox e t):PT X e t:=fun pins s σ H Q I hw =>
 wpAny_mono (h pins s σ H Q (I.dz _) hw) (fun _ _ ⟨H',I',q⟩=>⟨H',I'.cb,q⟩) fun _ _ z=>False.elim z
theorem PSs.nox{st:List Stmt}{t:TS}(h:PSs X.nox st t):PSs X st t:=fun pins s σ H D I hw =>
 wpAny_mono (h pins s σ H D (I.dz _) hw) (fun _ _ q=>q.cb) fun _ _ z=>False.elim z
end
section
variable{X:Cx}{st:Stmt}{rest:List Stmt}{t u:TS}{e:Expr}{te:TE}{pos:Pos}
def Cr:TS:=fun D σ H=>D.nx σ H
def Ei(t u:TS):TS:=fun D σ H=>t { D with nx:=u D } σ H
theorem xH:PSs X [] Cr:=fun _ _ σ H _ I h=>wpAny_execs_nil ⟨σ,H,I,h⟩
theorem jK(h1:PS X st t)(h2:PSs X rest u):PSs X (st::rest) (Ei t u):=by
 intro pins s σ H D I h
 refine wpAny_execs_cons (thn (h1 pins s σ H { D with nx:=u D } I h) fun f s1 q=>?_)
 cases f with
 |next=>
  obtain⟨σ',H',I',q⟩:=q
  exact h2 pins s1 σ' H' D I' q
 | ret v=>exact q
 | brk=>exact q
 | cont=>exact q
theorem Inv.quiet{pins:List (Addr × Obj)}{σ:St}{H:Hp}{s:Shared}(I:Inv X pins σ H s):interactive X.env=false:=by simp[interactive,I.ok.kind]
def mK(te:TE):TS:=fun D σ H=>te σ H fun _ H1=>D.nx σ H1
theorem jl(he:PE X e te)(hs:swapsWith e none pos.line X.env=pure false:=by rfl):PS X (.Expr e pos) (mK te):=by
 intro pins s σ H D I h
 exact wpAny_Expr_any (thn (he pins s σ H _ I h) fun v s1 ⟨x,H1,I1,r1,q1⟩=>⟨σ,H1,I1,q1⟩) I.quiet hs
def Dt(te:TE):TS:=fun D σ H=>te σ H D.rt
theorem nj(he:PE X e te):PS X (.Return (some e) pos) (Dt te):=by
 intro pins s σ H D I h
 exact wpAny_Return_some (thn (he pins s σ H _ I h) fun v s1 ⟨x,H1,I1,r1,q1⟩=>⟨x,σ,H1,I1,r1,q1⟩)
def Ec(c:TT)(t u:TS):TS:=fun D σ H=>c σ H fun b H1=>if b=true then t D σ H1 else u D σ H1
theorem rM{c:Expr}{a b:List Stmt}{tc:TT}(hc:PT X c tc)(ha:PSs X a t)(hb:PSs X b u):PS X (.If c a b pos) (Ec tc t u):=by
 intro pins s σ H D I h
 refine wpAny_If (thn (hc pins s σ H _ I h) fun d s1 ⟨H1,I1,q1⟩=>?_)
 cases d with
 | true=>exact ha pins s1 σ H1 D I1 q1
 | false=>exact hb pins s1 σ H1 D I1 q1
end
abbrev TG:=V->St->Hp->(St->Hp->Prop)->Prop
abbrev TGs:=List V->St->Hp->(St->Hp->Prop)->Prop
def PG(X:Cx)(target:Expr)(t:TG):Prop :=
 ∀ (pins:List (Addr × Obj)) (s:Shared) (σ:St) (H:Hp) (v:V) (u:Value) (Q:St->Hp->Prop),Inv X pins σ H s->RelV v u->t v σ H Q ->
  wpAny (model X.prog X.w) X.A (assign target X.env u) (fun _ s'=>∃ σ' H',Inv X pins σ' H' s'/\Q σ' H') X.xe s
def PGs(X:Cx)(ts:List Expr)(t:TGs):Prop :=
 ∀ (pins:List (Addr × Obj)) (s:Shared) (σ:St) (H:Hp) (vs:List V) (us:List Value) (Q:St->Hp->Prop),Inv X pins σ H s->Vals vs us->t vs σ H Q ->
  wpAny (model X.prog X.w) X.A (assignInOrder ((assignEach ts X.env).map (·.2)) us) (fun _ s'=>∃ σ' H',Inv X pins σ' H' s'/\Q σ' H') X.xe s
abbrev we:=V->V->V->Hp->(Hp->Prop)->Prop
def Aw(X:Cx)(t:we):Prop :=
 ∀ (pins:List (Addr × Obj)) (s:Shared) (σ:St) (H:Hp) (o i v:V) (ov iv u:Value) (Q:Hp->Prop),Inv X pins σ H s->RelV o ov->RelV i iv->RelV v u->t o i v H Q ->
  wpAny (model X.prog X.w) X.A (setItem ov iv u) (fun _ s'=>∃ H',Inv X pins σ H' s'/\Q H') X.xe s
abbrev TIp:=V->V->Hp->VK->Prop
def PIp(X:Cx)(op:Operator)(t:TIp):Prop :=
 ∀ (pins:List (Addr × Obj)) (s:Shared) (σ:St) (H:Hp) (x y:V) (v u:Value) (Q:VK),Inv X pins σ H s->RelV x v->RelV y u->t x y H Q ->
  wpAny (model X.prog X.w) X.A (inplaceOp op v u) (EP X pins σ Q) X.xe s
section
variable{X:Cx}{pos:Pos}
def mL(i:Nat):TG:=fun v σ H Q=>Q (σ.set i (some v)) H
theorem qL{i:Nat}{x:Str}(hN:X.N.Nodup)(hi:X.N[i]?=some x)(hx:Loc X.env.scope x)(hf:X.fn x=true\/X.env.scope.names.lookup x=some .local:=by first | exact .inl rfl | exact .inr rfl | assumption):PG X (.Name x pos) (mL i):=by
 intro pins s σ H v u Q I r h
 exact wpAny_assign_Name (h8 I hN hi hx r (fun s' I'=>⟨_,H,I',h⟩) hf)
def BI:TGs:=fun vs σ H Q=>vs=[]/\Q σ H
def xn(t:TG)(u:TGs):TGs:=fun vs σ H Q=>∃ v r,vs=v::r/\t v σ H fun σ' H'=>u r σ' H' Q
theorem xS:PGs X [] BI:=by
 intro pins s σ H vs us Q I r h
 obtain⟨e,h⟩:=h
 subst e
 cases r
 exact assignInOrder_nil ⟨σ,H,I,h⟩
theorem vE{e:Expr}{es:List Expr}{t:TG}{u:TGs}(h1:PG X e t)(h2:PGs X es u)
 (hs:(assignEach (e::es) X.env).map (·.2)=assign e X.env::(assignEach es X.env).map (·.2):=by rfl):PGs X (e::es) (xn t u):=by
 intro pins s σ H vs us Q I r h
 obtain⟨v,vr,e1,h⟩:=h
 subst e1
 cases r with
 |cons r rr=>
  rw[hs]
  refine assignInOrder_cons (thn (h1 pins s σ H _ _ _ I r h) fun _ s1 ⟨σ1,H1,I1,q1⟩=>?_)
  exact h2 pins s1 σ1 H1 _ _ Q I1 rr q1
def kE(K:PySem.W.Frag)(n:Nat)(t:TGs):TG:=fun v σ H Q=>∃ a xs,v=.ref a/\SqT K H a xs/\xs.length=n/\t xs σ H Q
def vv(to ti:TE)(t:we):TG:=fun v σ H Q=>to σ H fun o H1=>ti σ H1 fun i H2=>t o i v H2 fun H3=>Q σ H3
theorem zC{o i:Expr}{to ti:TE}{t:we}(ho:PE X o to)(hi:PE X i ti)(hs:Aw X t)
 (ha:∀ v,assign (.Subscript o i pos) X.env v=(do
   let ov <- holding [v] (eval o X.env)
   let iv <- holding [v,ov] (eval i X.env)
   standAt pos
   holding [v,ov,iv] (setItem ov iv v)
   release [v,ov,iv] []):=by intro _;rfl):PG X (.Subscript o i pos) (vv to ti t):=by
 intro pins s σ H v u Q I r h
 rw[ha]
 refine wpAny_bind (wpAny_holding (thn (ho pins s σ H _ I h) fun ov s1 ⟨x,H1,I1,r1,q1⟩=>?_))
 refine wpAny_bind (wpAny_holding (thn (hi pins s1 σ H1 _ I1 q1) fun iv s2 ⟨y,H2,I2,r2,q2⟩=>?_))
 refine wpAny_bind (wpAny_standAt (wpAny_bind (wpAny_holding (thn (hs pins s2 σ H2 x y v ov iv u _ I2 r1 r2 r q2) fun _ s3 ⟨H3,I3,q3⟩=>?_))))
 exact wpAny_release ⟨σ,H3,I3,q3⟩
def mY(te:TE)(g:TG):TS:=fun D σ H=>te σ H fun x H1=>g x σ H1 D.nx
theorem nW{tg e:Expr}{te:TE}{g:TG}(he:PE X e te)(hg:PG X tg g)(hs:swapsWithSole [tg] e pos.line X.env=pure false:=by rfl)(hw:swappedStores [tg] e X.env=pure none:=by rfl)
 (h1:(assignEach [tg] X.env).map (·.2)=[assign tg X.env]:=by rfl):PS X (.Assign [tg] e pos) (mY te g):=by
 intro pins s σ H D I h
 refine wpAny_Assign_stores (thn (he pins s σ H _ I h) fun v s1 ⟨x,H1,I1,r1,q1⟩=>?_) hs hw
 rw[h1]
 exact thn (hg pins s1 σ H1 x v _ I1 r1 q1) fun _ s2 q=>q
theorem u7{i:Nat}{x:Str}{e:Expr}{te:TE}{pos':Pos}(hN:X.N.Nodup)(hi:X.N[i]?=some x)(hx:Loc X.env.scope x)(he:PE X e te)(hs:swapsWith e (some (.Name x pos')) pos.line X.env=pure false:=by rfl)(hf:X.fn x=true\/X.env.scope.names.lookup x=some .local:=by first | exact .inl rfl | exact .inr rfl | assumption) :
  PS X (.Assign [.Name x pos'] e pos) (mY te (mL i)):=by
 intro pins s σ H D I h
 refine wpAny_Assign_Name (thn (he pins s σ H _ I h) fun v s1 ⟨y,H1,I1,r1,q1⟩=>?_) hs
 exact h8 I1 hN hi hx r1 (fun s2 I2=>⟨_,H1,I2,q1⟩) hf
def vN(i:Nat)(te:TE)(ti:TIp):TS:=fun D σ H=>∃ x,σ[i]?=some (some x)/\te σ H fun y H1=>ti x y H1 fun z H2=>D.nx (σ.set i (some z)) H2
theorem mM{i:Nat}{x:Str}{e:Expr}{te:TE}{op:Operator}{ti:TIp}{pos':Pos}(hN:X.N.Nodup)(hi:X.N[i]?=some x)(hx:Loc X.env.scope x)(he:PE X e te)(ho:PIp X op ti)(hf:X.fn x=true\/X.env.scope.names.lookup x=some .local:=by first | exact .inl rfl | exact .inr rfl | assumption) :
  PS X (.AugAssign (.Name x pos') op e pos) (vN i te ti):=by
 intro pins s σ H D I h
 obtain⟨v,e1,h⟩:=h
 obtain⟨m,hn,hl⟩:=I.loc
 have vis:Vis X.env.scope x:=by rcases hx with k | k;exact .inl k;exact .inr (.inl k)
 obtain⟨u,r,l⟩:=hl i x v hi e1 vis
 refine wpAny_AugAssign_Name ?_
 have go:wpAny (model X.prog X.w) X.A (eval e X.env) (fun w s₂=>wpAny (model X.prog X.w) X.A (inplaceOp op u w) (fun r s₃=>wpAny (model X.prog X.w) X.A (storeName X.env x r) (fun _=>SP X pins D .next) X.xe s₃) X.xe s₂) X.xe s:=by
  refine thn (he pins s σ H _ I h) fun w s1 ⟨y,H1,I1,r1,q1⟩=>?_
  refine thn (ho pins s1 σ H1 v y u w _ I1 r r1 q1) fun z s2 ⟨zv,H2,I2,r2,q2⟩=>?_
  exact h8 I2 hN hi hx r2 (fun s3 I3=>⟨_,H2,I3,q2⟩) hf
 rcases l with⟨hk,hm⟩ | ⟨hk,c,hc,hcell⟩
 ·exact wpAny_loadName_local I.ok.kind hk hn hm go
 ·rcases hk with hk | hk
  ·exact wpAny_loadName_cell I.ok.kind hk hc hcell go
  ·rcases hx with k | k
   ·have:X.env.scope.names.lookup x=some .free:=hk
    rw[k]at this;cases this
   ·have:X.env.scope.names.lookup x=some .free:=hk
    rw[k]at this;cases this
def ipI(f:Int->Int->Int):TIp:=fun x y H Q=>∃ i j,x=.int i/\y=.int j/\Q (.int (f i j)) H
theorem tG:PIp X .Add (ipI fun i j=>i+j):=by
 intro pins s σ H x y v u Q I r1 r2 h
 obtain⟨i,j,e1,e2,q⟩:=h
 subst e1;subst e2
 obtain⟨t,rfl⟩:=r1
 obtain⟨t',rfl⟩:=r2
 exact iadd_int ⟨.int _,H,I.tok _,⟨_,rfl⟩,q⟩
theorem zi:PIp X .Sub (ipI fun i j=>i-j):=by
 intro pins s σ H x y v u Q I r1 r2 h
 obtain⟨i,j,e1,e2,q⟩:=h
 subst e1;subst e2
 obtain⟨t,rfl⟩:=r1
 obtain⟨t',rfl⟩:=r2
 exact isub_int ⟨.int _,H,I.tok _,⟨_,rfl⟩,q⟩
end
section
variable{X:Cx}{pos:Pos}
def Bx(c:TT)(tb:TS):TS:=fun D σ H=>∃ W:Nat->St->Hp->Prop,(∃ m,W m σ H)/\∀ m σ H,W m σ H ->
 c σ H fun b H1=>if b=true then ∃ N:St->Hp->Prop,(∀ σ' H',N σ' H'->∃ m',m'<m/\W m' σ' H')/\tb { D with nx:=N,ct:=N,bk:=D.nx } σ H1 else D.nx σ H1
theorem wM{c:Expr}{body:List Stmt}{tc:TT}{tb:TS}(hp:PassesOwn (model X.prog X.w) X.A X.env X.xe)(hc:PT X c tc)(hb:PSs X body tb):PS X (.While c body [] pos) (Bx tc tb):=by
 intro pins s σ H D I h
 obtain⟨W,⟨m0,w0⟩,turn⟩:=h
 refine wpAny_While (codeAny_whileLoop (fun n s'=>∃ σ' H',Inv X pins σ' H' s'/\W n σ' H') ?_ m0 ⟨σ,H,I,w0⟩)
 rintro n s1 ⟨σ1,H1,I1,w1⟩
 refine wpAny_passesOwn hp (thn (hc pins s1 σ1 H1 _ I1 (turn n σ1 H1 w1)) fun b s2 ⟨H2,I2,q2⟩=>?_)
 cases b with
 |true=>
  obtain⟨N,hN,q2⟩:=q2
  rw[if_pos rfl]
  refine wpAny_passesOwn hp (thn (hb pins s2 σ1 H2 _ I2 q2) fun f s3 q3=>?_)
  cases f with
  |next=>
   obtain⟨σ3,H3,I3,n3⟩:=q3
   obtain⟨m',hm,w3⟩:=hN σ3 H3 n3
   exact⟨m',hm,σ3,H3,I3,w3⟩
  |cont=>
   obtain⟨σ3,H3,I3,n3⟩:=q3
   obtain⟨m',hm,w3⟩:=hN σ3 H3 n3
   exact⟨m',hm,σ3,H3,I3,w3⟩
  | brk=>exact q3
  | ret v=>exact q3
 |false=>
  rw[if_neg Bool.false_ne_true]
  exact wpAny_execs_nil ⟨σ1,H2,I2,q2⟩
end
structure It where
 go:Nat->Hp->Prop
 yld:Nat->Hp->V->Hp->Prop
 stop:Nat->Hp->Prop
def hW(X:Cx)(pins:List (Addr × Obj))(H:Hp)(b:Addr):Prop :=
 H b=none/\b≠X.env.locals/\b∉X.fs/\(b∈X.ex\/X.s₀.heap.objs.size<=b)/\(∀ x c,X.env.cells.lookup x=some c->c≠b)/\∀ p∈X.pn++pins,p.1≠b
theorem Inv.oq{X:Cx}{pins:List (Addr × Obj)}{σ:St}{H H':Hp}{s:Shared}{b:Addr}(I:Inv X pins σ H s)(hb:s.heap.objs.size<=b)(hn:H' b=none):hW X pins H' b:=by
 refine⟨hn,Nat.ne_of_gt (Nat.lt_of_lt_of_le I.lt hb),I.D9 hb,.inr (Nat.le_trans I.sz hb),fun x c e z=>?_,fun p hp z=>?_⟩
 ·obtain⟨v,q⟩:=I.cell x c e
  exact absurd (Nat.lt_of_lt_of_le q.lt (by rw[z];exact hb)) (Nat.lt_irrefl _)
 ·exact absurd (Nat.lt_of_lt_of_le (Heap.lt_size (I.pin p hp).1) (by rw[z];exact hb)) (Nat.lt_irrefl _)
structure k8(CM:Cx->Prop)(P:Program)(w:World)(K:PySem.W.Frag)(tg:Expr)(J:It)(fp:List Addr)(it:Addr)(tn:Nat->Heap->Prop):Prop where
 mem:it∈fp
 obj:∀ i h,tn i h->∀ b∈fp,∃ o,h.get? b=some o/\∀ v,o.data≠.cell v
 keep:∀ i h h',tn i h->(∀ b∈fp,∀ o,h.get? b=some o->h'.get? b=some o)->tn i h'
 item:∀ (X:Cx),X.prog=P->X.w=w->X.K=K->CM X->∀ (i:Nat) (pins:List (Addr × Obj)) (s:Shared) (σ:St) (H:Hp) (E:Value->Shared->Prop),Inv X pins σ H s->(∀ b∈fp,hW X pins H b)->tn i s.heap->J.go i H ->
  wpAny (model P w) X.A (pyNext (.ref it)) (fun r s1=>∃ u,r=some u /\
   wpAny (model P w) X.A (letOwnedTupleGo tg (.ref it) u) (fun _ s2=>∃ x H',Inv X pins σ H' s2/\RelV x u/\J.yld i H x H'/\tn (i+1) s2.heap/\∀ b∈fp,H' b=none) E s1) E s
 done:∀ (X:Cx),X.prog=P->X.w=w->X.K=K->CM X->∀ (i:Nat) (pins:List (Addr × Obj)) (s:Shared) (σ:St) (H:Hp) (E:Value->Shared->Prop),Inv X pins σ H s->(∀ b∈fp,hW X pins H b)->tn i s.heap->J.stop i H ->
  wpAny (model P w) X.A (pyNext (.ref it)) (fun r s1=>r=none/\Inv X pins σ H s1) E s
 self:∀ (A:Around) (i:Nat) (s:Shared) (Q:Value->Shared->Prop) (E:Value->Shared->Prop),tn i s.heap->Q (.ref it) s->wpAny (model P w) A (pyIter (.ref it)) Q E s
abbrev Calm:Cx->Prop:=fun X=>X.calm=true
abbrev Turn:=k8 Calm
abbrev TI:=St->Hp->(It->Hp->Prop)->Prop
def zO(CM:Cx->Prop)(X:Cx)(pins:List (Addr × Obj))(σ:St)(tg:Expr)(R:It->Hp->Prop)(itv:Value)(s2:Shared):Prop :=
 ∃ (it:Addr) (fp:List Addr) (tn:Nat->Heap->Prop) (J:It) (H':Hp),itv=.ref it/\Inv X pins σ H' s2/\k8 CM X.prog X.w X.K tg J fp it tn/\tn 0 s2.heap/\(∀ b∈fp,hW X pins H' b)/\R J H'
abbrev PIE:=zO Calm
def PI'(CM:Cx->Prop)(X:Cx)(tg iter:Expr)(wi:TI):Prop :=
 ∀ (pins:List (Addr × Obj)) (s:Shared) (σ:St) (H:Hp) (R:It->Hp->Prop),Inv X pins σ H s->wi σ H R ->
  wpAny (model X.prog X.w) X.A (eval iter X.env) (fun v s1=>wpAny (model X.prog X.w) X.A (pyIter v) (zO CM X pins σ tg R) X.xe s1) X.xe s
abbrev PI:=PI' Calm
theorem sq{M:Model}{A:Around}{E:Value->Shared->Prop}{s:Shared}{tg:Expr}{it:Addr}{u:Value}{o:Obj}{n:String}{vs:Array Value}{Q:Unit->Shared->Prop}(ho:s.heap.get? it=some o)(hc:o.cls=.type n)(hd:o.data=.fields vs)
 (hn:["enumerate", "zip", "dict_itemiterator", "dict_reverseitemiterator", "odict_iterator", "itertools.zip_longest", "itertools.pairwise"].contains n=false)(hQ:Q () s):wpAny M A (letOwnedTupleGo tg (.ref it) u) Q E s:=by
 unfold letOwnedTupleGo
 cases tg<;>first
  | exact wpAny_pure hQ
  | (cases u<;>first
    | exact wpAny_pure hQ
    | (refine wpAny_bind (wpAny_load ho ?_)
       rw[hc,hd]
       show wpAny M A (if(["enumerate", "zip", "dict_itemiterator", "dict_reverseitemiterator", "odict_iterator", "itertools.zip_longest", "itertools.pairwise"].contains n&&vs[0]? == some (rawInt _))=true then _ else _) Q E s
       rw[if_neg (by intro h;rw[hn,Bool.false_and]at h;cases h)]
       exact wpAny_pure hQ))
def Itl(K:PySem.W.Frag)(a:Addr):It :=
 ⟨fun i H=>∃ xs x,SqL K H a xs/\xs[i]?=some x,fun i H x H'=>H'=H/\∀ xs,SqL K H a xs->xs[i]?=some x,fun i H=>∃ xs,SqL K H a xs/\xs.length<=i⟩
def Itt(K:PySem.W.Frag)(a:Addr):It :=
 ⟨fun i H=>∃ xs x,SqT K H a xs/\xs[i]?=some x,fun i H x H'=>H'=H/\∀ xs,SqT K H a xs->xs[i]?=some x,fun i H=>∃ xs,SqT K H a xs/\xs.length<=i⟩
def Itr(lo:Int)(n:Nat):It:=⟨fun i _=>i<n,fun i H x H'=>H'=H/\x=.int (lo+i),fun i _=>n<=i⟩
theorem uJ{P:Program}{w:World}{K:PySem.W.Frag}{tg:Expr}(a it:Addr):Turn P w K tg (Itl K a) [it] it (fun i h=>h.IsListIter it a i) where
 mem:=by simp
 obj:=fun i h st b hb=>by
  have e:b=it:=by simpa using hb
  subst e
  obtain⟨o,e,c,d⟩:=st
  exact⟨o,e,fun v z=>by rw[d]at z;cases z⟩
 keep:=fun i h h' st k=>st.at fun o e=>k it (by simp) o e
 item:=by
  intro X hP hw hK hc i pins s σ H E I hf st hg
  subst hP hw hK
  obtain⟨xs,x,hq,hx⟩:=hg
  obtain⟨its,rv,p,hz⟩:=I.list hq
  obtain⟨u,hu,ru⟩:=rv.get hx
  obtain⟨f0,f1,f2,f3,f4,f5⟩:=hf it (by simp)
  refine wpAny_pyNext_list_item st p.isList (x:=u) (by simpa using hu) fun h' st' sb=>?_
  have I1:Inv X pins σ H { s with heap:=h' }:=I.turned (t':=s.toks) (fun b o hb e=>(sb.2 b hb).trans e) f0 f1 f3 f4 f5
  obtain⟨o,e,c,d⟩:=id st'
  exact⟨u,rfl,sq (s:={ s with heap:=h' }) e c d (by decide) ⟨x,H,I1,ru,⟨rfl,fun ys hy=>by rw[I.wO hy hq];exact hx⟩,st',fun b hb=>(hf b hb).1⟩⟩
 done:=by
  intro X hP hw hK hc i pins s σ H E I hf st hg
  subst hP hw hK
  obtain⟨xs,hq,hx⟩:=hg
  obtain⟨its,rv,p,hz⟩:=I.list hq
  obtain⟨f0,f1,f2,f3,f4,f5⟩:=hf it (by simp)
  have hl:=rv.length
  exact wpAny_pyNext_list_end (I.ok.hd.1 hc) st p.isList (by simp;omega) fun h' eb=>⟨rfl,I.turned (t':=s.toks) (fun b o hb e=>eb b o hb e) f0 f1 f3 f4 f5⟩
 self:=fun _ _ _ _ _ st h=>wpAny_pyIter_listiter st h
theorem sk{P:Program}{w:World}{K:PySem.W.Frag}{tg:Expr}(a it:Addr):Turn P w K tg (Itt K a) [it] it (fun i h=>h.IsTupleIter it a i) where
 mem:=by simp
 obj:=fun i h st b hb=>by
  have e:b=it:=by simpa using hb
  subst e
  obtain⟨o,e,c,d⟩:=st
  exact⟨o,e,fun v z=>by rw[d]at z;cases z⟩
 keep:=fun i h h' st k=>st.at fun o e=>k it (by simp) o e
 item:=by
  intro X hP hw hK hc i pins s σ H E I hf st hg
  subst hP hw hK
  obtain⟨xs,x,hq,hx⟩:=hg
  obtain⟨its,rv,p,hz⟩:=I.tuple hq
  obtain⟨u,hu,ru⟩:=rv.get hx
  obtain⟨f0,f1,f2,f3,f4,f5⟩:=hf it (by simp)
  refine wpAny_pyNext_tuple_item st (show s.heap.IsTuple a its.toArray from p) (x:=u) (by simpa using hu) fun h' st' sb=>?_
  have I1:Inv X pins σ H { s with heap:=h' }:=I.turned (t':=s.toks) (fun b o hb e=>(sb.2 b hb).trans e) f0 f1 f3 f4 f5
  obtain⟨o,e,c,d⟩:=id st'
  exact⟨u,rfl,sq (s:={ s with heap:=h' }) e c d (by decide) ⟨x,H,I1,ru,⟨rfl,fun ys hy=>by rw[I.tQ hy hq];exact hx⟩,st',fun b hb=>(hf b hb).1⟩⟩
 done:=by
  intro X hP hw hK hc i pins s σ H E I hf st hg
  subst hP hw hK
  obtain⟨xs,hq,hx⟩:=hg
  obtain⟨its,rv,p,hz⟩:=I.tuple hq
  obtain⟨f0,f1,f2,f3,f4,f5⟩:=hf it (by simp)
  have hl:=rv.length
  exact wpAny_pyNext_tuple_end (I.ok.hd.1 hc) st (show s.heap.IsTuple a its.toArray from p) (by simp;omega) fun h' eb=>⟨rfl,I.turned (t':=s.toks) (fun b o hb e=>eb b o hb e) f0 f1 f3 f4 f5⟩
 self:=fun _ _ _ _ _ st h=>wpAny_pyIter_tupleiter st h
theorem sj{P:Program}{w:World}{K:PySem.W.Frag}{tg:Expr}(it:Addr)(lo:Int)(n:Nat):Turn P w K tg (Itr lo n) [it] it (fun i h=>IsRangeIter h it (lo+(i:Nat)*1) ((n:Int)-(i:Nat)) 1) where
 mem:=by simp
 obj:=fun i h st b hb=>by
  have e:b=it:=by simpa using hb
  subst e
  exact⟨_,st,fun v z=>by
   have z':Data.fields _=Data.cell v:=z
   cases z'⟩
 keep:=fun i h h' st k=>k it (by simp) _ st
 item:=by
  intro X hP hw hK hc i pins s σ H E I hf st hg
  subst hP hw hK
  obtain⟨f0,f1,f2,f3,f4,f5⟩:=hf it (by simp)
  have W:=Walks.range (prog:=X.prog) (w:=X.w) (I.ok.hd.1 hc) it lo 1 n
  refine W.item i s _ _ hg st fun v h' tk hv st' kk=>?_
  obtain⟨t,rfl⟩:=hv
  have I1:Inv X pins σ H { s with heap:=h',toks:=tk }:=I.turned (fun b o hb e=>kk b o (by simpa using hb) e) f0 f1 f3 f4 f5
  refine⟨_,rfl,sq (s:={ s with heap:=h',toks:=tk }) (n := "range_iterator") st' rfl rfl (by decide) ⟨.int (lo+i),H,I1,⟨t,?_⟩,⟨rfl,rfl⟩,st',fun b hb=>(hf b hb).1⟩⟩
  rw[Int.mul_one]
 done:=by
  intro X hP hw hK hc i pins s σ H E I hf st hg
  subst hP hw hK
  obtain⟨f0,f1,f2,f3,f4,f5⟩:=hf it (by simp)
  exact wpAny_pyNext_range_end (I.ok.hd.1 hc) st (by have:n<=i:=hg;omega) fun h' eb=>⟨rfl,I.turned (t':=s.toks) (fun b o hb e=>eb b o hb e) f0 f1 f3 f4 f5⟩
 self:=fun _ _ _ _ _ st h=>wpAny_pyIter_rangeiter st h
section
variable{X:Cx}{tg:Expr}
theorem nF{pins:List (Addr × Obj)}{σ:St}{H:Hp}{s:Shared}{R:It->Hp->Prop}{E:Value->Shared->Prop}{lo hi:Int}{t u v:Tok}{tk:Nat}(I:Inv X pins σ H s)(h1:-(2 ^ 62)<=lo)(h2:lo<2 ^ 62)(h3:-(2 ^ 62)<=hi)(h4:hi<2 ^ 62)
 (q:R (Itr lo (hi-lo).toNat) H):wpAny (model X.prog X.w) X.A (pyIter (.ref s.heap.objs.size)) (PIE X pins σ tg R) E { s with heap:=s.heap.push { cls:=.type "range",data:=.fields #[.int lo t,.int hi u,.int 1 v] },toks:=tk }:=by
 refine wpAny_pyIter_range (IsRange.new ..) (small_one h1 h2 h3 h4) ?_
 have I1:Inv X pins σ H { s with heap:=s.heap.push { cls:=.type "range",data:=.fields #[.int lo t,.int hi u,.int 1 v] },toks:=tk }:=I.kept fun b o e=>Heap.get?_push_of_some _ e
 refine⟨(s.heap.push { cls:=.type "range",data:=.fields #[.int lo t,.int hi u,.int 1 v] }).objs.size,[(s.heap.push { cls:=.type "range",data:=.fields #[.int lo t,.int hi u,.int 1 v] }).objs.size],_,_,H,rfl,
  I1.kept (t':=tk) fun b o e=>Heap.get?_push_of_some _ e,sj _ lo (hi-lo).toNat,?_,fun b hb=>?_,q⟩
 ·have e1:lo+((0:Nat):Int)*1=lo:=by simp
  have e2:(((hi-lo).toNat:Nat):Int)-((0:Nat):Int)=Builtin.Range.rangeSize lo hi 1:=by rw[rangeSize_one];split<;>omega
  show IsRangeIter _ _ (lo+((0:Nat):Int)*1) ((((hi-lo).toNat:Nat):Int)-((0:Nat):Int)) 1
  rw[e1,e2]
  exact Heap.get?_push_size _ rfl
 ·have e:b=(s.heap.push { cls:=.type "range",data:=.fields #[.int lo t,.int hi u,.int 1 v] }).objs.size:=by simpa using hb
  subst e
  exact I1.oq (Nat.le_refl _) (I1.hok.fresh (Nat.le_refl _))
def CW(ta:TA):TI:=fun σ H R=>ta σ H fun vs H1=>∃ j:Int,vs=[.int j]/\-(2 ^ 62)<=j/\j<2 ^ 62/\R (Itr 0 j.toNat) H1
def Cu(ta:TA):TI:=fun σ H R=>ta σ H fun vs H1=>∃ i j:Int,vs=[.int i,.int j]/\(-(2 ^ 62)<=i/\i<2 ^ 62/\-(2 ^ 62)<=j/\j<2 ^ 62)/\R (Itr i (j-i).toNat) H1
theorem uQ{a:Expr}{ta:TA}{p pos:Pos}(hg:Gl X "range")(hm:X.mg "range" = none)(ha:PA X [a] ta)(hs:starEach [a] X.env=[(false,eval a X.env)]:=by rfl):PI X tg (.Call (.Name "range" p) [a] [] pos) (CW ta):=by
 intro pins s σ H R I h
 refine Call_ (fT I hg hm boot_range (PyProof.Rows.callWith_type1 (thn (ha pos pins s σ H _ I h) fun us s1 ⟨vs,H1,I1,r1,q1⟩=>?_) hs rfl))
 obtain⟨j,e,q1,q2,q⟩:=q1
 subst e
 cases r1 with
 |cons r rr=>
  cases rr
  obtain⟨t,rfl⟩:=r
  exact call_range_1 (nF I1 (by omega) (by omega) q1 q2 (by simpa using q))
theorem sP{a b:Expr}{ta:TA}{p pos:Pos}(hg:Gl X "range")(hm:X.mg "range" = none)(ha:PA X [a,b] ta)(hs:starEach [a,b] X.env=[(false,eval a X.env),(false,eval b X.env)]:=by rfl)(hs2:starEach [b] X.env=[(false,eval b X.env)]:=by rfl) :
  PI X tg (.Call (.Name "range" p) [a,b] [] pos) (Cu ta):=by
 intro pins s σ H R I h
 refine Call_ (fT I hg hm boot_range (PyProof.Rows.callWith_type1 (thn (ha pos pins s σ H _ I h) fun us s1 ⟨vs,H1,I1,r1,q1⟩=>?_) (by rw[hs,hs2]) (by rw[hs2];rfl)))
 obtain⟨i,j,e,⟨q1,q2,q3,q4⟩,q⟩:=q1
 subst e
 cases r1 with
 |cons r rr=>
  cases rr with
  |cons r' rr=>
   cases rr
   obtain⟨t,rfl⟩:=r
   obtain⟨t',rfl⟩:=r'
   exact call_range_2 (nF I1 q1 q2 q3 q4 q)
def Dy(wi:TI)(g:TG)(tb:TS):TS:=fun D σ H=>wi σ H fun J H1=>∃ W:Nat->Nat->St->Hp->Prop,(∃ m,W 0 m σ H1)/\∀ i m σ H,W i m σ H ->
 (J.stop i H/\D.nx σ H)\/(J.go i H/\∃ N:St->Hp->Prop,(∀ σ' H',N σ' H'->∃ m',m'<m/\W (i+1) m' σ' H')/\∀ x H',J.yld i H x H'->g x σ H' fun σ2 H2=>tb { D with nx:=N,ct:=N,bk:=D.nx } σ2 H2)
def iJ(fp:List Addr)(h:Heap):List (Addr × Obj):=fp.filterMap fun b=>(h.get? b).map fun o=>(b,o)
theorem fq{fp:List Addr}{h:Heap}{b:Addr}{o:Obj}(hb:b∈fp)(e:h.get? b=some o):(b,o)∈iJ fp h:=List.mem_filterMap.mpr ⟨b,hb,by rw[e];rfl⟩
theorem sO{fp:List Addr}{h:Heap}{p:Addr × Obj}(hp:p∈iJ fp h):p.1∈fp/\h.get? p.1=some p.2:=by
 obtain⟨b,hb,e⟩:=List.mem_filterMap.mp hp
 cases q:h.get? b with
 | none=>rw[q]at e;cases e
 |some o=>
  rw[q]at e
  have e':(b,o)=p:=Option.some.inj e
  subst e'
  exact⟨hb,q⟩
theorem Inv.pinned{pins:List (Addr × Obj)}{σ:St}{H:Hp}{s:Shared}{fp:List Addr}(I:Inv X pins σ H s)(hf:∀ b∈fp,hW X pins H b)(ho:∀ b∈fp,∃ o,s.heap.get? b=some o/\∀ v,o.data≠.cell v):Inv X (pins++iJ fp s.heap) σ H s :=
 I.pX fun p hp=>(List.mem_append.mp hp).elim (fun z=>I.pin p (List.mem_append_right _ z)) fun z=>by
  obtain⟨hb,e⟩:=sO z
  obtain⟨f0,f1,f2,_⟩:=hf p.1 hb
  obtain⟨o,e',d⟩:=ho p.1 hb
  rw[e]at e';cases e'
  exact⟨e,f0,f1,f2,d⟩
theorem Inv.ie{pins pl:List (Addr × Obj)}{σ:St}{H:Hp}{s:Shared}(I:Inv X (pins++pl) σ H s):Inv X pins σ H s:=I.pX fun p hp=>I.pin p (List.mem_append_right _ (List.mem_append_left _ hp))
theorem sG{iter:Expr}{body:List Stmt}{wi:TI}{g:TG}{tb:TS}{pos:Pos}(hp:PassesOwn (model X.prog X.w) X.A X.env X.xe)(hc:X.calm=true)(hi:PI X tg iter wi)(hg:PG X tg g)(hb:PSs X body tb)
 (hs:∀ x,foldedSetIterable iter X.env x=pure x:=by intro _;rfl):PS X (.For tg iter body [] pos) (Dy wi g tb):=by
 intro pins s σ H D I h
 refine wpAny_For (thn (hi pins s σ H _ I h) fun v s1 h1=>thn h1 fun itv s2 h2=>?_) hs
 obtain⟨it,fp,tn,J,H2,e,I2,T,st2,f2,W,⟨m0,w0⟩,turn⟩:=h2
 subst e
 have stat:∀ {H':Hp},(∀ b∈fp,H' b=none)->∀ b∈fp,hW X pins H' b:=fun hn b hb=>⟨hn b hb,(f2 b hb).2⟩
 refine codeAny_forLoop_any (fun n s'=>∃ i σ' H',Inv X pins σ' H' s'/\tn i s'.heap/\(∀ b∈fp,H' b=none)/\W i n σ' H') ?_ m0 ⟨0,σ,H2,I2,st2,fun b hb=>(f2 b hb).1,w0⟩
 rintro n s3 ⟨i,σ3,H3,I3,st3,fr3,w3⟩
 rcases turn i n σ3 H3 w3 with⟨stop,qn⟩ | ⟨go,N,hN,step⟩
 ·refine wpAny_passesOwn hp (thn (T.done X rfl rfl rfl hc i pins s3 σ3 H3 X.xe I3 (stat fr3) st3 stop) fun r s4 ⟨hr,I4⟩=>?_)
  subst hr
  exact wpAny_execs_nil ⟨σ3,H3,I4,qn⟩
 ·refine wpAny_passesOwn hp (thn (T.item X rfl rfl rfl hc i pins s3 σ3 H3 X.xe I3 (stat fr3) st3 go) fun r s4 ⟨u,hr,h4⟩=>?_)
  subst hr
  refine wpAny_passesOwn hp (thn h4 fun _ s5 ⟨x,H5,I5,r5,y5,st5,fr5⟩=>?_)
  have I5':=I5.pinned (stat fr5) (T.obj _ _ st5)
  refine wpAny_passesOwn hp (thn (hg _ s5 σ3 H5 x u _ I5' r5 (step x H5 y5)) fun _ s6 ⟨σ6,H6,I6,q6⟩=>?_)
  refine wpAny_passesOwn hp (thn (hb _ s6 σ6 H6 _ I6 q6) fun f s7 q7=>?_)
  have again:∀ {σ7:St} {H7:Hp},Inv X (pins++iJ fp s5.heap) σ7 H7 s7->N σ7 H7->∃ m,m<n/\∃ i σ' H',Inv X pins σ' H' s7/\tn i s7.heap/\(∀ b∈fp,H' b=none)/\W i m σ' H':=fun {σ7 H7} I7 n7=>by
   obtain⟨m',hm,w7⟩:=hN σ7 H7 n7
   refine⟨m',hm,i+1,σ7,H7,I7.ie,T.keep _ _ _ st5 fun b hb o e=>(I7.pin (b,o) (List.mem_append_right _ (List.mem_append_right _ (fq hb e)))).1,fun b hb=>?_,w7⟩
   obtain⟨o,e,d⟩:=T.obj _ _ st5 b hb
   exact(I7.pin (b,o) (List.mem_append_right _ (List.mem_append_right _ (fq hb e)))).2.1
  cases f with
  | next=>obtain⟨σ7,H7,I7,n7⟩:=q7;exact again I7 n7
  | cont=>obtain⟨σ7,H7,I7,n7⟩:=q7;exact again I7 n7
  | brk=>obtain⟨σ7,H7,I7,q7⟩:=q7;exact⟨σ7,H7,I7.ie,q7⟩
  | ret v=>obtain⟨x7,σ7,H7,I7,r7,q7⟩:=q7;exact⟨x7,σ7,H7,I7.ie,r7,q7⟩
end
abbrev R2:=V->V->Hp->VK->Prop
def OpR(X:Cx)(f:Value->Value->Sem Value)(r:R2):Prop :=
 ∀ (pins:List (Addr × Obj)) (s:Shared) (σ:St) (H:Hp) (x y:V) (v u:Value) (Q:VK),Inv X pins σ H s->RelV x v->RelV y u->r x y H Q ->
  wpAny (model X.prog X.w) X.A (f v u) (EP X pins σ Q) X.xe s
def UnR(X:Cx)(f:Value->Sem Value)(r:V->Hp->VK->Prop):Prop :=
 ∀ (pins:List (Addr × Obj)) (s:Shared) (σ:St) (H:Hp) (x:V) (v:Value) (Q:VK),Inv X pins σ H s->RelV x v->r x H Q ->
  wpAny (model X.prog X.w) X.A (f v) (EP X pins σ Q) X.xe s
def bH(X:Cx)(f:Value)(r:List V->Hp->VK->Prop):Prop :=
 ∀ (pins:List (Addr × Obj)) (s:Shared) (σ:St) (H:Hp) (xs:List V) (us:List Value) (Q:VK),Inv X pins σ H s->Vals xs us->r xs H Q ->
  wpAny (model X.prog X.w) X.A (call f us) (EP X pins σ Q) X.xe s
def D7(X:Cx)(r:V->Hp->(Bool->Hp->Prop)->Prop):Prop :=
 ∀ (pins:List (Addr × Obj)) (s:Shared) (σ:St) (H:Hp) (x:V) (v:Value) (Q:Bool->Hp->Prop),Inv X pins σ H s->RelV x v->r x H Q ->
  wpAny (model X.prog X.w) X.A (truthy v) (TP X pins σ Q) X.xe s
def tOp(r:R2)(ta tb:TE):TE:=fun σ H Q=>ta σ H fun x H1=>tb σ H1 fun y H2=>r x y H2 Q
def tUn(r:V->Hp->VK->Prop)(ta:TE):TE:=fun σ H Q=>ta σ H fun x H1=>r x H1 Q
def rI(C:Int->Int->Prop)(g:Int->Int->V):R2:=fun x y H Q=>∃ i j,x=.int i/\y=.int j/\C i j/\Q (g i j) H
def rI0(g:Int->Int->V):R2:=fun x y H Q=>∃ i j,x=.int i/\y=.int j/\Q (g i j) H
def rU(g:Int->V):V->Hp->VK->Prop:=fun x H Q=>∃ i,x=.int i/\Q (g i) H
section
variable{X:Cx}{a b c:Expr}{ta tb tc:TE}{pos:Pos}
theorem vf(ha:PE X a ta)(hb:PE X b tb){pins:List (Addr × Obj)}{s:Shared}{σ:St}{H:Hp}{R:V->V->Hp->Prop}(I:Inv X pins σ H s)
 (h:ta σ H fun x H1=>tb σ H1 fun y H2=>R x y H2){Q:Value->Shared->Prop}{f:Value->Value->Sem Value}
 (hf:∀ v u s2 x y H2,Inv X pins σ H2 s2->RelV x v->RelV y u->R x y H2->wpAny (model X.prog X.w) X.A (f v u) Q X.xe s2) :
  wpAny (model X.prog X.w) X.A (eval a X.env) (fun v s₁=>wpAny (model X.prog X.w) X.A (eval b X.env) (fun u s₂=>wpAny (model X.prog X.w) X.A (f v u) Q X.xe s₂) X.xe s₁) X.xe s:=by
 refine thn (ha pins s σ H _ I h) fun v s1 ⟨x,H1,I1,r1,q1⟩=>?_
 refine thn (hb pins s1 σ H1 _ I1 q1) fun u s2 ⟨y,H2,I2,r2,q2⟩=>?_
 exact hf v u s2 x y H2 I2 r1 r2 q2
theorem Cj{op:Operator}{r:R2}(ho:OpR X (binaryOp op) r)(ha:PE X a ta)(hb:PE X b tb):PE X (.BinOp a op b pos) (tOp r ta tb):=by
 intro pins s σ H Q I h
 exact wpAny_BinOp (vf ha hb I h fun v u s2 x y H2 I2 rx ry q=>ho pins s2 σ H2 x y v u Q I2 rx ry q)
theorem CI{op:UnaryOp}{r:V->Hp->VK->Prop}(ho:UnR X (unaryOp op) r)(ha:PE X a ta):PE X (.UnaryOp op a pos) (tUn r ta):=by
 intro pins s σ H Q I h
 exact UnaryOp_ (thn (ha pins s σ H _ I h) fun v s1 ⟨x,H1,I1,r1,q1⟩=>ho pins s1 σ H1 x v Q I1 r1 q1)
theorem opI{f:Value->Value->Sem Value}{C:Int->Int->Prop}{g:Int->Int->Int}
 (rule:∀ (i j:Int) (t u:Tok) (s:Shared) (Q:Value->Shared->Prop) (E:Value->Shared->Prop),C i j->Q (.int (g i j) s.toks) { s with toks:=s.toks+1 }->wpAny (model X.prog X.w) X.A (f (.int i t) (.int j u)) Q E s) :
  OpR X f (rI C fun i j=>.int (g i j)):=by
 intro pins s σ H x y v u Q I rx ry h
 obtain⟨i,j,rfl,rfl,hc,q⟩:=h
 obtain⟨t,rfl⟩:=rx
 obtain⟨t',rfl⟩:=ry
 exact rule i j t t' s _ _ hc ⟨.int (g i j),H,I.tok _,⟨_,rfl⟩,q⟩
theorem Ab{f:Value->Value->Sem Value}{g:Int->Int->Int}
 (rule:∀ (i j:Int) (t u:Tok) (s:Shared) (Q:Value->Shared->Prop) (E:Value->Shared->Prop),Q (.int (g i j) s.toks) { s with toks:=s.toks+1 }->wpAny (model X.prog X.w) X.A (f (.int i t) (.int j u)) Q E s) :
  OpR X f (rI0 fun i j=>.int (g i j)):=by
 intro pins s σ H x y v u Q I rx ry h
 obtain⟨i,j,rfl,rfl,q⟩:=h
 obtain⟨t,rfl⟩:=rx
 obtain⟨t',rfl⟩:=ry
 exact rule i j t t' s _ _ ⟨.int (g i j),H,I.tok _,⟨_,rfl⟩,q⟩
def BG(i j:Int):Prop:=0<=j/\j<=1000000/\i.natAbs<2 ^ 64
def rO(i j:Int):Prop:=(-(2 ^ 64)<i/\i<2 ^ 64)\/(-(2 ^ 64)<j/\j<2 ^ 64)
theorem rO.ok{i j:Int}(h:rO i j):IntMulOk i j:=by
 rcases h with⟨h1,h2⟩ | ⟨h1,h2⟩
 ·exact .of_left (intBits_le_64 h1 h2)
 ·exact .of_right (intBits_le_64 h1 h2)
theorem A6:OpR X (binaryOp .Add) (rI0 fun i j=>.int (i+j)):=Ab fun _ _ _ _ _ _ _ q=>add_int q
theorem AJ:OpR X (binaryOp .Sub) (rI0 fun i j=>.int (i-j)):=Ab fun _ _ _ _ _ _ _ q=>sub_int q
theorem zr:OpR X (binaryOp .Mult) (rI rO fun i j=>.int (i*j)):=opI fun _ _ _ _ _ _ _ hc q=>mul_int q hc.ok
theorem BR:OpR X (binaryOp .Mod) (rI (fun _ j=>0<j) fun i j=>.int (i%j)):=opI fun i j _ _ _ _ _ hc q=>by
 have h1:(0:Int)<j:=hc
 exact mod_int' (by omega) (by rw[Int.fmod_eq_emod_of_nonneg i (by omega)];exact q)
theorem AV:OpR X (binaryOp .Pow) (rI BG fun i j=>.int (i ^ j.toNat)):=opI fun _ _ _ _ _ _ _ hc q=>pow_int_small hc.1 hc.2.1 hc.2.2 q
theorem unI{f:Value->Sem Value}{g:Int->Int}
 (rule:∀ (i:Int) (t:Tok) (s:Shared) (Q:Value->Shared->Prop) (E:Value->Shared->Prop),Q (.int (g i) s.toks) { s with toks:=s.toks+1 }->wpAny (model X.prog X.w) X.A (f (.int i t)) Q E s) :
  UnR X f (rU fun i=>.int (g i)):=by
 intro pins s σ H x v Q I rx h
 obtain⟨i,rfl,q⟩:=h
 obtain⟨t,rfl⟩:=rx
 exact rule i t s _ _ ⟨.int (g i),H,I.tok _,⟨_,rfl⟩,q⟩
theorem Ad:UnR X (unaryOp .USub) (rU fun i=>.int (-i)):=unI fun _ _ _ _ _ q=>neg_int q
end
def Ee:V->V->Bool
 | .non,.non=>true | .non,.int _=>true | .int _,.non=>true | .non,.bl _=>true | .bl _,.non=>true | .non,.str _=>true | .str _,.non=>true
 | .int _,.int _=>true | .bl _,.bl _=>true | .str _,.str _=>true | .byt _,.byt _=>true
 | .int _,.str _=>true | .str _,.int _=>true | .bl _,.str _=>true | .str _,.bl _=>true
 | _,_=>false
def rNe:R2:=fun x y H Q=>Ee x y=true/\Q (.bl (!decide (x=y))) H
theorem yv{i j:Int}:decide (V.int i=V.int j)=(i == j):=by
 rw[Bool.eq_iff_iff]
 simp
theorem zL{i j:Bool}:decide (V.bl i=V.bl j)=(i == j):=by
 rw[Bool.eq_iff_iff]
 simp
theorem yR{i j:Str}:decide (V.str i=V.str j)=(i == j):=by
 rw[Bool.eq_iff_iff]
 simp
theorem xW{i j:Array UInt8}:decide (V.byt i=V.byt j)=(i.toList == j.toList):=by
 rw[Bool.eq_iff_iff]
 cases i
 cases j
 simp
section
variable{X:Cx}{a b c:Expr}{ta tb tc:TE}{pos:Pos}
theorem bL{pins:List (Addr × Obj)}{σ:St}{H:Hp}{s:Shared}{Q:VK}{k k':Bool}(I:Inv X pins σ H s)(q:Q (.bl k) H)(e:k=k'):EP X pins σ Q (.bool k') s:=by
 subst e
 exact⟨.bl k,H,I,rfl,q⟩
theorem Cp:OpR X (compareOp .NotEq) rNe:=by
 intro pins s σ H x y v u Q I rx ry h
 obtain⟨hs,q⟩:=h
 cases x with
 |non=>
  cases rx
  cases y with
  | non=>cases ry;exact PySem.EqNone.ne_none_none (bL I q (by simp))
  | bl j=>cases ry;exact PySem.EqNone.ne_none_bool (bL I q (by simp))
  | int j=>obtain⟨t',rfl⟩:=ry;exact PySem.EqNone.ne_none_int (bL I q (by simp))
  | str j=>obtain⟨t',rfl⟩:=ry;exact PySem.EqNone.ne_none_str (bL I q (by simp))
  | _=>exact absurd (show false=true from hs) Bool.false_ne_true
 |bl i=>
  cases rx
  cases y with
  | non=>cases ry;exact PySem.EqNone.ne_bool_none (bL I q (by simp))
  | bl j=>cases ry;exact ne_bool (bL I q (congrArg not zL))
  | str j=>obtain⟨t',rfl⟩:=ry;exact PySem.EqMixed.ne_bool_str (bL I q (by simp))
  | _=>exact absurd (show false=true from hs) Bool.false_ne_true
 |int i=>
  obtain⟨t,rfl⟩:=rx
  cases y with
  | non=>cases ry;exact PySem.EqNone.ne_int_none (bL I q (by simp))
  | int j=>obtain⟨t',rfl⟩:=ry;exact ne_int (bL I q (congrArg not yv))
  | str j=>obtain⟨t',rfl⟩:=ry;exact PySem.EqMixed.ne_int_str (bL I q (by simp))
  | _=>exact absurd (show false=true from hs) Bool.false_ne_true
 |str i=>
  obtain⟨t,rfl⟩:=rx
  cases y with
  | non=>cases ry;exact PySem.EqNone.ne_str_none (bL I q (by simp))
  | bl j=>cases ry;exact PySem.EqMixed.ne_str_bool (bL I q (by simp))
  | int j=>obtain⟨t',rfl⟩:=ry;exact PySem.EqMixed.ne_str_int (bL I q (by simp))
  | str j=>obtain⟨t',rfl⟩:=ry;exact ne_str (bL I q (congrArg not yR))
  | _=>exact absurd (show false=true from hs) Bool.false_ne_true
 |byt i=>
  obtain⟨t,rfl⟩:=rx
  cases y with
  | byt j=>obtain⟨t',rfl⟩:=ry;exact PySem.W.ne_bytes (bL I q (congrArg not xW))
  | _=>exact absurd (show false=true from hs) Bool.false_ne_true
 | _=>cases y<;>exact absurd (show false=true from hs) Bool.false_ne_true
theorem Az:OpR X (compareOp .Is) (fun x y H Q=>y=.non/\Q (.bl (decide (x=.non))) H):=by
 intro pins s σ H x y v u Q I rx ry h
 obtain⟨rfl,q⟩:=h
 cases ry
 refine is_none_gen (bL I q ?_)
 cases x<;>first
  | (cases rx;rfl)
  | (obtain⟨t,rfl⟩:=rx;rfl)
theorem xC:OpR X (compareOp .IsNot) (fun x y H Q=>y=.non/\Q (.bl (!decide (x=.non))) H):=by
 intro pins s σ H x y v u Q I rx ry h
 obtain⟨rfl,q⟩:=h
 cases ry
 refine isnot_none_gen (bL I q ?_)
 cases x<;>first
  | (cases rx;rfl)
  | (obtain⟨t,rfl⟩:=rx;rfl)
theorem OpR.or{f:Value->Value->Sem Value}{r r':R2}(h:OpR X f r)(h':OpR X f r'):OpR X f (fun x y H Q=>r x y H Q\/r' x y H Q):=by
 intro pins s σ H x y v u Q I rx ry q
 rcases q with q | q
 ·exact h pins s σ H x y v u Q I rx ry q
 ·exact h' pins s σ H x y v u Q I rx ry q
theorem mS(b:Expr){op:CmpOp}(h:op≠.In:=by decide)(h2:op≠.NotIn:=by decide):behindInMarks op b=false:=by
 have e1:(op == CmpOp.In)=false:=by cases op<;>first | rfl | exact absurd rfl h
 have e2:(op == CmpOp.NotIn)=false:=by cases op<;>first | rfl | exact absurd rfl h2
 cases b<;>simp[behindInMarks,e1,e2]
theorem la{op:CmpOp}{r:R2}(ho:OpR X (compareOp op) r)(ha:PE X a ta)(hb:PE X b tb)(hm:behindInMarks op b=false):PE X (.Compare a [op] [b] pos) (tOp r ta tb):=by
 intro pins s σ H Q I h
 exact wpAny_Compare1 (vf ha hb I h fun v u s2 x y H2 I2 rx ry q=>ho pins s2 σ H2 x y v u Q I2 rx ry q) hm
def xA(t:TE):TT:=fun σ H Q=>t σ H fun x H'=>∃ k,x=.bl k/\Q k H'
theorem iR{op:CmpOp}{r:R2}(ho:OpR X (compareOp op) r)(ha:PE X a ta)(hb:PE X b tb)(hm:behindInMarks op b=false):PT X (.Compare a [op] [b] pos) (xA (tOp r ta tb)):=by
 intro pins s σ H Q I h
 refine wpAny_isTrue_Compare1 (thn (ha pins s σ H _ I h) fun v s1 ⟨x,H1,I1,r1,q1⟩=>thn (hb pins s1 σ H1 _ I1 q1) fun u s2 ⟨y,H2,I2,r2,q2⟩ =>
  thn (ho pins s2 σ H2 x y v u _ I2 r1 r2 q2) fun c s3 ⟨z,H3,I3,r3,k,e,q3⟩=>?_) hm
 subst e
 cases r3
 exact wpAny_truthy_bool ⟨H3,I3,q3⟩
def oh(r r':R2)(ta tb tc:TE):TE:=fun σ H Q=>ta σ H fun x H1=>tb σ H1 fun y H2=>r x y H2 fun z H3=>∃ k,z=.bl k /\
 (if k=true then tc σ H3 fun w' H4=>r' y w' H4 Q else Q (.bl false) H3)
theorem vw{op op':CmpOp}{r r':R2}(ho:OpR X (compareOp op) r)(ho':OpR X (compareOp op') r')(ha:PE X a ta)(hb:PE X b tb)(hc:PE X c tc)
 (hm:lastMarks [op,op'] [b,c]=false:=by with_unfolding_all rfl):PE X (.Compare a [op,op'] [b,c] pos) (oh r r' ta tb tc):=by
 intro pins s σ H Q I h
 refine Compare_chain (thn (ha pins s σ H _ I h) fun v s1 ⟨x,H1,I1,r1,q1⟩=>chain_link (thn (hb pins s1 σ H1 _ I1 q1) fun u s2 ⟨y,H2,I2,r2,q2⟩ =>
  thn (ho pins s2 σ H2 x y v u _ I2 r1 r2 q2) fun d s3 ⟨z,H3,I3,r3,k,e,q3⟩=>?_)) hm
 subst e
 cases r3
 refine wpAny_truthy_bool ?_
 cases k with
 | false=>exact ite_ff ⟨.bl false,H3,I3,rfl,q3⟩
 | true=>exact ite_tt (chain_last (thn (hc pins s3 σ H3 _ I3 q3) fun w' s4 ⟨z',H4,I4,r4,q4⟩=>ho' pins s4 σ H4 y z' u w' Q I4 r2 r4 q4))
theorem v5{op op':CmpOp}{r r':R2}(ho:OpR X (compareOp op) r)(ho':OpR X (compareOp op') r')(ha:PE X a ta)(hb:PE X b tb)(hc:PE X c tc)
 (hm:lastMarks [op,op'] [b,c]=false:=by with_unfolding_all rfl):PT X (.Compare a [op,op'] [b,c] pos) (xA (oh r r' ta tb tc)):=by
 intro pins s σ H Q I h
 refine isTrue_chain (thn (ha pins s σ H _ I h) fun v s1 ⟨x,H1,I1,r1,q1⟩=>test_link (thn (hb pins s1 σ H1 _ I1 q1) fun u s2 ⟨y,H2,I2,r2,q2⟩ =>
  thn (ho pins s2 σ H2 x y v u _ I2 r1 r2 q2) fun d s3 ⟨z,H3,I3,r3,k,e,q3⟩=>?_)) hm
 subst e
 cases r3
 refine wpAny_truthy_bool ?_
 cases k with
 |false=>
  obtain⟨k',e',q'⟩:=q3
  cases e'
  exact ite_ff ⟨H3,I3,q'⟩
 |true=>
  refine ite_tt (test_last (thn (hc pins s3 σ H3 _ I3 q3) fun w' s4 ⟨z',H4,I4,r4,q4⟩=>thn (ho' pins s4 σ H4 y z' u w' _ I4 r2 r4 q4) fun d' s5 ⟨z2,H5,I5,r5,k2,e2,q5⟩=>?_))
  subst e2
  cases r5
  exact wpAny_truthy_bool ⟨H5,I5,q5⟩
def sf(K:PySem.W.Frag)(x:V)(H:Hp)(k:Bool):Prop :=
 match x with
 | .non=>k=false
 | .bl b=>k=b
 | .int i=>k=(i != 0)
 | .str y=>y.length<=sizeLine/\k=((y.length:Int) != 0)
 | .byt y=>y.size<=sizeLine/\k=((y.size:Int) != 0)
 | .ref p=>(∃ xs,SqL K H p xs/\k=!xs.isEmpty)\/(∃ xs,SqT K H p xs/\k=!xs.isEmpty)\/∃ kvs,H p=some (.dK kvs)/\k=!kvs.isEmpty
 | _=>False
theorem qY{κ:Type}{kvs:List (κ × V)}{vs:List (κ × Value)}(r:KV kvs vs):(!vs.isEmpty)=!kvs.isEmpty:=by
 cases r<;>rfl
theorem ke{xs:List V}{its:List Value}(r:Vals xs its):(!its.toArray.isEmpty)=!xs.isEmpty:=by
 cases r<;>simp
theorem gE:(sizeLine:Nat)<2 ^ 63:=by rw[sizeLine_eq];decide
theorem sR:D7 X (fun x H Q=>∃ k,sf X.K x H k/\Q k H):=by
 intro pins s σ H x v Q I rx h
 obtain⟨k,e,q⟩:=h
 have hl:=gE
 have hs:sizeLine=16777216:=sizeLine_eq
 cases x with
 |non=>
  cases rx
  have e':k=false:=e
  subst e'
  exact truthy_none ⟨H,I,q⟩
 |bl b=>
  cases rx
  have e':k=b:=e
  subst e'
  exact wpAny_truthy_bool ⟨H,I,q⟩
 |int i=>
  obtain⟨t,rfl⟩:=rx
  have e':k=(i != 0):=e
  subst e'
  exact PySem.P.truthy_int ⟨H,I,q⟩
 |str y=>
  obtain⟨t,rfl⟩:=rx
  obtain⟨hy,e'⟩:y.length<=sizeLine/\k=((y.length:Int) != 0):=e
  subst e'
  exact PySem.P.truthy_str (by omega) ⟨H,I.tok _,q⟩
 |byt y=>
  obtain⟨t,rfl⟩:=rx
  obtain⟨hy,e'⟩:y.size<=sizeLine/\k=((y.size:Int) != 0):=e
  subst e'
  exact PySem.W.truthy_bytes (by omega) ⟨H,I.tok _,q⟩
 |ref p=>
  cases rx
  have e':(∃ xs,SqL X.K H p xs/\k=!xs.isEmpty)\/(∃ xs,SqT X.K H p xs/\k=!xs.isEmpty)\/∃ kvs,H p=some (.dK kvs)/\k=!kvs.isEmpty:=e
  rcases e' with⟨xs,hx,e'⟩ | ⟨xs,hx,e'⟩ | ⟨kvs,hx,e'⟩
  ·subst e'
   obtain⟨its,r,pl,hz⟩:=I.list hx
   have hlen:=r.length
   exact wpAny_truthy_list pl.isList (by simp only[List.size_toArray];omega) ⟨H,I.tok _,by rw[ke r];exact q⟩
  ·subst e'
   obtain⟨its,r,pl,hz⟩:=I.tuple hx
   have hlen:=r.length
   exact truthy_tuple pl (by simp only[List.size_toArray];omega) ⟨H,I.tok _,by rw[ke r];exact q⟩
  ·subst e'
   obtain⟨hz,hS,vs,r,m⟩:kvs.length<=sizeLine/\(p == sysModules)=false/\∃ vs,KV kvs vs/\s.heap.DictOf (bN X.prog X.w) p vs:=I.hok p _ hx
   have hlen:kvs.length=vs.length:=Paired.length r
   exact wpAny_truthy_dict hS m (by omega) ⟨H,I.tok _,by rw[qY r];exact q⟩
 | _=>exact(show False from e).elim
theorem vK(ha:PE X a ta)(he:∀ whole,isTrue a X.env whole=(do let v <- whole;standAt a.pos;holding [v] (truthy v))) :
  PT X a (fun σ H Q=>ta σ H fun x H'=>∃ k,sf X.K x H' k/\Q k H'):=by
 intro pins s σ H Q I h
 exact isTrue_plain (thn (ha pins s σ H _ I h) fun v s1 ⟨x,H1,I1,r1,q1⟩=>sR pins s1 σ H1 x v Q I1 r1 q1) (he _)
theorem rD:OpR X (binaryOp .Add) (fun x y H Q=>∃ i j,x=.str i/\y=.str j/\i.length+j.length<=sizeLine/\Q (.str (i++j)) H):=by
 intro pins s σ H x y v u Q I rx ry h
 obtain⟨i,j,rfl,rfl,hz,q⟩:=h
 obtain⟨t,rfl⟩:=rx
 obtain⟨t',rfl⟩:=ry
 exact add_str (fun t' tk=>⟨.str (i++j),H,I.tok _,⟨_,rfl⟩,q⟩) hz
theorem vals1{x:V}{us:List Value}(r:Vals [x] us):∃ u,us=[u]/\RelV x u:=by
 cases r with
 | cons r1 r2=>cases r2;exact⟨_,rfl,r1⟩
theorem vals2{x y:V}{us:List Value}(r:Vals [x,y] us):∃ u w',us=[u,w']/\RelV x u/\RelV y w':=by
 cases r with
 |cons r1 r2=>
  cases r2 with
  | cons r3 r4=>cases r4;exact⟨_,_,rfl,r1,r3⟩
def Bj(K:PySem.W.Frag)(x:V)(H:Hp)(n:Nat):Prop :=
 match x with
 | .str y=>y.length<=sizeLine/\n=y.length
 | .byt y=>y.size<=sizeLine/\n=y.size
 | .ref p=>(∃ xs,SqL K H p xs/\n=xs.length)\/∃ xs,SqT K H p xs/\n=xs.length
 | _=>False
theorem wy:bH X (.builtin "len") (fun xs H Q=>∃ x n,xs=[x]/\Bj X.K x H n/\Q (.int n) H):=by
 intro pins s σ H xs us Q I r h
 obtain⟨x,n,rfl,e,q⟩:=h
 obtain⟨u,rfl,rx⟩:=vals1 r
 have hl:=gE
 have hs:sizeLine=16777216:=sizeLine_eq
 cases x with
 |str y=>
  obtain⟨t,rfl⟩:=rx
  obtain⟨hy,e'⟩:y.length<=sizeLine/\n=y.length:=e
  subst e'
  exact len_str (by omega) ⟨.int _,H,I.tok _,⟨_,rfl⟩,q⟩
 |byt y=>
  obtain⟨t,rfl⟩:=rx
  obtain⟨hy,e'⟩:y.size<=sizeLine/\n=y.size:=e
  subst e'
  exact PySem.W.len_bytes (by omega) ⟨.int _,H,I.tok _,⟨_,rfl⟩,q⟩
 |ref p=>
  cases rx
  have e':(∃ xs,SqL X.K H p xs/\n=xs.length)\/∃ xs,SqT X.K H p xs/\n=xs.length:=e
  rcases e' with⟨xs,hx,e'⟩ | ⟨xs,hx,e'⟩
  ·subst e'
   obtain⟨its,r',pl,hz⟩:=I.list hx
   have hlen:=r'.length
   exact Calls.call_len_list pl.isList (by simp only[List.size_toArray];omega) ⟨.int xs.length,H,I.tok _,⟨_,by simp only[List.size_toArray];rw[hlen]⟩,q⟩
  ·subst e'
   obtain⟨its,r',pl,hz⟩:=I.tuple hx
   have hlen:=r'.length
   exact len_tuple pl (by simp only[List.size_toArray];omega) ⟨.int xs.length,H,I.tok _,⟨_,by simp only[List.size_toArray];rw[hlen]⟩,q⟩
 | _=>exact(show False from e).elim
end
structure wt(h:Heap)(x dx C:Addr)(mA:Str->Option Value):Prop where
 obj:h.get? x=some (PySem.W.instObj C dx)
 ns:h.Ns1 dx mA
 ne:dx≠x
theorem uv{h:Heap}{dx:Addr}{mA:Str->Option Value}(n:h.Ns1 dx mA):∃ od,h.get? dx=some od/\∀ name,PySem.W.lookIn name od=some (mA name):=by
 obtain⟨o,es,ep,ho,hd,hk,_,hm⟩:=n
 refine⟨o,ho,fun name=>?_⟩
 have e:=hm name
 unfold nsFind findBy at e
 rw[<-Array.find?_toList]at e
 unfold PySem.W.lookIn
 rw[hd]
 dsimp only
 split
 ·rename_i y q
  rw[q]at e
  exact congrArg some e
 ·rename_i q
  rw[q]at e
  have a:es.toList.any (·.refKey)=false:=by
   rw[List.any_eq_false]
   intro y hy
   obtain⟨z,t,hkey⟩:=hk y (Array.mem_toList_iff.mp hy)
   simp[DictEntry.refKey,hkey]
  have a':¬ es.toList.any (·.refKey)=true:=by rw[a];exact Bool.false_ne_true
  rw[if_neg a']
  exact congrArg some e
theorem wt.look{h:Heap}{x dx C:Addr}{mA:Str->Option Value}(I:wt h x dx C mA):∃ od,PySem.W.InstAt h x (PySem.W.instObj C dx) C (some od)/\∀ name,PySem.W.lookIn name od=some (mA name) :=
 let ⟨od,ho,hl⟩:=uv I.ns
 ⟨od,⟨I.obj,rfl,rfl,ho⟩,hl⟩
section
variable{prog:Program}{w:World}{A:Around}{E:Value->Shared->Prop}{s:Shared}{K:PySem.W.Frag}{x dx C f:Addr}{mA:Str->Option Value}{name:Str}{v:Value}
end
section
variable{P:Program}{w:World}{H H':Hp}{h h':Heap}{a C dx:Addr}{fs fs':List (Str × V)}
theorem ye(hok:HOk P w H h)(e:H a=some (.ins C dx fs)):∃ mA,wt h a dx C mA/\(∀ f,kN (fs.lookup f) (mA f))/\PySem.Within mA (fs.map (·.1))/\fs.length<=1000/\H dx=some (.own a):=by
 obtain⟨d,z,ne,ob,mA,n,r,q⟩:=(show bg P w H h a (.ins C dx fs)from hok a _ e)
 exact⟨mA,⟨ob,n,ne⟩,r,q,z,d⟩
end
structure Cls(K:PySem.W.Frag)(C:Addr):Prop where
 pg:PySem.W.plainGet K C Str.empty=true
 hd:PySem.W.hasDictIn K C=true
 po:PySem.W.plainOver K C=true
 sa:PySem.W.findIn K (.ref C) "__setattr__" = some (some (.builtin "object.__setattr__"))
theorem Cls.get{K:PySem.W.Frag}{C:Addr}(c:Cls K C)(f:Str):PySem.W.plainGet K C f=true:=c.pg
section
variable{X:Cx}{pins:List (Addr × Obj)}{σ:St}{H:Hp}{s:Shared}{a C dx:Addr}{fs:List (Str × V)}{f:Str}{v:V}{A:Around}{E:Value->Shared->Prop}
end
section
variable{X:Cx}{o e value:Expr}{f:Str}{pos pos' tpos:Pos}{ta tv:TE}
end
section
variable{X:Cx}{pins:List (Addr × Obj)}{σ:St}{H:Hp}{s:Shared}{A:Around}{E:Value->Shared->Prop}{Q:Value->Shared->Prop}{c:Value}{b:Bool}
inductive eg (K:PySem.W.Frag) (H:Hp):V->Value->Prop where
 | non:eg K H .non (.type "NoneType")
 | bl (x:Bool):eg K H (.bl x) (.type "bool")
 | int (i:Int):eg K H (.int i) (.type "int")
 | str (x:Str):eg K H (.str x) (.type "str")
 | flt (x:UInt64):eg K H (.flt x) (.type "float")
 | lst {a:Addr} {xs:List V} (e:H a=some (.lst xs)):eg K H (.ref a) (.type "list")
 | frz {a:Addr} {o:Obj} {xs:List V} (e:H a=some (.frz o (.lst xs))):eg K H (.ref a) (.type "list")
 | tup {a:Addr} {xs:List V} (e:H a=some (.tup xs)):eg K H (.ref a) (.type "tuple")
 | dK {a:Addr} {kvs:List (Key × V)} (e:H a=some (.dK kvs)):eg K H (.ref a) (.type "dict")
 | dT {a:Addr} {kvs:List (List Key × V)} (e:H a=some (.dT kvs)):eg K H (.ref a) (.type "dict")
 | ins {a C dx:Addr} {fs:List (Str × V)} (e:H a=some (.ins C dx fs)) (cl:Cls K C) (ha:PySem.W.findIn K (.ref C) "__class__" = some (some (.builtin "object.__class__")))
   (hn:PySem.W.specialIn K (.builtin "object.__class__") "__get__" = some (some (.builtin "getset_descriptor.__get__"))) (htk:PySem.W.takesIn K (.builtin "object.__class__")=some true)
   (hm:PySem.W.mroIn K C (.type "object")=some true):eg K H (.ref a) (.ref C)
theorem ur{x:V}{u t:Value}(I:Inv X pins σ H s)(rx:RelV x u)(ty:eg X.K H x t)(e:PySem.W.kitOne X.K t c=some b)(h:∀ tk,Q (.bool b) { s with toks:=tk }) :
  wpAny (model X.prog X.w) A (call (.builtin "isinstance") [u,c]) Q E s:=by
 cases ty with
 | non=>cases(show u=Value.none from rx);exact PySem.W.kia_one PySem.W.kitx_none I.kIn True.intro e (fun z=>nomatch z) h
 | bl y=>cases(show u=Value.bool y from rx);exact PySem.W.kia_one PySem.W.kitx_bool I.kIn True.intro e (fun z=>nomatch z) h
 | int i=>obtain⟨t,q⟩:=(show ∃ t,u=Value.int i t from rx);cases q;exact PySem.W.kia_one PySem.W.kitx_int I.kIn True.intro e (fun z=>nomatch z) h
 | str y=>obtain⟨t,q⟩:=(show ∃ t,u=Value.str y t from rx);cases q;exact PySem.W.kia_one PySem.W.kitx_str I.kIn True.intro e (fun z=>nomatch z) h
 | flt y=>obtain⟨t,q⟩:=(show ∃ t,u=Value.float y t from rx);cases q;exact PySem.W.kia_one PySem.W.kitx_float I.kIn True.intro e (fun z=>nomatch z) h
 |@lst a xs ea=>
  cases(show u=Value.ref a from rx)
  obtain⟨_,_,n,_,h1⟩:=(show bg X.prog X.w H s.heap a (.lst xs)from I.hok a _ ea)
  exact PySem.W.kia_one PySem.W.kitx_list I.kIn ⟨_,h1,rfl⟩ e (fun z=>nomatch z) h
 |@frz a ob xs ea=>
  cases(show u=Value.ref a from rx)
  obtain⟨_,_,_,n,_,h1⟩:=(show bg X.prog X.w H s.heap a (.frz ob (.lst xs))from I.hok a _ ea)
  exact PySem.W.kia_one PySem.W.kitx_list I.kIn ⟨_,h1,rfl⟩ e (fun z=>nomatch z) h
 |@tup a xs ea=>
  cases(show u=Value.ref a from rx)
  obtain⟨_,_,_,p⟩:=(show bg X.prog X.w H s.heap a (.tup xs)from I.hok a _ ea)
  obtain⟨o,h1,h2,_⟩:=p
  exact PySem.W.kia_one PySem.W.kitx_tuple I.kIn ⟨o,h1,h2⟩ e (fun z=>nomatch z) h
 |@dK a kvs ea=>
  cases(show u=Value.ref a from rx)
  obtain⟨_,_,vs,_,p⟩:=(show bg X.prog X.w H s.heap a (.dK kvs)from I.hok a _ ea)
  obtain⟨o,es,ep,h1,h2,_⟩:=p
  exact PySem.W.kia_one PySem.W.kitx_dict I.kIn ⟨o,h1,h2.1⟩ e (fun z=>nomatch z) h
 |@dT a kvs ea=>
  cases(show u=Value.ref a from rx)
  obtain⟨_,_,xs,_,o,es,ep,h1,h2,_⟩:=(show bg X.prog X.w H s.heap a (.dT kvs)from I.hok a _ ea)
  exact PySem.W.kia_one PySem.W.kitx_dict I.kIn ⟨o,h1,h2.1⟩ e (fun z=>nomatch z) h
 |@ins a C dx fs ea cl ha hn htk hm=>
  cases(show u=Value.ref a from rx)
  obtain⟨mA,O,_⟩:=ye I.hok ea
  obtain⟨od,J,_⟩:=O.look
  exact PySem.W.kia_one (PySem.W.kitx_own (cl.get _) cl.hd ha hn htk hm) I.kIn J e (fun z=>nomatch z) h
end
structure bV(k:Nat)(A:Around):Prop where
 hd:A.handled=none
 dp:A.depth+3*k+5<recursionLimit
 un:A.units+16*k+200<cLine
theorem bV.deeper{k:Nat}{A:Around}(r:bV (k+1) A)(env:Env):bV k (A.deeper env) :=
 ⟨r.hd,by have:=r.dp;show A.depth+1+3*k+5<_;omega,by have:=r.un;show A.units+3+16*k+200<_;omega⟩
theorem bV.depth{k:Nat}{A:Around}(r:bV k A):A.depth<recursionLimit:=by have:=r.dp;omega
def iL:TA:=fun _ H Q=>Q [] H
def gb(ta:TE)(tr:TA):TA:=fun σ H Q=>ta σ H fun x H1=>tr σ H1 fun xs H2=>Q (x::xs) H2
section
variable{X:Cx}{e:Expr}{es:List Expr}{te:TE}{t:TA}{pos:Pos}
theorem cW:PA X [] iL:=fun _ _ _ _ H Q I h=>Calls.spliced_nil ⟨[],H,I,.nil,h⟩
theorem bu(ha:PE X e te)(hr:PA X es t)(hs:starEach (e::es) X.env=(false,eval e X.env)::starEach es X.env:=by rfl):PA X (e::es) (gb te t):=by
 intro pos pins s σ H Q I h
 rw[hs]
 show wpAny _ _ (spliced ((false,eval e X.env)::backTo pos (starEach es X.env))) _ _ s
 refine Calls.spliced_cons (thn (ha pins s σ H _ I h) fun u s1 ⟨x,H1,I1,r1,q1⟩=>?_)
 exact thn (hr pos pins s1 σ H1 _ I1 q1) fun us s2 ⟨xs,H2,I2,r2,q2⟩=>⟨x::xs,H2,I2,.cons r1 r2,q2⟩
def DQ(t:TA):TE:=fun σ H Q=>t σ H fun xs H1=>xs.length<=sizeLine/\∀ p,H1 p=none->Q (.ref p) (upd H1 p (.tup xs))
def Dz(t:TA):TE:=fun σ H Q=>t σ H fun xs H1=>xs.length<=sizeLine/\∀ p,H1 p=none->Q (.ref p) (upd H1 p (.lst xs))
theorem zl{x1}(h:PA X es t):PE X (.Tuple es x1 pos) (DQ t):=by
 intro pins s σ H Q I hq
 refine wpAny_Tuple_spliced (thn (h pos pins s σ H _ I hq) fun us s1 ⟨xs,H1,I1,r,z,q⟩=>⟨by rw[<-r.length];exact z,?_⟩)
 have hf:H1 s1.heap.objs.size=none:=I1.hok.fresh (Nat.le_refl _)
 refine⟨.ref s1.heap.objs.size,upd H1 s1.heap.objs.size (.tup xs),I1.laid (t':=s1.toks) (fun b u e=>Heap.get?_push_of_some _ e) (Nat.le_refl _) ?_,rfl,q _ hf⟩
 exact⟨z,us,r,⟨_,Heap.get?_push_size _ rfl,rfl,_,rfl⟩⟩
theorem B2(h:PA X es t):PE X (.List es pos) (Dz t):=by
 intro pins s σ H Q I hq
 refine wpAny_List_spliced (thn (h pos pins s σ H _ I hq) fun us s1 ⟨xs,H1,I1,r,z,q⟩=>⟨by rw[<-r.length];exact z,?_⟩)
 have hf:H1 s1.heap.objs.size=none:=I1.hok.fresh (Nat.le_refl _)
 refine⟨.ref s1.heap.objs.size,upd H1 s1.heap.objs.size (.lst xs),I1.laid (t':=s1.toks) (fun b u e=>Heap.get?_push_of_some _ e) (Nat.le_refl _) ?_,rfl,q _ hf⟩
 exact⟨z,us,0,r,Heap.get?_push_size _ rfl⟩
end
abbrev Sp:=List V->Hp->VK->XK->Prop
abbrev CXT:=List Env->Hp->Shared->XK->Value->Shared->Prop
structure oZ(P:Program)(w:World)(K:PySem.W.Frag)(mg:Str->Option Value)(base:Heap)(A:Around)(outer:List Env)(s:Shared)(H:Hp):Prop where
 frames:A.frames=some outer
 mod:Mod K mg base
 bs:∀ b o,base.get? b=some o->s.heap.get? b=some o/\H b=none
 bsz:base.objs.size<=s.heap.objs.size
 cV:s.heap.FunFrames base outer
 frf:∀ b∈frs outer,H b=none
 hok:HOk P w H s.heap
 bare:AllBare s.gens
def CE(outer:List Env)(P:Program)(w:World)(H:Hp)(s:Shared)(Q:VK)(u:Value)(s':Shared):Prop :=
 ∃ v H',s'.os=s.os/\AllBare s'.gens/\Un (frs outer) [] H H' s.heap s'.heap/\HOk P w H' s'.heap/\RelV v u/\Q v H'
def CR(CX:CXT)(outer:List Env)(P:Program)(w:World)(H:Hp)(s:Shared)(Q:VK)(E:XK)(r:Result)(s':Shared):Prop :=
 match r with
 | .ok (.ret u)=>CE outer P w H s Q u s'
 | .ok _=>False
 | .error e=>CX outer H s E e s'
structure d5(P:Program)(w:World)(K:PySem.W.Frag)(mg:Str->Option Value)(base:Heap)(CX:CXT)(k:Nat)(f:Addr)(fd:FuncData)(ps:List Str)(sp:Sp):Prop where
 len:∀ vs H Q E,sp vs H Q E->vs.length=ps.length
 run:∀ (A:Around) (outer:List Env) (s:Shared) (H:Hp) (args:Args) (us:List Value) (vs:List V) (Q:VK) (E:XK),bV k A->oZ P w K mg base A outer s H->BindsTo s fd args (ps.zip us)->Vals vs us->sp vs H Q E ->
  codeAny (model P w) A (.call (.ref f) args) (CR CX outer P w H s Q E) s
section
variable{X:Cx}{pins:List (Addr × Obj)}{σ:St}{H:Hp}{s s':Shared}
theorem Inv.wJ(I:Inv X pins σ H s):oZ X.prog X.w X.K X.mg X.base X.A X.stack s H :=
 ⟨I.ok.frames,I.ok.mod,I.bs,Nat.le_trans I.ok.bsz I.sz,I.stack,I.jg,I.hok,I.bare⟩
theorem Inv.after{Q:VK}{u:Value}(I:Inv X pins σ H s)(h:CE X.stack X.prog X.w H s Q u s'):EP X pins σ Q u s':=by
 obtain⟨v,H',os,bare,un,hok,r,q⟩:=h
 obtain⟨hh,g,d,t,os'⟩:=s'
 obtain rfl:os'=s.os:=os
 exact⟨v,H',I.call (h':=hh) (g':=g) (d':=d) (t':=t) (ch:=[]) un hok bare (fun b z=>absurd z (by simp)),r,q⟩
end
def k9(sp:Sp)(dvs:List V)(E:XK)(t:TA):TE:=fun σ H Q=>t σ H fun vs H1=>sp (vs++dvs) H1 Q E
def Binds(K:PySem.W.Frag)(fd:FuncData)(ps:List Str)(ds:List Value):Prop :=
 ∀ (s:Shared) (us:List Value),K.In s.heap->(us++ds).length=ps.length->BindsTo s fd ⟨us,[]⟩ (ps.zip (us++ds))
theorem Binds.all{K:PySem.W.Frag}{fd:FuncData}{ps:List Str}(h:∀ us:List Value,us.length=ps.length->bindArgs fd ⟨us,[]⟩=pure (ps.zip us)):Binds K fd ps []:=fun s us _ hl=>by
 rw[List.append_nil]at hl ⊢
 exact .of_eq (h us hl)
def Passes(CX:CXT)(X:Cx)(E:XK):Prop:=∀ (pins:List (Addr × Obj)) (σ:St) (H:Hp) (s:Shared) (e:Value) (s':Shared),Inv X pins σ H s->CX X.stack H s E e s'->X.xe e s'
section
variable{X:Cx}{CX:CXT}{k:Nat}{f C:Addr}{fd:FuncData}{ps:List Str}{sp:Sp}{dvs:List V}{ds:List Value}{E:XK}{x m:Str}{p pos apos:Pos}{e o:Expr}{es:List Expr}{ta:TE}{t:TA}
theorem Bf{pins:List (Addr × Obj)}{σ:St}{H:Hp}{s:Shared}{Q:VK}{us:List Value}{vs:List V}(F:d5 X.prog X.w X.K X.mg X.base CX k f fd ps sp)(hr:bV k X.A)(hb:Binds X.K fd ps ds)(hd:Vals dvs ds)(hx:Passes CX X E)
 (I:Inv X pins σ H s)(r:Vals vs us)(h:sp (vs++dvs) H Q E):wpAny (model X.prog X.w) X.A (call (.ref f) us) (EP X pins σ Q) X.xe s:=by
 have r2:Vals (vs++dvs) (us++ds):=r.append hd
 have hl:(us++ds).length=ps.length:=by rw[<-r2.length];exact F.len _ _ _ _ h
 refine wpAny_call (codeAny_mono (F.run X.A X.stack s H ⟨us,[]⟩ (us++ds) (vs++dvs) Q E hr I.wJ (hb s us I.kIn hl) r2 h) fun r s' hq=>?_)
 cases r with
 | error e=>exact hx pins σ H s e s' I hq
 |ok fl=>
  cases fl with
  | ret u=>exact I.after hq
  | next=>exact False.elim hq
  | brk=>exact False.elim hq
  | cont=>exact False.elim hq
theorem qu(F:d5 X.prog X.w X.K X.mg X.base CX k f fd ps sp)(hr:bV k X.A)(hg:Gl X x)(hm:X.mg x=some (.ref f))(hk:PySem.W.keepIn X.K (.ref f)=true)(hb:Binds X.K fd ps ds)(hd:Vals dvs ds)(hx:Passes CX X E)
 (ha:PA X (e::es) t)(hdb:(x == ("__debug__" : Str))=false:=by decide)(he:starEach (e::es) X.env=(false,eval e X.env)::starEach es X.env:=by rfl)(hpl:(backTo pos (starEach es X.env)).any (·.1)=false:=by rfl) :
  PE X (.Call (.Name x p) (e::es) [] pos) (k9 sp dvs E t):=by
 intro pins s σ H Q I h
 refine wpAny_Call_Name_kw (fD I hg hm ?_ hdb)
 refine PySem.W.callWith_K (h₀:=X.base) I.ok.mod.kin hk (thn (ha pos pins s σ H _ I h) fun us s1 ⟨vs,H1,I1,r,q⟩=>⟨I1.kIn,?_⟩) he hpl
 exact Bf F hr hb hd hx I1 r q
end
section
variable{X:Cx}{CX:CXT}{k:Nat}{f C:Addr}{fd:FuncData}{ps ks:List Str}{sp:Sp}{E:XK}{x m:Str}{p pos apos kpos:Pos}{e o:Expr}{es:List Expr}{kws:List Keyword}{te ta:TE}{t tk:TA}{nm:Option Str}
variable{g:List Value->List Value->List Value}{gV:List V->List V->List V}
end
structure eC(N P:List Str)(sc:Scope):Prop where
 kind:sc.kind=.function
 co:sc.isCoroutine=false
 gen:sc.isGenerator=false
 nd:N.Nodup
 pre:N.take P.length=P
 par:∀ x∈P,sc.names.lookup x=some .local\/sc.names.lookup x=some .cell
 BF:∀ y∈sc.names,y.2≠.free
theorem lE{kindOf:Str->Option NameKind}{x:Str}:∀ {binds:List (Str × Value)} {m:Str->Option Value},(∀ v,(x,v)∉binds)->bindL kindOf binds m x=m x
 | [],_,_=>rfl
 | (n,v)::r,m,h=>by
  unfold bindL
  rw[lE fun w hw=>h w (List.mem_cons_of_mem _ hw)]
  split
  ·have:x≠n:=by rintro rfl;exact h v List.mem_cons_self
   simp[this]
  ·rfl
theorem lQ{kindOf:Str->Option NameKind}{x:Str}:∀ {binds:List (Str × Value)} {m:Str->Option Value},(∀ v,(x,v)∉binds)->bindC kindOf binds m x=m x
 | [],_,_=>rfl
 | (n,v)::r,m,h=>by
  unfold bindC
  rw[lQ fun w hw=>h w (List.mem_cons_of_mem _ hw)]
  split
  ·rfl
  ·have:x≠n:=by rintro rfl;exact h v List.mem_cons_self
   simp[this]
theorem lK{kindOf:Str->Option NameKind}{x:Str}{v:Value}:∀ {P:List Str} {vs:List Value} {i:Nat} {m:Str->Option Value},P.Nodup->P[i]?=some x->vs[i]?=some v->kindOf x=some .local ->
  bindL kindOf (P.zip vs) m x=some v
 | [],_,_,_,_,h,_,_=>by simp at h
 | _::_,[],_,_,_,_,h,_=>by simp at h
 | p::P,w::vs,0,m,nd,h1,h2,hk=>by
  simp at h1 h2;subst h1;subst h2
  show bindL kindOf ((p,w)::P.zip vs) m p=_
  unfold bindL
  rw[lE fun v hv=>(List.nodup_cons.mp nd).1 (List.of_mem_zip hv).1,if_pos hk]
  simp
 | p::P,w::vs,i+1,m,nd,h1,h2,hk=>by
  show bindL kindOf ((p,w)::P.zip vs) m x=_
  unfold bindL
  exact lK (i:=i) (List.nodup_cons.mp nd).2 (by simpa using h1) (by simpa using h2) hk
theorem lO{kindOf:Str->Option NameKind}{x:Str}{v:Value}:∀ {P:List Str} {vs:List Value} {i:Nat} {m:Str->Option Value},P.Nodup->P[i]?=some x->vs[i]?=some v->kindOf x≠some .local ->
  bindC kindOf (P.zip vs) m x=some v
 | [],_,_,_,_,h,_,_=>by simp at h
 | _::_,[],_,_,_,_,h,_=>by simp at h
 | p::P,w::vs,0,m,nd,h1,h2,hk=>by
  simp at h1 h2;subst h1;subst h2
  show bindC kindOf ((p,w)::P.zip vs) m p=_
  unfold bindC
  rw[lQ fun v hv=>(List.nodup_cons.mp nd).1 (List.of_mem_zip hv).1,if_neg hk]
  simp
 | p::P,w::vs,i+1,m,nd,h1,h2,hk=>by
  show bindC kindOf ((p,w)::P.zip vs) m x=_
  unfold bindC
  exact lO (i:=i) (List.nodup_cons.mp nd).2 (by simpa using h1) (by simpa using h2) hk
def start(N:List Str)(vs:List V):St:=vs.map some++List.replicate (N.length-vs.length) none
def fN(CX:CXT)(P:Program)(w:World)(K:PySem.W.Frag)(mg:Str->Option Value)(base:Heap)(N:List Str)(qual:Str)(scope:Scope)(f:Addr)(cd:Value)(A:Around)(outer:List Env)(s:Shared)(H:Hp)(E:XK):Cx where
 prog:=P
 w:=w
 K:=K
 mg:=mg
 base:=base
 A:=A.deeper (envOfC qual scope s.heap.objs.size f cd)
 N:=N
 s₀:=s
 H₀:=H
 env:=envOfC qual scope s.heap.objs.size f cd
 outer:=outer
 stack:=envOfC qual scope s.heap.objs.size f cd::outer
 ex:=[]
 calm:=true
 fn:=fun _=>true
 pn:=[]
 xe:=fun e s'=>wpAny (model P w) (A.deeper (envOfC qual scope s.heap.objs.size f cd)) (leaving (envOfC qual scope s.heap.objs.size f cd) e) (fun _ s''=>CX outer H s E e s'') (fun e' s''=>CX outer H s E e' s'') s'
theorem pE{sc:Scope}{n:Nat}{x:Str}(h:sc.names.lookup x=some .cell):∃ c,(cellsFrom n sc.names []).lookup x=some c:=by
 have q:=PySem.W.cellsFrom_some sc.names n [] (.inl h)
 exact Option.isSome_iff_exists.mp q
theorem lW{CX:CXT}{P:Program}{w:World}{K:PySem.W.Frag}{mg:Str->Option Value}{base:Heap}{N ps:List Str}{qual:Str}{scope:Scope}{f:Addr}{cd:Value}{A:Around}{outer:List Env}{s s1:Shared}{H:Hp}{E:XK}{us:List Value}{vs:List V}
 (S:eC N ps scope)(hd:A.handled=none)(e0:oZ P w K mg base A outer s H)(hl:vs.length=ps.length)(r:Vals vs us)
 (x:InCallC s s.heap.objs.size (bindL (envOfC qual scope s.heap.objs.size f cd).kindOf (ps.zip us) fun _=>none) (cellsFrom (s.heap.objs.size+1) scope.names []) (bindC (envOfC qual scope s.heap.objs.size f cd).kindOf (ps.zip us) fun _=>none) s1) :
  Inv (fN CX P w K mg base N qual scope f cd A outer s H E) [] (start N vs) H s1:=by
 have hpl:ps.length<=N.length:=by have:=congrArg List.length S.pre;rw[List.length_take]at this;omega
 obtain⟨h1,tk,rfl,hk⟩:=x.done
 have noA:∀ b:Addr,b∉(fN CX P w K mg base N qual scope f cd A outer s H E).ex:=fun b z=>absurd (show b∈([]:List Addr)from z) (by simp)
 refine⟨⟨e0.mod,S.kind,rfl,rfl,Nat.le_refl _,fun y z c h1 h2=>?_,fun y hy=>?_,fun y c _ h=>?_,⟨fun _=>hd,.inl hd⟩,Around.frames_deeper e0.frames,.inr ⟨rfl,rfl⟩,fun b z=>absurd z (noA b),e0.bs,e0.bsz,fun b _ _=>noA b,fun b z=>absurd z (noA b),e0.cV,e0.frf⟩,
  rfl,e0.bare,Un.kept hk,⟨_,x.toInCall.ns,fun i y v h1 h2 h3=>?_⟩,fun y c h=>⟨_,x.cell y c h⟩,e0.hok.fresh (Nat.le_refl _),fun y c h=>?_,fun p hp=>absurd (show p∈([]:List (Addr × Obj))from hp) (by simp),e0.hok.kept hk,?_⟩
 ·exact name_of_addr x.apart (PySem.mem_of_lookup h1) (PySem.mem_of_lookup h2)
 ·have hy:scope.names.lookup y=some .cell\/scope.names.lookup y=some .free:=hy
  rcases hy with hy | hy
  ·exact pE hy
  ·exact absurd rfl (S.BF _ (PySem.mem_of_lookup hy))
 ·exact Nat.le_of_lt (x.above y c (PySem.mem_of_lookup h))
 ·have hi:i<vs.length:=by
   unfold start at h2
   by_cases hi:i<vs.length
   ·exact hi
   ·rw[List.getElem?_append_right (by simpa using hi)]at h2
    rw[List.getElem?_replicate]at h2
    split at h2<;>cases h2
  have ha:vs[i]?=some v:=by
   unfold start at h2
   rw[List.getElem?_append_left (by simpa using hi),List.getElem?_map]at h2
   cases e:vs[i]? with
   | none=>rw[e]at h2;cases h2
   | some a=>rw[e]at h2;cases h2;rfl
  obtain⟨u,hu,rv⟩:=r.get ha
  have hp:ps[i]?=some y:=by
   rw[<-S.pre,List.getElem?_take_of_lt (by omega)];exact h1
  have ndP:ps.Nodup:=by rw[<-S.pre];exact S.nd.sublist (List.take_sublist _ _)
  refine⟨u,rv,?_⟩
  rcases S.par y (List.mem_of_getElem? hp)with k | k
  ·exact .inl ⟨k,lK ndP hp hu k⟩
  ·obtain⟨c,e⟩:=pE (n:=s.heap.objs.size+1) k
   refine .inr ⟨.inl k,c,e,?_⟩
   have q:=x.cell y c e
   rw[lO ndP hp hu (by show scope.names.lookup y≠_;rw[k];decide)]at q
   exact q
 ·exact e0.hok.fresh (Nat.le_of_lt (x.above y c (PySem.mem_of_lookup h)))
 ·unfold start
  show _=N.length
  rw[List.length_append,List.length_map,List.length_replicate]
  omega
theorem wY{CX:CXT}{P:Program}{w:World}{K:PySem.W.Frag}{mg:Str->Option Value}{base:Heap}{k:Nat}{f:Addr}{name qual:Str}{params:Arguments}{body:List Stmt}{scope:Scope}{dV kV doc pm cdv ct oc:Value}{an od:Option Addr}
 {osl:Array (Option Value)}{N ps:List Str}{sp:Sp}(lk:K.lookup f=some ⟨oc,od,.func (PySem.W.fnOf name qual params body scope dV kV doc pm an cdv ct),osl⟩)(hcd:PySem.W.codeIn K cdv qual=true)(S:eC N ps scope)
 (len:∀ vs H Q E,sp vs H Q E->vs.length=ps.length)
 (hbody:∀ (A:Around) (outer:List Env) (s:Shared) (H:Hp) (vs:List V) (Q:VK) (E:XK),bV k (A.deeper (envOfC qual scope s.heap.objs.size f cdv))->sp vs H Q E ->
   ∃ t,PSs (fN CX P w K mg base N qual scope f cdv A outer s H E) body t/\t { nx:=fun _ H'=>Q .non H',rt:=Q } (start N vs) H) :
  d5 P w K mg base CX (k+1) f (PySem.W.fnOf name qual params body scope dV kV doc pm an cdv ct) ps sp:=by
 refine⟨len,fun A outer s H args us vs Q E hr e0 hb r hsp=>?_⟩
 have hl:=len _ _ _ _ hsp
 have KX:K.In s.heap:=e0.mod.kin.keeps fun b o e=>(e0.bs b o e).1
 have lim:s.heap.NoLimit:=e0.mod.nolimit.keeps fun b o e=>(e0.bs b o e).1
 have hkind:∀ y∈ps.zip us,scope.names.lookup y.1=some .local\/(scope.names.lookup y.1=some .cell/\((cellsFrom (s.heap.objs.size+1) scope.names []).lookup y.1).isSome=true):=fun⟨n,v⟩ hy=>by
  rcases S.par n (List.of_mem_zip hy).1 with q | q
  ·exact .inl q
  ·exact .inr ⟨q,PySem.W.cellsFrom_some _ _ _ (.inl q)⟩
 refine codeAny_call_function hr.depth (KX _ _ lk) rfl S.co S.gen rfl (PySem.W.codeRec_of KX hcd) (hb _ _ _ _ ?_)
 refine wpAny_newFunctionEnv_cells S.kind hkind fun env he s1 x=>?_
 subst he
 refine⟨lim.keeps x.toInCall.keep,codeAny_func ?_⟩
 obtain⟨t,ht,hq⟩:=hbody A outer s H vs Q E (hr.deeper _) hsp
 have I:Inv (fN CX P w K mg base N qual scope f cdv A outer s H E) [] (start N vs) H s1:=lW S hr.hd e0 hl r x
 refine wpAny_mono (ht [] s1 (start N vs) H _ I hq) (fun fl s' hs=>?_) fun e s' hs=>hs
 have fin:∀ {σ':St} {H':Hp} {v:V} {u:Value},Inv (fN CX P w K mg base N qual scope f cdv A outer s H E) [] σ' H' s'->RelV v u->Q v H'->CE outer P w H s Q u s' :=
  fun {σ' H' v u} J rv q=>⟨v,H',J.os,J.bare,J.base,J.hok,rv,q⟩
 cases fl with
 |ret u=>
  obtain⟨v,σ',H',J,rv,q⟩:=hs
  exact fin J rv q
 |next=>
  obtain⟨σ',H',J,q⟩:=hs
  exact fin (v:=V.non) (u:=Value.none) J rfl q
 |brk=>
  obtain⟨_,_,_,q⟩:=hs
  exact False.elim q
 |cont=>
  obtain⟨_,_,_,q⟩:=hs
  exact False.elim q
section
variable{X:Cx}{x:Str}{p pos:Pos}{e:Expr}{es:List Expr}{t:TA}{id T:String}{r:List V->Hp->VK->Prop}
def tCB(r:List V->Hp->VK->Prop)(t:TA):TE:=fun σ H Q=>t σ H fun vs H1=>r vs H1 Q
theorem gR(hc:bH X (.builtin id) r)(hg:Gl X x)(hm:X.mg x=none)(hv:bootBuiltins x=some (.builtin id))(ha:PA X (e::es) t)(hn:x ≠ "__name__" := by decide)(hdb:(x == ("__debug__" : Str))=false:=by decide)
 (he:starEach (e::es) X.env=(false,eval e X.env)::starEach es X.env:=by rfl)(hpl:(backTo pos (starEach es X.env)).any (·.1)=false:=by rfl):PE X (.Call (.Name x p) (e::es) [] pos) (tCB r t):=by
 intro pins s σ H Q I h
 refine wpAny_Call_Name_kw (fT I hg hm hv ?_ hn hdb)
 exact PyProof.Rows.callWith_builtin1 (thn (ha pos pins s σ H _ I h) fun us s1 ⟨vs,H1,I1,r1,q1⟩=>hc pins s1 σ H1 vs us Q I1 r1 q1) he hpl
theorem eQ(hc:bH X (.type T) r)(hg:Gl X x)(hm:X.mg x=none)(hv:bootBuiltins x=some (.type T))(ha:PA X (e::es) t)(hn:x ≠ "__name__" := by decide)(hdb:(x == ("__debug__" : Str))=false:=by decide)
 (he:starEach (e::es) X.env=(false,eval e X.env)::starEach es X.env:=by rfl)(hpl:(backTo pos (starEach es X.env)).any (·.1)=false:=by rfl):PE X (.Call (.Name x p) (e::es) [] pos) (tCB r t):=by
 intro pins s σ H Q I h
 refine wpAny_Call_Name_kw (fT I hg hm hv ?_ hn hdb)
 exact PyProof.Rows.callWith_type1 (thn (ha pos pins s σ H _ I h) fun us s1 ⟨vs,H1,I1,r1,q1⟩=>hc pins s1 σ H1 vs us Q I1 r1 q1) he hpl
end
end L2
namespace HT
open PySem PyProof.Rows
section
open PySem.SeqAt
open PySem.AutoSeq1 (wpAny_loadPart')
open PySem.MeetsSeq PySem.MeetsSeq2 PySem.MeetsSeq3
end
section
variable{prog:Program}{w:World}{A:Around}{E:Value->Shared->Prop}{s:Shared}
theorem yd{t b:Addr}{vs ws:List Value}{Q:Value->Shared->Prop}(ht:IsTup s.heap t vs.toArray)(hb:IsTup s.heap b ws.toArray)(hv:vs≠[])
 (h1:ws=[]->Q (.ref t) s)(h2:ws≠[]->Q (.ref s.heap.objs.size) { s with heap:=s.heap.push { cls:=.type "tuple",data:=.seq (vs++ws).toArray } })
 (hsz:vs.length+ws.length<=sizeLine):wpAny (model prog w) A (binaryOp .Add (.ref t) (.ref b)) Q E s:=by
 obtain⟨⟨cls,dd,data,sl⟩,ho,hc,n,hd⟩:=id ht
 obtain⟨⟨cls2,dd2,data2,sl2⟩,ho2,hc2,n2,hd2⟩:=id hb
 simp only at hc hd hc2 hd2
 subst hc hd hc2 hd2
 have e:vs.toArray++ws.toArray=(vs++ws).toArray:=by simp
 by_cases hw:ws=[]
 ·exact concat_meets ⟨_,ho,rfl⟩ ⟨_,ho2,rfl⟩ noFill_tuple_add seq_tuple_add PySem.F.slot_tuple_add PySem.F.entry_tuple_add (PySem.F.args_tuple_add_2 _ _)
   (tuple_addW1 t b vs.toArray ws.toArray n n2 dd dd2 sl sl2 (by simpa using hv) (by simp[hw])) ⟨ho,ho2,h1 hw⟩
 ·refine concat_meets ⟨_,ho,rfl⟩ ⟨_,ho2,rfl⟩ noFill_tuple_add seq_tuple_add PySem.F.slot_tuple_add PySem.F.entry_tuple_add (PySem.F.args_tuple_add_2 _ _)
   (tuple_addW2 t b vs.toArray ws.toArray n n2 dd dd2 sl sl2 (by simpa using hv) (by simpa using hw) (by rw[List.size_toArray,List.size_toArray];exact hsz)) ⟨ho,ho2,?_⟩
  rw[e]
  exact h2 hw
def sIx(n d:Nat):Option Int->Nat
 | none=>d
 | some v=>if v<0 then(v+(n:Int)).toNat else min v.toNat n
theorem vF(n d:Nat):sIx n d none=d:=rfl
theorem zW(n d:Nat)(hd:d<=n)(o:Option Int):sIx n d o<=n:=by
 cases o with
 | none=>exact hd
 |some v=>
  show(if v<0 then(v+(n:Int)).toNat else min v.toNat n)<=n
  by_cases hv:v<0
  ·rw[if_pos hv];omega
  ·rw[if_neg hv];exact Nat.min_le_right _ _
theorem iV(v:Int)(n d:Nat):(if v<0 then max (v+(n:Int)) 0 else min v (n:Int))=((sIx n d (some v):Nat):Int):=by
 show(if v<0 then max (v+(n:Int)) 0 else min v (n:Int))=(((if v<0 then(v+(n:Int)).toNat else min v.toNat n):Nat):Int)
 by_cases hv:v<0
 ·simp only[if_pos hv];omega
 ·simp only[if_neg hv];omega
theorem rK(lo hi:Option Int)(n:Nat):Builtin.Slice.sliceAdjust lo hi 1 (n:Int)=(((sIx n 0 lo:Nat):Int),((sIx n n hi:Nat):Int)):=by
 have h1:¬ ((1:Int)<0):=by omega
 unfold Builtin.Slice.sliceAdjust
 simp only[h1,if_false]
 refine Prod.ext ?_ ?_
 ·cases lo with
  | none=>rfl
  | some v=>exact iV v n 0
 ·cases hi with
  | none=>rfl
  | some v=>exact iV v n n
theorem rk(i j:Nat):Builtin.Slice.slicePlaces (i:Int) (j:Int) 1=j-i:=by
 unfold Builtin.Slice.slicePlaces
 have h1:(1:Int) > 0:=by omega
 simp only[h1,if_true,Int.ediv_one]
 split<;>omega
theorem ka{v:Value}{o:Option Int}{Q:Option Int->Shared->Prop}(p:IsPart v o)(h:Q o s):wpAny (model prog w) A (Builtin.Slice.slicePartIndex v) Q E s:=by
 cases p with
 | none=>exact slicePart_none h
 | int i t=>exact slicePart_int h
theorem jD{sl:Addr}{vl vu:Value}{lo hi:Option Int}{n:Nat}{Q:Int × Int × Nat->Shared->Prop}(hs:s.heap.IsSliceOf sl vl vu .none)(pl:IsPart vl lo)(pu:IsPart vu hi)
 (h:Q (((sIx n 0 lo:Nat):Int),1,sIx n n hi-sIx n 0 lo) s):wpAny (model prog w) A (Builtin.Slice.sliceApplied (.ref sl) (pure (n:Int))) Q E s:=by
 obtain⟨os,hos,hcs,hds⟩:=id hs
 unfold Builtin.Slice.sliceApplied Builtin.Slice.sliceFields
 refine wpAny_bind (wpAny_bind (wpAny_field hos hds (x:=vl) rfl (wpAny_bind (wpAny_field hos hds (x:=vu) rfl (wpAny_bind (wpAny_field hos hds (x:=.none) rfl (wpAny_pure ?_)))))))
 refine wpAny_bind (slicePart_none ?_)
 show wpAny _ _ (if((1:Int) == 0)=true then _ else _) _ _ s
 rw[if_neg (by decide)]
 refine wpAny_bind (ka pl (wpAny_bind (ka pu (wpAny_bind (wpAny_pure ?_)))))
 show wpAny _ _ (match Builtin.Slice.sliceAdjust lo hi 1 (n:Int)with | (lo,hi)=>pure (lo,(1:Int),Builtin.Slice.slicePlaces lo hi 1)) _ _ s
 rw[rK lo hi n]
 show wpAny _ _ (pure (((sIx n 0 lo:Nat):Int),(1:Int),Builtin.Slice.slicePlaces ((sIx n 0 lo:Nat):Int) ((sIx n n hi:Nat):Int) 1)) _ _ s
 rw[rk]
 exact wpAny_pure h
theorem vS(xs:Array Value)(i k:Nat):((List.range k).filterMap fun(m:Nat)=>xs[((i:Int)+(m:Int)*1).toNat]?).toArray=((xs.toList.drop i).take k).toArray:=by
 have e:(fun(m:Nat)=>xs[((i:Int)+(m:Int)*1).toNat]?)=fun m=>xs[i+m]?:=by
  funext m
  have:((i:Int)+(m:Int)*1).toNat=i+m:=by omega
  rw[this]
 rw[e]
 have:=pick_run xs i k
 rw[List.filterMap_map]at this
 have e2:((fun x=>xs[x]?) ∘ fun x=>i+x)=fun m=>xs[i+m]?:=rfl
 rw[e2]at this
 rw[this]
theorem jq{t sl:Addr}{items:Array Value}{vl vu:Value}{lo hi:Option Int}{Q:Value->Shared->Prop}(ht:IsTup s.heap t items)(hs:s.heap.IsSliceOf sl vl vu .none)(pl:IsPart vl lo)(pu:IsPart vu hi)
 (hw:¬ (sIx items.size 0 lo=0/\sIx items.size items.size hi=items.size))
 (h:Q (.ref s.heap.objs.size) { s with heap:=s.heap.push { cls:=.type "tuple",data:=.seq ((items.toList.drop (sIx items.size 0 lo)).take (sIx items.size items.size hi-sIx items.size 0 lo)).toArray } })
 (hsz:items.size<=sizeLine):wpAny (model prog w) A (getItem (.ref t) (.ref sl)) Q E s:=by
 have htake:sizeOk (.seq ((items.toList.drop (sIx items.size 0 lo)).take (sIx items.size items.size hi-sIx items.size 0 lo)).toArray):=by
  show((items.toList.drop (sIx items.size 0 lo)).take (sIx items.size items.size hi-sIx items.size 0 lo)).toArray.size<=sizeLine
  rw[List.size_toArray,List.length_take,List.length_drop,Array.length_toList]
  omega
 have hj:sIx items.size items.size hi<=items.size:=zW _ _ (Nat.le_refl _) hi
 obtain⟨os,hos,hcs,hds⟩:=id hs
 have hTs:s.TypeIs (.ref sl) "slice" := ⟨os,hos,hcs⟩
 unfold getItem
 try with_reducible refine wpAny_holding ?_
 first | refine wpAny_bind (wpAny_pure ?_) | skip
 refine wpAny_bind (wpAny_sequenceKey ht.typeIs (by decide) ?_)
 refine wpAny_bind (wpAny_callSpecial?_slot (name:=Str.ofString "__getitem__") ht.typeIs PyProof.Rows.slot_tuple_getitem
  (wpAny_call_entry PyProof.Rows.slot_tuple_getitem ht.typeIs entry_tuple_getitem ?_ (args_tuple_getitem _ _)))
 show wpAny _ _ (Builtin.Tuple.tupleItemsOf (.ref t) >>= _) _ _ s
 refine wpAny_bind (tupleItemsOf_ ht ?_)
 refine wpAny_bind (wpAny_typeOf hTs ?_)
 rw[if_pos (by decide)]
 refine wpAny_bind (jD hs pl pu ?_)
 have hno:¬ ((((sIx items.size 0 lo:Nat):Int) == 0&&(1:Int) == 1&&(sIx items.size items.size hi-sIx items.size 0 lo) == items.size)=true):=by
  intro q
  rw[Bool.and_eq_true,Bool.and_eq_true]at q
  have q1:((sIx items.size 0 lo:Nat):Int)=0:=eq_of_beq q.1.1
  have q2:sIx items.size items.size hi-sIx items.size 0 lo=items.size:=eq_of_beq q.2
  exact hw ⟨by omega,by omega⟩
 show wpAny _ _ (if(((sIx items.size 0 lo:Nat):Int) == 0&&(1:Int) == 1&&(sIx items.size items.size hi-sIx items.size 0 lo) == items.size)=true then _ else _) _ _ s
 rw[if_neg hno,vS]
 first
  | exact wpAny_bind (m:=Builtin.Tuple.tupleExact _) (wpAny_newObj_type (wpAny_pure ⟨_,rfl,wpAny_pure h⟩) htake)
  | exact wpAny_bind (m:=Builtin.Tuple.tupleExact _) (wpAny_newObj_type (wpAny_bind (wpAny_pure (wpAny_pure ⟨_,rfl,wpAny_pure h⟩))) htake)
  | exact wpAny_bind (wpAny_bind (m:=Builtin.Tuple.tupleExact _) (wpAny_newObj_type (wpAny_pure (wpAny_pure ⟨_,rfl,wpAny_pure h⟩)) htake))
  | exact wpAny_bind (wpAny_bind (m:=Builtin.Tuple.tupleExact _) (wpAny_newObj_type (wpAny_pure ⟨_,rfl,wpAny_pure h⟩) htake))
end
end HT
namespace L2
open PySem PySem.Spec PyProof.Rows
abbrev TO:=St->Hp->(Option Int->Hp->Prop)->Prop
def PO(X:Cx)(e:Option Expr)(t:TO):Prop :=
 ∀ (pins:List (Addr × Obj)) (s:Shared) (σ:St) (H:Hp) (Q:Option Int->Hp->Prop),Inv X pins σ H s->t σ H Q ->
  wpAny (model X.prog X.w) X.A (evalPart e X.env) (fun u s'=>∃ o H',Inv X pins σ H' s'/\IsPart u o/\Q o H') X.xe s
def yq:TO:=fun _ H Q=>Q none H
def CA(t:TE):TO:=fun σ H Q=>t σ H fun x H1=>∃ i,x=.int i/\Q (some i) H1
section
variable{X:Cx}{e:Expr}{te:TE}{lo hi:Option Expr}{tl th:TO}{pos p2:Pos}
theorem xI:PO X none yq:=by
 intro pins s σ H Q I h
 rw[evalPart_none]
 exact wpAny_pure ⟨none,H,I,.none,h⟩
theorem ym(h:PE X e te):PO X (some e) (CA te):=by
 intro pins s σ H Q I hw
 rw[evalPart_some]
 refine thn (h pins s σ H _ I hw) fun u s1 ⟨x,H1,I1,r1,q1⟩=>?_
 obtain⟨i,rfl,q⟩:=q1
 obtain⟨t,rfl⟩:=r1
 exact⟨some i,H1,I1,.int i t,q⟩
def SlR(X:Cx)(r:V->Option Int->Option Int->Hp->VK->Prop):Prop :=
 ∀ (pins:List (Addr × Obj)) (s:Shared) (σ:St) (H:Hp) (x:V) (v vl vu:Value) (lo hi:Option Int) (sl:Addr) (Q:VK),Inv X pins σ H s->RelV x v->s.heap.IsSliceOf sl vl vu .none->IsPart vl lo->IsPart vu hi->r x lo hi H Q ->
  ∃ T id,typeLookup (.type T) "__getitem__" = pure (some (.builtin id))/\s.TypeIs v T/\wpAny (model X.prog X.w) X.A (getItem v (.ref sl)) (EP X pins σ Q) X.xe s
theorem SlR.or{r r':V->Option Int->Option Int->Hp->VK->Prop}(h:SlR X r)(h':SlR X r'):SlR X (fun x lo hi H Q=>r x lo hi H Q\/r' x lo hi H Q):=by
 intro pins s σ H x v vl vu lo hi sl Q I rx hs pl pu q
 rcases q with q | q
 ·exact h pins s σ H x v vl vu lo hi sl Q I rx hs pl pu q
 ·exact h' pins s σ H x v vl vu lo hi sl Q I rx hs pl pu q
def tSl(r:V->Option Int->Option Int->Hp->VK->Prop)(te:TE)(tl th:TO):TE:=fun σ H Q=>te σ H fun x H1=>tl σ H1 fun l H2=>th σ H2 fun u H3=>r x l u H3 Q
theorem wL{r:V->Option Int->Option Int->Hp->VK->Prop}(hr:SlR X r)(he:PE X e te)(hl:PO X lo tl)(hu:PO X hi th):PE X (.Subscript e (.Slice lo hi none p2) pos) (tSl r te tl th):=by
 intro pins s σ H Q I h
 refine Subscript_ (thn (he pins s σ H _ I h) fun v s1 ⟨x,H1,I1,r1,q1⟩=>?_)
 refine wpAny_Slice (thn (hl pins s1 σ H1 _ I1 q1) fun vl s2 ⟨l,H2,I2,pl,q2⟩=>thn (hu pins s2 σ H2 _ I2 q2) fun vu s3 ⟨u,H3,I3,pu,q3⟩=>?_)
 rw[evalPart_none]
 refine wpAny_pure ?_
 have I4:Inv X pins σ H3 { s3 with heap:=s3.heap.push { cls:=.type "slice",data:=.fields #[vl,vu,.none] } }:=I3.kept (t':=s3.toks) fun b ob q=>Heap.get?_push_of_some _ q
 obtain⟨T,id,hT,ht,hg⟩:=hr pins { s3 with heap:=s3.heap.push { cls:=.type "slice",data:=.fields #[vl,vu,.none] } } σ H3 x v vl vu l u s3.heap.objs.size Q I4 r1 (Heap.IsSliceOf.new ..) pl pu q3
 show wpAny (model X.prog X.w) X.A (subscriptTail e (.Slice lo hi none p2) v (.ref s3.heap.objs.size)) (EP X pins σ Q) X.xe { s3 with heap:=s3.heap.push { cls:=.type "slice",data:=.fields #[vl,vu,.none] } }
 exact tail_any (ops:=[.ref s3.heap.objs.size,v]) ht hT hg (by with_unfolding_all rfl)
def iq(xs:List V)(lo hi:Option Int):List V:=(xs.drop (HT.sIx xs.length 0 lo)).take (HT.sIx xs.length xs.length hi-HT.sIx xs.length 0 lo)
theorem jv(xs:List V)(lo hi:Option Int):(iq xs lo hi).length<=xs.length:=by
 unfold iq
 rw[List.length_take,List.length_drop]
 omega
def DP(K:PySem.W.Frag):V->Option Int->Option Int->Hp->VK->Prop:=fun x lo hi H Q=>∃ a xs,x=.ref a/\SqT K H a xs /\
 ¬ (HT.sIx xs.length 0 lo=0/\HT.sIx xs.length xs.length hi=xs.length)/\∀ p,H p=none->Q (.ref p) (upd H p (.tup (iq xs lo hi)))
theorem zT:SlR X (DP X.K):=by
 intro pins s σ H x v vl vu lo hi sl Q I rx hs pl pu h
 obtain⟨a,xs,rfl,hx,hw,q⟩:=h
 cases rx
 obtain⟨its,r,ht,hz⟩:=I.tuple hx
 have hlen:its.toArray.size=xs.length:=by rw[List.size_toArray];exact r.length.symm
 refine⟨"tuple",_,PyProof.Rows.slot_tuple_getitem.lookup,ht.typeIs,?_⟩
 refine HT.jq ht hs pl pu (by rw[hlen];exact hw) ?_ (by rw[hlen];exact hz)
 rw[hlen]
 refine⟨.ref s.heap.objs.size,_,I.laid (t':=s.toks) (o:=.tup (iq xs lo hi)) (fun b ob q=>Heap.get?_push_of_some _ q) (Nat.le_refl _) ?_,rfl,q _ (I.hok.fresh (Nat.le_refl _))⟩
 exact⟨Nat.le_trans (jv xs lo hi) hz,_,(r.drop (HT.sIx xs.length 0 lo)).take (HT.sIx xs.length xs.length hi-HT.sIx xs.length 0 lo),IsTup.new _ _⟩
def Cg(K:PySem.W.Frag):R2:=fun x y H Q=>∃ a b xs ys,x=.ref a/\y=.ref b/\SqT K H a xs/\SqT K H b ys/\xs≠[]/\xs.length+ys.length<=sizeLine /\
 (ys=[]->Q (.ref a) H)/\(ys≠[]->∀ p,H p=none->Q (.ref p) (upd H p (.tup (xs++ys))))
theorem Vals.kX{xs:List V}{us:List Value}(r:Vals xs us):us=[]↔xs=[]:=by
 cases r with
 | nil=>simp
 | cons _ _=>simp
theorem yy:OpR X (binaryOp .Add) (Cg X.K):=by
 intro pins s σ H x y v u Q I rx ry h
 obtain⟨a,b,xs,ys,rfl,rfl,ha,hb,hx,hz,q1,q2⟩:=h
 cases rx
 cases ry
 obtain⟨its,r1,p1,_⟩:=I.tuple ha
 obtain⟨its2,r2,p2,_⟩:=I.tuple hb
 refine HT.yd p1 p2 (fun z=>hx (r1.kX.mp z)) (fun z=>⟨.ref a,H,I,rfl,q1 (r2.kX.mp z)⟩) (fun z=>?_) (by rw[<-r1.length,<-r2.length];exact hz)
 refine⟨.ref s.heap.objs.size,_,I.laid (t':=s.toks) (o:=.tup (xs++ys)) (fun b ob q=>Heap.get?_push_of_some _ q) (Nat.le_refl _) ?_,rfl,q2 (fun w=>z (r2.kX.mpr w)) _ (I.hok.fresh (Nat.le_refl _))⟩
 exact⟨by rw[List.length_append];exact hz,_,r1.append r2,IsTup.new _ _⟩
end
def ixN(n:Nat)(i:Int):Option Nat:=if 0<=i then(if i<n then some i.toNat else none)else if -(n:Int)<=i then some (i+n).toNat else none
def atI{α:Type}(xs:List α)(i:Int):Option α:=(ixN xs.length i).bind fun j=>xs[j]?
theorem pQ{n:Nat}{i:Int}{j:Nat}(h:ixN n i=some j):seqIndex? i n=some j/\j<n/\-(n:Int)<=i/\i<n:=by
 unfold ixN at h
 by_cases h0:0<=i
 ·rw[if_pos h0]at h
  by_cases h1:i<n
  ·rw[if_pos h1]at h
   have e:i.toNat=j:=Option.some.inj h
   exact⟨by rw[seqIndex_of h0 h1,e],by omega,by omega,h1⟩
  ·rw[if_neg h1]at h;cases h
 ·rw[if_neg h0]at h
  by_cases h1:-(n:Int)<=i
  ·rw[if_pos h1]at h
   have e:(i+n).toNat=j:=Option.some.inj h
   exact⟨by rw[seqIndex_neg (by omega) h1,e],by omega,h1,by omega⟩
  ·rw[if_neg h1]at h;cases h
theorem kO{α:Type}{xs:List α}{i:Int}{v:α}(h:atI xs i=some v):∃ j,seqIndex? i xs.length=some j/\xs[j]?=some v/\j<xs.length/\-(xs.length:Int)<=i/\i<xs.length:=by
 unfold atI at h
 cases e:ixN xs.length i with
 | none=>rw[e]at h;cases h
 |some j=>
  rw[e]at h
  obtain⟨h1,h2,h3,h4⟩:=pQ e
  exact⟨j,h1,h,h2,h3,h4⟩
def qh(b:Expr):Prop:=∀ o i,subscripted b false o i=operate [o,i] (getItem o i)
def IxR(X:Cx)(r:R2):Prop :=
 ∀ (value slice:Expr) (pins:List (Addr × Obj)) (s:Shared) (σ:St) (H:Hp) (x y:V) (v u:Value) (Q:VK),Inv X pins σ H s->RelV x v->RelV y u->r x y H Q ->
  subscripted slice false v u=operate [v,u] (getItem v u)->wpAny (model X.prog X.w) X.A (subscriptTail value slice v u) (EP X pins σ Q) X.xe s
def MtR(X:Cx)(id:String)(r:V->List V->Hp->VK->Prop):Prop :=
 ∀ (pins:List (Addr × Obj)) (s:Shared) (σ:St) (H:Hp) (x:V) (xs:List V) (v:Value) (us:List Value) (Q:VK),Inv X pins σ H s->RelV x v->Vals xs us->r x xs H Q ->
  wpAny (model X.prog X.w) X.A (call (.builtin id) (v::us)) (EP X pins σ Q) X.xe s
section
variable{X:Cx}{a b:Expr}{ta tb:TE}{pos:Pos}
theorem IxR.or{r r':R2}(h:IxR X r)(h':IxR X r'):IxR X (fun x y H Q=>r x y H Q\/r' x y H Q):=by
 intro value slice pins s σ H x y v u Q I rx ry q hs
 rcases q with q | q
 ·exact h value slice pins s σ H x y v u Q I rx ry q hs
 ·exact h' value slice pins s σ H x y v u Q I rx ry q hs
theorem xm{r:R2}(hr:IxR X r)(ha:PE X a ta)(hb:PE X b tb)(hs:qh b):PE X (.Subscript a b pos) (tOp r ta tb):=by
 intro pins s σ H Q I h
 exact Subscript_ (vf ha hb I h fun v u s2 x y H2 I2 rx ry q=>hr a b pins s2 σ H2 x y v u Q I2 rx ry q (hs _ _))
def Cb(K:PySem.W.Frag):R2:=fun x y H Q=>∃ p xs i v,x=.ref p/\y=.int i/\SqL K H p xs/\atI xs i=some v/\Q v H
def zy(K:PySem.W.Frag):R2:=fun x y H Q=>∃ p xs i v,x=.ref p/\y=.int i/\SqT K H p xs/\atI xs i=some v/\Q v H
def AK:R2:=fun x y H Q=>∃ z i c,x=.str z/\y=.int i/\z.length<=sizeLine/\atI z.cps.toList i=some c/\Q (.str ⟨#[c]⟩) H
theorem yV:IxR X (Cb X.K):=by
 intro value slice pins s σ H x y v u Q I rx ry h hs
 obtain⟨p,xs,i,z,rfl,rfl,hq,he,q⟩:=h
 cases rx
 obtain⟨t,rfl⟩:=ry
 obtain⟨its,r,pl,hz⟩:=I.list hq
 obtain⟨j,h1,h2,h3,h4,h5⟩:=kO he
 obtain⟨w,ew,rw'⟩:=r.get h2
 have hl:=r.length
 have hn:=gE
 have fin:EP X pins σ Q w s:=⟨z,H,I,rw',q⟩
 by_cases h0:0<=i
 ·have hj:i.toNat=j:=by
   rw[seqIndex_of h0 h5]at h1
   exact Option.some.inj h1
  exact item_listR pl.isList h0 (by omega) (by rw[hj];simpa using ew) fin hs
 ·have hj:(i+(its.toArray.size:Int)).toNat=j:=by
   rw[seqIndex_neg (by omega) h4]at h1
   rw[List.size_toArray,<-hl]
   exact Option.some.inj h1
  exact subscriptTail_builtinR (x:=w) pl.isList.typeIs slot_list_getitem.lookup
   (wpAny_getItem_list_neg (Q:=fun r s'=>r=w/\EP X pins σ Q r s') pl.isList (by omega) (by rw[List.size_toArray]<;>omega) (by omega) (by rw[hj];simpa using ew) ⟨rfl,fin⟩) hs
theorem Bt:IxR X (zy X.K):=by
 intro value slice pins s σ H x y v u Q I rx ry h hs
 obtain⟨p,xs,i,z,rfl,rfl,hq,he,q⟩:=h
 cases rx
 obtain⟨t,rfl⟩:=ry
 obtain⟨its,r,pl,hz⟩:=I.tuple hq
 obtain⟨j,h1,h2,h3,h4,h5⟩:=kO he
 obtain⟨w,ew,rw'⟩:=r.get h2
 have hl:=r.length
 have hn:=gE
 have fin:EP X pins σ Q w s:=⟨z,H,I,rw',q⟩
 exact subscriptTail_builtinR (x:=w) pl.typeIs slot_tuple_getitem.lookup
  (getItem_tuple (j:=j) (Q:=fun r s'=>r=w/\EP X pins σ Q r s') pl (by omega) (by omega) (by rw[List.size_toArray,<-hl];exact h1) (by simpa using ew) ⟨rfl,fin⟩) hs
theorem BK:IxR X AK:=by
 intro value slice pins s σ H x y v u Q I rx ry h hs
 obtain⟨z,i,c,rfl,rfl,hz,he,q⟩:=h
 obtain⟨t,rfl⟩:=rx
 obtain⟨t',rfl⟩:=ry
 obtain⟨j,h1,h2,h3,h4,h5⟩:=kO he
 have hl:z.cps.toList.length=z.length:=by simp[Str.length]
 rw[hl]at h1 h4 h5
 have hn:=gE
 exact tail_any (typeIs_str s z t) slot_str_getitem.lookup (getItem_str (c:=c) (by
  have e1:decide (i < -(2 ^ 63:Int))=false:=decide_eq_false (by omega)
  have e2:decide (i≥2 ^ 63)=false:=decide_eq_false (by omega)
  rw[e1,e2,Bool.or_false]) (by rw[h1];simpa using h2) ⟨.str ⟨#[c]⟩,H,I.tok _,⟨_,rfl⟩,q⟩) hs
def rIx(K:PySem.W.Frag):R2:=fun x y H Q=>Cb K x y H Q\/zy K x y H Q\/AK x y H Q
theorem sS:IxR X (rIx X.K):=yV.or (Bt.or BK)
theorem sA(its:List Value)(n j:Nat)(u:Value):Obj.mapSeq (·.setIfInBounds j u) { cls:=.type "list",data:=.seq its.toArray n }={ cls:=.type "list",data:=.seq (its.set j u).toArray n }:=by
 simp[Obj.mapSeq]
theorem Inv.lst{pins:List (Addr × Obj)}{σ:St}{H:Hp}{s:Shared}{p:Addr}{xs:List V}(I:Inv X pins σ H s)(h:H p=some (.lst xs)) :
  ∃ (its:List Value) (n:Nat),Vals xs its/\s.heap.get? p=some { cls:=.type "list",data:=.seq its.toArray n }/\xs.length<=sizeLine:=by
 obtain⟨z,its,n,r,e⟩:=I.hok p _ h
 exact⟨its,n,r,e,z⟩
theorem Inv.AN{pins:List (Addr × Obj)}{σ:St}{H:Hp}{s:Shared}{p:Addr}{xs ys:List V}{its its':List Value}{n n':Nat}{f:Obj->Obj}(I:Inv X pins σ H s)(h:H p=some (.lst xs))
 (ho:s.heap.get? p=some { cls:=.type "list",data:=.seq its.toArray n })(hf:f { cls:=.type "list",data:=.seq its.toArray n }={ cls:=.type "list",data:=.seq its'.toArray n' })(r:Vals ys its')(hz:ys.length<=sizeLine)(t:Nat) :
  Inv X pins σ (upd H p (.lst ys)) { s with heap:=s.heap.update p f,toks:=t }:=by
 have e:(s.heap.update p f).get? p=some { cls:=.type "list",data:=.seq its'.toArray n' }:=by
  rw[Heap.get?_update_self f ho (by rw[hf]<;>rfl),hf]
 refine I.write (x:=p) (e:=p) (by rw[h];trivial) (.inl rfl) (fun b u hb q=>(Heap.get?_update_other _ _ (Ne.symm hb)).trans q) ⟨_,e⟩ ?_
 exact⟨hz,its',n',r,e⟩
def rW:V->V->V->Hp->(Hp->Prop)->Prop:=fun o i v H Q=>∃ p xs k j,o=.ref p/\i=.int k/\H p=some (.lst xs)/\ixN xs.length k=some j/\Q (upd H p (.lst (xs.set j v)))
theorem set_list:Aw X rW:=by
 intro pins s σ H o i v ov iv u Q I ro ri rv h
 obtain⟨p,xs,k,j,rfl,rfl,hp,hj,q⟩:=h
 cases ro
 obtain⟨t,rfl⟩:=ri
 obtain⟨its,n,r,ho,hz⟩:=I.lst hp
 obtain⟨h1,h2,h3,h4⟩:=pQ hj
 have hl:=r.length
 have hn:=gE
 have I':Inv X pins σ (upd H p (.lst (xs.set j v))) { s with heap:=s.heap.update p (Obj.mapSeq (·.setIfInBounds j u)) } :=
  I.AN hp ho (sA its n j u) (r.set rv j) (by rw[List.length_set];exact hz) s.toks
 by_cases h0:0<=k
 ·have hk:k.toNat=j:=by
   rw[seqIndex_of h0 h4]at h1
   exact Option.some.inj h1
  exact PySem.W.ki_setAt ho h0 (by omega) (by rw[List.size_toArray,<-hl];exact h4) (by rw[hk];exact⟨_,I',q⟩)
 ·have hk:(k+(its.toArray.size:Int)).toNat=j:=by
   rw[seqIndex_neg (by omega) h3]at h1
   rw[List.size_toArray,<-hl]
   exact Option.some.inj h1
  exact PySem.W.ki_setBack ho (by omega) (by rw[List.size_toArray,<-hl];exact h3) (by omega) (by rw[hk];exact⟨_,I',q⟩)
theorem p6(lo hi:Option Int)(n:Nat):(sliceBounds lo hi none n).1=((HT.sIx n 0 lo:Nat):Int)/\(sliceBounds lo hi none n).2.1=((HT.sIx n n hi:Nat):Int)/\(sliceBounds lo hi none n).2.2=1:=by
 refine⟨?_,?_,rfl⟩
 ·cases lo with
  | none=>simp[sliceBounds,HT.sIx]
  |some i=>
   simp only[sliceBounds,HT.sIx,Option.getD_none,show(1:Int) > 0 by decide,if_true]
   by_cases h:i<0
   ·simp only[h,if_true]<;>omega
   ·simp only[h,if_false]<;>omega
 ·cases hi with
  | none=>simp[sliceBounds,HT.sIx]
  |some i=>
   simp only[sliceBounds,HT.sIx,Option.getD_none,show(1:Int) > 0 by decide,if_true]
   by_cases h:i<0
   ·simp only[h,if_true]<;>omega
   ·simp only[h,if_false]<;>omega
theorem m4(its:List Value)(lo hi:Option Int):slicePick its.toArray lo hi none=((its.drop (HT.sIx its.length 0 lo)).take (HT.sIx its.length its.length hi-HT.sIx its.length 0 lo)).toArray:=by
 obtain⟨h1,h2,h3⟩:=p6 lo hi its.toArray.size
 unfold slicePick
 rw[h1,h2,h3]
 simp only[sliceRange_one,pick_run,List.size_toArray]<;>rfl
def DS(K:PySem.W.Frag):V->Option Int->Option Int->Hp->VK->Prop:=fun x lo hi H Q=>∃ a xs,x=.ref a/\SqL K H a xs/\∀ p,H p=none->Q (.ref p) (upd H p (.lst (iq xs lo hi)))
theorem xE:SlR X (DS X.K):=by
 intro pins s σ H x v vl vu lo hi sl Q I rx hs pl pu h
 obtain⟨a,xs,rfl,hx,q⟩:=h
 cases rx
 obtain⟨its,r,ht,hz⟩:=I.list hx
 have hlen:=r.length
 refine⟨"list",_,slot_list_getitem.lookup,ht.isList.typeIs,?_⟩
 refine wpAny_getItem_list_slice ht.isList hs pl pu .none (by simp) ?_ (by rw[List.size_toArray]<;>omega)
 rw[m4,<-hlen]
 refine⟨.ref s.heap.objs.size,_,I.laid (t':=s.toks) (o:=.lst (iq xs lo hi)) (fun b ob q=>Heap.get?_push_of_some _ q) (Nat.le_refl _) ?_,rfl,q _ (I.hok.fresh (Nat.le_refl _))⟩
 exact⟨Nat.le_trans (jv xs lo hi) hz,_,0,(r.drop (HT.sIx xs.length 0 lo)).take (HT.sIx xs.length xs.length hi-HT.sIx xs.length 0 lo),Heap.get?_push_size _ rfl⟩
def eJ:V->Bool
 | .non=>true
 | .bl _=>true
 | .int _=>true
 | .str _=>true
 | _=>false
def eqV:V->V->Bool
 | .non,.non=>true
 | .bl a,.bl b=>a == b
 | .bl a,.int b=>(if a then 1 else 0) == b
 | .int a,.bl b=>a == (if b then 1 else 0)
 | .int a,.int b=>a == b
 | .str a,.str b=>a == b
 | _,_=>false
theorem Am{A:Around}{s:Shared}{y x:V}{u v:Value}(ry:RelV y u)(rx:RelV x v)(fy:eJ y=true)(fx:eJ x=true):SeqAt.EqAt A s u v (eqV y x):=by
 cases y with
 |non=>
  cases ry
  cases x with
  | non=>cases rx;exact SeqAt.EqAt.same _
  | bl b=>cases rx;exact SeqAt.EqAt.none_bool b
  | int b=>obtain⟨t,rfl⟩:=rx;exact SeqAt.EqAt.none_int b t
  | str b=>obtain⟨t,rfl⟩:=rx;exact SeqAt.EqAt.none_str b t
  | _=>exact absurd (show false=true from fx) Bool.false_ne_true
 |bl a=>
  cases ry
  cases x with
  | non=>cases rx;exact SeqAt.EqAt.bool_none a
  | bl b=>cases rx;exact SeqAt.EqAt.bool_bool a b
  | int b=>obtain⟨t,rfl⟩:=rx;exact SeqAt.EqAt.bool_int a b t
  | str b=>obtain⟨t,rfl⟩:=rx;exact SeqAt.EqAt.bool_str a b t
  | _=>exact absurd (show false=true from fx) Bool.false_ne_true
 |int a=>
  obtain⟨t',rfl⟩:=ry
  cases x with
  | non=>cases rx;exact SeqAt.EqAt.int_none a t'
  | bl b=>cases rx;exact SeqAt.EqAt.int_bool a t' b
  | int b=>obtain⟨t,rfl⟩:=rx;exact SeqAt.EqAt.int_int a t' b t
  | str b=>obtain⟨t,rfl⟩:=rx;exact SeqAt.EqAt.int_str a t' b t
  | _=>exact absurd (show false=true from fx) Bool.false_ne_true
 |str a=>
  obtain⟨t',rfl⟩:=ry
  cases x with
  | non=>cases rx;exact SeqAt.EqAt.str_none a t'
  | bl b=>cases rx;exact SeqAt.EqAt.str_bool a t' b
  | int b=>obtain⟨t,rfl⟩:=rx;exact SeqAt.EqAt.str_int a t' b t
  | str b=>obtain⟨t,rfl⟩:=rx;exact SeqAt.EqAt.str_str a t' b t
  | _=>exact absurd (show false=true from fx) Bool.false_ne_true
 | _=>exact absurd (show false=true from fy) Bool.false_ne_true
def eqU(x:V)(u:Value):Bool:=match u with
 | .none=>eqV .non x
 | .bool b=>eqV (.bl b) x
 | .int i _=>eqV (.int i) x
 | .str z _=>eqV (.str z) x
 | _=>false
theorem tV{x y:V}{u:Value}(r:RelV y u)(f:eJ y=true):eqU x u=eqV y x:=by
 cases y with
 | non=>cases r;rfl
 | bl b=>cases r;rfl
 | int i=>obtain⟨t,rfl⟩:=r;rfl
 | str z=>obtain⟨t,rfl⟩:=r;rfl
 | _=>exact absurd (show false=true from f) Bool.false_ne_true
theorem gu{x:V}:∀ {xs:List V} {us:List Value},Vals xs us->xs.all eJ=true->us.any (eqU x)=xs.any fun y=>eqV y x
 | _,_,.nil,_=>rfl
 | y::xs,u::us,.cons r t,f=>by
  rw[List.all_cons,Bool.and_eq_true]at f
  rw[List.any_cons,List.any_cons,tV r f.1,gu t f.2]
theorem fJ{A:Around}{s:Shared}{x:V}{v:Value}(rx:RelV x v)(fx:eJ x=true):∀ {xs:List V} {us:List Value},Vals xs us->xs.all eJ=true->∀ u∈us,SeqAt.EqAt A s u v (eqU x u)
 | _,_,.nil,_=>fun u hu=>by cases hu
 | y::xs,u::us,.cons r t,f=>fun u' hu=>by
  rw[List.all_cons,Bool.and_eq_true]at f
  rcases List.mem_cons.mp hu with rfl | hu
  ·rw[tV r f.1];exact Am r rx f.1 fx
  ·exact fJ rx fx t f.2 u' hu
def inV(x:V)(xs:List V):Bool:=xs.any fun y=>eqV y x
def rIn(K:PySem.W.Frag)(neg:Bool):R2:=fun x y H Q=>∃ p xs,y=.ref p/\(SqL K H p xs\/SqT K H p xs)/\eJ x=true/\xs.all eJ=true/\Q (.bl (if neg then !inV x xs else inV x xs)) H
theorem uO:OpR X (compareOp .In) (rIn X.K false):=by
 intro pins s σ H x y v u Q I rx ry h
 obtain⟨p,xs,rfl,hq,fx,fs,q⟩:=h
 cases ry
 rcases hq with hq | hq
 ·obtain⟨its,r,pl,hz⟩:=I.list hq
  refine SeqAt.in_listAt (eqU x) pl.isList (fun w hw=>fJ rx fx r fs w (by simpa using hw)) ⟨.bl _,H,I,rfl,?_⟩
  rw[show its.toArray.any (eqU x)=its.any (eqU x) by simp,gu r fs]
  exact q
 ·obtain⟨its,r,pl,hz⟩:=I.tuple hq
  refine SeqAt.in_tupleAt (eqU x) pl (fun w hw=>fJ rx fx r fs w (by simpa using hw)) ⟨.bl _,H,I,rfl,?_⟩
  rw[show its.toArray.any (eqU x)=its.any (eqU x) by simp,gu r fs]
  exact q
theorem nD:OpR X (compareOp .NotIn) (rIn X.K true):=by
 intro pins s σ H x y v u Q I rx ry h
 obtain⟨p,xs,rfl,hq,fx,fs,q⟩:=h
 cases ry
 rcases hq with hq | hq
 ·obtain⟨its,r,pl,hz⟩:=I.list hq
  refine SeqAt.notIn_listAt (eqU x) pl.isList (fun w hw=>fJ rx fx r fs w (by simpa using hw)) ⟨.bl _,H,I,rfl,?_⟩
  rw[show its.toArray.any (eqU x)=its.any (eqU x) by simp,gu r fs]
  exact q
 ·obtain⟨its,r,pl,hz⟩:=I.tuple hq
  refine SeqAt.notIn_tupleAt (eqU x) pl (fun w hw=>fJ rx fx r fs w (by simpa using hw)) ⟨.bl _,H,I,rfl,?_⟩
  rw[show its.toArray.any (eqU x)=its.any (eqU x) by simp,gu r fs]
  exact q
theorem bH.or{f:Value}{r r':List V->Hp->VK->Prop}(h:bH X f r)(h':bH X f r'):bH X f (fun xs H Q=>r xs H Q\/r' xs H Q):=by
 intro pins s σ H xs us Q I rs q
 rcases q with q | q
 ·exact h pins s σ H xs us Q I rs q
 ·exact h' pins s σ H xs us Q I rs q
theorem mV:bH X (.type "list") (fun xs H Q=>∃ p ys,xs=[.ref p]/\(SqL X.K H p ys\/SqT X.K H p ys)/\∀ l,H l=none->Q (.ref l) (upd H l (.lst ys))):=by
 intro pins s σ H xs us Q I r h
 obtain⟨p,ys,rfl,hq,q⟩:=h
 obtain⟨u,rfl,rx⟩:=vals1 r
 cases rx
 have fin:∀ (its:List Value),Vals ys its->ys.length<=sizeLine->∀ (h':Heap) (c':Nat),(∀ b o',s.heap.get? b=some o'->h'.get? b=some o') ->
   h'.get? s.heap.objs.size=some { cls:=.type "list",dict:=none,data:=.seq its.toArray c',slots:=#[] }->EP X pins σ Q (.ref s.heap.objs.size) { s with heap:=h' }:=fun its r' hz h' c' kp e =>
  ⟨.ref s.heap.objs.size,_,I.laid (t':=s.toks) kp (Nat.le_refl _) (show bg X.prog X.w _ h' _ (.lst ys)from⟨hz,its,c',r',e⟩),rfl,q _ (I.hok.fresh (Nat.le_refl _))⟩
 rcases hq with hq | hq
 ·obtain⟨its,r',pl,hz⟩:=I.list hq
  have hlen:=r'.length
  obtain⟨o,ho,hc,n,hd⟩:=pl.isList
  exact call_list_seq p (.inl rfl) ho hc hd (fun h' c' kp e=>fin its r' hz h' c' kp e) (by simp only[List.size_toArray]<;>omega)
 ·obtain⟨its,r',pl,hz⟩:=I.tuple hq
  have hlen:=r'.length
  obtain⟨o,ho,hc,n,hd⟩:=pl
  exact call_list_seq p (.inr rfl) ho hc hd (fun h' c' kp e=>fin its r' hz h' c' kp e) (by simp only[List.size_toArray]<;>omega)
theorem mz:bH X (.type "tuple") (fun xs H Q=>∃ p ys,xs=[.ref p]/\((SqL X.K H p ys/\∀ l,H l=none->Q (.ref l) (upd H l (.tup ys)))\/(SqT X.K H p ys/\Q (.ref p) H))):=by
 intro pins s σ H xs us Q I r h
 obtain⟨p,ys,rfl,h⟩:=h
 obtain⟨u,rfl,rx⟩:=vals1 r
 cases rx
 rcases h with⟨hq,q⟩ | ⟨hq,q⟩
 ·obtain⟨its,r',pl,hz⟩:=I.list hq
  have hlen:=r'.length
  refine call_tuple_list pl.isList (fun h' kp=>?_) (by simp only[List.size_toArray]<;>omega)
  have I1:Inv X pins σ H { s with heap:=h' }:=I.kept (t':=s.toks) kp
  have I2:Inv X pins σ (upd H h'.objs.size (.tup ys)) { s with heap:=h'.push { cls:=.type "tuple",data:=.seq its.toArray } } :=
   I1.laid (t':=s.toks) (fun b o e=>Heap.get?_push_of_some _ e) (Nat.le_refl _) (show bg X.prog X.w _ _ _ (.tup ys)from⟨hz,its,r',IsTup.new _ _⟩)
  exact⟨.ref h'.objs.size,_,I2,rfl,q _ (I1.hok.fresh (Nat.le_refl _))⟩
 ·obtain⟨its,r',pl,hz⟩:=I.tuple hq
  exact call_tuple_same pl ⟨.ref p,H,I,rfl,q⟩
def tyV(K:PySem.W.Frag)(T:String)(x:V)(H:Hp):Prop:=match x with
 | .str _=>T = "str"
 | .int _=>T = "int"
 | .ref p=>(T = "list" /\ ∃ xs,SqL K H p xs)\/(T = "tuple" /\ ∃ o,K.lookup p=some o/\o.cls=.type "tuple" /\ o.dict=none) \/
   (T = "dict" /\ ((∃ kvs,H p=some (.dK kvs))\/∃ kvs,H p=some (.dT kvs)))\/(T = "set" /\ ∃ S n,H p=some (.set S n))
 | _=>False
theorem uU{pins:List (Addr × Obj)}{σ:St}{H:Hp}{s:Shared}{T:String}{x:V}{v:Value}(I:Inv X pins σ H s)(r:RelV x v)(ty:tyV X.K T x H) :
  s.TypeIs v T/\∀ a,v=.ref a->∃ ob,s.heap.get? a=some ob/\ob.dict=none:=by
 cases x with
 |str z=>
  obtain⟨t,rfl⟩:=r
  cases(show T = "str" from ty)
  exact⟨typeIs_str s z t,fun _ e=>nomatch e⟩
 |int i=>
  obtain⟨t,rfl⟩:=r
  cases(show T = "int" from ty)
  exact⟨typeIs_int s i t,fun _ e=>nomatch e⟩
 |ref p=>
  cases r
  rcases ty with⟨rfl,xs,hq⟩ | ⟨rfl,o,hk,hc,hd⟩ | ⟨rfl,hk⟩ | ⟨rfl,S,n,hk⟩
  ·obtain⟨its,_,pl,_⟩:=I.list hq
   refine⟨pl.isList.typeIs,fun a e=>?_⟩
   cases e
   obtain⟨o,n,e,c,hd,_⟩:=pl
   exact⟨o,e,hd⟩
  ·refine⟨⟨o,I.kIn p o hk,hc⟩,fun a e=>?_⟩
   cases e
   exact⟨o,I.kIn _ o hk,hd⟩
  ·have z:∃ o,s.heap.get? p=some o/\o.ExactDict:=by
    rcases hk with⟨kvs,hk⟩ | ⟨kvs,hk⟩
    ·obtain⟨_,_,_,_,o,_,_,e,ex,_⟩:=I.hok p _ hk
     exact⟨o,e,ex⟩
    ·obtain⟨_,_,_,_,o,_,_,e,ex,_⟩:=I.hok p _ hk
     exact⟨o,e,ex⟩
   obtain⟨o,e,ex⟩:=z
   refine⟨⟨o,e,ex.1⟩,fun a e2=>?_⟩
   cases e2
   exact⟨o,e,ex.2.1⟩
  ·obtain⟨o,_,_,_,e,ex,_⟩:=I.hok p _ hk
   refine⟨⟨o,e,ex.1⟩,fun a e2=>?_⟩
   cases e2
   exact⟨o,e,ex.2.1⟩
 | _=>exact False.elim ty
def zU(K:PySem.W.Frag)(T:String)(r:V->List V->Hp->VK->Prop)(to:TE):TE:=fun σ H Q=>to σ H fun x H1=>tyV K T x H1/\r x [] H1 Q
def tBM(K:PySem.W.Frag)(T:String)(r:V->List V->Hp->VK->Prop)(to:TE)(t:TA):TE:=fun σ H Q=>to σ H fun x H1=>tyV K T x H1/\t σ H1 fun xs H2=>r x xs H2 Q
variable{o e:Expr}{es:List Expr}{to:TE}{t:TA}{name:Str}{apos cpos:Pos}{T id:String}{r:V->List V->Hp->VK->Prop}
theorem BC(pa:PlainAttrs T)(slot:Slot T name id)(hty:typeOf (.builtin id)=pure (.type "method_descriptor"))(hm:MtR X id r)(ho:PE X o to)
 (hbase:attributeBase o name X.env (eval o X.env)=eval o X.env:=by rfl)(hline:(apos.endLine == cpos.line)=true:=by rfl):PE X (.Call (.Attribute o name apos) [] [] cpos) (zU X.K T r to):=by
 intro pins s σ H Q I h
 refine wpAny_Call_method0_late hbase hline (thn (ho pins s σ H _ I h) fun v s1 ⟨x,H1,I1,r1,ty,q1⟩=>?_)
 obtain⟨h1,h2⟩:=uU I1 r1 ty
 exact⟨T,id,pa,slot,hty,h1,h2,Calls.callWith_builtin rfl (PySem.evalArgs_none (hm pins s1 σ H1 x [] v [] Q I1 r1 .nil q1))⟩
theorem wX(pa:PlainAttrs T)(slot:Slot T name id)(hty:typeOf (.builtin id)=pure (.type "method_descriptor"))(hm:MtR X id r)(ho:PE X o to)(ha:PA X (e::es) t)
 (hbase:attributeBase o name X.env (eval o X.env)=eval o X.env:=by rfl)
 (hfew:((backTo cpos (starEach (e::es) X.env)).all (fun x=>!x.1)&&(backToKw cpos (keywordEach [] X.env)).all (fun x=>x.1.isSome)
   && decide ((e::es).length+([]:List Keyword).length+(if([]:List Keyword).isEmpty then 0 else 1)<30))=true:=by rfl)
 (hline:(apos.endLine == cpos.line)=true:=by rfl)(hs:starEach (e::es) X.env=(false,eval e X.env)::starEach es X.env:=by rfl)(hplain:(backTo cpos (starEach es X.env)).any (·.1)=false:=by rfl) :
  PE X (.Call (.Attribute o name apos) (e::es) [] cpos) (tBM X.K T r to t):=by
 intro pins s σ H Q I h
 refine wpAny_Call_method_late hbase hfew hline rfl (thn (ho pins s σ H _ I h) fun v s1 ⟨x,H1,I1,r1,ty,q1⟩=>?_)
 obtain⟨h1,h2⟩:=uU I1 r1 ty
 refine⟨T,id,pa,slot,hty,h1,h2,?_⟩
 have hA:=ha cpos pins s1 σ H1 _ I1 q1
 rw[hs]at hA ⊢
 refine Calls.callWith_builtin (by show(false || (backTo cpos (starEach es X.env)).any (·.1))=false;rw[hplain]<;>rfl) (Calls.evalArgs_plain ?_)
 exact thn hA fun us s2 ⟨vs,H2,I2,r2,q2⟩=>hm pins s2 σ H2 x vs v us Q I2 r1 r2 q2
end
def MtM(X:Cx)(id:String)(r:V->List V->Hp->VK->Prop):Prop :=
 ∀ (pins:List (Addr × Obj)) (s:Shared) (σ:St) (H:Hp) (x:V) (xs:List V) (v:Value) (us:List Value) (Q:VK),Inv X pins σ H s->RelV x v->Vals xs us->r x xs H Q ->
  wpAny (model X.prog X.w) X.A (call (.builtin id) (v::us)) (EP X pins σ Q) X.xe s
theorem Vals.one:∀ {x:V} {us:List Value},Vals [x] us->∃ u,us=[u]/\RelV x u
 | _,_,.cons r .nil=>⟨_,rfl,r⟩
theorem Vals.zero:∀ {us:List Value},Vals [] us->us=[]
 | _,.nil=>rfl
theorem Vals.dropLast{xs:List V}{us:List Value}(h:Vals xs us):Vals xs.dropLast us.dropLast:=by
 induction h with
 | nil=>exact .nil
 |cons r t ih=>
  cases t with
  | nil=>exact .nil
  | cons q t'=>exact .cons r ih
theorem Vals.rep{xs:List V}{us:List Value}(h:Vals xs us):∀ k:Nat,Vals (List.replicate k xs).flatten (List.replicate k us).flatten
 | 0=>.nil
 | k+1=>by
  rw[List.replicate_succ,List.replicate_succ,List.flatten_cons,List.flatten_cons]
  exact Vals.append h (Vals.rep h k)
theorem qR{α:Type}(l:List α):l.eraseIdx (l.length-1)=l.dropLast:=by
 induction l with
 | nil=>rfl
 |cons a r ih=>
  cases r with
  | nil=>rfl
  |cons b r=>
   have e:(a::b::r).length-1=((b::r).length-1)+1:=by
    have h1:(a::b::r).length=r.length+2:=rfl
    have h2:(b::r).length=r.length+1:=rfl
    omega
   rw[e,List.eraseIdx_cons_succ,ih]
   all_goals rfl
theorem foldl_rep(its:List Value):∀ (k:Nat) (acc:List Value),
  List.foldl (fun x1 x2=>x1++x2) acc.toArray (List.replicate k its.toArray)=(acc++(List.replicate k its).flatten).toArray
 | 0,acc=>by simp
 | k+1,acc=>by
  have e:acc.toArray++its.toArray=(acc++its).toArray:=by simp
  have e2:(acc++its)++(List.replicate k its).flatten=acc++(List.replicate (k+1) its).flatten:=by
   rw[List.replicate_succ,List.flatten_cons,List.append_assoc]
  rw[<-e2,<-foldl_rep its k (acc++its),<-e,List.replicate_succ,List.foldl_cons]
section
variable{X:Cx}{pins:List (Addr × Obj)}{σ:St}{H:Hp}{s:Shared}{l b:Addr}{xs ys zs:List V}
theorem Inv.AI{its its':List Value}{n:Nat}{f:Array Value->Array Value}{t':Nat}(I:Inv X pins σ H s)(hH:H l=some (.lst xs))
 (e:s.heap.get? l=some { cls:=.type "list",data:=.seq its.toArray n })(hf:f its.toArray=its'.toArray)(hv:Vals ys its')(hz:ys.length<=sizeLine) :
  Inv X pins σ (upd H l (.lst ys)) { s with heap:=s.heap.update l (Obj.mapSeq f),toks:=t' }:=by
 have q:=PySem.IsL.update e f
 rw[hf]at q
 refine I.write (x:=l) (e:=l) (by rw[hH];exact trivial) (.inl rfl) (fun b' u hb hu=>(Heap.get?_update_other s.heap (Obj.mapSeq f) (Ne.symm hb)).trans hu) ⟨_,q⟩ ?_
 exact⟨hz,its',_,hv,q⟩
theorem Inv.Bv{its:List Value}{t':Nat}(I:Inv X pins σ H s)(hv:Vals ys its)(hz:ys.length<=sizeLine) :
  Inv X pins σ (upd H s.heap.objs.size (.lst ys)) { s with heap:=s.heap.push { cls:=.type "list",data:=.seq its.toArray },toks:=t' } :=
 I.laid (fun _ _ q=>Heap.get?_push_of_some _ q) (Nat.le_refl _) ⟨hz,its,0,hv,Heap.get?_push_size _ rfl⟩
theorem Inv.fresh(I:Inv X pins σ H s):H s.heap.objs.size=none:=I.hok.fresh (Nat.le_refl _)
theorem Inv.nE(I:Inv X pins σ H s)(hH:H l=some (.lst xs)):xs.length<=sizeLine/\∃ (its:List Value) (n:Nat),Vals xs its/\xs.length=its.length/\s.heap.get? l=some { cls:=.type "list",data:=.seq its.toArray n }:=by
 obtain⟨z,its,n,r,e⟩:=I.hok l _ hH
 exact⟨z,its,n,r,r.length,e⟩
theorem vR{n:Nat}(h:n<=sizeLine):Builtin.List.listTooLong n=false:=by
 unfold Builtin.List.listTooLong
 exact decide_eq_false (by omega)
end
section
variable{X:Cx}
def pW:V->List V->Hp->VK->Prop:=fun x vs H Q=>∃ l xs y,x=.ref l/\vs=[y]/\H l=some (.lst xs)/\xs.length<sizeLine/\Q .non (upd H l (.lst (xs++[y])))
theorem l9:MtM X "list.append" pW:=by
 intro pins s σ H x vs v us Q I rx rv h
 obtain⟨l,xs,y,rfl,rfl,hH,hz,q⟩:=h
 cases rx
 obtain⟨u,rfl,ru⟩:=rv.one
 obtain⟨z,its,n,r,hl,e⟩:=I.nE hH
 refine call_meets F.slot_list_append ⟨_,e,rfl⟩ F.entry_list_append (F.args_list_append_2 _ _) (PySem.list_append l its.toArray n u (by rw[List.size_toArray];omega)) ⟨e,?_⟩
 refine⟨.non,_,I.AI (its':=its++[u]) hH e (by simp) (r.append (.cons ru .nil)) ?_,rfl,q⟩
 rw[List.length_append,List.length_singleton]
 omega
def Bb:V->List V->Hp->VK->Prop:=fun x vs H Q=>∃ l xs y,x=.ref l/\vs=[]/\H l=some (.lst xs)/\xs[xs.length-1]?=some y/\Q y (upd H l (.lst xs.dropLast))
theorem AG:MtM X "list.pop" Bb:=by
 intro pins s σ H x vs v us Q I rx rv h
 obtain⟨l,xs,y,rfl,rfl,hH,hy,q⟩:=h
 cases rx
 have hus:=rv.zero
 subst hus
 obtain⟨z,its,n,r,hl,e⟩:=I.nE hH
 obtain⟨u,hu,ru⟩:=r.get hy
 have hy':its.toArray[its.toArray.size-1]?=some u:=by
  show its.toArray[its.length-1]?=some u
  rw[<-Array.getElem?_toList,<-hl]
  exact hu
 refine call_meets F.slot_list_pop ⟨_,e,rfl⟩ F.entry_list_pop (F.args_list_pop_1 _) (MeetsSeq.list_pop_last l its.toArray n u hy' (by rw[List.size_toArray];omega)) ⟨e,?_⟩
 refine⟨y,_,I.AI (its':=its.dropLast) hH e ?_ r.dropLast ?_,ru,q⟩
 ·show its.toArray.eraseIdxIfInBounds (its.toArray.size-1)=its.dropLast.toArray
  rw[List.size_toArray,List.eraseIdxIfInBounds_toArray,qR]
 ·rw[List.length_dropLast]
  omega
def DK:R2:=fun x y H Q=>∃ l b xs zs,x=.ref l/\y=.ref b/\H l=some (.lst xs)/\H b=some (.lst zs)/\xs.length+zs.length<=sizeLine/\∀ p,H p=none->Q (.ref p) (upd H p (.lst (xs++zs)))
theorem BV:OpR X (binaryOp .Add) DK:=by
 intro pins s σ H x y v u Q I rx ry h
 obtain⟨l,b,xs,zs,rfl,rfl,hH,hB,hz,q⟩:=h
 cases rx
 cases ry
 obtain⟨z,its,n,r,hl,e⟩:=I.nE hH
 obtain⟨z2,its2,n2,r2,hl2,e2⟩:=I.nE hB
 refine PySem.P.add_list e e2 ?_ (by rw[List.size_toArray,List.size_toArray];omega)
 have ea:its.toArray++its2.toArray=(its++its2).toArray:=by simp
 rw[ea]
 exact⟨.ref _,_,I.Bv (t':=s.toks) (r.append r2) (by rw[List.length_append];omega),rfl,q _ I.fresh⟩
def DM:R2:=fun x y H Q=>∃ l k xs,x=.ref l/\y=.int k/\H l=some (.lst xs)/\-(2 ^ 63)<=k/\k<2 ^ 63/\xs.length*k.toNat<=sizeLine /\
 ∀ p,H p=none->Q (.ref p) (upd H p (.lst (List.replicate k.toNat xs).flatten))
theorem len_rep{α:Type}(xs:List α)(k:Nat):(List.replicate k xs).flatten.length=k*xs.length:=by
 induction k with
 | zero=>simp
 | succ k ih=>rw[List.replicate_succ,List.flatten_cons,List.length_append,ih,Nat.succ_mul,Nat.add_comm]
theorem Be:OpR X (binaryOp .Mult) DM:=by
 intro pins s σ H x y v u Q I rx ry h
 obtain⟨l,k,xs,rfl,rfl,hH,h1,h2,hz,q⟩:=h
 cases rx
 obtain⟨t,rfl⟩:=ry
 obtain⟨z,its,n,r,hl,e⟩:=I.nE hH
 have hlen:its.toArray.size*k.toNat<=sizeLine:=by rw[List.size_toArray,<-hl];exact hz
 have hcap:¬ its.toArray.size*k.toNat > (2 ^ 63-1) / 8:=by
  have:(sizeLine:Nat)<=(2 ^ 63-1) / 8:=by decide
  omega
 have hfit:¬ (!Builtin.List.listFitsIndex k)=true:=by
  rw[fitsIndex_both h1 h2]
  exact Bool.false_ne_true
 have hlong:¬ Builtin.List.listTooLong (its.toArray.size*k.toNat)=true:=by
  rw[vR hlen]
  exact Bool.false_ne_true
 have hnew:List.foldl (fun x1 x2=>x1++x2) #[] (List.replicate (if its.toArray.isEmpty=true then 0 else k.toNat) its.toArray)=(List.replicate k.toNat its).flatten.toArray:=by
  have f0:∀ m:Nat,List.foldl (fun x1 x2=>x1++x2) #[] (List.replicate m its.toArray)=(List.replicate m its).flatten.toArray:=fun m=>by
   have:=foldl_rep its m []
   rw[List.nil_append]at this
   exact this
  rw[f0]
  cases its with
  | nil=>simp
  | cons a r'=>rw[if_neg (by simp)]
 refine wpAny_binaryOp_repeat_ref (T := "list") (U := "int") (by decide) ⟨_,e,rfl⟩ (fun s'=>typeIs_int s' k t) noFill_list_mul F.fills_int_mul F.slot_int_rmul repeat_list F.slot_int_index.lookup
  (call_meets F.slot_int_rmul (typeIs_int s k t) F.entry_int_rmul (F.args_int_rmul_2 _ _) (int___rmul___int_list k t l its.toArray n)
   ⟨e,rfl,⟨_,e,rfl⟩,call_meets F.slot_list_mul ⟨_,e,rfl⟩ F.entry_list_mul (F.args_list_mul_2 _ _) (AutoListH.list___mul___list_int_3 l its.toArray n k t hfit hcap hlong) ⟨e,?_⟩⟩)
 rw[hnew]
 exact⟨.ref _,_,I.Bv (t':=s.toks) (r.rep k.toNat) (by rw[len_rep,Nat.mul_comm];exact hz),rfl,q _ I.fresh⟩
end
section
variable{prog:Program}{w:World}{A:Around}{E:Value->Shared->Prop}{s:Shared}
set_option maxRecDepth 100000 in
end
section
variable{X:Cx}
end
section
variable{κ:Type} [DecidableEq κ]
def jN(kvs:List (κ × V))(k:κ):Option V:=(kvs.find? fun kv=>decide (kv.1=k)).map (·.2)
def putK(kvs:List (κ × V))(k:κ)(v:V):List (κ × V) :=
 if(kvs.any fun kv=>decide (kv.1=k))=true then kvs.map (fun kv=>if kv.1=k then(kv.1,v)else kv)else kvs++[(k,v)]
theorem oQ{p:κ × V}{r:List (κ × V)}{k:κ}(e:p.1=k):jN (p::r) k=some p.2:=by simp[jN,List.find?_cons,e]
theorem oF{p:κ × V}{r:List (κ × V)}{k:κ}(e:¬ p.1=k):jN (p::r) k=jN r k:=by simp[jN,List.find?_cons,e]
theorem mP(k:κ):∀ kvs:List (κ × V),(kvs.any fun kv=>decide (kv.1=k))=(jN kvs k).isSome
 | []=>rfl
 | p::r=>by
  rw[List.any_cons]
  by_cases e:p.1=k
  ·simp only[oQ e,decide_eq_true e,Bool.true_or,Option.isSome_some]
  ·rw[oF e,decide_eq_false e,Bool.false_or];exact mP k r
theorem jr(kvs:List (κ × V))(k:κ)(v:V):(putK kvs k v).length<=kvs.length+1:=by
 unfold putK
 split
 ·rw[List.length_map];omega
 ·rw[List.length_append,List.length_cons,List.length_nil];omega
theorem kN.sD{o:Option V}{u:Option Value}(r:kN o u):o.isSome=u.isSome:=by
 cases o with
 | none=>cases u with
  | none=>rfl
  | some _=>exact(show False from r).elim
 | some _=>cases u with
  | none=>exact(show False from r).elim
  | some _=>rfl
theorem KV.any{kvs:List (κ × V)}{vs:List (κ × Value)}(r:KV kvs vs)(k:κ):(kvs.any fun kv=>decide (kv.1=k))=vs.any fun kv=>decide (kv.1=k):=by
 unfold KV at r
 induction r with
 | nil=>rfl
 | cons h t ih=>rw[List.any_cons,List.any_cons,ih,h.1]
theorem KV.vA{kvs:List (κ × V)}{vs:List (κ × Value)}(r:KV kvs vs)(k:κ){y:V}{u:Value}(ry:RelV y u) :
  KV (kvs.map fun kv=>if kv.1=k then(kv.1,y)else kv) (vs.map fun kv=>if kv.1=k then(kv.1,u)else kv):=by
 unfold KV at r ⊢
 induction r with
 | nil=>exact .nil
 |@cons p q ps qs h t ih=>
  rw[List.map_cons,List.map_cons]
  refine .cons ?_ ih
  obtain⟨h1,h2⟩:=h
  by_cases e:p.1=k
  ·rw[if_pos e,if_pos (h1.symm.trans e)];exact⟨h1,ry⟩
  ·rw[if_neg e,if_neg (fun z=>e (h1.trans z))];exact⟨h1,h2⟩
theorem KV.put{kvs:List (κ × V)}{vs:List (κ × Value)}(r:KV kvs vs)(k:κ){y:V}{u:Value}(ry:RelV y u):KV (putK kvs k y) (stored vs k u):=by
 unfold putK stored
 rw[r.any k]
 by_cases e:(vs.any fun kv=>decide (kv.1=k))=true
 ·rw[if_pos e,if_pos e];exact r.vA k ry
 ·rw[if_neg e,if_neg e];exact Paired.snoc r ⟨rfl,ry⟩
theorem KV.length{kvs:List (κ × V)}{vs:List (κ × Value)}(r:KV kvs vs):kvs.length=vs.length:=Paired.length r
end
theorem xy{P:Program}{w:World}{k:Key}{u:Value}(r:RelV (kV k) u):(bN P w).is k u=true:=by
 cases k with
 | inl i=>obtain⟨t,e⟩:=(show ∃ t,u=Value.int i t from r);subst e;exact pF P w i t
 | inr x=>obtain⟨t,e⟩:=(show ∃ t,u=Value.str x t from r);subst e;exact pJ P w x t
theorem lH{P:Program}{w:World}:∀ {ks:List Key} {us:List Value},Vals (ks.map kV) us->ItemsAre (bN P w) ks us
 | [],_,r=>by rw[List.map_nil]at r;cases r;exact .nil
 | k::ks,_,r=>by
  rw[List.map_cons]at r
  cases r with
  | cons h t=>exact .cons (xy h) (lH t)
abbrev KT(H:Hp):List (List Key × V)->List (List Key × Addr × Value)->Prop:=Paired fun p q=>p.1=q.1/\H q.2.1=some (.tup (p.1.map kV))/\RelV p.2 q.2.2
theorem KT.val{H:Hp}{kvs:List (List Key × V)}{xs:List (List Key × Addr × Value)}(r:KT H kvs xs)(k:List Key):kN (jN kvs k) ((atKey xs k).map (·.2)):=by
 induction r with
 | nil=>exact True.intro
 |@cons p q ps qs h t ih=>
  obtain⟨h1,_,h2⟩:=h
  by_cases e:p.1=k
  ·have e':q.1=k:=h1.symm.trans e
   have b:atKey (q::qs) k=some q.2:=by simp[atKey,List.find?_cons,e']
   rw[oQ e,b];exact h2
  ·have e':¬ q.1=k:=fun z=>e (h1.trans z)
   have b:atKey (q::qs) k=atKey qs k:=by simp[atKey,List.find?_cons,e']
   rw[oF e,b];exact ih
theorem KT.vA{H:Hp}{kvs:List (List Key × V)}{xs:List (List Key × Addr × Value)}(r:KT H kvs xs)(k:List Key){y:V}{u:Value}(ry:RelV y u) :
  KT H (kvs.map fun kv=>if kv.1=k then(kv.1,y)else kv) (xs.map (putAt k u)):=by
 induction r with
 | nil=>exact .nil
 |@cons p q ps qs h t ih=>
  rw[List.map_cons,List.map_cons]
  refine .cons ?_ ih
  obtain⟨h1,h2,h3⟩:=h
  unfold putAt
  by_cases e:p.1=k
  ·rw[if_pos e,if_pos (h1.symm.trans e)];exact⟨h1,h2,ry⟩
  ·rw[if_neg e,if_neg (fun z=>e (h1.trans z))];exact⟨h1,h2,h3⟩
theorem KT.put{H:Hp}{kvs:List (List Key × V)}{xs:List (List Key × Addr × Value)}(r:KT H kvs xs)(k:List Key){b:Addr}{y:V}{u:Value}(hb:H b=some (.tup (k.map kV)))(ry:RelV y u) :
  KT H (putK kvs k y) (storedH xs k b u):=by
 have e:(kvs.any fun kv=>decide (kv.1=k))=(atKey xs k).isSome:=by
  rw[mP,(r.val k).sD,Option.isSome_map]
 unfold putK storedH
 rw[e]
 by_cases q:(atKey xs k).isSome=true
 ·rw[if_pos q,if_pos q];exact r.vA k ry
 ·rw[if_neg q,if_neg q];exact Paired.snoc r ⟨rfl,hb,ry⟩
theorem KT.keeps{H H':Hp}{kvs:List (List Key × V)}{xs:List (List Key × Addr × Value)}(r:KT H kvs xs)(ht:∀ b ys,H b=some (.tup ys)->H' b=some (.tup ys)):KT H' kvs xs :=
 Paired.v8 r fun _ _ z=>⟨z.1,ht _ _ z.2.1,z.2.2⟩
section
variable{P:Program}{w:World}{H:Hp}{h:Heap}{a:Addr}
theorem xk{u:HO}(ok:HOk P w H h)(e:Rd H a u):bg P w H h a u:=e.ok ok
theorem xb{kvs:List (Key × V)}(ok:HOk P w H h)(e:Rd H a (.dK kvs)):kvs.length<=sizeLine/\(a == sysModules)=false/\∃ vs,KV kvs vs/\h.DictOf (bN P w) a vs :=
 show bg P w H h a (.dK kvs)from xk ok e
theorem CV{kvs:List (Key × V)}(ok:HOk P w H h)(e:H a=some (.dK kvs)):kvs.length<=sizeLine/\(a == sysModules)=false/\∃ vs,KV kvs vs/\h.DictOf (bN P w) a vs:=xb ok (.inl e)
theorem vb{ks:List Key}(ok:HOk P w H h)(e:H a=some (.tup (ks.map kV))):(tupleKind (bN P w)).is h ks a:=by
 obtain⟨_,its,r,o,h1,h2,n,h3⟩:=(show bg P w H h a (.tup (ks.map kV))from ok a _ e)
 exact⟨o,its.toArray,n,h1,h2,h3,by simpa using lH r⟩
theorem C4{kvs:List (List Key × V)}(ok:HOk P w H h)(e:Rd H a (.dT kvs)):kvs.length<=sizeLine/\(a == sysModules)=false /\
  ∃ xs,KT H kvs xs/\h.DictOfH (tupleKind (bN P w)) a xs:=by
 obtain⟨z,y,xs,r,o,es,ep,h1,h2,h3,h4,h5⟩:=(show bg P w H h a (.dT kvs)from xk ok e)
 refine⟨z,y,xs,r,o,es,ep,h1,h2,h3,h4,fun x hx=>?_,h5⟩
 have all:∀ {l:List (List Key × V)} {m:List (List Key × Addr × Value)},KT H l m->∀ x∈m,(tupleKind (bN P w)).is h x.1 x.2.1:=by
  intro l m q
  induction q with
  | nil=>intro x hx;exact nomatch hx
  |@cons p q ps qs hq t ih=>
   intro x hx
   rcases List.mem_cons.mp hx with e | hx
   ·subst e
    exact vb ok (by rw[<-hq.1];exact hq.2.1)
   ·exact ih x hx
 exact all r x hx
theorem xf{kvs:List (List Key × V)}(ok:HOk P w H h)(e:H a=some (.dT kvs)):kvs.length<=sizeLine/\(a == sysModules)=false /\
  ∃ xs,KT H kvs xs/\h.DictOfH (tupleKind (bN P w)) a xs:=C4 ok (.inl e)
end
def iN(H:Hp)(a:Addr)(y v:V)(H':Hp):Prop :=
 (∃ kvs k,H a=some (.dK kvs)/\y=kV k/\kvs.length<sizeLine/\H'=upd H a (.dK (putK kvs k v))) \/
 ∃ kvs k b,H a=some (.dT kvs)/\y=.ref b/\H b=some (.tup (k.map kV))/\kvs.length<sizeLine/\H'=upd H a (.dT (putK kvs k v))
theorem iN.k{H:Hp}{a:Addr}{kvs:List (Key × V)}{k:Key}{v:V}(e:H a=some (.dK kvs))(hl:kvs.length<sizeLine):iN H a (kV k) v (upd H a (.dK (putK kvs k v))):=.inl ⟨kvs,k,e,rfl,hl,rfl⟩
theorem iN.t{H:Hp}{a b:Addr}{kvs:List (List Key × V)}{k:List Key}{v:V}(e:H a=some (.dT kvs))(eb:H b=some (.tup (k.map kV)))(hl:kvs.length<sizeLine) :
  iN H a (.ref b) v (upd H a (.dT (putK kvs k v))):=.inr ⟨kvs,k,b,e,rfl,eb,hl,rfl⟩
section
variable{X:Cx}{pins:List (Addr × Obj)}{σ:St}{H:Hp}{s:Shared}{a:Addr}{y v:V}{u r:Value}{o:Option V}{A:Around}{E:Value->Shared->Prop}
theorem qM{h':Heap}{t':Nat}{ob:HO}(I:Inv X pins σ H s)(mu:Mut (H a))(hs:Heap.SameBut a s.heap h')(he:∃ q,h'.get? a=some q)(new:bg X.prog X.w (upd H a ob) h' a ob) :
  Inv X pins σ (upd H a ob) { s with heap:=h',toks:=t' } :=
 I.write (x:=a) (e:=a) mu (.inl rfl) (fun b q hb z=>(hs.2 b hb).trans z) he new
theorem zJ{P:Program}{w:World}{H':Hp}{h':Heap}{kvs:List (Key × V)}{vs:List (Key × Value)}(z:kvs.length<=sizeLine)(hd:(a == sysModules)=false)(rel:KV kvs vs)(dd:h'.DictOf (bN P w) a vs) :
  bg P w H' h' a (.dK kvs):=⟨z,hd,vs,rel,dd⟩
theorem uG{H':Hp}{Q:Unit->Shared->Prop}(hu:A.units+1<cLine)(I:Inv X pins σ H s)(g:iN H a y v H')(ry:RelV y u)(rv:RelV v r)(h:∀ s',Inv X pins σ H' s'->Q () s') :
  wpAny (model X.prog X.w) A (setItem (.ref a) u r) Q E s:=by
 rcases g with⟨kvs,k,e,ey,l,eH⟩ | ⟨kvs,k,b,e,ey,eb,l,eH⟩
 ·subst ey eH
  obtain⟨z,hd,vs,rel,dd⟩:=CV I.hok e
  have hz:vs.length<=sizeLine:=by rw[<-rel.length];exact z
  have hl:(putK kvs k v).length<=sizeLine:=by have:=jr kvs k v;omega
  refine wpAny_setItem_pairs (hsz:=hz) (xy ry) dd fun h' dd' hs=>h _ ?_
  have he:∃ q,h'.get? a=some q:=let ⟨q,_,_,hq,_⟩:=dd';⟨q,hq⟩
  exact qM I (by rw[e];exact True.intro) hs he (zJ hl hd (rel.put k rv) dd')
 ·subst ey eH
  cases(show u=Value.ref b from ry)
  obtain⟨z,hd,xs,rel,dd⟩:=xf I.hok e
  have hz:xs.length<=sizeLine:=by rw[<-Paired.length rel];exact z
  have hl:(putK kvs k v).length<=sizeLine:=by have:=jr kvs k v;omega
  refine wpAny_setItem_heap (hsz:=hz) (tupleKind_room_in1 hu) (vb I.hok eb) dd fun h' dd' hs=>h _ ?_
  obtain⟨q,es,ep,hq,h2,h3,h4,_,h5⟩:=dd'
  refine qM I (by rw[e];exact True.intro) hs ⟨q,hq⟩ ⟨hl,hd,_,(rel.put k eb rv).keeps fun c ys ec=>?_,q,es,ep,hq,h2,h3,h4,h5⟩
  rw[aF (mE ec e (fun z=>nomatch z))]
  exact ec
end
section
variable{X:Cx}{pins:List (Addr × Obj)}{σ:St}{H:Hp}{s:Shared}{a:Addr}{kvs:List (Key × V)}{k:Key}{u:Value}{A:Around}{E:Value->Shared->Prop}
theorem CJ{Q:Value->Shared->Prop}(I:Inv X pins σ H s)(e:Rd H a (.dK kvs))(h:∀ t s',Inv X pins σ H s'->Q (.int kvs.length t) s'):wpAny (model X.prog X.w) A (call (.builtin "len") [.ref a]) Q E s:=by
 obtain⟨z,hd,vs,rel,dd⟩:=xb I.hok e
 refine call_len_dict hd dd (by rw[<-rel.length];rw[sizeLine_eq]at z;omega) ?_
 rw[<-rel.length]
 exact h _ _ (I.tok _)
end
def rj(td ty tv:TE):TS:=fun D σ H=>tv σ H fun v H1=>td σ H1 fun x H2=>ty σ H2 fun y H3=>∃ a H4,x=.ref a/\iN H3 a y v H4/\D.nx σ H4
section
variable{X:Cx}{o i e value:Expr}{pos pos' tpos:Pos}{td ty tv:TE}
theorem xU(hu:X.A.units+1<cLine)(ho:PE X o td)(hi:PE X i ty)(hv:PE X value tv)(hs:swapsWith value (some (.Subscript o i pos')) pos.line X.env=pure false) :
  PS X (.Assign [.Subscript o i pos'] value pos) (rj td ty tv):=by
 intro pins s σ H D I h
 refine wpAny_Assign_Subscript (thn (hv pins s σ H _ I h) fun r s1 ⟨v,H1,I1,rv,q1⟩=>thn (ho pins s1 σ H1 _ I1 q1) fun u s2 ⟨x,H2,I2,rx,q2⟩=>thn (hi pins s2 σ H2 _ I2 q2) fun iv s3 ⟨y,H3,I3,ry,a,H4,ex,g,q3⟩=>?_) hs
 subst ex
 obtain rfl:u=Value.ref a:=rx
 exact uG hu I3 g ry rv fun s4 I4=>⟨σ,H4,I4,q3⟩
end
section
variable{X:Cx}{pos:Pos}
end
section
variable{X:Cx}{pins:List (Addr × Obj)}{σ:St}{H:Hp}{s:Shared}{a:Addr}{y d:V}{u r:Value}{o:Option V}{A:Around}{E:Value->Shared->Prop}
end
section
variable{X:Cx}{o e f:Expr}{apos cpos:Pos}{td ty tx:TE}
end
section
variable{X:Cx}{pins:List (Addr × Obj)}{σ:St}{H:Hp}{s:Shared}{a:Addr}{kvs:List (Key × V)}{A:Around}{E:Value->Shared->Prop}
end
section
variable{X:Cx}{pins:List (Addr × Obj)}{σ:St}{H:Hp}{s:Shared}{a:Addr}{y:V}{u:Value}{A:Around}{E:Value->Shared->Prop}
end
end L2
namespace Att
open PySem PySem.W PySem.Calls PyProof.Rows
theorem jU{P:Params}{h:Heap}:∀ (ns:List Int) (vs:List Value),WellAll P h vs (ns.map WData.int)->IntsAre vs ns:=by
 intro ns
 induction ns with
 |nil=>
  intro vs w
  rw[List.map_nil]at w
  cases w
  exact .nil
 |cons n ns ih=>
  intro vs w
  rw[List.map_cons]at w
  cases w with
  |cons a b=>
   cases a
   exact .cons _ _ (ih _ b)
theorem uF{l:OpenLaw}{n:Nat}(hn:l.most=some n){P:Params}{h:Heap}{args:List WData}{vals:List Value}
 (hpre:l.row.toRowW.claim.pre args=true)(hwl:WellAll P h vals args) :
  ∃ a vs ns,vals=[Value.ref a]/\args=[WData.list (ns.map WData.int)]/\h.get? a=some { cls:=.type "list",data:=.seq vs.toArray }/\IntsAre vs ns/\ns.length<=n:=by
 have hsh:WShape.hasAll [] args [.list .int]=true:=(pre_splitW hpre).1
 have hc:l.pre.holds [] { args:=args }=true:=(pre_splitW hpre).2
 obtain⟨d,r,rfl,h1,h2⟩:=hasAllW_cons hsh
 obtain rfl:=hasAllW_nil h2
 obtain⟨xs,rfl,h3⟩:=hasW_list h1
 obtain⟨ns,rfl⟩:=items_int h3
 have hlen:ns.length<=n:=by
  unfold OpenLaw.pre at hc
  have h4:(WTm.not (.lt (.lit (.int (n:Int))) (.len (.arg 0)))).holds [] { args:=[.list (ns.map .int)] }=true:=by
   have h4:=(holds_andW hc).1
   rw[hn]at h4
   exact h4
  have h5:=condW_of h4 (w_not (w_lt w_lit (w_len_list (w_arg rfl))))
  rw[List.length_map]at h5
  refine Nat.le_of_not_lt fun q=>?_
  have q':(n:Int)<((ns.length:Nat):Int):=by omega
  first
   | (rw[decide_eq_true q']at h5;exact absurd h5 (by decide))
   | (simp at h5;omega)
 cases hwl with
 |cons w1 w2=>
  cases w2
  cases w1 with
  | list ho hall=>exact⟨_,_,ns,rfl,rfl,ho,jU ns _ hall,hlen⟩
theorem sW(l:OpenLaw)(args:List WData):l.row.toRowW.claim.post args (.bool true) args=true :=
 postW_of (r:=l.row.toRowW) (X:=(true == true))
  (show WShape.has [] (.bool true) .bool=true by first | rfl | decide | simp[WShape.has,WShape.arms,WShape.armsAll])
  (show(WTm.eq .res (.lit (.bool true))).value [] { args:=args,res:=some (.bool true),after:=args }=some (.bool (true == true))from w_eq_bool (w_res rfl) w_lit) rfl
theorem pP{l:OpenLaw}{n:Nat}{q:Program}{loose:List Str}{XP:(Str->Option Value)->Heap->Prop}{YP:World->Heap->Prop}{d:DefRec}
 (hn:l.most=some n)(hdf:d.params.defaults=[])
 (call:∀ (w:World) (s₀ s₁:Shared) (mg mb:Str->Option Value) (fa:Addr) (o:Obj) (pm cd doc:Value) (a:Addr) (vs:List Value) (ns:List Int),
   Ground q loose [] XP w s₀ mg mb s₁.heap->YP w s₁.heap ->
   s₁.heap.get? fa=some o->o.data=.func (docDef d.name d.params d.body d.scope pm cd doc)->s₁.heap.CodeRec cd d.name->mg d.name=some (.ref fa) ->
   s₁.heap.get? a=some { cls:=.type "list",data:=.seq vs.toArray }->IntsAre vs ns->ns.length<=n->s₁.gens=#[] ->
   codeAny (model l.prog w) callerA (.call (.ref fa) ⟨[.ref a],[]⟩) (fun r s'=>r=.ok (.ret (.bool true))/\OldK s₁.heap s'.heap/\s'.os=s₁.os/\AllBare s'.gens) s₁) :
  WalkO q loose XP YP l.row.toRowW d [] (fun f vs=>PySem.call f vs):=by
 intro w s₀ s₁ mg mb G Y fa o pm cd doc dV kV ho hd hcd hD hmg hg args vals as hpre hlay hrd hwl hlo
 obtain rfl:dV=.none:=Dflts.none hD hdf
 obtain rfl:kV=.none:=Dflts.noKw hD
 obtain⟨a,vs,ns,rfl,rfl,hobj,hints,hlen⟩:=uF hn hpre hwl
 refine enter_call (codeAny_mono (call w s₀ s₁ mg mb fa o pm cd doc a vs ns G Y ho (fd_plain hd) hcd hmg hobj hints hlen hg) fun r s' hq=>?_)
 obtain⟨rfl,h2,h3,h4⟩:=hq
 exact⟨.inl ⟨.bool true,.bool true,[],rfl,fun _=>rfl,.bool true,sW l _,fun _=>⟨List.Pairwise.nil,fun _ hm=>(nomatch hm)⟩⟩,h2,h3,h4⟩
section
variable{prog:Program}{w:World}{A:Around}{E:Value->Shared->Prop}{s:Shared}{K:Frag}
end
end Att
namespace L2
open PySem PySem.Spec PyProof.Rows
theorem lV:∀ {vs:List Value} {ns:List Int},IntsAre vs ns->Vals (ns.map V.int) vs
 | _,_,.nil=>.nil
 | _,_,.cons n t h=>.cons ⟨t,rfl⟩ (lV h)
def mZ(H:Hp):Prop:=∀ b,H b=none\/∃ o xs,H b=some (.frz o (.lst xs))
theorem vJ{P:Program}{w:World}{K:PySem.W.Frag}{mg mb:Str->Option Value}{CX:CXT}{k:Nat}{fa a:Addr}{fd:FuncData}{x:Str}{sp:Sp}{s₁:Shared}{vs:List Value}{ns:List Int}
 (KX:K.In s₁.heap)(hns:s₁.heap.Ns mainGlobals mg)(hb:s₁.heap.Ns builtinsNs mb)(hbb:∀ x:Str,x ≠ "__name__" -> mb x=bootBuiltins x)(hlim:s₁.heap.NoLimit)(hg:s₁.gens=#[])
 (ha:s₁.heap.get? a=some { cls:=.type "list",data:=.seq vs.toArray })(hi:IntsAre vs ns)(hl:ns.length<=sizeLine)(hr:bV k callerA)
 (F:∀ base:Heap,K.In base->base.Ns mainGlobals mg->d5 P w K mg base CX k fa fd [x] sp)(hbind:∀ (s:Shared) (u:Value),BindsTo s fd ⟨[u],[]⟩ [(x,u)])
 (hsp:∀ H:Hp,mZ H->SqL K H a (ns.map V.int)->sp [.ref a] H (fun v _=>v=.bl true) fun _ _ _=>False)
 (hCX:∀ H e s',CX [] H s₁ (fun _ _ _=>False) e s'->False) :
  codeAny (model P w) callerA (.call (.ref fa) ⟨[.ref a],[]⟩) (fun r s'=>r=.ok (.ret (.bool true))/\OldK s₁.heap s'.heap/\s'.os=s₁.os/\AllBare s'.gens) s₁:=by
 have rv:=lV hi
 have lenV:=hi.length
 have core:∀ H:Hp,mZ H->SqL K H a (ns.map V.int)->HOk P w H s₁.heap->(∀ b,H b≠none->b=a)->(H a≠none->K.lookup a=none) ->
   codeAny (model P w) callerA (.call (.ref fa) ⟨[.ref a],[]⟩) (fun r s'=>r=.ok (.ret (.bool true))/\OldK s₁.heap s'.heap/\s'.os=s₁.os/\AllBare s'.gens) s₁:=by
  intro H hO hS hok hA hK
  have base_of:∀ {b:Addr} {o:Obj},s₁.heap.get? b=some o->H b=none->(iz s₁.heap H).get? b=some o:=fun e n=>wK e n
  have noA:∀ {b:Addr} {o:Obj} {es:Array DictEntry} {ep:Nat},s₁.heap.get? b=some o->o.data=.dict es ep->H b=none:=fun {b o es ep} e d=>by
   cases q:H b with
   | none=>rfl
   |some u=>
    have e':b=a:=hA b (by rw[q];simp)
    subst e'
    rw[ha]at e;cases e
    have d':Data.seq vs.toArray _=Data.dict es ep:=d
    cases d'
  have nsK:∀ {b:Addr} {m:Str->Option Value},s₁.heap.Ns b m->(iz s₁.heap H).Ns b m:=fun {b m} ⟨o,es,ep,e,d,r⟩=>⟨o,es,ep,base_of e (noA e d),d,r⟩
  have hKb:K.In (iz s₁.heap H):=fun b o e=>base_of (KX b o e) (by
   cases q:H b with
   | none=>rfl
   |some u=>
    have e':b=a:=hA b (by rw[q];simp)
    subst e'
    rw[hK (by rw[q];simp)]at e;cases e)
  have hM:Mod K mg (iz s₁.heap H):=⟨hKb,nsK hns,⟨mb,nsK hb,hbb⟩,let ⟨mc,h1,h2⟩:=hlim;⟨mc,nsK h1,h2⟩⟩
  have e0:oZ P w K mg (iz s₁.heap H) callerA [] s₁ H:=⟨rfl,hM,fun b o e=>yg e,Nat.le_of_eq (u5 _ _),trivial,fun b hb=>absurd (show b∈([]:List Addr)from hb) (by simp),hok,.of_eq hg⟩
  refine codeAny_mono ((F _ hKb (nsK hns)).run callerA [] s₁ H ⟨[.ref a],[]⟩ [.ref a] [.ref a] _ _ hr e0 (hbind s₁ (.ref a)) (.cons rfl .nil) (hsp H hO hS)) fun r s' h=>?_
  cases r with
  | error e=>exact(hCX H e s' h).elim
  |ok fl=>
   cases fl with
   | next=>exact False.elim h
   | brk=>exact False.elim h
   | cont=>exact False.elim h
   |ret u=>
    obtain⟨v,H',os,bare,un,hok',r',q⟩:=h
    have q':v=.bl true:=q
    subst q'
    obtain rfl:u=Value.bool true:=r'
    refine⟨rfl,OldK.of_keep fun b o e=>?_,os,bare⟩
    cases q:H b with
    | none=>exact un.keep b o e q (by intro z;exact absurd (show b∈([]:List Addr)from z) (by simp)) (by simp)
    |some u=>
     rcases hO b with z | ⟨ob,xs,z⟩
     ·rw[q]at z;cases z
     ·have z2:=un.cC b ob _ z
      obtain⟨e1,_⟩:=hok b _ z
      obtain⟨e2,_⟩:=hok' b _ z2
      rw[e]at e1;cases e1
      exact e2
 cases hk:K.lookup a with
 |some o=>
  have e:=KX a o hk
  rw[ha]at e
  cases e
  refine core (fun _=>none) (fun _=>.inl rfl) (.inr ⟨_,vs.toArray,_,hk,rfl,rfl,rfl,by rw[List.size_toArray,lenV];exact hl,by simpa using rv⟩) (fun b u z=>by have z':(none:Option HO)=some u:=z;cases z') (fun b z=>absurd rfl z) fun z=>absurd rfl z
 |none=>
  refine core (fun b=>if b=a then some (.frz { cls:=.type "list",data:=.seq vs.toArray } (.lst (ns.map V.int)))else none) (fun b=>?_) (.inl (.inr ⟨{ cls:=.type "list",data:=.seq vs.toArray },if_pos rfl⟩)) (fun b u z=>?_) (fun b z=>?_) fun _=>hk
  ·by_cases hb:b=a
   ·exact .inr ⟨_,_,if_pos hb⟩
   ·exact .inl (if_neg hb)
  ·by_cases hb:b=a
   ·have z':=(if_pos hb).symm.trans z
    cases z'
    subst hb
    exact⟨ha,by rw[List.length_map];exact hl,vs,_,rv,ha⟩
   ·have z':=(if_neg hb).symm.trans z
    cases z'
  ·by_cases hb:b=a
   ·exact hb
   ·exact absurd (if_neg hb) z
abbrev KOf{K:PySem.W.Frag}{h:Heap}(_:K.In h):PySem.W.Frag:=K
theorem pV{l:PySem.W.OpenLaw}{n k:Nat}{q:Program}{loose:List Str}{XP:(Str->Option Value)->Heap->Prop}{YP:World->Heap->Prop}{d:DefRec}{K:Params->PySem.W.Frag}{CX:World->CXT}{sp:World->Sp}{x:Str}
 (hn:l.most=some n)(hn2:n<=sizeLine)(hdf:d.params.defaults=[])(hr:bV k callerA)
 (hY:∀ (w:World) (h:Heap),YP w h->(K w.params).In h)
 (F:∀ (w:World) (mg:Str->Option Value) (fa:Addr) (h:Heap),(K w.params).In h->h.Ns mainGlobals mg->mg d.name=some (.ref fa) ->
   ∃ fd:FuncData,(∀ (s:Shared) (u:Value),BindsTo s fd ⟨[u],[]⟩ [(x,u)]) /\
    ∀ base:Heap,(K w.params).In base->base.Ns mainGlobals mg->d5 l.prog w (K w.params) mg base (CX w) k fa fd [x] (sp w))
 (hsp:∀ (w:World) (H:Hp) (a:Addr) (ns:List Int),ns.length<=n->mZ H->SqL (K w.params) H a (ns.map V.int)->sp w [.ref a] H (fun v _=>v=.bl true) fun _ _ _=>False)
 (hCX:∀ (w:World) (H:Hp) (s:Shared) (e:Value) (s':Shared),CX w [] H s (fun _ _ _=>False) e s'->False) :
  PySem.W.WalkO q loose XP YP l.row.toRowW d [] (fun f vs=>PySem.call f vs):=by
 refine Att.pP hn hdf fun w s₀ s₁ mg mb fa o pm cd doc a vs ns G Y ho hd hcd hmg hobj hints hlen hg=>?_
 have KX:=hY w _ Y
 obtain⟨fd,hb,hF⟩:=F w mg fa _ KX G.T.g hmg
 exact vJ KX G.T.g G.T.b G.T.builtins G.T.nolimit hg hobj hints (Nat.le_trans hlen hn2) hr hF hb (fun H hO hS=>hsp w H a ns hlen hO hS) fun H e s'=>hCX w H s₁ e s'
theorem vP{l:PySem.W.OpenLaw}{n k:Nat}{q:Program}{loose:List Str}{XP:(Str->Option Value)->Heap->Prop}{YP:World->Heap->Prop}{d:DefRec}{K:Params->PySem.W.Frag}{CX:CXT}{sp:PySem.W.Frag->Sp}{x:Str}
 (hn:l.most=some n)(hn2:n<=sizeLine)(hdf:d.params.defaults=[])(hr:bV k callerA)
 (hY:∀ (w:World) (h:Heap),YP w h->(K w.params).In h)
 (F:∀ (w:World) (mg:Str->Option Value) (fa:Addr) (h:Heap),(K w.params).In h->h.Ns mainGlobals mg->mg d.name=some (.ref fa) ->
   ∃ fd:FuncData,(∀ (s:Shared) (u:Value),BindsTo s fd ⟨[u],[]⟩ [(x,u)]) /\
    ∀ base:Heap,(K w.params).In base->base.Ns mainGlobals mg->d5 l.prog w (K w.params) mg base CX k fa fd [x] (sp (K w.params)))
 (hsp:∀ (K:PySem.W.Frag) (H:Hp) (a:Addr) (ns:List Int),ns.length<=n->mZ H->SqL K H a (ns.map V.int)->sp K [.ref a] H (fun v _=>v=.bl true) fun _ _ _=>False)
 (hCX:∀ (H:Hp) (s:Shared) (e:Value) (s':Shared),CX [] H s (fun _ _ _=>False) e s'->False) :
  PySem.W.WalkO q loose XP YP l.row.toRowW d [] (fun f vs=>PySem.call f vs) :=
 pV (K:=K) (CX:=fun _=>CX) (sp:=fun w=>sp (K w.params)) hn hn2 hdf hr hY F (fun w H a ns h1 h2 h3=>hsp (K w.params) H a ns h1 h2 h3) fun _ H s e s'=>hCX H s e s'
def gz(s:Stmt):Arguments:=match s with
 | .FunctionDef _ a _ _ _ _ _ _ _ _=>a
 | _=>{ posonlyargs:=[],args:=[],vararg:=none,kwonlyargs:=[],kw_defaults:=[],kwarg:=none,defaults:=[] }
def bX(s:Stmt):List Stmt:=match s with
 | .FunctionDef _ _ b _ _ _ _ _ _ _=>b
 | _=>[]
def aJ(s:Stmt):Scope:=match s with
 | .FunctionDef _ _ _ _ _ _ sc _ _ _=>sc
 | _=>{ kind:=.function,names:=[],isGenerator:=false,isCoroutine:=false }
abbrev CX0:CXT:=fun _ _ _ _ _ _=>False
abbrev E0:XK:=fun _ _ _=>False
theorem xw{X:Cx}:Passes CX0 X E0:=fun _ _ _ _ _ _ _ h=>h.elim
structure Fun(K:PySem.W.Frag)(x qual:Str)(st:Stmt)(f:Addr)(fd:FuncData):Prop where
 ex:∃ (oc:Value) (od:Option Addr) (kV doc pm:Value) (an:Option Addr) (cdv ct:Value) (osl:Array (Option Value)),
  fd=PySem.W.fnOf x qual (gz st) (bX st) (aJ st) .none kV doc pm an cdv ct/\K.lookup f=some ⟨oc,od,.func fd,osl⟩/\PySem.W.codeIn K cdv qual=true
 kp:PySem.W.keepIn K (.ref f)=true
section
variable{P:Program}{w:World}{K:PySem.W.Frag}{mg:Str->Option Value}{base:Heap}
theorem Fun.ok{x qual:Str}{st:Stmt}{f:Addr}{fd:FuncData}{N ps:List Str}{k:Nat}{sp:Sp}(F:Fun K x qual st f fd)(S:eC N ps (aJ st))(len:∀ vs H Q E,sp vs H Q E->vs.length=ps.length)
 (hbody:∀ (cdv:Value) (A:Around) (outer:List Env) (s:Shared) (H:Hp) (vs:List V) (Q:VK) (E:XK),bV k (A.deeper (envOfC qual (aJ st) s.heap.objs.size f cdv))->sp vs H Q E ->
   ∃ t,PSs (fN CX0 P w K mg base N qual (aJ st) f cdv A outer s H E).nox (bX st) t/\t { nx:=fun _ H'=>Q .non H',rt:=Q } (start N vs) H):d5 P w K mg base CX0 (k+1) f fd ps sp:=by
 obtain⟨oc,od,kV,doc,pm,an,cdv,ct,osl,rfl,lk,hcd⟩:=F.ex
 refine wY lk hcd S len fun A outer s H vs Q E hr hsp=>?_
 obtain⟨t,h,q⟩:=hbody cdv A outer s H vs Q E hr hsp
 exact⟨t,h.nox,q⟩
theorem Fun.binds{x qual:Str}{st:Stmt}{f:Addr}{fd:FuncData}{ps:List Str}(F:Fun K x qual st f fd)
 (h:∀ (kV doc pm:Value) (an:Option Addr) (cdv ct:Value) (us:List Value),us.length=ps.length->bindArgs (PySem.W.fnOf x qual (gz st) (bX st) (aJ st) .none kV doc pm an cdv ct) ⟨us,[]⟩=pure (ps.zip us)):Binds K fd ps []:=by
 obtain⟨oc,od,kV,doc,pm,an,cdv,ct,osl,rfl,lk,hcd⟩:=F.ex
 exact .all (h kV doc pm an cdv ct)
theorem zE{x qual:Str}{st:Stmt}{f:Addr}{oc:Value}{od an:Option Addr}{osl:Array (Option Value)}{kV doc pm cdv ct:Value}(l:K.lookup f=some ⟨oc,od,.func (PySem.W.fnOf x qual (gz st) (bX st) (aJ st) .none kV doc pm an cdv ct),osl⟩)
 (c:PySem.W.codeIn K cdv qual=true)(k:PySem.W.keepIn K (.ref f)=true):Fun K x qual st f (PySem.W.fnOf x qual (gz st) (bX st) (aJ st) .none kV doc pm an cdv ct):=⟨⟨oc,od,kV,doc,pm,an,cdv,ct,osl,rfl,l,c⟩,k⟩
end
theorem lU{n:Nat}(h:n<=1000):n<sizeLine:=Nat.lt_of_le_of_lt h (by decide)
section
variable{X:Cx}
end
theorem eE{A B:Prop}(h:B):if false=true then A else B:=by
 rw[if_neg Bool.false_ne_true]
 exact h
theorem dX{A B:Prop}(h:A):if true=true then A else B:=by
 rw[if_pos rfl]
 exact h
def au(H H':Hp):Prop:=∀ b o,H b=some o->H' b=some o
theorem au.refl(H:Hp):au H H:=fun _ _ h=>h
theorem au.trans{H H1 H2:Hp}(a:au H H1)(b:au H1 H2):au H H2:=fun c o h=>b c o (a c o h)
theorem au.free{H H':Hp}(e:au H H'){l:Addr}(h:H' l=Option.none):H l=Option.none:=by
 cases q:H l with
 | none=>rfl
 |some o=>
  rw[e l o q]at h
  cases h
section
variable{X:Cx}
theorem tD:bH X (.builtin "len") (fun xs H Q=>∃ a kvs,xs=[V.ref a]/\H a=some (.dK kvs)/\Q (.int kvs.length) H):=by
 intro pins s σ H xs us Q I r h
 obtain⟨a,kvs,rfl,ha,q⟩:=h
 obtain⟨u,rfl,ru⟩:=vals1 r
 cases ru
 exact CJ I (.inl ha) fun t s' I'=>⟨.int kvs.length,H,I',⟨t,rfl⟩,q⟩
end
section
variable{κ:Type} [DecidableEq κ]
end
end L2
namespace RS
open PySem PySem.Spec PyProof.Rows L2
abbrev VE:List Value:=[.type "ValueError",.type "Exception",.type "BaseException",.type "object"]
noncomputable def cU:List Str:=["RibbonError", "BadPegs", "BadFrame", "BadHalf", "BadHook", "BadName", "NoNumber", "NoFrame", "NoStack", "NoPlace", "Taken", "Full", "NothingThere", "BadTrade", "Hangs", "BadPage"]
noncomputable def oH(f:Option PySem.Builtin.ObjectAttr.Found):Bool:=match f with
 | some (.bind (.builtin a) (.builtin b))=>a == "getset_descriptor.__get__" && b == "object.__class__"
 | _=>false
noncomputable def er(K:PySem.W.Frag)(x:Str)(C:Addr):Bool :=
 PySem.W.excIn K C VE "ValueError.__new__" && PySem.W.findIn K (.ref C) "__getattribute__" == some (some (.builtin "BaseException.__getattribute__"))&&PySem.W.findIn K (.ref C) "__getattr__" == some none&&oH (PySem.W.findObj K C none "__class__") &&
 PySem.W.mroIn K C (.type "object") == some true&&PySem.W.subIn K (.ref C) (.type "BaseException") == some true&&(PySem.W.clsIn K C).isSome&&PySem.W.kitOne K (.ref C) (.type "ValueError") == some true &&
 cU.all fun c=>match PySem.W.nsIn K mainGlobals c with
  | some (some (.ref D))=>PySem.W.kitOne K (.ref C) (.ref D) == some (RL.c7 x c)&&PySem.W.subIn K (.ref C) (.ref D) == some (RL.c7 x c)
  | _=>true
structure Cls(K:PySem.W.Frag)(x:Str)(C:Addr):Prop where
 ns:PySem.W.nsIn K mainGlobals x=some (some (.ref C))
 ok:er K x C=true
section
variable{K:PySem.W.Frag}{x c:Str}{C D:Addr}
theorem Cls.exc(h:Cls K x C):PySem.W.excIn K C VE "ValueError.__new__" = true:=by
 have:=h.ok
 simp only[er,Bool.and_eq_true]at this
 exact this.1.1.1.1.1.1.1.1
theorem Cls.ref(h:Cls K x C)(hc:c∈cU)(hD:PySem.W.nsIn K mainGlobals c=some (some (.ref D))):PySem.W.kitOne K (.ref C) (.ref D)=some (RL.c7 x c)/\PySem.W.subIn K (.ref C) (.ref D)=some (RL.c7 x c):=by
 have:=h.ok
 simp only[er,Bool.and_eq_true]at this
 have q:=List.all_eq_true.mp this.2 c hc
 rw[hD]at q
 simp only[Bool.and_eq_true,beq_iff_eq]at q
 exact q
theorem Cls.val(h:Cls K x C):PySem.W.kitOne K (.ref C) (.type "ValueError")=some true:=by
 have:=h.ok
 simp only[er,Bool.and_eq_true,beq_iff_eq]at this
 exact this.1.2
end
structure bD(K:PySem.W.Frag)(x:Str)(C:Addr)(c:Str):Prop where
 ex:∃ D b,PySem.W.nsIn K mainGlobals c=some (some (.ref D))/\PySem.W.kitOne K (.ref C) (.ref D)=some b/\PySem.W.subIn K (.ref C) (.ref D)=some b/\RL.c7 x c=b
theorem kA{K:PySem.W.Frag}{x c:Str}{C D:Addr}{b:Bool}(n:PySem.W.nsIn K mainGlobals c=some (some (.ref D)))(k:PySem.W.kitOne K (.ref C) (.ref D)=some b)(s:PySem.W.subIn K (.ref C) (.ref D)=some b)(e:RL.c7 x c=b):bD K x C c:=⟨D,b,n,k,s,e⟩
structure Bn(K:PySem.W.Frag)(x:Str)(C:Addr):Prop where
 a1:PySem.W.excIn K C VE "ValueError.__new__" = true
 a2:PySem.W.findIn K (.ref C) "__getattribute__" = some (some (.builtin "BaseException.__getattribute__"))
 a3:PySem.W.findIn K (.ref C) "__getattr__" = some none
 a4:PySem.W.findIn K (.ref C) "__class__" = some (some (.builtin "object.__class__"))
 a5:PySem.W.specialIn K (.builtin "object.__class__") "__get__" = some (some (.builtin "getset_descriptor.__get__"))
 a6:PySem.W.takesIn K (.builtin "object.__class__")=some true
 a7:PySem.W.mroIn K C (.type "object")=some true
 a8:PySem.W.subIn K (.ref C) (.type "BaseException")=some true
 a9:PySem.W.kitOne K (.ref C) (.type "ValueError")=some true
 b1:bD K x C "RibbonError"
 b2:bD K x C "BadPegs"
 b3:bD K x C "BadFrame"
 b4:bD K x C "BadHalf"
 b5:bD K x C "BadHook"
 b6:bD K x C "BadName"
 b7:bD K x C "NoNumber"
 b8:bD K x C "NoFrame"
 b9:bD K x C "NoStack"
 b10:bD K x C "NoPlace"
 b11:bD K x C "Taken"
 b12:bD K x C "Full"
 b13:bD K x C "NothingThere"
 b14:bD K x C "BadTrade"
 b15:bD K x C "Hangs"
 b16:bD K x C "BadPage"
theorem jZ{K:PySem.W.Frag}{x:Str}{C:Addr}(h:Bn K x C):er K x C=true:=by
 obtain⟨cd,ec,_⟩:=Option.bind_eq_some_iff.mp h.a7
 have fo:oH (PySem.W.findObj K C none "__class__")=true:=by
  unfold PySem.W.findObj
  rw[ec,Option.bind_some,h.a4,Option.bind_some]
  dsimp only
  rw[h.a5,Option.bind_some]
  dsimp only
  rw[h.a6,Option.bind_some]
  rfl
 have one:∀ {c:Str},bD K x C c->(match PySem.W.nsIn K mainGlobals c with
  | some (some (.ref D))=>PySem.W.kitOne K (.ref C) (.ref D) == some (RL.c7 x c)&&PySem.W.subIn K (.ref C) (.ref D) == some (RL.c7 x c)
  | _=>true)=true:=fun⟨D,b,e1,e2,e3,e4⟩=>by
  rw[e1]
  dsimp only
  rw[e2,e3,e4,beq_self_eq_true]
  rfl
 unfold er
 rw[h.a1,h.a2,h.a3,fo,h.a7,h.a8,ec,h.a9]
 simp only[beq_self_eq_true,Option.isSome_some,Bool.and_self,Bool.true_and]
 rw[List.all_eq_true]
 intro c hc
 simp only[cU,List.mem_cons,List.mem_nil_iff,or_false]at hc
 rcases hc with rfl | rfl | rfl | rfl | rfl | rfl | rfl | rfl | rfl | rfl | rfl | rfl | rfl | rfl | rfl | rfl
 ·exact one h.b1
 ·exact one h.b2
 ·exact one h.b3
 ·exact one h.b4
 ·exact one h.b5
 ·exact one h.b6
 ·exact one h.b7
 ·exact one h.b8
 ·exact one h.b9
 ·exact one h.b10
 ·exact one h.b11
 ·exact one h.b12
 ·exact one h.b13
 ·exact one h.b14
 ·exact one h.b15
 ·exact one h.b16
noncomputable def nP:Addr->Prop:=fun _=>False
noncomputable def iG(K:PySem.W.Frag)(H:Hp)(a:Addr)(xs:List V):Prop:=(∃ o,H a=some (.frz o (.lst xs)))\/SqL K (fun _=>none) a xs
theorem iG.seq{K:PySem.W.Frag}{H:Hp}{a:Addr}{xs:List V}(h:iG K H a xs):SqL K H a xs:=by
 rcases h with⟨o,h⟩ | (h | ⟨o,h⟩) | h
 ·exact .inl (.inr ⟨o,h⟩)
 ·cases h
 ·cases h
 ·exact .inr h
theorem iG.same{K:PySem.W.Frag}{H H':Hp}{a:Addr}{xs:List V}(e:au H H')(h:iG K H a xs):iG K H' a xs:=by
 rcases h with⟨o,h⟩ | h
 ·exact .inl ⟨o,e _ _ h⟩
 ·exact .inr h
noncomputable def ExV(K:PySem.W.Frag)(H:Hp)(c:Str)(v:V):Prop:=∃ a o u D vs,v=.ref a/\H a=some (.frz o u)/\(o.cls=.ref D/\o.dict=none)/\o.data=.fields vs/\vs[2]?=some .none/\Cls K c D
theorem ExV.keep{K:PySem.W.Frag}{H H':Hp}{c:Str}{v:V}(h:ExV K H c v)(k:∀ b o u,H b=some (.frz o u)->H' b=some (.frz o u)):ExV K H' c v :=
 let ⟨a,o,u,D,vs,h1,h2,r⟩:=h;⟨a,o,u,D,vs,h1,k _ _ _ h2,r⟩
mutual
noncomputable def Rep(P:Addr->Prop)(K:PySem.W.Frag)(H:Hp):RL.D->V->Prop
 | .non,v=>v=.non
 | .bl b,v=>v=.bl b
 | .int i,v=>v=.int i
 | .str x,v=>v=.str x
 | .tup ds,v=>∃ a xs,v=.ref a/\H a=some (.tup xs)/\af P K H ds xs
 | .lst ds,v=>∃ a xs,v=.ref a/\¬ P a/\H a=some (.lst xs)/\af P K H ds xs
 | .dK ks ds,v=>∃ a xs,v=.ref a/\¬ P a/\H a=some (.dK (ks.zip xs))/\ks.length=ds.length/\af P K H ds xs
 | .dT ks ds,v=>∃ a xs,v=.ref a/\¬ P a/\H a=some (.dT (ks.zip xs))/\ks.length=ds.length/\af P K H ds xs
 | .scr ds,v=>∃ a xs,v=.ref a/\iG K H a xs/\af P K H ds xs
 | .exc c,v=>ExV K H c v
noncomputable def af(P:Addr->Prop)(K:PySem.W.Frag)(H:Hp):List RL.D->List V->Prop
 | [],xs=>xs=[]
 | d::r,xs=>∃ x t,xs=x::t/\Rep P K H d x/\af P K H r t
end
mutual
theorem Rep.same{P:Addr->Prop}{K:PySem.W.Frag}{H H':Hp}(e:au H H'):∀ {d:RL.D} {v:V},Rep P K H d v->Rep P K H' d v
 | .non,v,h=>by simpa[Rep]using h
 | .bl _,v,h=>by simpa[Rep]using h
 | .int _,v,h=>by simpa[Rep]using h
 | .str _,v,h=>by simpa[Rep]using h
 | .tup ds,v,h=>by
  rw[Rep]at h ⊢
  obtain⟨a,xs,e1,e2,e3⟩:=h
  exact⟨a,xs,e1,e _ _ e2,af.same e e3⟩
 | .lst ds,v,h=>by
  rw[Rep]at h ⊢
  obtain⟨a,xs,e1,e0,e2,e3⟩:=h
  exact⟨a,xs,e1,e0,e _ _ e2,af.same e e3⟩
 | .dK ks ds,v,h=>by
  rw[Rep]at h ⊢
  obtain⟨a,xs,e1,e0,e2,el,e3⟩:=h
  exact⟨a,xs,e1,e0,e _ _ e2,el,af.same e e3⟩
 | .dT ks ds,v,h=>by
  rw[Rep]at h ⊢
  obtain⟨a,xs,e1,e0,e2,el,e3⟩:=h
  exact⟨a,xs,e1,e0,e _ _ e2,el,af.same e e3⟩
 | .scr ds,v,h=>by
  rw[Rep]at h ⊢
  obtain⟨a,xs,e1,e2,e3⟩:=h
  exact⟨a,xs,e1,iG.same e e2,af.same e e3⟩
 | .exc c,v,h=>by rw[Rep]at h ⊢;exact h.keep fun _ _ _ q=>e _ _ q
theorem af.same{P:Addr->Prop}{K:PySem.W.Frag}{H H':Hp}(e:au H H'):∀ {ds:List RL.D} {xs:List V},af P K H ds xs->af P K H' ds xs
 | [],xs,h=>by rw[af]at h ⊢;exact h
 | d::r,xs,h=>by
  rw[af]at h ⊢
  obtain⟨x,t,e1,e2,e3⟩:=h
  exact⟨x,t,e1,Rep.same e e2,af.same e e3⟩
end
mutual
theorem Rep.weak{P P':Addr->Prop}{K:PySem.W.Frag}{H:Hp}(e:∀ a,P' a->P a):∀ {d:RL.D} {v:V},Rep P K H d v->Rep P' K H d v
 | .non,v,h=>by simpa[Rep]using h
 | .bl _,v,h=>by simpa[Rep]using h
 | .int _,v,h=>by simpa[Rep]using h
 | .str _,v,h=>by simpa[Rep]using h
 | .tup ds,v,h=>by
  rw[Rep]at h ⊢
  obtain⟨a,xs,e1,e2,e3⟩:=h
  exact⟨a,xs,e1,e2,af.weak e e3⟩
 | .lst ds,v,h=>by
  rw[Rep]at h ⊢
  obtain⟨a,xs,e1,e0,e2,e3⟩:=h
  exact⟨a,xs,e1,fun z=>e0 (e a z),e2,af.weak e e3⟩
 | .dK ks ds,v,h=>by
  rw[Rep]at h ⊢
  obtain⟨a,xs,e1,e0,e2,el,e3⟩:=h
  exact⟨a,xs,e1,fun z=>e0 (e a z),e2,el,af.weak e e3⟩
 | .dT ks ds,v,h=>by
  rw[Rep]at h ⊢
  obtain⟨a,xs,e1,e0,e2,el,e3⟩:=h
  exact⟨a,xs,e1,fun z=>e0 (e a z),e2,el,af.weak e e3⟩
 | .scr ds,v,h=>by
  rw[Rep]at h ⊢
  obtain⟨a,xs,e1,e2,e3⟩:=h
  exact⟨a,xs,e1,e2,af.weak e e3⟩
 | .exc c,v,h=>by rw[Rep]at h ⊢;exact h
theorem af.weak{P P':Addr->Prop}{K:PySem.W.Frag}{H:Hp}(e:∀ a,P' a->P a):∀ {ds:List RL.D} {xs:List V},af P K H ds xs->af P' K H ds xs
 | [],xs,h=>by rw[af]at h ⊢;exact h
 | d::r,xs,h=>by
  rw[af]at h ⊢
  obtain⟨x,t,e1,e2,e3⟩:=h
  exact⟨x,t,e1,Rep.weak e e2,af.weak e e3⟩
end
theorem Rep.none{P:Addr->Prop}{K:PySem.W.Frag}{H:Hp}{d:RL.D}{v:V}(h:Rep P K H d v):Rep nP K H d v:=h.weak fun _ z=>z.elim
mutual
theorem Rep.imm{P P':Addr->Prop}{K:PySem.W.Frag}{H:Hp}:∀ {d:RL.D} {v:V},d.imm=true->Rep P K H d v->Rep P' K H d v
 | .non,v,_,h=>by simpa[Rep]using h
 | .bl _,v,_,h=>by simpa[Rep]using h
 | .int _,v,_,h=>by simpa[Rep]using h
 | .str _,v,_,h=>by simpa[Rep]using h
 | .tup ds,v,i,h=>by
  rw[Rep]at h ⊢
  rw[RL.D.imm]at i
  obtain⟨a,xs,e1,e2,e3⟩:=h
  exact⟨a,xs,e1,e2,af.imm i e3⟩
 | .lst ds,v,i,h=>by rw[RL.D.imm]at i;cases i
 | .dK ks ds,v,i,h=>by rw[RL.D.imm]at i;cases i
 | .dT ks ds,v,i,h=>by rw[RL.D.imm]at i;cases i
 | .scr ds,v,i,h=>by
  rw[Rep]at h ⊢
  rw[RL.D.imm]at i
  obtain⟨a,xs,e1,e2,e3⟩:=h
  exact⟨a,xs,e1,e2,af.imm i e3⟩
 | .exc c,v,i,h=>by rw[Rep]at h ⊢;exact h
theorem af.imm{P P':Addr->Prop}{K:PySem.W.Frag}{H:Hp}:∀ {ds:List RL.D} {xs:List V},RL.ay ds=true->af P K H ds xs->af P' K H ds xs
 | [],xs,_,h=>by rw[af]at h ⊢;exact h
 | d::r,xs,i,h=>by
  rw[af]at h ⊢
  rw[RL.ay,Bool.and_eq_true]at i
  obtain⟨x,t,e1,e2,e3⟩:=h
  exact⟨x,t,e1,Rep.imm i.1 e2,af.imm i.2 e3⟩
end
noncomputable def cA(o:HO):Prop:=(∃ xs,o=.lst xs)\/(∃ kvs,o=.dK kvs)\/(∃ kvs,o=.dT kvs)
mutual
theorem Rep.upd{P:Addr->Prop}{K:PySem.W.Frag}{H:Hp}{a:Addr}{o o':HO}(ha:H a=some o)(m:cA o)(p:P a):∀ {d:RL.D} {v:V},Rep P K H d v->Rep P K (upd H a o') d v
 | .non,v,h=>by simpa[Rep]using h
 | .bl _,v,h=>by simpa[Rep]using h
 | .int _,v,h=>by simpa[Rep]using h
 | .str _,v,h=>by simpa[Rep]using h
 | .tup ds,v,h=>by
  rw[Rep]at h ⊢
  obtain⟨b,xs,e1,e2,e3⟩:=h
  have n:b≠a:=mE e2 ha (by rcases m with⟨z,rfl⟩ | ⟨z,rfl⟩ | ⟨z,rfl⟩<;>(intro q;cases q))
  exact⟨b,xs,e1,by rw[L2.aF n];exact e2,af.upd ha m p e3⟩
 | .lst ds,v,h=>by
  rw[Rep]at h ⊢
  obtain⟨b,xs,e1,e0,e2,e3⟩:=h
  have n:b≠a:=fun z=>e0 (z▸p)
  exact⟨b,xs,e1,e0,by rw[L2.aF n];exact e2,af.upd ha m p e3⟩
 | .dK ks ds,v,h=>by
  rw[Rep]at h ⊢
  obtain⟨b,xs,e1,e0,e2,el,e3⟩:=h
  have n:b≠a:=fun z=>e0 (z▸p)
  exact⟨b,xs,e1,e0,by rw[L2.aF n];exact e2,el,af.upd ha m p e3⟩
 | .dT ks ds,v,h=>by
  rw[Rep]at h ⊢
  obtain⟨b,xs,e1,e0,e2,el,e3⟩:=h
  have n:b≠a:=fun z=>e0 (z▸p)
  exact⟨b,xs,e1,e0,by rw[L2.aF n];exact e2,el,af.upd ha m p e3⟩
 | .scr ds,v,h=>by
  rw[Rep]at h ⊢
  obtain⟨b,xs,e1,e2,e3⟩:=h
  refine⟨b,xs,e1,?_,af.upd ha m p e3⟩
  rcases e2 with⟨q,e2⟩ | e2
  ·have n:b≠a:=mE e2 ha (by rcases m with⟨z,rfl⟩ | ⟨z,rfl⟩ | ⟨z,rfl⟩<;>(intro q;cases q))
   exact .inl ⟨q,by rw[L2.aF n];exact e2⟩
  ·exact .inr e2
 | .exc c,v,h=>by
  rw[Rep]at h ⊢
  refine h.keep fun b ob u q=>?_
  have n:b≠a:=mE q ha (by rcases m with⟨z,rfl⟩ | ⟨z,rfl⟩ | ⟨z,rfl⟩<;>(intro q;cases q))
  rw[L2.aF n]
  exact q
theorem af.upd{P:Addr->Prop}{K:PySem.W.Frag}{H:Hp}{a:Addr}{o o':HO}(ha:H a=some o)(m:cA o)(p:P a):∀ {ds:List RL.D} {xs:List V},af P K H ds xs->af P K (upd H a o') ds xs
 | [],xs,h=>by rw[af]at h ⊢;exact h
 | d::r,xs,h=>by
  rw[af]at h ⊢
  obtain⟨x,t,e1,e2,e3⟩:=h
  exact⟨x,t,e1,Rep.upd ha m p e2,af.upd ha m p e3⟩
end
section lists
variable{P:Addr->Prop}{K:PySem.W.Frag}{H:Hp}
theorem af.nil:af P K H [] []:=by rw[af]
theorem af.cons{d:RL.D}{ds:List RL.D}{x:V}{xs:List V}(h:Rep P K H d x)(t:af P K H ds xs):af P K H (d::ds) (x::xs):=by rw[af];exact⟨x,xs,rfl,h,t⟩
theorem af.length:∀ {ds:List RL.D} {xs:List V},af P K H ds xs->ds.length=xs.length
 | [],xs,h=>by rw[af]at h;rw[h];rfl
 | d::r,xs,h=>by
  rw[af]at h
  obtain⟨x,t,rfl,_,e3⟩:=h
  rw[List.length_cons,List.length_cons,af.length e3]
theorem af.append:∀ {ds es:List RL.D} {xs ys:List V},af P K H ds xs->af P K H es ys->af P K H (ds++es) (xs++ys)
 | [],_,xs,_,h,k=>by rw[af]at h;rw[h];exact k
 | d::r,_,xs,_,h,k=>by
  rw[af]at h
  obtain⟨x,t,rfl,e2,e3⟩:=h
  exact af.cons e2 (af.append e3 k)
theorem af.get:∀ {ds:List RL.D} {xs:List V} {i:Nat} {d:RL.D},af P K H ds xs->ds[i]?=some d->∃ x,xs[i]?=some x/\Rep P K H d x
 | [],_,i,d,_,e=>by simp at e
 | d::r,xs,0,d',h,e=>by
  rw[af]at h
  obtain⟨x,t,rfl,e2,_⟩:=h
  simp at e;subst e
  exact⟨x,rfl,e2⟩
 | d::r,xs,i+1,d',h,e=>by
  rw[af]at h
  obtain⟨x,t,rfl,_,e3⟩:=h
  obtain⟨y,h1,h2⟩:=af.get (i:=i) e3 (by simpa using e)
  exact⟨y,by simpa using h1,h2⟩
theorem af.set:∀ {ds:List RL.D} {xs:List V} (i:Nat) {d:RL.D} {x:V},af P K H ds xs->Rep P K H d x->af P K H (ds.set i d) (xs.set i x)
 | [],xs,_,_,_,h,_=>by rw[af]at h;rw[h];exact af.nil
 | d::r,xs,0,_,_,h,k=>by
  rw[af]at h
  obtain⟨x,t,rfl,_,e3⟩:=h
  exact af.cons k e3
 | d::r,xs,i+1,_,_,h,k=>by
  rw[af]at h
  obtain⟨x,t,rfl,e2,e3⟩:=h
  exact af.cons e2 (af.set i e3 k)
theorem af.take:∀ {ds:List RL.D} {xs:List V} (n:Nat),af P K H ds xs->af P K H (ds.take n) (xs.take n)
 | _,_,0,_=>by simpa using af.nil
 | [],xs,n+1,h=>by rw[af]at h;rw[h];simpa using af.nil
 | d::r,xs,n+1,h=>by
  rw[af]at h
  obtain⟨x,t,rfl,e2,e3⟩:=h
  exact af.cons e2 (af.take n e3)
theorem af.rep{ds:List RL.D}{xs:List V}(h:af P K H ds xs):∀ n:Nat,af P K H (List.replicate n ds).flatten (List.replicate n xs).flatten
 | 0=>af.nil
 | n+1=>by
  rw[List.replicate_succ,List.replicate_succ,List.flatten_cons,List.flatten_cons]
  exact af.append h (af.rep h n)
end lists
noncomputable def RV0(K:PySem.W.Frag)(σD:RL.St)(σ:L2.St)(H:Hp):Prop:=σD.length<=σ.length/\∀ (i:Nat) (d:RL.D),σD[i]?=some (some d)->∃ v,σ[i]?=some (some v)/\Rep nP K H d v
theorem RV0.same{K:PySem.W.Frag}{σD:RL.St}{σ:L2.St}{H H':Hp}(h:RV0 K σD σ H)(e:au H H'):RV0 K σD σ H':=⟨h.1,fun i d q=>by
 obtain⟨v,h1,h2⟩:=h.2 i d q
 exact⟨v,h1,h2.same e⟩⟩
noncomputable def jJ:RL.D->Bool
 | .lst _=>true
 | .dK _ _=>true
 | .dT _ _=>true
 | _=>false
structure Res(K:PySem.W.Frag)(σD:RL.St)(σ:L2.St)(H:Hp)(e:RL.E)(d:RL.D)(v:V)(H':Hp):Prop where
 same:au H H'
 rep:Rep nP K H' d v
 fresh:RL.aC e=true->jJ d=true->∀ a,v=.ref a->H a=none
 av:∀ M,RL.avE M e=true->∀ P:Addr->Prop,(∀ a,P a->H a≠none)->(∀ (j:Nat) (dj:RL.D) (vj:V),M.contains j=false->σD[j]?=some (some dj)->σ[j]?=some (some vj)->Rep P K H dj vj)->Rep P K H' d v
noncomputable def tE(K:PySem.W.Frag)(cl:RL.Cl)(e:RL.E):TE:=fun σ H Q=>∃ σD d,RV0 K σD σ H/\RL.ev cl σD e=some d/\∀ v H',Res K σD σ H e d v H'->Q v H'
noncomputable def SE(X:Cx)(cl:RL.Cl)(e:Expr)(e':RL.E):Prop:=PE X e (tE X.K cl e')
theorem PE.weak{X:Cx}{e:Expr}{t t':TE}(h:PE X e t)(w:∀ σ H Q,t' σ H Q->t σ H Q):PE X e t':=fun pins s σ H Q I q=>h pins s σ H Q I (w σ H Q q)
noncomputable def tEs(K:PySem.W.Frag)(cl:RL.Cl)(es:RL.Es):TA:=fun σ H Q=>∃ σD ds,RV0 K σD σ H/\RL.evs cl σD es=some ds/\∀ vs H',au H H'->af nP K H' ds vs->Q vs H'
noncomputable def SEs(X:Cx)(cl:RL.Cl)(es:List Expr)(es':RL.Es):Prop:=PA X es (tEs X.K cl es')
section rules
variable{X:Cx}{cl:RL.Cl}{a b c:Expr}{a' b' c':RL.E}{pos:Pos}
theorem two{σD:RL.St}{σ:L2.St}{H:Hp}{x y:RL.D}{R:V->V->Hp->Prop}(rv:RV0 X.K σD σ H)(ea:RL.ev cl σD a'=some x)(eb:RL.ev cl σD b'=some y)
 (k:∀ v u H1 H2,au H H1->au H1 H2->Rep nP X.K H2 x v->Rep nP X.K H2 y u->Res X.K σD σ H a' x v H1->Res X.K σD σ H1 b' y u H2->R v u H2) :
  tE X.K cl a' σ H fun v H1=>tE X.K cl b' σ H1 fun u H2=>R v u H2 :=
 ⟨σD,x,rv,ea,fun v H1 r1=>⟨σD,y,rv.same r1.same,eb,fun u H2 r2=>k v u H1 H2 r1.same r2.same (r1.rep.same r2.same) r2.rep r1 r2⟩⟩
theorem bind_some{α β:Type}{o:Option α}{f:α->Option β}{y:β}(h:o.bind f=some y):∃ x,o=some x/\f x=some y:=by
 cases o with
 | none=>cases h
 | some x=>exact⟨x,rfl,h⟩
theorem map_some{α β:Type}{o:Option α}{f:α->β}{y:β}(h:o.map f=some y):∃ x,o=some x/\f x=y:=by
 cases o with
 | none=>cases h
 | some x=>exact⟨x,rfl,Option.some.inj h⟩
theorem bS:RL.most<=sizeLine:=by decide
theorem au.c9{H:Hp}{p:Addr}{o:HO}(hn:H p=none):au H (upd H p o):=fun b u e=>by rw[aF (aG e hn)];exact e
theorem Bw{i:Nat}{x:Str}(hN:X.N[i]?=some x)(hv:Vis X.env.scope x)(hd:(x == ("__debug__" : Str))=false)(hcd:(x == ("__classdict__" : Str))=false):SE X cl (.Name x pos) (.var i):=by
 refine PE.weak (gB hN hv hd hcd) fun σ H Q h=>?_
 obtain⟨σD,d,rv,e,k⟩:=h
 have e':σD[i]?=some (some d):=by
  rw[RL.ev]at e
  obtain⟨o,h1,h2⟩:=bind_some e
  cases o with
  | none=>cases h2
  | some z=>cases h2;exact h1
 obtain⟨v,h1,h2⟩:=rv.2 i d e'
 refine⟨v,h1,k v H ⟨au.refl H,h2,fun z=>(by cases z),fun M z P hP av=>?_⟩⟩
 rw[RL.avE]at z
 exact av i d v (by simpa using z) e' h1
theorem jR{j:Nat}{k:Const}{d:RL.D}{v:V}(h:PE X (.Constant k j pos) (tC v))(r:∀ P H,Rep P X.K H d v)(hm:jJ d=false):SE X cl (.Constant k j pos) (.cst d):=by
 refine PE.weak h fun σ H Q q=>?_
 obtain⟨σD,d',rv,e,k⟩:=q
 rw[RL.ev]at e
 cases e
 exact k v H ⟨au.refl H,r _ _,fun z=>(by cases z),fun M z=>nomatch (show false=true from z)⟩
theorem BJ{x:Str}{i:Int}{u:Value}(h:PE X (.Name x pos) (tC (.int i))):SE X cl (.Name x pos) (.glb x i):=by
 refine PE.weak h fun σ H Q q=>?_
 obtain⟨σD,d',rv,e,k⟩:=q
 rw[RL.ev]at e
 cases e
 exact k _ H ⟨au.refl H,(by rw[Rep]),fun z=>(by cases z),fun M z=>nomatch (show false=true from z)⟩
end rules
section rules
variable{X:Cx}{cl:RL.Cl}{a b c:Expr}{a' b' c':RL.E}{pos:Pos}
theorem d6{σD:RL.St}{σ:L2.St}{H H':Hp}{e:RL.E}{d:RL.D}{v:V}(sm:au H H')(r:Rep nP X.K H' d v)(im:d.imm=true):Res X.K σD σ H e d v H' where
 same:=sm
 rep:=r
 fresh:=fun _ m=>by
  cases d with
  | lst _=>cases im
  | dK _ _=>cases im
  | dT _ _=>cases im
  | _=>cases m
 av:=fun M _ P _ _=>r.imm im
theorem vT:OpR X (binaryOp .FloorDiv) (rI (fun _ j=>0<j/\j<2 ^ 200) fun i j=>.int (i / j)):=opI fun i j _ _ _ _ _ hc q=>by
 refine floordiv_int (by lia) ?_ (.inl (PyProof.noPylong_of_log2 ?_))
 ·rw[Int.fdiv_eq_ediv_of_nonneg _ (by lia)]
  exact q
 ·have h0:j.natAbs≠0:=by lia
  have h1:j.natAbs<2 ^ 200:=by
   have:=hc.2
   omega
  have h2:j.natAbs.log2<200:=(Nat.log2_lt h0).mpr h1
  lia
theorem eB{σD:RL.St}{σ:L2.St}{H H1:Hp}{e:RL.E}{ds:List RL.D}{xs:List V}{p:Addr}(sm:au H H1)(hn:H1 p=none)(r:af nP X.K H1 ds xs)(hav:∀ M,RL.avE M e=false):Res X.K σD σ H e (.lst ds) (.ref p) (upd H1 p (.lst xs)) where
 same:=sm.trans (au.c9 hn)
 rep:=by
  rw[Rep]
  exact⟨p,xs,rfl,fun z=>z,aW,r.same (au.c9 hn)⟩
 fresh:=fun _ _ a z=>by
  cases z
  exact sm.free hn
 av:=fun M z=>by rw[hav M]at z;cases z
theorem ij{σD:RL.St}{σ:L2.St}{H H1:Hp}{e:RL.E}{ds:List RL.D}{xs:List V}{p:Addr}(sm:au H H1)(hn:H1 p=none)(r:af nP X.K H1 ds xs)(hav:∀ M,RL.avE M e=false):Res X.K σD σ H e (.tup ds) (.ref p) (upd H1 p (.tup xs)) where
 same:=sm.trans (au.c9 hn)
 rep:=by
  rw[Rep]
  exact⟨p,xs,rfl,aW,r.same (au.c9 hn)⟩
 fresh:=fun _ m=>by cases m
 av:=fun M z=>by rw[hav M]at z;cases z
noncomputable def oP:RL.Bop->Operator
 | .add=>.Add
 | .sub=>.Sub
 | .mul=>.Mult
 | .fdiv=>.FloorDiv
 | .mod=>.Mod
 | .pow=>.Pow
theorem bp{P:Addr->Prop}{K:PySem.W.Frag}{H:Hp}{i:Int}:Rep P K H (.int i) (.int i):=by rw[Rep]
theorem ng{P:Addr->Prop}{K:PySem.W.Frag}{H:Hp}{i:Bool}:Rep P K H (.bl i) (.bl i):=by rw[Rep]
theorem f7{P:Addr->Prop}{K:PySem.W.Frag}{H:Hp}{i:Str}:Rep P K H (.str i) (.str i):=by rw[Rep]
theorem ah{P:Addr->Prop}{K:PySem.W.Frag}{H:Hp}{i:Int}{v:V}(h:Rep P K H (.int i) v):v=.int i:=by rw[Rep]at h;exact h
theorem aY{P:Addr->Prop}{K:PySem.W.Frag}{H:Hp}{i:Bool}{v:V}(h:Rep P K H (.bl i) v):v=.bl i:=by rw[Rep]at h;exact h
theorem aH{P:Addr->Prop}{K:PySem.W.Frag}{H:Hp}{i:Str}{v:V}(h:Rep P K H (.str i) v):v=.str i:=by rw[Rep]at h;exact h
noncomputable def kh(X:Cx)(o:RL.Bop)(r:R2):Prop :=
 ∀ (σD:RL.St) (σ:L2.St) (H H2:Hp) (e:RL.E) (x y d:RL.D) (v u:V) (Q:VK),au H H2->Rep nP X.K H2 x v->Rep nP X.K H2 y u->RL.aI o x y=some d->(∀ M,RL.avE M e=false) ->
  (∀ w H',Res X.K σD σ H e d w H'->Q w H')->r v u H2 Q
theorem fz{o:RL.Bop}{r:R2}(ho:OpR X (binaryOp (oP o)) r)(ok:kh X o r)(ha:SE X cl a a')(hb:SE X cl b b'):SE X cl (.BinOp a (oP o) b pos) (.bin o a' b'):=by
 refine PE.weak (Cj ho ha hb) fun σ H Q h=>?_
 obtain⟨σD,d,rv,e,k⟩:=h
 rw[RL.ev]at e
 obtain⟨x,ea,e⟩:=bind_some e
 obtain⟨y,eb,e⟩:=bind_some e
 refine two rv ea eb fun v u H1 H2 s1 s2 rx ry _ _=>?_
 exact ok σD σ H H2 _ x y d v u Q (s1.trans s2) rx ry e (fun _=>rfl) k
end rules
section rules
variable{X:Cx}{cl:RL.Cl}{a b c:Expr}{a' b' c':RL.E}{pos:Pos}
theorem cw{α:Type}{c:Prop} [Decidable c]{a d:α}(h:(if c then some a else none)=some d):c/\d=a:=by
 by_cases hc:c
 ·rw[if_pos hc]at h
  exact⟨hc,(Option.some.inj h).symm⟩
 ·rw[if_neg hc]at h
  cases h
theorem noN{α:Type}{o:Option α}{d:α}{p:Prop}(e:o=none)(h:o=some d):p:=by rw[e]at h;cases h
theorem wN{x y d:RL.D}(h:RL.aI .add x y=some d):(∃ i j,x=.int i/\y=.int j/\d=.int (i+j))\/(∃ i j:Str,x=.str i/\y=.str j/\i.length+j.length<=RL.most/\d=.str (i++j)) \/
  (∃ i j,x=.lst i/\y=.lst j/\i.length+j.length<=RL.most/\d=.lst (i++j)) \/
  (∃ i j,x=.tup i/\y=.tup j/\(i.length+j.length<=RL.most/\0<i.length)/\d=.tup (i++j)):=by
 cases x with
 | int i=>cases y with
  | int j=>cases h;exact .inl ⟨i,j,rfl,rfl,rfl⟩
  | _=>exact noN rfl h
 | str i=>cases y with
  |str j=>
   obtain⟨hc,e⟩:=cw h
   exact .inr (.inl ⟨i,j,rfl,rfl,hc,e⟩)
  | _=>exact noN rfl h
 | lst i=>cases y with
  |lst j=>
   obtain⟨hc,e⟩:=cw h
   exact .inr (.inr (.inl ⟨i,j,rfl,rfl,hc,e⟩))
  | _=>exact noN rfl h
 | tup i=>cases y with
  |tup j=>
   obtain⟨hc,e⟩:=cw h
   exact .inr (.inr (.inr ⟨i,j,rfl,rfl,hc,e⟩))
  | _=>exact noN rfl h
 | _=>exact noN rfl h
theorem wV{x y d:RL.D}(h:RL.aI .mul x y=some d):(∃ i j,x=.int i/\y=.int j/\rO i j/\d=.int (i*j)) \/
  (∃ i j,x=.lst i/\y=.int j/\(0<=j/\j<=RL.most/\i.length*j.toNat<=RL.most)/\d=.lst (List.replicate j.toNat i).flatten):=by
 cases x with
 | int i=>cases y with
  |int j=>
   obtain⟨hc,e⟩:=cw h
   exact .inl ⟨i,j,rfl,rfl,hc,e⟩
  | _=>exact noN rfl h
 | lst i=>cases y with
  |int j=>
   obtain⟨hc,e⟩:=cw h
   exact .inr ⟨i,j,rfl,rfl,hc,e⟩
  | _=>exact noN rfl h
 | _=>exact noN rfl h
theorem fV{o:RL.Bop}{x y d:RL.D}(h:RL.aI o x y=some d)(ho:o≠.add)(hm:o≠.mul):∃ i j,x=.int i/\y=.int j/\RL.aI o (.int i) (.int j)=some d:=by
 have no:∀ {a b:RL.D},RL.aI .sub a b=none->RL.aI .fdiv a b=none->RL.aI .mod a b=none->RL.aI .pow a b=none->RL.aI o a b=some d->False:=fun e1 e2 e3 e4 h=>by
  cases o with
  | add=>exact ho rfl
  | mul=>exact hm rfl
  | sub=>rw[e1]at h;cases h
  | fdiv=>rw[e2]at h;cases h
  | mod=>rw[e3]at h;cases h
  | pow=>rw[e4]at h;cases h
 cases x with
 | int i=>cases y with
  | int j=>exact⟨i,j,rfl,rfl,h⟩
  | _=>exact(no rfl rfl rfl rfl h).elim
 | _=>exact(no rfl rfl rfl rfl h).elim
theorem vd{x y d:RL.D}(h:RL.aI .sub x y=some d):∃ i j,x=.int i/\y=.int j/\d=.int (i-j):=by
 obtain⟨i,j,e1,e2,h⟩:=fV h (by decide) (by decide)
 cases h
 exact⟨i,j,e1,e2,rfl⟩
theorem t6{x y d:RL.D}(h:RL.aI .fdiv x y=some d):∃ i j,x=.int i/\y=.int j/\(0<j/\j<2 ^ 200)/\d=.int (i / j):=by
 obtain⟨i,j,e1,e2,h⟩:=fV h (by decide) (by decide)
 obtain⟨hc,e⟩:=cw h
 exact⟨i,j,e1,e2,hc,e⟩
theorem vI{x y d:RL.D}(h:RL.aI .mod x y=some d):∃ i j,x=.int i/\y=.int j/\0<j/\d=.int (i%j):=by
 obtain⟨i,j,e1,e2,h⟩:=fV h (by decide) (by decide)
 obtain⟨hc,e⟩:=cw h
 exact⟨i,j,e1,e2,hc,e⟩
theorem wB{x y d:RL.D}(h:RL.aI .pow x y=some d):∃ i j,x=.int i/\y=.int j/\(0<=j/\j<=1000/\i.natAbs<2 ^ 64)/\d=.int (i ^ j.toNat):=by
 obtain⟨i,j,e1,e2,h⟩:=fV h (by decide) (by decide)
 obtain⟨hc,e⟩:=cw h
 exact⟨i,j,e1,e2,hc,e⟩
theorem aD{P:Addr->Prop}{K:PySem.W.Frag}{H:Hp}{ds:List RL.D}{v:V}(h:Rep P K H (.lst ds) v):∃ a xs,v=.ref a/\¬ P a/\H a=some (.lst xs)/\af P K H ds xs:=by rw[Rep]at h;exact h
theorem bo{P:Addr->Prop}{K:PySem.W.Frag}{H:Hp}{ds:List RL.D}{v:V}(h:Rep P K H (.tup ds) v):∃ a xs,v=.ref a/\H a=some (.tup xs)/\af P K H ds xs:=by rw[Rep]at h;exact h
theorem BD:kh X .sub (rI0 fun i j=>.int (i-j)):=by
 intro σD σ H H2 e x y d v u Q sm rx ry h hav k
 obtain⟨i,j,rfl,rfl,rfl⟩:=vd h
 exact⟨i,j,ah rx,ah ry,k _ _ (d6 sm bp rfl)⟩
theorem yX:kh X .fdiv (rI (fun _ j=>0<j/\j<2 ^ 200) fun i j=>.int (i / j)):=by
 intro σD σ H H2 e x y d v u Q sm rx ry h hav k
 obtain⟨i,j,rfl,rfl,hc,rfl⟩:=t6 h
 exact⟨i,j,ah rx,ah ry,hc,k _ _ (d6 sm bp rfl)⟩
theorem A7:kh X .mod (rI (fun _ j=>0<j) fun i j=>.int (i%j)):=by
 intro σD σ H H2 e x y d v u Q sm rx ry h hav k
 obtain⟨i,j,rfl,rfl,hc,rfl⟩:=vI h
 exact⟨i,j,ah rx,ah ry,hc,k _ _ (d6 sm bp rfl)⟩
theorem Bd:kh X .pow (rI BG fun i j=>.int (i ^ j.toNat)):=by
 intro σD σ H H2 e x y d v u Q sm rx ry h hav k
 obtain⟨i,j,rfl,rfl,hc,rfl⟩:=wB h
 exact⟨i,j,ah rx,ah ry,⟨hc.1,Int.le_trans hc.2.1 (by decide),hc.2.2⟩,k _ _ (d6 sm bp rfl)⟩
theorem Bu(ha:SE X cl a a')(hb:SE X cl b b'):SE X cl (.BinOp a .Add b pos) (.bin .add a' b'):=by
 refine fz (o:=.add) (A6.or (rD.or (BV.or yy))) ?_ ha hb
 intro σD σ H H2 e x y d v u Q sm rx ry h hav k
 rcases wN h with⟨i,j,rfl,rfl,rfl⟩ | ⟨i,j,rfl,rfl,hc,rfl⟩ | ⟨i,j,rfl,rfl,hc,rfl⟩ | ⟨i,j,rfl,rfl,⟨hc,ha⟩,rfl⟩
 ·exact .inl ⟨i,j,ah rx,ah ry,k _ _ (d6 sm bp rfl)⟩
 ·exact .inr (.inl ⟨i,j,aH rx,aH ry,Nat.le_trans hc bS,k _ _ (d6 sm f7 rfl)⟩)
 ·obtain⟨p,xs,e1,_,e2,e3⟩:=aD rx
  obtain⟨q,ys,f1,_,f2,f3⟩:=aD ry
  refine .inr (.inr (.inl ⟨p,q,xs,ys,e1,f1,e2,f2,?_,fun l hl=>k _ _ (eB sm hl (e3.append f3) hav)⟩))
  rw[<-e3.length,<-f3.length]
  exact Nat.le_trans hc bS
 ·obtain⟨p,xs,e1,e2,e3⟩:=bo rx
  obtain⟨q,ys,f1,f2,f3⟩:=bo ry
  refine .inr (.inr (.inr ⟨p,q,xs,ys,e1,f1,SqT.of e2,SqT.of f2,fun z=>?_,?_,fun z=>?_,fun _ l hl=>k _ _ (ij sm hl (e3.append f3) hav)⟩))
  ·rw[e3.length,z]at ha
   exact absurd ha (by decide)
  ·rw[<-e3.length,<-f3.length]
   exact Nat.le_trans hc bS
  ·have hj:j=[]:=by
    have:=f3.length
    rw[z]at this
    exact List.length_eq_zero_iff.mp this
   subst hj
   rw[List.append_nil]at k
   exact k _ _ ⟨sm,e1▸rx,fun _ m=>(by cases m),fun M z=>by rw[hav M]at z;cases z⟩
theorem zd(ha:SE X cl a a')(hb:SE X cl b b'):SE X cl (.BinOp a .Mult b pos) (.bin .mul a' b'):=by
 refine fz (o:=.mul) (zr.or Be) ?_ ha hb
 intro σD σ H H2 e x y d v u Q sm rx ry h hav k
 rcases wV h with⟨i,j,rfl,rfl,hc,rfl⟩ | ⟨i,j,rfl,rfl,hc,rfl⟩
 ·exact .inl ⟨i,j,ah rx,ah ry,hc,k _ _ (d6 sm bp rfl)⟩
 ·obtain⟨p,xs,e1,_,e2,e3⟩:=aD rx
  refine .inr ⟨p,j,xs,e1,ah ry,e2,?_,?_,?_,fun l hl=>k _ _ (eB sm hl (e3.rep _) hav)⟩
  ·exact Int.le_trans (by decide) hc.1
  ·exact Int.lt_of_le_of_lt hc.2.1 (by decide)
  ·rw[<-e3.length]
   exact Nat.le_trans hc.2.2 bS
theorem BW{o:RL.Bop}(ha:SE X cl a a')(hb:SE X cl b b'):SE X cl (.BinOp a (oP o) b pos) (.bin o a' b'):=by
 cases o with
 | add=>exact Bu ha hb
 | mul=>exact zd ha hb
 | sub=>exact fz (o:=.sub) AJ BD ha hb
 | fdiv=>exact fz (o:=.fdiv) vT yX ha hb
 | mod=>exact fz (o:=.mod) BR A7 ha hb
 | pow=>exact fz (o:=.pow) AV Bd ha hb
theorem du{σD:RL.St}{σ:L2.St}{H H':Hp}{e:RL.E}{k:Bool}(sm:au H H'):Res X.K σD σ H e (.bl k) (.bl k) H':=d6 sm ng rfl
theorem AA{rest:List Expr}(ha:SE X cl a a')(hb:SE X cl (.BoolOp .And (b::rest) pos) b'):SE X cl (.BoolOp .And (a::b::rest) pos) (.and a' b'):=by
 refine PE.weak (zZ ha hb) fun σ H Q h=>?_
 obtain⟨σD,d,rv,e,k⟩:=h
 rw[RL.ev]at e
 obtain⟨x,ea,e⟩:=bind_some e
 refine⟨σD,x,rv,ea,fun v H1 r1=>?_⟩
 cases x with
 |bl t=>
  refine⟨t,aY r1.rep,?_⟩
  cases t with
  |true=>
   refine dX ?_
   refine⟨σD,d,rv.same r1.same,e,fun w H2 r2=>k w H2 ?_⟩
   exact⟨r1.same.trans r2.same,r2.rep,fun z=>(by cases z),fun M z=>nomatch (show false=true from z)⟩
  |false=>
   refine eE ?_
   cases e
   exact k _ _ (du r1.same)
 | _=>cases e
theorem Cy{rest:List Expr}(ha:SE X cl a a')(hb:SE X cl (.BoolOp .Or (b::rest) pos) b'):SE X cl (.BoolOp .Or (a::b::rest) pos) (.or a' b'):=by
 refine PE.weak (CD ha hb) fun σ H Q h=>?_
 obtain⟨σD,d,rv,e,k⟩:=h
 rw[RL.ev]at e
 obtain⟨x,ea,e⟩:=bind_some e
 refine⟨σD,x,rv,ea,fun v H1 r1=>?_⟩
 cases x with
 |bl t=>
  refine⟨t,aY r1.rep,?_⟩
  cases t with
  |false=>
   refine eE ?_
   refine⟨σD,d,rv.same r1.same,e,fun w H2 r2=>k w H2 ?_⟩
   exact⟨r1.same.trans r2.same,r2.rep,fun z=>(by cases z),fun M z=>nomatch (show false=true from z)⟩
  |true=>
   refine dX ?_
   cases e
   exact k _ _ (du r1.same)
 | _=>cases e
theorem sM{op}(ha:SE X cl a a'):SE X cl (.BoolOp op [a] pos) a':=Bo ha
noncomputable def tT(K:PySem.W.Frag)(cl:RL.Cl)(e:RL.E):TT:=fun σ H Q=>∃ σD k,RV0 K σD σ H/\(RL.ev cl σD e).bind RL.truth=some k/\∀ H',au H H'->Q k H'
noncomputable def ST(X:Cx)(cl:RL.Cl)(e:Expr)(e':RL.E):Prop:=PT X e (tT X.K cl e')
noncomputable def SW(X:Cx)(cl:RL.Cl)(e:Expr)(e':RL.E):Prop:=PW X e (tT X.K cl e')
theorem PT.weak{e:Expr}{t t':TT}(h:PT X e t)(w:∀ σ H Q,t' σ H Q->t σ H Q):PT X e t':=fun pins s σ H Q I q=>h pins s σ H Q I (w σ H Q q)
theorem PW.weak{e:Expr}{t t':TT}(h:PW X e t)(w:∀ σ H Q,t' σ H Q->t σ H Q):PW X e t':=fun wh pins s σ H Q I q=>h wh pins s σ H Q I (w σ H Q q)
theorem af.isEmpty{P:Addr->Prop}{K:PySem.W.Frag}{H:Hp}{ds:List RL.D}{xs:List V}(h:af P K H ds xs):ds.isEmpty=xs.isEmpty:=by
 cases ds with
 | nil=>rw[af]at h;rw[h];rfl
 |cons d r=>
  rw[af]at h
  obtain⟨x,t,rfl,_⟩:=h
  rfl
theorem By{K:PySem.W.Frag}{H:Hp}{d:RL.D}{v:V}{k:Bool}(r:Rep nP K H d v)(h:RL.truth d=some k):sf K v H k:=by
 cases d<;>simp only[RL.truth]at h<;>first | (cases h;done) | skip
 case bl t=>cases h;rw[aY r];exact rfl
 case int t =>
  cases h
  rw[ah r]
  simp[sf]
 case tup ds =>
  obtain⟨a,xs,rfl,e,rs⟩:=bo r
  cases h
  exact .inr (.inl ⟨xs,SqT.of e,by rw[rs.isEmpty]⟩)
 case lst ds =>
  obtain⟨a,xs,rfl,_,e,rs⟩:=aD r
  cases h
  exact .inl ⟨xs,SqL.of e,by rw[rs.isEmpty]⟩
theorem wo(ha:SE X cl a a')(he:∀ whole,isTrue a X.env whole=(do let v <- whole;standAt a.pos;holding [v] (truthy v))):ST X cl a a':=by
 refine PT.weak (vK ha he) fun σ H Q h=>?_
 obtain⟨σD,k,rv,e,q⟩:=h
 obtain⟨d,e1,e2⟩:=bind_some e
 exact⟨σD,d,rv,e1,fun v H1 r1=>⟨k,By r1.rep e2,q H1 r1.same⟩⟩
theorem uL{op:BoolOp}(ha:ST X cl a a'):SW X cl (.BoolOp op [a] pos) a':=by
 cases op with
 | And=>exact yj ha
 | Or=>exact AO ha
theorem ue{σD:RL.St}{k:Bool}(h:(RL.ev cl σD (.and a' b')).bind RL.truth=some k):∃ t,(RL.ev cl σD a').bind RL.truth=some t/\(if t=true then(RL.ev cl σD b').bind RL.truth=some k else k=false):=by
 rw[RL.ev]at h
 cases ea:RL.ev cl σD a' with
 | none=>rw[ea]at h;cases h
 |some x=>
  rw[ea]at h
  cases x with
  |bl t=>
   cases t with
   | true=>exact⟨true,rfl,dX h⟩
   | false=>exact⟨false,rfl,eE (by cases h;rfl)⟩
  | _=>exact noN rfl h
theorem wa{σD:RL.St}{k:Bool}(h:(RL.ev cl σD (.or a' b')).bind RL.truth=some k):∃ t,(RL.ev cl σD a').bind RL.truth=some t/\(if t=true then k=true else(RL.ev cl σD b').bind RL.truth=some k):=by
 rw[RL.ev]at h
 cases ea:RL.ev cl σD a' with
 | none=>rw[ea]at h;cases h
 |some x=>
  rw[ea]at h
  cases x with
  |bl t=>
   cases t with
   | true=>exact⟨true,rfl,dX (by cases h;rfl)⟩
   | false=>exact⟨false,rfl,eE h⟩
  | _=>exact noN rfl h
theorem A3{rest:List Expr}(ha:ST X cl a a')(hb:SW X cl (.BoolOp .And (b::rest) pos) b'):SW X cl (.BoolOp .And (a::b::rest) pos) (.and a' b'):=by
 refine PW.weak (zh ha hb) fun σ H Q h=>?_
 obtain⟨σD,k,rv,e,q⟩:=h
 obtain⟨t,e1,e2⟩:=ue e
 refine⟨σD,t,rv,e1,fun H1 s1=>?_⟩
 cases t with
 | true=>exact dX ⟨σD,k,rv.same s1,e2,fun H2 s2=>q H2 (s1.trans s2)⟩
 |false=>
  have e2:k=false:=e2
  subst e2
  exact eE (q H1 s1)
theorem CL{rest:List Expr}(ha:ST X cl a a')(hb:SW X cl (.BoolOp .Or (b::rest) pos) b'):SW X cl (.BoolOp .Or (a::b::rest) pos) (.or a' b'):=by
 refine PW.weak (CN ha hb) fun σ H Q h=>?_
 obtain⟨σD,k,rv,e,q⟩:=h
 obtain⟨t,e1,e2⟩:=wa e
 refine⟨σD,t,rv,e1,fun H1 s1=>?_⟩
 cases t with
 |true=>
  have e2:k=true:=e2
  subst e2
  exact dX (q H1 s1)
 | false=>exact eE ⟨σD,k,rv.same s1,e2,fun H2 s2=>q H2 (s1.trans s2)⟩
theorem zq(ha:ST X cl a a'):ST X cl (.UnaryOp .Not a pos) (.not a'):=by
 refine PT.weak (Cd ha) fun σ H Q h=>?_
 obtain⟨σD,k,rv,e,q⟩:=h
 rw[RL.ev]at e
 obtain⟨d,e1,e2⟩:=bind_some e
 obtain⟨t,e3,e4⟩:=map_some e1
 subst e4
 cases e2
 exact⟨σD,t,rv,e3,fun H1 s1=>q H1 s1⟩
theorem AR(hc:ST X cl c c')(ha:SE X cl a a')(hb:SE X cl b b'):SE X cl (.IfExp c a b pos) (.ifx c' a' b'):=by
 refine PE.weak (vM hc ha hb) fun σ H Q h=>?_
 obtain⟨σD,d,rv,e,q⟩:=h
 rw[RL.ev]at e
 obtain⟨t,e1,e2⟩:=bind_some e
 refine⟨σD,t,rv,e1,fun H1 s1=>?_⟩
 have fin:∀ (a':RL.E) (v:V) (H2:Hp),(∀ M,RL.avE M (.ifx c' a' b')=true->RL.avE M a'=true)->True:=fun _ _ _ _=>trivial
 cases t with
 |true=>
  refine dX ⟨σD,d,rv.same s1,e2,fun v H2 r2=>q v H2 ⟨s1.trans r2.same,r2.rep,fun z=>(by cases z),fun M z P hP av=>?_⟩⟩
  have z:(RL.avE M a'&&RL.avE M b')=true:=z
  rw[Bool.and_eq_true]at z
  exact r2.av M z.1 P (fun a p=>(Option.ne_none_iff_exists'.mpr (by obtain⟨o,ho⟩:=Option.ne_none_iff_exists'.mp (hP a p);exact⟨o,s1 _ _ ho⟩))) fun j dj vj h1 h2 h3=>(av j dj vj h1 h2 h3).same s1
 |false=>
  refine eE ⟨σD,d,rv.same s1,e2,fun v H2 r2=>q v H2 ⟨s1.trans r2.same,r2.rep,fun z=>(by cases z),fun M z P hP av=>?_⟩⟩
  have z:(RL.avE M a'&&RL.avE M b')=true:=z
  rw[Bool.and_eq_true]at z
  exact r2.av M z.2 P (fun a p=>(Option.ne_none_iff_exists'.mpr (by obtain⟨o,ho⟩:=Option.ne_none_iff_exists'.mp (hP a p);exact⟨o,s1 _ _ ho⟩))) fun j dj vj h1 h2 h3=>(av j dj vj h1 h2 h3).same s1
end rules
section rules
variable{X:Cx}{cl:RL.Cl}{a b c:Expr}{a' b' c':RL.E}{pos:Pos}
theorem Al(ha:SE X cl a a'):SE X cl (.UnaryOp .Not a pos) (.not a'):=by
 intro pins s σ H Q I h
 obtain⟨σD,d,rv,e,k⟩:=h
 rw[RL.ev]at e
 obtain⟨t,e1,e2⟩:=map_some e
 obtain⟨x,e3,e4⟩:=bind_some e1
 subst e2
 refine UnaryOp_ (thn (ha pins s σ H (fun v H1=>au H H1/\Rep nP X.K H1 x v) I ⟨σD,x,rv,e3,fun v H1 r1=>⟨r1.same,r1.rep⟩⟩) fun v s1 ⟨y,H1,I1,r1,sm,rp⟩=>?_)
 refine not_of (thn (sR pins s1 σ H1 y v (fun k H2=>k=t/\H2=H1) I1 r1 ⟨t,By rp e4,rfl,rfl⟩) fun k2 s2 ⟨H2,I2,q1,q2⟩=>?_)
 subst q1
 subst q2
 exact⟨.bl (!k2),H2,I2,rfl,k _ _ (du sm)⟩
noncomputable def noStar:Expr->Bool
 | .Starred _ _=>false
 | _=>true
theorem az{e:Expr}(es:List Expr)(h:noStar e=true):starEach (e::es) X.env=(false,eval e X.env)::starEach es X.env:=by
 cases e<;>first | rfl | (cases h)
theorem dJ:∀ {es:List Expr} {pos:Pos},es.all noStar=true->(backTo pos (starEach es X.env)).any (·.1)=false
 | [],_,_=>rfl
 | e::es,pos,h=>by
  rw[List.all_cons,Bool.and_eq_true]at h
  rw[az es h.1]
  show(false || (backTo pos (starEach es X.env)).any (·.1))=false
  rw[dJ h.2]
  rfl
theorem dS:SEs X cl [] .nil:=by
 intro pos pins s σ H Q I h
 obtain⟨σD,ds,rv,e,k⟩:=h
 rw[RL.evs]at e
 cases e
 exact cW pos pins s σ H Q I (k [] H (au.refl H) af.nil)
theorem cy{e:Expr}{es:List Expr}{e':RL.E}{es':RL.Es}(he:SE X cl e e')(hr:SEs X cl es es')(hn:noStar e=true):SEs X cl (e::es) (.cons e' es'):=by
 intro pos pins s σ H Q I h
 refine bu he hr (az es hn) pos pins s σ H Q I ?_
 obtain⟨σD,ds,rv,e,k⟩:=h
 rw[RL.evs]at e
 obtain⟨d,e1,e2⟩:=bind_some e
 obtain⟨r,e3,e4⟩:=map_some e2
 subst e4
 refine⟨σD,d,rv,e1,fun v H1 r1=>⟨σD,r,rv.same r1.same,e3,fun vs H2 s2 r2=>k (v::vs) H2 (r1.same.trans s2) (af.cons (r1.rep.same s2) r2)⟩⟩
noncomputable def dD:RL.Es->Nat
 | .nil=>0
 | .cons _ r=>dD r+1
theorem jO{σD:RL.St}:∀ {es:RL.Es} {ds:List RL.D},RL.evs cl σD es=some ds->ds.length=dD es
 | .nil,ds,h=>by rw[RL.evs]at h;cases h;rfl
 | .cons e r,ds,h=>by
  rw[RL.evs]at h
  obtain⟨d,e1,e2⟩:=bind_some h
  obtain⟨t,e3,e4⟩:=map_some e2
  subst e4
  rw[List.length_cons,jO e3,dD]
theorem B6{es:List Expr}{es':RL.Es}{x1}(h:SEs X cl es es')(hl:dD es'<=1000):SE X cl (.Tuple es x1 pos) (.tup es'):=by
 refine PE.weak (zl h) fun σ H Q q=>?_
 obtain⟨σD,d,rv,e,k⟩:=q
 rw[RL.ev]at e
 obtain⟨ds,e1,e2⟩:=map_some e
 subst e2
 refine⟨σD,ds,rv,e1,fun vs H1 s1 r1=>⟨?_,fun p hp=>k _ _ (ij s1 hp r1 fun _=>rfl)⟩⟩
 rw[<-r1.length,jO e1]
 exact Nat.le_of_lt (lU hl)
theorem B9{es:List Expr}{es':RL.Es}(h:SEs X cl es es')(hl:dD es'<=1000):SE X cl (.List es pos) (.lst es'):=by
 refine PE.weak (B2 h) fun σ H Q q=>?_
 obtain⟨σD,d,rv,e,k⟩:=q
 rw[RL.ev]at e
 obtain⟨ds,e1,e2⟩:=map_some e
 subst e2
 refine⟨σD,ds,rv,e1,fun vs H1 s1 r1=>⟨?_,fun p hp=>k _ _ (eB s1 hp r1 fun _=>rfl)⟩⟩
 rw[<-r1.length,jO e1]
 exact Nat.le_of_lt (lU hl)
theorem l8{α:Type}{xs:List α}{i:Int}{x:α}(h:RL.bW xs i=some x):atI xs i=some x:=by
 unfold RL.bW at h
 unfold atI ixN
 by_cases h0:0<=i
 ·rw[if_pos h0]at h
  rw[if_pos h0]
  obtain⟨h1,_⟩:=List.getElem?_eq_some_iff.mp h
  rw[if_pos (by lia)]
  exact h
 ·rw[if_neg h0]at h
  rw[if_neg h0]
  by_cases h1:-(xs.length:Int)<=i
  ·rw[if_pos h1]at h
   rw[if_pos h1]
   exact h
  ·rw[if_neg h1]at h
   cases h
theorem fX{P:Addr->Prop}{K:PySem.W.Frag}{H:Hp}{ds:List RL.D}{xs:List V}{i:Int}{d:RL.D}(r:af P K H ds xs)(h:RL.bW ds i=some d):∃ x,RL.bW xs i=some x/\Rep P K H d x:=by
 unfold RL.bW at h ⊢
 rw[<-r.length]
 by_cases h0:0<=i
 ·rw[if_pos h0]at h ⊢
  exact r.get h
 ·rw[if_neg h0]at h ⊢
  by_cases h1:-(ds.length:Int)<=i
  ·rw[if_pos h1]at h ⊢
   exact r.get h
  ·rw[if_neg h1]at h
   cases h
noncomputable def oD:Expr->Bool
 | .Slice _ _ _ _=>false
 | _=>true
theorem pR{b:Expr}(h:oD b=true):qh b:=by
 intro o i
 cases b<;>first | rfl | (cases h)
theorem tN{x y d:RL.D}(h:RL.ixV x y=some d):(∃ xs i,x=.lst xs/\y=.int i/\RL.bW xs i=some d)\/(∃ xs i,x=.tup xs/\y=.int i/\RL.bW xs i=some d) \/
  (∃ (z:Str) (i:Int) (c:Nat),x=.str z/\y=.int i/\z.length<=RL.most/\RL.bW z.cps.toList i=some c/\d=.str ⟨#[c]⟩):=by
 have no:∀ {o:Option RL.D},o=none->o=some d->False:=fun e h=>by rw[e]at h;cases h
 cases x with
 | lst xs=>cases y with
  | int i=>exact .inl ⟨xs,i,rfl,rfl,h⟩
  | _=>exact(no rfl h).elim
 | tup xs=>cases y with
  | int i=>exact .inr (.inl ⟨xs,i,rfl,rfl,h⟩)
  | _=>exact(no rfl h).elim
 | str z=>cases y with
  |int i=>
   by_cases hc:z.length<=RL.most
   ·obtain⟨c,e1,e2⟩:=map_some (show(RL.bW z.cps.toList i).map (fun c=>RL.D.str ⟨#[c]⟩)=some d from(if_pos hc).symm.trans h)
    exact .inr (.inr ⟨z,i,c,rfl,rfl,hc,e1,e2.symm⟩)
   ·exact(no (if_neg hc) h).elim
  | _=>exact(no rfl h).elim
 | _=>exact(no rfl h).elim
theorem CB(ha:SE X cl a a')(hb:SE X cl b b')(hs:oD b=true):SE X cl (.Subscript a b pos) (.ix a' b'):=by
 refine PE.weak (xm sS ha hb (pR hs)) fun σ H Q h=>?_
 obtain⟨σD,d,rv,e,k⟩:=h
 rw[RL.ev]at e
 obtain⟨x,ea,e⟩:=bind_some e
 obtain⟨y,eb,e⟩:=bind_some e
 refine two rv ea eb fun v u H1 H2 s1 s2 rx ry ra rb=>?_
 have fin:∀ (w:V),Rep nP X.K H2 d w->(∀ P:Addr->Prop,Rep P X.K H2 x v->Rep P X.K H2 d w)->Res X.K σD σ H (.ix a' b') d w H2:=fun w h1 h2=>{
  same:=s1.trans s2
  rep:=h1
  fresh:=fun z=>by cases z
  av:=fun M z P hP av=>h2 P ((ra.av M z P hP av).same s2) }
 rcases tN e with⟨xs,i,rfl,rfl,hd⟩ | ⟨xs,i,rfl,rfl,hd⟩ | ⟨z,i,c,rfl,rfl,hz,hd,rfl⟩
 ·obtain⟨p,ys,rfl,_,e2,e3⟩:=aD rx
  obtain⟨w,h1,h2⟩:=fX e3 hd
  refine .inl ⟨p,ys,i,w,rfl,ah ry,SqL.of e2,l8 h1,k _ _ (fin w h2 fun P rp=>?_)⟩
  obtain⟨p',ys',q1,_,q2,q3⟩:=aD rp
  cases q1
  rw[e2]at q2
  cases q2
  obtain⟨w',h3,h4⟩:=fX q3 hd
  rw[h1]at h3
  cases h3
  exact h4
 ·obtain⟨p,ys,rfl,e2,e3⟩:=bo rx
  obtain⟨w,h1,h2⟩:=fX e3 hd
  refine .inr (.inl ⟨p,ys,i,w,rfl,ah ry,SqT.of e2,l8 h1,k _ _ (fin w h2 fun P rp=>?_)⟩)
  obtain⟨p',ys',q1,q2,q3⟩:=bo rp
  cases q1
  rw[e2]at q2
  cases q2
  obtain⟨w',h3,h4⟩:=fX q3 hd
  rw[h1]at h3
  cases h3
  exact h4
 ·exact .inr (.inr ⟨z,i,c,aH rx,ah ry,Nat.le_trans hz bS,l8 hd,k _ _ (fin _ f7 fun P _=>f7)⟩)
end rules
section rules
variable{X:Cx}{cl:RL.Cl}{a b c:Expr}{a' b' c':RL.E}{pos:Pos}
theorem fC{f:RL.D->RL.D->Option Bool}:∀ {as bs:List RL.D} {k:Bool},RL.eqs f as bs=some k ->
  ∃ e:Nat->Bool,k=(List.range (min as.length bs.length)).all e/\∀ j x y,as[j]?=some x->bs[j]?=some y->f x y=some (e j)
 | [],bs,k,h=>by
  have h:some true=some k:=by simpa[RL.eqs]using h
  cases h
  exact⟨fun _=>true,by simp,fun j x y h1=>by simp at h1⟩
 | a::r,[],k,h=>by
  have h:some true=some k:=by simpa[RL.eqs]using h
  cases h
  exact⟨fun _=>true,by simp,fun j x y h1 h2=>by simp at h2⟩
 | a::r,b::s,k,h=>by
  rw[RL.eqs]at h
  obtain⟨e0,h1,h2⟩:=bind_some h
  obtain⟨k',h3,h4⟩:=map_some h2
  obtain⟨e,h5,h6⟩:=fC h3
  refine⟨fun j=>match j with | 0=>e0 | j+1=>e j,?_,fun j x y hx hy=>?_⟩
  ·rw[<-h4,h5,List.length_cons,List.length_cons,Nat.succ_min_succ,List.range_succ_eq_map,List.all_cons,List.all_map]
   rfl
  ·cases j with
   |zero=>
    simp at hx hy
    subst hx hy
    exact h1
   | succ j=>exact h6 j x y (by simpa using hx) (by simpa using hy)
theorem eO{n:Nat}{x y:RL.D}{k:Bool}(h:RL.eqD n x y=some k):(∃ i j,x=.bl i/\y=.bl j/\(i == j)=k)\/(∃ i j,x=.int i/\y=.int j/\(i == j)=k)\/(∃ i j,x=.str i/\y=.str j/\(i == j)=k) \/
  (∃ m i j,n=m+1/\x=.tup i/\y=.tup j/\Option.map (fun k=>k&&i.length == j.length) (RL.eqs (RL.eqD m) i j)=some k)\/(∃ m i j,n=m+1/\x=.lst i/\y=.lst j/\Option.map (fun k=>k&&i.length == j.length) (RL.eqs (RL.eqD m) i j)=some k):=by
 cases n with
 | zero=>cases x with
  | bl i=>cases y with
   | bl j=>exact .inl ⟨i,j,rfl,rfl,Option.some.inj h⟩
   | _=>exact noN rfl h
  | int i=>cases y with
   | int j=>exact .inr (.inl ⟨i,j,rfl,rfl,Option.some.inj h⟩)
   | _=>exact noN rfl h
  | str i=>cases y with
   | str j=>exact .inr (.inr (.inl ⟨i,j,rfl,rfl,Option.some.inj h⟩))
   | _=>exact noN rfl h
  | _=>exact noN rfl h
 | succ m=>cases x with
  | bl i=>cases y with
   | bl j=>exact .inl ⟨i,j,rfl,rfl,Option.some.inj h⟩
   | _=>exact noN rfl h
  | int i=>cases y with
   | int j=>exact .inr (.inl ⟨i,j,rfl,rfl,Option.some.inj h⟩)
   | _=>exact noN rfl h
  | str i=>cases y with
   | str j=>exact .inr (.inr (.inl ⟨i,j,rfl,rfl,Option.some.inj h⟩))
   | _=>exact noN rfl h
  | tup i=>cases y with
   | tup j=>exact .inr (.inr (.inr (.inl ⟨m,i,j,rfl,rfl,rfl,h⟩)))
   | _=>exact noN rfl h
  | lst i=>cases y with
   | lst j=>exact .inr (.inr (.inr (.inr ⟨m,i,j,rfl,rfl,rfl,h⟩)))
   | _=>exact noN rfl h
  | _=>exact noN rfl h
theorem lS{K:PySem.W.Frag}{H:Hp}:∀ (n:Nat) (x y:RL.D) (v:V) (k:Bool),Rep nP K H x v->Rep nP K H y v->RL.eqD n x y=some k->k=true:=by
 intro n
 induction n with
 |zero=>
  intro x y v k rx ry h
  rcases eO h with⟨i,j,rfl,rfl,rfl⟩ | ⟨i,j,rfl,rfl,rfl⟩ | ⟨i,j,rfl,rfl,rfl⟩ | ⟨m,i,j,hn,hx,hy,h⟩ | ⟨m,i,j,hn,hx,hy,h⟩
  ·have:=aY rx;rw[aY ry]at this;cases this;simp
  ·have:=ah rx;rw[ah ry]at this;cases this;simp
  ·have:=aH rx;rw[aH ry]at this;cases this;simp
  ·cases hn
  ·cases hn
 |succ n ih=>
  intro x y v k rx ry h
  have seq:∀ (i j:List RL.D) (xs:List V) (k:Bool),af nP K H i xs->af nP K H j xs->Option.map (fun k=>k&&i.length == j.length) (RL.eqs (RL.eqD n) i j)=some k->k=true:=by
   intro i j xs k e3 f3 h
   obtain⟨k',h1,h2⟩:=map_some h
   obtain⟨e,h3,h4⟩:=fC h1
   have hl:i.length=j.length:=e3.length.trans f3.length.symm
   have hk:k'=true:=by
    rw[h3,List.all_eq_true]
    intro m hm
    rw[List.mem_range]at hm
    obtain⟨w,w1,w2⟩:=e3.get (i:=m) (d:=i[m]'(by lia)) (by simp)
    obtain⟨w',w1',w2'⟩:=f3.get (i:=m) (d:=j[m]'(by lia)) (by simp)
    rw[w1]at w1'
    cases w1'
    exact ih _ _ w (e m) w2 w2' (h4 m _ _ (by simp) (by simp))
   rw[<-h2,hk,hl]
   simp
  rcases eO h with⟨i,j,rfl,rfl,rfl⟩ | ⟨i,j,rfl,rfl,rfl⟩ | ⟨i,j,rfl,rfl,rfl⟩ | ⟨m,i,j,hn,hx,hy,h⟩ | ⟨m,i,j,hn,hx,hy,h⟩
  ·have:=aY rx;rw[aY ry]at this;cases this;simp
  ·have:=ah rx;rw[ah ry]at this;cases this;simp
  ·have:=aH rx;rw[aH ry]at this;cases this;simp
  ·cases hn;subst hx;subst hy
   obtain⟨p,xs,rfl,e2,e3⟩:=bo rx
   obtain⟨q,ys,q1,f2,f3⟩:=bo ry
   cases q1
   rw[e2]at f2
   cases f2
   exact seq i j xs k e3 f3 h
  ·cases hn;subst hx;subst hy
   obtain⟨p,xs,rfl,_,e2,e3⟩:=aD rx
   obtain⟨q,ys,q1,_,f2,f3⟩:=aD ry
   cases q1
   rw[e2]at f2
   cases f2
   exact seq i j xs k e3 f3 h
open SeqAt in
theorem deep{pins:List (Addr × Obj)}{σ:L2.St}{H:Hp}{s:Shared}(I:Inv X pins σ H s):∀ (n:Nat) (A:Around) (x y:RL.D) (v u:V) (va ua:Value) (k:Bool),A.units+n<cLine->Rep nP X.K H x v->Rep nP X.K H y u->RelV v va->RelV u ua ->
  RL.eqD n x y=some k->RcAt A s va ua k/\EqAt A s va ua k:=by
 intro n
 induction n with
 |zero=>
  intro A x y v u va ua k hu rx ry qx qy h
  rcases eO h with⟨i,j,rfl,rfl,rfl⟩ | ⟨i,j,rfl,rfl,rfl⟩ | ⟨i,j,rfl,rfl,rfl⟩ | ⟨m,i,j,hn,hx,hy,h⟩ | ⟨m,i,j,hn,hx,hy,h⟩
  ·rw[aY rx]at qx;rw[aY ry]at qy;cases qx;cases qy;exact⟨RcAt.bool_bool i j,EqAt.bool_bool i j⟩
  ·rw[ah rx]at qx;rw[ah ry]at qy;obtain⟨t,rfl⟩:=qx;obtain⟨t',rfl⟩:=qy;exact⟨RcAt.int_int i t j t',EqAt.int_int i t j t'⟩
  ·rw[aH rx]at qx;rw[aH ry]at qy;obtain⟨t,rfl⟩:=qx;obtain⟨t',rfl⟩:=qy;exact⟨RcAt.str_str i t j t',EqAt.str_str i t j t'⟩
  ·cases hn
  ·cases hn
 |succ n ih=>
  intro A x y v u va ua k hu rx ry qx qy h
  rcases eO h with⟨i,j,rfl,rfl,rfl⟩ | ⟨i,j,rfl,rfl,rfl⟩ | ⟨i,j,rfl,rfl,rfl⟩ | ⟨m,i,j,hn,hx,hy,h⟩ | ⟨m,i,j,hn,hx,hy,h⟩
  ·rw[aY rx]at qx;rw[aY ry]at qy;cases qx;cases qy;exact⟨RcAt.bool_bool i j,EqAt.bool_bool i j⟩
  ·rw[ah rx]at qx;rw[ah ry]at qy;obtain⟨t,rfl⟩:=qx;obtain⟨t',rfl⟩:=qy;exact⟨RcAt.int_int i t j t',EqAt.int_int i t j t'⟩
  ·rw[aH rx]at qx;rw[aH ry]at qy;obtain⟨t,rfl⟩:=qx;obtain⟨t',rfl⟩:=qy;exact⟨RcAt.str_str i t j t',EqAt.str_str i t j t'⟩
  ·cases hn;subst hx;subst hy
   obtain⟨p,xs,rfl,e2,e3⟩:=bo rx
   obtain⟨q,ys,rfl,f2,f3⟩:=bo ry
   cases qx;cases qy
   obtain⟨its,r1,t1,z1⟩:=I.tuple (SqT.of e2)
   obtain⟨jts,r2,t2,z2⟩:=I.tuple (SqT.of f2)
   obtain⟨k',h1,h2⟩:=map_some h
   obtain⟨e,h3,h4⟩:=fC h1
   have l1:i.length=its.length:=e3.length.trans r1.length
   have l2:j.length=jts.length:=f3.length.trans r2.length
   have he:∀ m (g1:m<its.toArray.size) (g2:m<jts.toArray.size),EqAt A.in1 s its.toArray[m] jts.toArray[m] (e m):=fun m g1 g2=>by
    rw[List.size_toArray]at g1 g2
    obtain⟨w,w1,w2⟩:=e3.get (i:=m) (d:=i[m]'(by lia)) (by simp)
    obtain⟨w',w1',w2'⟩:=f3.get (i:=m) (d:=j[m]'(by lia)) (by simp)
    obtain⟨uu,b1,b2⟩:=r1.get w1
    obtain⟨uu',b1',b2'⟩:=r2.get w1'
    have c1:its.toArray[m]=uu:=by simpa using(List.getElem?_eq_some_iff.mp b1).2
    have c2:jts.toArray[m]=uu':=by simpa using(List.getElem?_eq_some_iff.mp b1').2
    rw[c1,c2]
    exact(ih A.in1 _ _ w w' uu uu' (e m) (by show A.units+1+n<cLine;lia) w2 w2' b2 b2' (h4 m _ _ (by simp) (by simp))).2
   have main:RcAt A s (.ref p) (.ref q) k:=by
    have z:=RcAt.tuples (e:=e) t1 t2 (by lia) he
    rw[List.size_toArray,List.size_toArray,<-l1,<-l2,<-h3,h2]at z
    exact z
   refine⟨main,?_⟩
   by_cases z:p=q
   ·subst z
    rw[lS (n+1) _ _ _ k rx ry h]
    exact EqAt.same _
   ·exact EqAt.of_refs z main
  ·cases hn;subst hx;subst hy
   obtain⟨p,xs,rfl,_,e2,e3⟩:=aD rx
   obtain⟨q,ys,rfl,_,f2,f3⟩:=aD ry
   cases qx;cases qy
   obtain⟨its,r1,t1,z1⟩:=I.list (SqL.of e2)
   obtain⟨jts,r2,t2,z2⟩:=I.list (SqL.of f2)
   obtain⟨k',h1,h2⟩:=map_some h
   obtain⟨e,h3,h4⟩:=fC h1
   have l1:i.length=its.length:=e3.length.trans r1.length
   have l2:j.length=jts.length:=f3.length.trans r2.length
   have he:∀ m (g1:m<its.toArray.size) (g2:m<jts.toArray.size),EqAt A.in1 s its.toArray[m] jts.toArray[m] (e m):=fun m g1 g2=>by
    rw[List.size_toArray]at g1 g2
    obtain⟨w,w1,w2⟩:=e3.get (i:=m) (d:=i[m]'(by lia)) (by simp)
    obtain⟨w',w1',w2'⟩:=f3.get (i:=m) (d:=j[m]'(by lia)) (by simp)
    obtain⟨uu,b1,b2⟩:=r1.get w1
    obtain⟨uu',b1',b2'⟩:=r2.get w1'
    have c1:its.toArray[m]=uu:=by simpa using(List.getElem?_eq_some_iff.mp b1).2
    have c2:jts.toArray[m]=uu':=by simpa using(List.getElem?_eq_some_iff.mp b1').2
    rw[c1,c2]
    exact(ih A.in1 _ _ w w' uu uu' (e m) (by show A.units+1+n<cLine;lia) w2 w2' b2 b2' (h4 m _ _ (by simp) (by simp))).2
   have main:RcAt A s (.ref p) (.ref q) k:=by
    by_cases hl:its.length=jts.length
    ·have z:=RcAt.lists (e:=e) t1.isList t2.isList (by rw[List.size_toArray,List.size_toArray];exact hl) (by lia) he
     rw[List.size_toArray]at z
     have hk:k=(List.range its.length).all e:=by
      rw[<-h2,h3,l1,l2,hl]
      simp
     rw[hk]
     exact z
    ·have hk:k=false:=by
      rw[<-h2,l1,l2]
      simp[hl]
     rw[hk]
     exact RcAt.lists_lengths t1.isList t2.isList (by rw[List.size_toArray,List.size_toArray];simpa using hl) (by lia)
   refine⟨main,?_⟩
   by_cases z:p=q
   ·subst z
    rw[lS (n+1) _ _ _ k rx ry h]
    exact EqAt.same _
   ·exact EqAt.of_refs z main
end rules
section rules
variable{X:Cx}{cl:RL.Cl}{a b c:Expr}{a' b' c':RL.E}{pos:Pos}
open SeqAt in
theorem BH{pins:List (Addr × Obj)}{σ:L2.St}{H:Hp}{s:Shared}(I:Inv X pins σ H s)(n:Nat)(A:Around)(x y:RL.D)(v u:V)(va ua:Value)(k:Bool)(hu:A.units+n<cLine)(rx:Rep nP X.K H x v)(ry:Rep nP X.K H y u)(qx:RelV v va)(qy:RelV u ua)
 (h:RL.eqD n x y=some k):RcNeAt A s va ua (!k):=by
 rcases eO h with⟨i,j,rfl,rfl,rfl⟩ | ⟨i,j,rfl,rfl,rfl⟩ | ⟨i,j,rfl,rfl,rfl⟩ | ⟨nn,i,j,hn,hx,hy,h⟩ | ⟨nn,i,j,hn,hx,hy,h⟩
 ·rw[aY rx]at qx;rw[aY ry]at qy;cases qx;cases qy;exact RcNeAt.bool_bool i j
 ·rw[ah rx]at qx;rw[ah ry]at qy;obtain⟨t,rfl⟩:=qx;obtain⟨t',rfl⟩:=qy;exact RcNeAt.int_int i t j t'
 ·rw[aH rx]at qx;rw[aH ry]at qy;obtain⟨t,rfl⟩:=qx;obtain⟨t',rfl⟩:=qy;exact RcNeAt.str_str i t j t'
 ·subst hn;subst hx;subst hy
  obtain⟨p,xs,rfl,e2,e3⟩:=bo rx
  obtain⟨q,ys,rfl,f2,f3⟩:=bo ry
  cases qx;cases qy
  obtain⟨its,r1,t1,z1⟩:=I.tuple (SqT.of e2)
  obtain⟨jts,r2,t2,z2⟩:=I.tuple (SqT.of f2)
  obtain⟨k',h1,h2⟩:=map_some h
  obtain⟨e,h3,h4⟩:=fC h1
  have l1:i.length=its.length:=e3.length.trans r1.length
  have l2:j.length=jts.length:=f3.length.trans r2.length
  have he:∀ m (g1:m<its.toArray.size) (g2:m<jts.toArray.size),EqAt A.in1 s its.toArray[m] jts.toArray[m] (e m):=fun m g1 g2=>by
   rw[List.size_toArray]at g1 g2
   obtain⟨w,w1,w2⟩:=e3.get (i:=m) (d:=i[m]'(by lia)) (by simp)
   obtain⟨w',w1',w2'⟩:=f3.get (i:=m) (d:=j[m]'(by lia)) (by simp)
   obtain⟨uu,b1,b2⟩:=r1.get w1
   obtain⟨uu',b1',b2'⟩:=r2.get w1'
   have c1:its.toArray[m]=uu:=by simpa using(List.getElem?_eq_some_iff.mp b1).2
   have c2:jts.toArray[m]=uu':=by simpa using(List.getElem?_eq_some_iff.mp b1').2
   rw[c1,c2]
   exact(deep I nn A.in1 _ _ w w' uu uu' (e m) (by show A.units+1+nn<cLine;lia) w2 w2' b2 b2' (h4 m _ _ (by simp) (by simp))).2
  have z:=RcNeAt.tuples (e:=e) t1 t2 (by lia) he
  rw[List.size_toArray,List.size_toArray,<-l1,<-l2,<-h3,h2]at z
  exact z
 ·subst hn;subst hx;subst hy
  obtain⟨p,xs,rfl,_,e2,e3⟩:=aD rx
  obtain⟨q,ys,rfl,_,f2,f3⟩:=aD ry
  cases qx;cases qy
  obtain⟨its,r1,t1,z1⟩:=I.list (SqL.of e2)
  obtain⟨jts,r2,t2,z2⟩:=I.list (SqL.of f2)
  obtain⟨k',h1,h2⟩:=map_some h
  obtain⟨e,h3,h4⟩:=fC h1
  have l1:i.length=its.length:=e3.length.trans r1.length
  have l2:j.length=jts.length:=f3.length.trans r2.length
  have he:∀ m (g1:m<its.toArray.size) (g2:m<jts.toArray.size),EqAt A.in1 s its.toArray[m] jts.toArray[m] (e m):=fun m g1 g2=>by
   rw[List.size_toArray]at g1 g2
   obtain⟨w,w1,w2⟩:=e3.get (i:=m) (d:=i[m]'(by lia)) (by simp)
   obtain⟨w',w1',w2'⟩:=f3.get (i:=m) (d:=j[m]'(by lia)) (by simp)
   obtain⟨uu,b1,b2⟩:=r1.get w1
   obtain⟨uu',b1',b2'⟩:=r2.get w1'
   have c1:its.toArray[m]=uu:=by simpa using(List.getElem?_eq_some_iff.mp b1).2
   have c2:jts.toArray[m]=uu':=by simpa using(List.getElem?_eq_some_iff.mp b1').2
   rw[c1,c2]
   exact(deep I nn A.in1 _ _ w w' uu uu' (e m) (by show A.units+1+nn<cLine;lia) w2 w2' b2 b2' (h4 m _ _ (by simp) (by simp))).2
  by_cases hl:its.length=jts.length
  ·have z:=RcNeAt.lists (e:=e) t1.isList t2.isList (by rw[List.size_toArray,List.size_toArray];exact hl) (by lia) he
   rw[List.size_toArray]at z
   have hk:k=(List.range its.length).all e:=by
    rw[<-h2,h3,l1,l2,hl]
    simp
   rw[hk]
   exact z
  ·have hk:k=false:=by
    rw[<-h2,l1,l2]
    simp[hl]
   rw[hk]
   exact RcNeAt.lists_lengths t1.isList t2.isList (by rw[List.size_toArray,List.size_toArray];simpa using hl) (by lia)
noncomputable def cM:RL.Cop->CmpOp
 | .lt=>.Lt
 | .le=>.LtE
 | .gt=>.Gt
 | .ge=>.GtE
 | .eq=>.Eq
 | .ne=>.NotEq
noncomputable def rT(K:PySem.W.Frag)(c:RL.Cop):R2:=fun v u H Q=>∃ x y k,Rep nP K H x v/\Rep nP K H y u/\RL.bc c x y=some k/\Q (.bl k) H
theorem ic{c:RL.Cop}(hc:c≠.eq)(hc2:c≠.ne){x y:RL.D}{k:Bool}(h:RL.bc c x y=some k):∃ i j,x=.int i/\y=.int j:=by
 have no:∀ {a b:RL.D},RL.bc .lt a b=none->RL.bc .le a b=none->RL.bc .gt a b=none->RL.bc .ge a b=none->RL.bc c a b=some k->False:=fun e1 e2 e3 e4 h=>by
  cases c with
  | eq=>exact hc rfl
  | ne=>exact hc2 rfl
  | lt=>rw[e1]at h;cases h
  | le=>rw[e2]at h;cases h
  | gt=>rw[e3]at h;cases h
  | ge=>rw[e4]at h;cases h
 cases x with
 | int i=>cases y with
  | int j=>exact⟨_,_,rfl,rfl⟩
  | _=>exact(no rfl rfl rfl rfl h).elim
 | _=>exact(no rfl rfl rfl rfl h).elim
theorem gG{c:RL.Cop}(hu:X.A.units+100<cLine):OpR X (compareOp (cM c)) (rT X.K c):=by
 intro pins s σ H x y v u Q I rx ry h
 obtain⟨dx,dy,k,ex,ey,e,q⟩:=h
 have fin:EP X pins σ Q (.bool k) s:=⟨.bl k,H,I,rfl,q⟩
 cases c with
 |eq=>
  have e:RL.eqD 8 dx dy=some k:=e
  exact(deep I 8 X.A dx dy x y v u k (by lia) ex ey rx ry e).1 X.prog X.w X.xe _ fin
 |ne=>
  obtain⟨k',e1,e2⟩:=map_some (show(RL.eqD 8 dx dy).map not=some k from e)
  subst e2
  exact BH I 8 X.A dx dy x y v u k' (by lia) ex ey rx ry e1 X.prog X.w X.xe _ fin
 |lt=>
  obtain⟨i,j,rfl,rfl⟩:=ic (by decide) (by decide) e
  cases e
  rw[ah ex]at rx;rw[ah ey]at ry
  obtain⟨t,rfl⟩:=rx;obtain⟨t',rfl⟩:=ry
  exact lt_int fin
 |le=>
  obtain⟨i,j,rfl,rfl⟩:=ic (by decide) (by decide) e
  cases e
  rw[ah ex]at rx;rw[ah ey]at ry
  obtain⟨t,rfl⟩:=rx;obtain⟨t',rfl⟩:=ry
  exact le_int fin
 |gt=>
  obtain⟨i,j,rfl,rfl⟩:=ic (by decide) (by decide) e
  cases e
  rw[ah ex]at rx;rw[ah ey]at ry
  obtain⟨t,rfl⟩:=rx;obtain⟨t',rfl⟩:=ry
  exact gt_int fin
 |ge=>
  obtain⟨i,j,rfl,rfl⟩:=ic (by decide) (by decide) e
  cases e
  rw[ah ex]at rx;rw[ah ey]at ry
  obtain⟨t,rfl⟩:=rx;obtain⟨t',rfl⟩:=ry
  exact ge_int fin
theorem hZ{c:RL.Cop}(b:Expr):behindInMarks (cM c) b=false:=by cases c<;>exact mS b
theorem tP{c:RL.Cop}{σ:L2.St}{H:Hp}{Q:VK}(h:∃ σD d,RV0 X.K σD σ H/\RL.ev cl σD (.cmp c a' b')=some d/\∀ H',au H H'->∃ k,d=.bl k/\Q (.bl k) H'):tOp (rT X.K c) (tE X.K cl a') (tE X.K cl b') σ H Q:=by
 obtain⟨σD,d,rv,e,k⟩:=h
 rw[RL.ev]at e
 obtain⟨x,ea,e⟩:=bind_some e
 obtain⟨y,eb,e⟩:=bind_some e
 obtain⟨t,e1,e2⟩:=map_some e
 refine two rv ea eb fun v u H1 H2 s1 s2 rx ry _ _=>?_
 obtain⟨k',h1,h2⟩:=k H2 (s1.trans s2)
 rw[h1]at e2
 cases e2
 exact⟨x,y,t,rx,ry,e1,h2⟩
theorem lT{c:RL.Cop}{σD:RL.St}{d:RL.D}(e:RL.ev cl σD (.cmp c a' b')=some d):∃ k,d=.bl k:=by
 rw[RL.ev]at e
 obtain⟨x,ea,e⟩:=bind_some e
 obtain⟨y,eb,e⟩:=bind_some e
 obtain⟨t,e1,e2⟩:=map_some e
 exact⟨t,e2.symm⟩
theorem zx{c:RL.Cop}(hu:X.A.units+100<cLine)(ha:SE X cl a a')(hb:SE X cl b b'):SE X cl (.Compare a [cM c] [b] pos) (.cmp c a' b'):=by
 refine PE.weak (la (gG hu) ha hb (hZ b)) fun σ H Q h=>?_
 obtain⟨σD,d,rv,e,k⟩:=h
 obtain⟨t,rfl⟩:=lT e
 exact tP ⟨σD,_,rv,e,fun H' sm=>⟨t,rfl,k _ _ (du sm)⟩⟩
theorem B3{c:RL.Cop}(hu:X.A.units+100<cLine)(ha:SE X cl a a')(hb:SE X cl b b'):ST X cl (.Compare a [cM c] [b] pos) (.cmp c a' b'):=by
 refine PT.weak (iR (gG hu) ha hb (hZ b)) fun σ H Q h=>?_
 obtain⟨σD,k,rv,e,q⟩:=h
 obtain⟨d,e1,e2⟩:=bind_some e
 obtain⟨t,rfl⟩:=lT e1
 cases e2
 exact tP ⟨σD,_,rv,e1,fun H' sm=>⟨k,rfl,k,rfl,q H' sm⟩⟩
theorem x3{c c':RL.Cop}(b e:Expr):lastMarks [cM c,cM c'] [b,e]=false:=by
 show behindInMarks (cM c') e=false
 exact hZ e
variable{e:Expr}{e':RL.E}
theorem ju{c c':RL.Cop}{σD:RL.St}{d:RL.D}(h:RL.ev cl σD (.chain c c' a' b' e')=some d):∃ k,d=.bl k:=by
 rw[RL.ev]at h
 obtain⟨x,ea,h⟩:=bind_some h
 obtain⟨y,eb,h⟩:=bind_some h
 obtain⟨t,e1,h⟩:=bind_some h
 cases t with
 |true=>
  obtain⟨z,ec,h⟩:=bind_some (show(RL.ev cl σD e').bind _=some d from h)
  obtain⟨t,e1,e2⟩:=map_some h
  exact⟨t,e2.symm⟩
 | false=>exact⟨false,(Option.some.inj (show some (RL.D.bl false)=some d from h)).symm⟩
theorem pq{c c':RL.Cop}{σ:L2.St}{H:Hp}{Q:VK}(h:∃ σD k,RV0 X.K σD σ H/\RL.ev cl σD (.chain c c' a' b' e')=some (.bl k)/\∀ H',au H H'->Q (.bl k) H') :
  oh (rT X.K c) (rT X.K c') (tE X.K cl a') (tE X.K cl b') (tE X.K cl e') σ H Q:=by
 obtain⟨σD,k,rv,h,q⟩:=h
 rw[RL.ev]at h
 obtain⟨x,ea,h⟩:=bind_some h
 obtain⟨y,eb,h⟩:=bind_some h
 obtain⟨t,e1,h⟩:=bind_some h
 refine two rv ea eb fun v u H1 H2 s1 s2 rx ry _ _=>?_
 refine⟨x,y,t,rx,ry,e1,t,rfl,?_⟩
 have sm:=s1.trans s2
 cases t with
 |true=>
  rw[if_pos rfl]at h
  obtain⟨z,ec,h⟩:=bind_some h
  obtain⟨t,e3,e2⟩:=map_some h
  cases e2
  exact dX ⟨σD,z,rv.same sm,ec,fun w H3 r3=>⟨y,z,k,ry.same r3.same,r3.rep,e3,q H3 (sm.trans r3.same)⟩⟩
 |false=>
  rw[if_neg (by decide)]at h
  cases h
  exact eE (q H2 sm)
theorem v7{c c':RL.Cop}(hu:X.A.units+100<cLine)(ha:SE X cl a a')(hb:SE X cl b b')(he:SE X cl e e'):SE X cl (.Compare a [cM c,cM c'] [b,e] pos) (.chain c c' a' b' e'):=by
 refine PE.weak (vw (gG hu) (gG hu) ha hb he (x3 b e)) fun σ H Q h=>?_
 obtain⟨σD,d,rv,h,k⟩:=h
 obtain⟨t,rfl⟩:=ju h
 exact pq ⟨σD,t,rv,h,fun H' sm=>k _ _ (du sm)⟩
theorem vt{c c':RL.Cop}(hu:X.A.units+100<cLine)(ha:SE X cl a a')(hb:SE X cl b b')(he:SE X cl e e'):ST X cl (.Compare a [cM c,cM c'] [b,e] pos) (.chain c c' a' b' e'):=by
 refine PT.weak (v5 (gG hu) (gG hu) ha hb he (x3 b e)) fun σ H Q h=>?_
 obtain⟨σD,k,rv,h,q⟩:=h
 obtain⟨d,e1,e2⟩:=bind_some h
 obtain⟨t,rfl⟩:=ju e1
 cases e2
 exact pq ⟨σD,k,rv,e1,fun H' sm=>⟨k,rfl,q H' sm⟩⟩
end rules
section rules
variable{X:Cx}{cl:RL.Cl}{a b c:Expr}{a' b' c':RL.E}{pos:Pos}
theorem lJ{neg:Bool}(b:Expr):behindInMarks (if neg then .IsNot else .Is) b=false:=by cases neg<;>exact mS b
theorem qj{neg:Bool}:OpR X (compareOp (if neg then .IsNot else .Is)) (fun x y H Q=>y=.non/\Q (.bl (if neg then !decide (x=.non)else decide (x=.non))) H):=by
 cases neg with
 | true=>exact xC
 | false=>exact Az
theorem uE{neg:Bool}{σD:RL.St}{d:RL.D}(h:RL.ev cl σD (.isN neg a')=some d):∃ x,RL.ev cl σD a'=some x/\∀ v (H:Hp),Rep nP X.K H x v->d=.bl (if neg then !decide (v=.non)else decide (v=.non)):=by
 rw[RL.ev]at h
 obtain⟨x,ea,h⟩:=bind_some h
 refine⟨x,ea,fun v H r=>?_⟩
 cases x with
 | non=>cases h;rw[Rep]at r;subst r;cases neg<;>rfl
 | bl k=>cases h;rw[aY r];cases neg<;>rfl
 | int k=>cases h;rw[ah r];cases neg<;>rfl
 | str k=>cases h;rw[aH r];cases neg<;>rfl
 | tup k=>cases h;obtain⟨p,xs,rfl,_⟩:=bo r;cases neg<;>rfl
 | lst k=>cases h;obtain⟨p,xs,rfl,_⟩:=aD r;cases neg<;>rfl
 | scr k=>cases h;rw[Rep]at r;obtain⟨p,xs,rfl,_⟩:=r;cases neg<;>rfl
 | exc k=>cases h;rw[Rep]at r;obtain⟨p,_,_,_,_,rfl,_⟩:=r;cases neg<;>rfl
 | dK _ _=>cases h
 | dT _ _=>cases h
theorem zI{neg:Bool}{j:Nat}{p:Pos}(ha:SE X cl a a'):SE X cl (.Compare a [if neg then .IsNot else .Is] [.Constant .none j p] pos) (.isN neg a'):=by
 refine PE.weak (la qj ha oY (lJ _)) fun σ H Q h=>?_
 obtain⟨σD,d,rv,e,q⟩:=h
 obtain⟨x,ea,hx⟩:=uE (X:=X) e
 refine⟨σD,_,rv,ea,fun v H1 r1=>⟨rfl,?_⟩⟩
 have hd:=hx v H1 r1.rep
 subst hd
 exact q _ _ (du r1.same)
theorem ze{neg:Bool}{j:Nat}{p:Pos}(ha:SE X cl a a'):ST X cl (.Compare a [if neg then .IsNot else .Is] [.Constant .none j p] pos) (.isN neg a'):=by
 refine PT.weak (iR qj ha oY (lJ _)) fun σ H Q h=>?_
 obtain⟨σD,k,rv,e,q⟩:=h
 obtain⟨d,e1,e2⟩:=bind_some e
 obtain⟨x,ea,hx⟩:=uE (X:=X) e1
 refine⟨σD,_,rv,ea,fun v H1 r1=>⟨rfl,?_⟩⟩
 have hd:=hx v H1 r1.rep
 subst hd
 cases e2
 exact⟨_,rfl,q _ r1.same⟩
theorem eG{P:Addr->Prop}{K:PySem.W.Frag}{H:Hp}{d:RL.D}{ds:List RL.D}{v:V}(h:RL.items d=some ds)(r:Rep P K H d v):∃ p xs,v=.ref p/\((H p=some (.lst xs)/\d=.lst ds)\/(H p=some (.tup xs)/\d=.tup ds))/\af P K H ds xs:=by
 cases d<;>simp only[RL.items]at h<;>first | (cases h;done) | skip
 case lst ys=>cases h;obtain⟨p,xs,e1,_,e2,e3⟩:=aD r;exact⟨p,xs,e1,.inl ⟨e2,rfl⟩,e3⟩
 case tup ys=>cases h;obtain⟨p,xs,e1,e2,e3⟩:=bo r;exact⟨p,xs,e1,.inr ⟨e2,rfl⟩,e3⟩
theorem qf{P:Addr->Prop}{K:PySem.W.Frag}{H:Hp}{d:RL.D}{v:V}(h:RL.flat d=true)(r:Rep P K H d v):eJ v=true/\∀ d' v',RL.flat d'=true->Rep P K H d' v'->RL.eqF d d'=eqV v v':=by
 cases d<;>simp only[RL.flat]at h<;>first | (cases h;done) | skip
 case int i =>
  rw[ah r]
  refine⟨rfl,fun d' v' h' r'=>?_⟩
  cases d'<;>simp only[RL.flat]at h'<;>first | (cases h';done) | skip
  case int j=>rw[ah r'];simp[RL.eqF,eqV]
  case str j=>rw[aH r'];simp[RL.eqF,eqV]
 case str i =>
  rw[aH r]
  refine⟨rfl,fun d' v' h' r'=>?_⟩
  cases d'<;>simp only[RL.flat]at h'<;>first | (cases h';done) | skip
  case int j=>rw[ah r'];simp[RL.eqF,eqV]
  case str j=>rw[aH r'];simp[RL.eqF,eqV]
theorem mO{P:Addr->Prop}{K:PySem.W.Frag}{H:Hp}{d:RL.D}{v:V}(hf:RL.flat d=true)(r:Rep P K H d v):∀ {ds:List RL.D} {xs:List V},ds.all RL.flat=true->af P K H ds xs->xs.all eJ=true/\(ds.any fun x=>RL.eqF x d)=inV v xs
 | [],xs,_,h=>by rw[af]at h;subst h;exact⟨rfl,rfl⟩
 | e::t,xs,ha,h=>by
  rw[af]at h
  obtain⟨x,ys,rfl,e2,e3⟩:=h
  rw[List.all_cons,Bool.and_eq_true]at ha
  obtain⟨h1,h2⟩:=mO hf r ha.2 e3
  obtain⟨h3,h4⟩:=qf ha.1 e2
  refine⟨by rw[List.all_cons,h3,h1];rfl,?_⟩
  rw[List.any_cons,h2,h4 d v hf r]
  rfl
theorem ub{neg:Bool}:OpR X (compareOp (if neg then .NotIn else .In)) (rIn X.K neg):=by
 cases neg with
 | true=>exact nD
 | false=>exact uO
theorem uo{neg:Bool}{σ:L2.St}{H:Hp}{Q:VK}{σD:RL.St}{d:RL.D}(rv:RV0 X.K σD σ H)(e:RL.ev cl σD (.inn neg a' b')=some d)(k:∀ t H',d=.bl t->au H H'->Q (.bl t) H'):tOp (rIn X.K neg) (tE X.K cl a') (tE X.K cl b') σ H Q:=by
 rw[RL.ev]at e
 obtain⟨x,ea,e⟩:=bind_some e
 obtain⟨y,eb,e⟩:=bind_some e
 obtain⟨t,e1,e2⟩:=map_some e
 unfold RL.inV at e1
 obtain⟨ds,e3,e4⟩:=bind_some e1
 by_cases hc:(RL.flat x&&ds.all RL.flat)=true
 ·rw[if_pos hc]at e4
  cases e4
  rw[Bool.and_eq_true]at hc
  refine two rv ea eb fun v u H1 H2 s1 s2 rx ry _ _=>?_
  obtain⟨p,xs,rfl,hp,rs⟩:=eG e3 ry
  obtain⟨h1,h2⟩:=mO hc.1 rx hc.2 rs
  refine⟨p,xs,rfl,?_,(qf hc.1 rx).1,h1,?_⟩
  ·rcases hp with⟨z,_⟩ | ⟨z,_⟩
   ·exact .inl (SqL.of z)
   ·exact .inr (SqT.of z)
  ·refine k _ _ ?_ (s1.trans s2)
   rw[<-e2,h2]
 ·rw[if_neg hc]at e4
  cases e4
noncomputable def rZ:Expr->Bool
 | .Set _ _ _=>false
 | _=>true
theorem lP{op:CmpOp}{b:Expr}(h:rZ b=true):behindInMarks op b=false:=by
 cases b<;>first | rfl | (cases h)
theorem BE{neg:Bool}(ha:SE X cl a a')(hb:SE X cl b b')(hm:rZ b=true):SE X cl (.Compare a [if neg then .NotIn else .In] [b] pos) (.inn neg a' b'):=by
 refine PE.weak (la ub ha hb (lP hm)) fun σ H Q h=>?_
 obtain⟨σD,d,rv,e,q⟩:=h
 exact uo rv e fun t H' hd sm=>by subst hd;exact q _ _ (du sm)
theorem Bl{neg:Bool}(ha:SE X cl a a')(hb:SE X cl b b')(hm:rZ b=true):ST X cl (.Compare a [if neg then .NotIn else .In] [b] pos) (.inn neg a' b'):=by
 refine PT.weak (iR ub ha hb (lP hm)) fun σ H Q h=>?_
 obtain⟨σD,k,rv,e,q⟩:=h
 obtain⟨d,e1,e2⟩:=bind_some e
 refine uo rv e1 fun t H' hd sm=>?_
 subst hd
 cases e2
 exact⟨_,rfl,q _ sm⟩
noncomputable def spF(K:PySem.W.Frag)(cl:RL.Cl)(f:Nat):Sp:=fun vs H Q _=>∃ ds d,af nP K H ds vs/\cl f ds=some d/\∀ v H',au H H'->Rep (fun p=>H p≠none) K H' d v->Q v H'
theorem yt{es:List Expr}{e:Expr}{es':RL.Es}{e':RL.E}{f:Nat}{x:Str}{p:Pos}{k:Nat}{fa:Addr}{fd:FuncData}{ps:List Str}(F:d5 X.prog X.w X.K X.mg X.base CX0 k fa fd ps (spF X.K cl f))(hr:bV k X.A)(hg:Gl X x)
 (hm:X.mg x=some (.ref fa))(hk:PySem.W.keepIn X.K (.ref fa)=true)(hb:Binds X.K fd ps [])(he:SEs X cl (e::es) (.cons e' es'))(hdb:(x == ("__debug__" : Str))=false)(hn:noStar e=true)(hns:es.all noStar=true) :
  SE X cl (.Call (.Name x p) (e::es) [] pos) (.call f (.cons e' es')):=by
 refine PE.weak (qu F hr hg hm hk hb .nil xw he hdb (az es hn) (dJ hns)) fun σ H Q h=>?_
 obtain⟨σD,d,rv,ev,q⟩:=h
 rw[RL.ev]at ev
 obtain⟨ds,e1,e2⟩:=bind_some ev
 refine⟨σD,ds,rv,e1,fun vs H1 s1 r1=>?_⟩
 show spF X.K cl f (vs++[]) H1 Q E0
 rw[List.append_nil]
 refine⟨ds,d,r1,e2,fun v H2 s2 r2=>q v H2 ⟨s1.trans s2,r2.none,fun _ m a z=>?_,fun M _ P hP _=>?_⟩⟩
 ·subst z
  have hh:H1 a=none:=by
   cases d with
   | lst ds=>obtain⟨p,xs,e1,e2,_⟩:=aD r2;cases e1;exact Classical.byContradiction e2
   | dK ks ds=>rw[Rep]at r2;obtain⟨p,xs,e1,e2,_⟩:=r2;cases e1;exact Classical.byContradiction e2
   | dT ks ds=>rw[Rep]at r2;obtain⟨p,xs,e1,e2,_⟩:=r2;cases e1;exact Classical.byContradiction e2
   | _=>cases m
  exact s1.free hh
 ·refine r2.weak fun a z=>?_
  obtain⟨o,ho⟩:=Option.ne_none_iff_exists'.mp (hP a z)
  rw[s1 _ _ ho]
  exact fun q=>nomatch q
end rules
noncomputable def Off(P:Addr->Prop)(H H':Hp):Prop:=∀ b o,¬ P b->H b=some o->H' b=some o
theorem Off.same{H H':Hp}(h:au H H'){P:Addr->Prop}:Off P H H':=fun b o _ e=>h b o e
mutual
theorem Rep.off{P:Addr->Prop}{K:PySem.W.Frag}{H H':Hp}(hm:∀ b o,P b->H b=some o->cA o)(k:Off P H H'):∀ {d:RL.D} {v:V},Rep P K H d v->Rep P K H' d v
 | .non,v,h=>by simpa[Rep]using h
 | .bl _,v,h=>by simpa[Rep]using h
 | .int _,v,h=>by simpa[Rep]using h
 | .str _,v,h=>by simpa[Rep]using h
 | .tup ds,v,h=>by
  rw[Rep]at h ⊢
  obtain⟨b,xs,e1,e2,e3⟩:=h
  have n:¬ P b:=fun p=>by rcases hm b _ p e2 with⟨z,q⟩ | ⟨z,q⟩ | ⟨z,q⟩<;>cases q
  exact⟨b,xs,e1,k _ _ n e2,af.off hm k e3⟩
 | .lst ds,v,h=>by
  rw[Rep]at h ⊢
  obtain⟨b,xs,e1,e0,e2,e3⟩:=h
  exact⟨b,xs,e1,e0,k _ _ e0 e2,af.off hm k e3⟩
 | .dK ks ds,v,h=>by
  rw[Rep]at h ⊢
  obtain⟨b,xs,e1,e0,e2,el,e3⟩:=h
  exact⟨b,xs,e1,e0,k _ _ e0 e2,el,af.off hm k e3⟩
 | .dT ks ds,v,h=>by
  rw[Rep]at h ⊢
  obtain⟨b,xs,e1,e0,e2,el,e3⟩:=h
  exact⟨b,xs,e1,e0,k _ _ e0 e2,el,af.off hm k e3⟩
 | .scr ds,v,h=>by
  rw[Rep]at h ⊢
  obtain⟨b,xs,e1,e2,e3⟩:=h
  refine⟨b,xs,e1,?_,af.off hm k e3⟩
  rcases e2 with⟨q,e2⟩ | e2
  ·have n:¬ P b:=fun p=>by rcases hm b _ p e2 with⟨z,q⟩ | ⟨z,q⟩ | ⟨z,q⟩<;>cases q
   exact .inl ⟨q,k _ _ n e2⟩
  ·exact .inr e2
 | .exc c,v,h=>by
  rw[Rep]at h ⊢
  exact h.keep fun b ob u q=>k _ _ (fun p=>by rcases hm b _ p q with⟨z,y⟩ | ⟨z,y⟩ | ⟨z,y⟩<;>cases y) q
theorem af.off{P:Addr->Prop}{K:PySem.W.Frag}{H H':Hp}(hm:∀ b o,P b->H b=some o->cA o)(k:Off P H H'):∀ {ds:List RL.D} {xs:List V},af P K H ds xs->af P K H' ds xs
 | [],xs,h=>by rw[af]at h ⊢;exact h
 | d::r,xs,h=>by
  rw[af]at h ⊢
  obtain⟨x,t,e1,e2,e3⟩:=h
  exact⟨x,t,e1,Rep.off hm k e2,af.off hm k e3⟩
end
structure hU(K:PySem.W.Frag)(J:L2.It)(ds:List RL.D)(P:Addr->Prop)(H:Hp):Prop where
 go:∀ H' i,Off P H H'->i<ds.length->J.go i H'
 stop:∀ H',Off P H H'->J.stop ds.length H'
 yld:∀ H' i d x H2,Off P H H'->ds[i]?=some d->J.yld i H' x H2->au H' H2/\(d.imm=true\/au H H'->Rep nP K H2 d x)
noncomputable def xl(K:PySem.W.Frag)(σD:RL.St)(σ:L2.St)(H:Hp)(it:RL.It)(J:L2.It)(ds:List RL.D)(H1:Hp):Prop :=
 hU K J ds nP H1/\∀ (M:List Nat) (P:Addr->Prop),RL.oj M it=true->(∀ b,P b->∃ o,H b=some o/\cA o)->(∀ (j:Nat) (dj:RL.D) (vj:V),M.contains j=false->σD[j]?=some (some dj)->σ[j]?=some (some vj)->Rep P K H dj vj)->hU K J ds P H1
noncomputable def tI(K:PySem.W.Frag)(cl:RL.Cl)(it:RL.It):TI:=fun σ H R=>∃ σD ds,RV0 K σD σ H/\RL.bq cl σD it=some ds/\∀ J H1,au H H1->xl K σD σ H it J ds H1->R J H1
noncomputable def SI(X:Cx)(cl:RL.Cl)(tg iter:Expr)(it:RL.It):Prop:=PI X tg iter (tI X.K cl it)
theorem PI.weak{X:Cx}{tg iter:Expr}{t t':TI}(h:PI X tg iter t)(w:∀ σ H R,t' σ H R->t σ H R):PI X tg iter t':=fun pins s σ H R I q=>h pins s σ H R I (w σ H R q)
theorem fR{K:PySem.W.Frag}{P:Addr->Prop}{H H':Hp}{d:RL.D}{v:V}(hm:∀ b o,P b->H b=some o->cA o)(k:Off P H H')(r:Rep nP K H d v)(i:d.imm=true):Rep nP K H' d v :=
 ((r.imm i).off hm k).imm i
theorem qp{K:PySem.W.Frag}{H:Hp}{a:Addr}{ds:List RL.D}{xs:List V}{P:Addr->Prop}(h:H a=some (.lst xs))(r:af nP K H ds xs)(hp:¬ P a)(hm:∀ b o,P b->H b=some o->cA o):hU K (Itl K a) ds P H where
 go:=fun H' i k hi=>by
  obtain⟨x,e,_⟩:=r.get (i:=i) (d:=ds[i]) (by simp[hi])
  exact⟨xs,x,SqL.of (k _ _ hp h),e⟩
 stop:=fun H' k=>⟨xs,SqL.of (k _ _ hp h),by rw[r.length];exact Nat.le_refl _⟩
 yld:=fun H' i d x H2 k e y=>by
  obtain⟨z,y⟩:=y
  subst z
  have hx:=y xs (SqL.of (k _ _ hp h))
  obtain⟨x',e1,e2⟩:=r.get e
  rw[hx]at e1
  cases e1
  refine⟨au.refl _,fun q=>?_⟩
  rcases q with q | q
  ·exact fR hm k e2 q
  ·exact e2.same q
theorem sH{K:PySem.W.Frag}{H:Hp}{a:Addr}{ds:List RL.D}{xs:List V}{P:Addr->Prop}(h:H a=some (.tup xs))(r:af nP K H ds xs)(hm:∀ b o,P b->H b=some o->cA o):hU K (Itt K a) ds P H:=by
 have hp:¬ P a:=fun p=>by rcases hm a _ p h with⟨z,q⟩ | ⟨z,q⟩ | ⟨z,q⟩<;>cases q
 exact {
  go:=fun H' i k hi=>by
   obtain⟨x,e,_⟩:=r.get (i:=i) (d:=ds[i]) (by simp[hi])
   exact⟨xs,x,SqT.of (k _ _ hp h),e⟩
  stop:=fun H' k=>⟨xs,SqT.of (k _ _ hp h),by rw[r.length];exact Nat.le_refl _⟩
  yld:=fun H' i d x H2 k e y=>by
   obtain⟨z,y⟩:=y
   subst z
   have hx:=y xs (SqT.of (k _ _ hp h))
   obtain⟨x',e1,e2⟩:=r.get e
   rw[hx]at e1
   cases e1
   refine⟨au.refl _,fun q=>?_⟩
   rcases q with q | q
   ·exact fR hm k e2 q
   ·exact e2.same q }
theorem kj:∀ (n:Nat) (lo:Int) (i:Nat) (d:RL.D),(RL.bY lo n)[i]?=some d->d=.int (lo+i)
 | 0,lo,i,d,h=>by simp[RL.bY]at h
 | n+1,lo,0,d,h=>by simp[RL.bY]at h;simp[h]
 | n+1,lo,i+1,d,h=>by
  rw[RL.bY,List.getElem?_cons_succ]at h
  rw[kj n (lo+1) i d h]
  congr 1
  lia
theorem iu:∀ (n:Nat) (lo:Int),(RL.bY lo n).length=n
 | 0,_=>rfl
 | n+1,lo=>by rw[RL.bY,List.length_cons,iu n]
theorem kc{K:PySem.W.Frag}{H:Hp}{lo:Int}{n:Nat}{P:Addr->Prop}:hU K (Itr lo n) (RL.bY lo n) P H where
 go:=fun H' i k hi=>by rw[iu]at hi;exact hi
 stop:=fun H' k=>by rw[iu];exact Nat.le_refl _
 yld:=fun H' i d x H2 k e y=>by
  obtain⟨z,y⟩:=y
  subst z
  refine⟨au.refl _,fun _=>?_⟩
  rw[kj n lo i d e,y]
  exact bp
section rules
variable{X:Cx}{cl:RL.Cl}{tg a b l:Expr}{a' b' e':RL.E}{pos p:Pos}
theorem Cz{t t':TE}{l:Expr}(hl:PE X l t):PI X tg l (fun σ H R=>t σ H fun x H1=>(∃ a,x=.ref a/\(∃ xs,SqL X.K H1 a xs)/\R (Itl X.K a) H1)\/(∃ a,x=.ref a/\(∃ xs,SqT X.K H1 a xs)/\R (Itt X.K a) H1)):=by
 intro pins s σ H R I h
 refine thn (hl pins s σ H _ I h) fun v s1 ⟨x,H1,I1,r1,q1⟩=>?_
 rcases q1 with⟨a,e,⟨xs,hq⟩,q⟩ | ⟨a,e,⟨xs,hq⟩,q⟩
 ·subst e
  cases r1
  obtain⟨its,rv,p,hz⟩:=I1.list hq
  refine wpAny_pyIter_list p.isList ⟨s1.heap.objs.size,[s1.heap.objs.size],_,_,H1,rfl,I1.kept (t':=s1.toks) fun b o e=>Heap.get?_push_of_some _ e,uJ a _,⟨_,Heap.get?_push_size _ rfl,rfl,rfl⟩,fun b hb=>?_,q⟩
  rw[show b=s1.heap.objs.size by simpa using hb]
  exact I1.oq (Nat.le_refl _) (I1.hok.fresh (Nat.le_refl _))
 ·subst e
  cases r1
  obtain⟨its,rv,p,hz⟩:=I1.tuple hq
  refine wpAny_pyIter_tuple (show s1.heap.IsTuple a its.toArray from p) ⟨s1.heap.objs.size,[s1.heap.objs.size],_,_,H1,rfl,I1.kept (t':=s1.toks) fun b o e=>Heap.get?_push_of_some _ e,sk a _,⟨_,Heap.get?_push_size _ rfl,rfl,rfl⟩,fun b hb=>?_,q⟩
  rw[show b=s1.heap.objs.size by simpa using hb]
  exact I1.oq (Nat.le_refl _) (I1.hok.fresh (Nat.le_refl _))
theorem kf{σD:RL.St}{σ:L2.St}{H H1:Hp}{d:RL.D}{v:V}{M:List Nat}{P:Addr->Prop}(r1:Res X.K σD σ H e' d v H1)(z:(RL.avE M e' || RL.aC e')=true)(hP:∀ b,P b->∃ o,H b=some o/\cA o)
 (av:∀ (j:Nat) (dj:RL.D) (vj:V),M.contains j=false->σD[j]?=some (some dj)->σ[j]?=some (some vj)->Rep P X.K H dj vj):∀ ds a,d=.lst ds->v=.ref a->¬ P a:=by
 intro ds a hd hv
 subst hd hv
 rw[Bool.or_eq_true]at z
 rcases z with z | z
 ·obtain⟨p,xs,e1,e2,_⟩:=aD (r1.av M z P (fun b q=>by obtain⟨o,ho,_⟩:=hP b q;rw[ho];exact fun z=>nomatch z) av)
  cases e1
  exact e2
 ·intro q
  obtain⟨o,ho,_⟩:=hP a q
  rw[r1.fresh z rfl a rfl]at ho
  cases ho
theorem dO{P:Addr->Prop}{H H1:Hp}(s:au H H1)(hP:∀ b,P b->∃ o,H b=some o/\cA o):∀ b o,P b->H1 b=some o->cA o:=fun b o q e=>by
 obtain⟨o',ho,m⟩:=hP b q
 rw[s _ _ ho]at e
 cases e
 exact m
theorem fI{H1:Hp}:∀ b o,nP b->H1 b=some o->cA o:=fun b o q=>q.elim
theorem As(hl:SE X cl l e')(hs:True):PI X tg l (fun σ H R=>∃ σD d ds,RV0 X.K σD σ H/\RL.ev cl σD e'=some d/\RL.items d=some ds/\∀ J H1,au H H1->xl X.K σD σ H (.seq e') J ds H1->R J H1):=by
 refine PI.weak (Cz (t':=tE X.K cl e') hl) fun σ H R h=>?_
 obtain⟨σD,d,ds,rv,e,ei,k⟩:=h
 refine⟨σD,d,rv,e,fun v H1 r1=>?_⟩
 obtain⟨p,xs,rfl,hp,rs⟩:=eG ei r1.rep
 rcases hp with⟨hp,rfl⟩ | ⟨hp,rfl⟩
 ·refine .inl ⟨p,rfl,⟨xs,SqL.of hp⟩,k _ _ r1.same ⟨qp hp rs (fun z=>z) fI,fun M P z hP av=>qp hp rs (kf r1 z hP av _ _ rfl rfl) (dO r1.same hP)⟩⟩
 ·exact .inr ⟨p,rfl,⟨xs,SqT.of hp⟩,k _ _ r1.same ⟨sH hp rs fI,fun M P z hP av=>sH hp rs (dO r1.same hP)⟩⟩
theorem jP{x y:RL.D}{ds:List RL.D}(h:RL.cP x y=some ds):∃ i j:Int,x=.int i/\y=.int j/\(-(2 ^ 62)<=i/\i<2 ^ 62/\-(2 ^ 62)<=j/\j<2 ^ 62)/\(j-i).toNat<=RL.most/\ds=RL.bY i (j-i).toNat:=by
 have no:∀ {o:Option (List RL.D)},o=none->o=some ds->False:=fun e h=>by rw[e]at h;cases h
 cases x with
 | int i=>cases y with
  |int j=>
   obtain⟨hc,e⟩:=cw h
   have lo:-(2 ^ 62:Int)<=-(2 ^ 60):=by decide
   have hi:(2 ^ 60:Int)<2 ^ 62:=by decide
   exact⟨i,j,rfl,rfl,⟨Int.le_trans lo hc.2.1,Int.lt_trans hc.2.2.1 hi,Int.le_trans lo hc.2.2.2.1,Int.lt_trans hc.2.2.2.2 hi⟩,hc.1,e⟩
  | _=>exact(no rfl h).elim
 | _=>exact(no rfl h).elim
theorem xF(hg:Gl X "range")(hm:X.mg "range" = none)(ha:SE X cl a a')(hn:noStar a=true):SI X cl tg (.Call (.Name "range" p) [a] [] pos) (.rng1 a'):=by
 refine PI.weak (uQ hg hm (cy (cl:=cl) ha dS hn) (az [] hn)) fun σ H R h=>?_
 obtain⟨σD,ds,rv,e,k⟩:=h
 rw[RL.bq]at e
 obtain⟨x,ea,e⟩:=bind_some e
 obtain⟨i,j,e1,rfl,hb,_,rfl⟩:=jP e
 cases e1
 refine⟨σD,[.int j],rv,by rw[RL.evs,ea];rfl,fun vs H1 s1 r1=>?_⟩
 rw[af]at r1
 obtain⟨v,t,rfl,r2,r3⟩:=r1
 rw[af]at r3
 subst r3
 refine⟨j,by rw[ah r2],hb.2.2.1,hb.2.2.2,?_⟩
 have hz:(j-0).toNat=j.toNat:=by simp
 rw[hz]at k
 exact k _ _ s1 ⟨kc,fun _ _ _ _ _=>kc⟩
theorem xY(hg:Gl X "range")(hm:X.mg "range" = none)(ha:SE X cl a a')(hb:SE X cl b b')(hn:noStar a=true)(hn2:noStar b=true):SI X cl tg (.Call (.Name "range" p) [a,b] [] pos) (.rng2 a' b'):=by
 refine PI.weak (sP hg hm (cy (cl:=cl) ha (cy hb dS hn2) hn) (by rw[az _ hn,az _ hn2];rfl) (az [] hn2)) fun σ H R h=>?_
 obtain⟨σD,ds,rv,e,k⟩:=h
 rw[RL.bq]at e
 obtain⟨x,ea,e⟩:=bind_some e
 obtain⟨y,eb,e⟩:=bind_some e
 obtain⟨i,j,rfl,rfl,hb,_,rfl⟩:=jP e
 refine⟨σD,[.int i,.int j],rv,by rw[RL.evs,ea,RL.evs,eb];rfl,fun vs H1 s1 r1=>?_⟩
 rw[af]at r1
 obtain⟨v,t,rfl,r2,r3⟩:=r1
 rw[af]at r3
 obtain⟨u,t,rfl,r4,r5⟩:=r3
 rw[af]at r5
 subst r5
 exact⟨i,j,by rw[ah r2,ah r4],hb,k _ _ s1 ⟨kc,fun _ _ _ _ _=>kc⟩⟩
end rules
end RS
namespace L2
open PySem PySem.Spec PyProof.Rows
noncomputable def fL(ifs:List Expr)(env:Env):Sem Bool:=forIn ifs true fun c r=>if r=true then do let ok <- isTrue c env (eval c env);pure (ForInStep.yield ok)else pure (ForInStep.yield r)
section
variable{M:Model}{A:Around}{Q:Fin->Shared->Prop}{E:Value->Shared->Prop}{s:Shared}
theorem A1{α:Type}{m:Sem α}{P:α->Shared->Prop}{E:Value->Shared->Prop}{s:Shared}(h:wpAny M A m P (fun _ _=>False) s):wpAny M A m P E s :=
 wpAny_mono h (fun _ _ q=>q) fun _ _ z=>z.elim
theorem cK{α β:Type}{m:Sem α}{k:α->Sem β}{P:β->Shared->Prop}{E:Value->Shared->Prop}{s:Shared}(h:wpAny M A m (fun a s1=>wpAny M A (k a) P E s1) (fun _ _=>False) s):wpAny M A (m >>= k) P E s:=wpAny_bind (A1 h)
end
section
variable{prog:Program}{w:World}{A:Around}{elt tg iter:Expr}{ifs:List Expr}{scope:Scope}{pos:Pos}{it acc:Value}{env:Env}
noncomputable def lN(prog:Program)(w:World)(A:Around)(elt tg:Expr)(ifs:List Expr)(it acc:Value)(env:Env)(stop next:Shared->Prop)(s:Shared):Prop :=
 wpAny (model prog w) A (pyNext it) (fun r s1=>match r with
  | none=>stop s1
  | some v=>wpAny (model prog w) A (letOwnedTupleGo tg it v) (fun _ s2=>wpAny (model prog w) A (assign tg env v) (fun _ s3=>wpAny (model prog w) A (fL ifs env) (fun ok s4 =>
     if ok=true then wpAny (model prog w) A (eval elt env) (fun x s5=>wpAny (model prog w) A (call (.builtin "list.append") [acc,x]) (fun _ s6=>next s6) (fun _ _=>False) s5) (fun _ _=>False) s4
     else next s4) (fun _ _=>False) s3) (fun _ _=>False) s2) (fun _ _=>False) s1) (fun _ _=>False) s
theorem wR{stop next:Shared->Prop}{E:Value->Shared->Prop}{s:Shared}(h:lN prog w A elt tg ifs it acc env stop next s) :
  wpAny (model prog w) A (compTurn (.ListComp elt [⟨tg,iter,ifs,0⟩] scope pos) 0 it acc env) (fun fin s'=>match fin with
   | .done f=>f=.next/\stop s'
   | .again c=>c=.compLoop (.ListComp elt [⟨tg,iter,ifs,0⟩] scope pos) 0 it acc env/\next s') E s:=by
 rw[compTurn_list]
 apply wpAny_bind
 apply wpAny_standAt
 apply cK
 refine thn h fun r s1 h1=>?_
 cases r with
 |none=>
  apply wpAny_pure
  exact⟨rfl,h1⟩
 |some v=>
  apply cK
  refine thn h1 fun _ s2 h2=>?_
  apply cK
  refine thn h2 fun _ s3 h3=>?_
  apply cK
  refine thn h3 fun ok s4 h4=>?_
  cases ok
  ·apply wpAny_pure
   exact⟨rfl,h4⟩
  ·apply wpAny_bind
   apply cK
   refine thn h4 fun x s5 h5=>?_
   apply cK
   refine thn h5 fun _ s6 h6=>?_
   apply wpAny_pure
   apply wpAny_pure
   exact⟨rfl,h6⟩
theorem uI{R:Result->Shared->Prop}{s:Shared}(I:Nat->Shared->Prop)(turn:∀ n s,I n s->lN prog w A elt tg ifs it acc env (R (.ok .next)) (fun s'=>∃ m,m<n/\I m s') s)
 (n:Nat)(h:I n s):codeAny (model prog w) A (.compLoop (.ListComp elt [⟨tg,iter,ifs,0⟩] scope pos) 0 it acc env) R s :=
 codeAny_loop (M:=model prog w) rfl I (fun n s hI=>wpAny_noted (thn (wR (turn n s hI)) fun fin s' q=>by
  cases fin with
  |done f=>
   obtain⟨rfl,q⟩:=q
   exact q
  | again c=>exact q)) n h
end
theorem jf:∀ (names:List (Str × NameKind)) (n:Nat) (acc:List (Str × Addr)) (x:Str) (c:Addr),(cellsFrom n names acc).lookup x=some c->(acc.lookup x=some c/\(x,NameKind.cell)∉names)\/(n<=c/\(x,NameKind.cell)∈names)
 | [],n,acc,x,c,h=>.inl ⟨h,by simp⟩
 | (nm,k)::r,n,acc,x,c,h=>by
  unfold cellsFrom at h
  by_cases hk:(k == NameKind.cell)=true
  ·rw[if_pos hk]at h
   have ek:k=.cell:=by simpa using hk
   subst ek
   rcases jf r (n+1) ((nm,n)::acc) x c h with⟨a,b⟩ | ⟨a,b⟩
   ·rw[List.lookup_cons]at a
    cases hx:x == nm with
    |true=>
     rw[hx]at a
     cases a
     have:x=nm:=by simpa using hx
     subst this
     exact .inr ⟨Nat.le_refl _,List.mem_cons_self ..⟩
    |false=>
     rw[hx]at a
     refine .inl ⟨a,fun z=>?_⟩
     rcases List.mem_cons.mp z with z | z
     ·cases z
      simp at hx
     ·exact b z
   ·exact .inr ⟨Nat.le_of_succ_le a,List.mem_cons_of_mem _ b⟩
  ·rw[if_neg hk]at h
   rcases jf r n acc x c h with⟨a,b⟩ | ⟨a,b⟩
   ·refine .inl ⟨a,fun z=>?_⟩
    rcases List.mem_cons.mp z with z | z
    ·cases z
     exact hk (by simp)
    ·exact b z
   ·exact .inr ⟨a,List.mem_cons_of_mem _ b⟩
theorem kF:∀ (names:List (Str × NameKind)) (n:Nat) (acc:List (Str × Addr)) (x:Str),(x,NameKind.cell)∉names->(cellsFrom n names acc).lookup x=acc.lookup x
 | [],n,acc,x,_=>rfl
 | (nm,k)::r,n,acc,x,h=>by
  have hr:(x,NameKind.cell)∉r:=fun z=>h (List.mem_cons_of_mem _ z)
  unfold cellsFrom
  by_cases hk:(k == NameKind.cell)=true
  ·rw[if_pos hk,kF r (n+1) _ x hr,List.lookup_cons]
   have ek:k=.cell:=by simpa using hk
   subst ek
   have:(x == nm)=false:=by
    rw[beq_eq_false_iff_ne]
    intro z
    subst z
    exact h (List.mem_cons_self ..)
   rw[this]
  ·rw[if_neg hk]
   exact kF r n acc x hr
theorem pf:∀ (names:List (Str × NameKind)) (n:Nat) (acc:List (Str × Addr)),(∀ x c,acc.lookup x=some c->c<n)->(∀ x y c,acc.lookup x=some c->acc.lookup y=some c->x=y)->∀ x y c,(cellsFrom n names acc).lookup x=some c->(cellsFrom n names acc).lookup y=some c->x=y
 | [],n,acc,_,hi,x,y,c,h1,h2=>hi x y c h1 h2
 | (nm,k)::r,n,acc,hl,hi,x,y,c,h1,h2=>by
  unfold cellsFrom at h1 h2
  by_cases hk:(k == NameKind.cell)=true
  ·rw[if_pos hk]at h1 h2
   refine pf r (n+1) ((nm,n)::acc) (fun x c e=>?_) (fun x y c e1 e2=>?_) x y c h1 h2
   ·rw[List.lookup_cons]at e
    cases hx:x == nm with
    | true=>rw[hx]at e;cases e;exact Nat.lt_succ_self _
    | false=>rw[hx]at e;exact Nat.lt_succ_of_lt (hl x c e)
   ·rw[List.lookup_cons]at e1 e2
    cases hx:x == nm with
    |true=>
     rw[hx]at e1
     cases e1
     cases hy:y == nm with
     |true=>
      have a:x=nm:=by simpa using hx
      have b:y=nm:=by simpa using hy
      rw[a,b]
     |false=>
      rw[hy]at e2
      exact absurd (hl y n e2) (Nat.lt_irrefl _)
    |false=>
     rw[hx]at e1
     cases hy:y == nm with
     |true=>
      rw[hy]at e2
      cases e2
      exact absurd (hl x n e1) (Nat.lt_irrefl _)
     |false=>
      rw[hy]at e2
      exact hi x y c e1 e2
  ·rw[if_neg hk]at h1 h2
   exact pf r n acc hl hi x y c h1 h2
theorem kP:∀ (names:List (Str × NameKind)) (h:Heap) (acc:List (Str × Addr)) (x:Str) (c:Addr),(cellsFrom h.objs.size names acc).lookup x=some c->acc.lookup x=some c\/(pushCells h names).IsCell c none
 | [],h,acc,x,c,e=>.inl e
 | (nm,k)::r,h,acc,x,c,e=>by
  unfold cellsFrom at e
  unfold pushCells
  by_cases hk:(k == NameKind.cell)=true
  ·rw[if_pos hk]at e ⊢
   have e':(cellsFrom (h.push { cls:=.type "cell",data:=.cell none }).objs.size r ((nm,h.objs.size)::acc)).lookup x=some c:=by rw[Heap.size_push];exact e
   rcases kP r (h.push { cls:=.type "cell",data:=.cell none }) ((nm,h.objs.size)::acc) x c e' with a | a
   ·rw[List.lookup_cons]at a
    cases hx:x == nm with
    |true=>
     rw[hx]at a
     cases a
     exact .inr ⟨_,pushCells_keeps r _ _ _ (Heap.get?_push_size _ rfl),rfl⟩
    |false=>
     rw[hx]at a
     exact .inl a
   ·exact .inr a
  ·rw[if_neg hk]at e ⊢
   exact kP r h acc x c e
theorem yi{M:Model}{A:Around}{E:Value->Shared->Prop}{s:Shared}{scope:Scope}{globals:Addr}{closure:List (Str × Addr)}{qual:Str}{func:Option Addr}{code:Value}{outer:Env}{builtins:Addr}{Q:Env->Shared->Prop}
 (hQ:Q (newEnv scope s.heap.objs.size globals (cellsFrom (s.heap.objs.size+1) scope.names closure) qual func code (some outer) builtins) { s with heap:=pushCells (s.heap.push { cls:=.type "dict",data:=.dict #[] }) scope.names }) :
  wpAny M A (newFunctionEnv scope globals closure [] qual func code (some outer) builtins) Q E s:=by
 simp only[newFunctionEnv,Option.isSome_some,if_true]
 refine wpAny_bind (wpAny_alloc ?_)
 refine wpAny_bind (wpAny_layCells _ (fun name kind cells=>by cases hkc:kind == NameKind.cell<;>simp[hkc]) _ _ _ _ ?_)
 rw[show({ s with heap:=s.heap.push { cls:=.type "dict",data:=.dict #[] } }:Shared).heap.objs.size=s.heap.objs.size+1 from Heap.size_push ..]
 refine wpAny_bind ?_
 rw[List.forIn_nil]
 exact wpAny_pure (wpAny_pure hQ)
noncomputable def blk(X:Cx)(scope:Scope)(cls:List (Str × Addr))(C:Addr)(fp:List Addr)(s:Shared)(H:Hp):Cx where
 prog:=X.prog
 w:=X.w
 K:=X.K
 mg:=X.mg
 base:=X.base
 A:=X.A
 N:=X.N
 s₀:=s
 H₀:=H
 env:=compEnvC scope cls C X.env
 outer:=X.stack
 stack:=X.stack
 ex:=fp
 fn:=fun x=>scope.names.lookup x == some .cell
 calm:=X.calm
 pn:=[]
 xe:=fun _ _=>False
structure eN(scope:Scope)(sc:Scope)(cls:List (Str × Addr))(cells:List (Str × Addr)):Prop where
 kind:scope.kind=.function
 own:∀ x∈scope.names,x.2=.cell->scope.names.lookup x.1=some .cell
 loc:∀ x∈scope.names,x.2=.local->scope.names.lookup x.1=some .local
 sub:∀ x c,cls.lookup x=some c->cells.lookup x=some c
 has:∀ x,scope.names.lookup x=some .free->∃ c,cls.lookup x=some c
 vis:∀ x,scope.names.lookup x=some .free->sc.names.lookup x=some .cell\/sc.names.lookup x=some .free
theorem bE{env:Env}:∀ {names:List (Str × NameKind)} {x:Str} {k:NameKind},
  (names.map fun(n,k)=>if(k == NameKind.free&&env.scope.kind == .function&&env.kindOf n == some .cell)then(n,NameKind.cell)else(n,k)).lookup x=some k ->
  names.lookup x=some k\/(k=.cell/\names.lookup x=some .free/\env.kindOf x=some .cell)
 | [],x,k,h=>by simp at h
 | (n,k')::r,x,k,h=>by
  have ih:=@bE env r x k
  rw[List.map_cons]at h
  cases hx:x == n with
  |true=>
   have en:x=n:=by simpa using hx
   subst en
   by_cases hc:(k' == NameKind.free&&env.scope.kind == .function&&env.kindOf x == some .cell)=true
   ·simp only[hc,if_true]at h
    rw[List.lookup_cons,hx]at h
    cases h
    simp only[Bool.and_eq_true,beq_iff_eq]at hc
    refine .inr ⟨rfl,?_,hc.2⟩
    rw[List.lookup_cons,hx,hc.1.1]
   ·simp only[Bool.not_eq_true]at hc
    simp only[hc,Bool.false_eq_true,if_false]at h
    rw[List.lookup_cons,hx]at h
    cases h
    exact .inl (by rw[List.lookup_cons,hx])
  |false=>
   have h':(r.map fun(n,k)=>if(k == NameKind.free&&env.scope.kind == .function&&env.kindOf n == some .cell)then(n,NameKind.cell)else(n,k)).lookup x=some k:=by
    by_cases hc:(k' == NameKind.free&&env.scope.kind == .function&&env.kindOf n == some .cell)=true
    ·simp only[hc,if_true]at h
     rw[List.lookup_cons,hx]at h
     exact h
    ·simp only[Bool.not_eq_true]at hc
     simp only[hc,Bool.false_eq_true,if_false]at h
     rw[List.lookup_cons,hx]at h
     exact h
   rcases ih h' with q | ⟨q1,q2,q3⟩
   ·exact .inl (by rw[List.lookup_cons,hx];exact q)
   ·exact .inr ⟨q1,by rw[List.lookup_cons,hx];exact q2,q3⟩
noncomputable def xa(X:Cx)(scope:Scope)(σ σB:St):Prop:=σB.length=σ.length/\∀ (i:Nat) (x:Str) (v:V),X.N[i]?=some x->σB[i]?=some (some v)->σ[i]?=some (some v)/\scope.names.lookup x≠some .local/\scope.names.lookup x≠some .cell
section
variable{X:Cx}{pins:List (Addr × Obj)}{σ σB:St}{H:Hp}{s:Shared}{scope:Scope}{cls:List (Str × Addr)}{fp:List Addr}
theorem Inv.hxb{scope:Scope}{cls:List (Str × Addr)}{C:Addr}{fp:List Addr}(I:Inv X pins σ H s):HX (blk X scope cls C fp s H):=by
 rcases I.ok.hd.2 with z | ⟨h,o,u,vs,h1,h2,h3⟩
 ·exact .inl z
 ·exact .inr ⟨h,o,u,vs,h1,I.base.cC _ _ _ h2,h3⟩
theorem xK{h':Heap}{t:Nat}(I:Inv X pins σ H s)(S:eN scope X.env.scope cls X.env.cells)(hf:∀ b∈fp,hW X pins H b/\b<s.heap.objs.size)(ho:xa X scope σ σB)
 (hns:h'.Ns s.heap.objs.size (fun _=>none))(hk:∀ b o,s.heap.get? b=some o->h'.get? b=some o)(hcl:∀ x c,(cellsFrom (s.heap.objs.size+1) scope.names cls).lookup x=some c->cls.lookup x=some c\/h'.IsCell c none) :
  Inv (blk X scope (cellsFrom (s.heap.objs.size+1) scope.names cls) s.heap.objs.size fp s H) [] σB H { s with heap:=h',toks:=t }:=by
 have hC:H s.heap.objs.size=none:=I.hok.fresh (Nat.le_refl _)
 have clt:∀ x c,cls.lookup x=some c->c<s.heap.objs.size:=fun x c e=>by
  obtain⟨v,q⟩:=I.cell x c (S.sub x c e)
  exact q.lt
 have cas:∀ x c,(cellsFrom (s.heap.objs.size+1) scope.names cls).lookup x=some c->(X.env.cells.lookup x=some c/\c<s.heap.objs.size)\/(s.heap.objs.size+1<=c/\scope.names.lookup x=some .cell):=fun x c e=>by
  rcases jf _ _ _ _ _ e with⟨a,_⟩ | ⟨a,b⟩
  ·exact .inl ⟨S.sub x c a,clt x c a⟩
  ·exact .inr ⟨a,S.own _ b rfl⟩
 have fre:∀ x c,cls.lookup x=some c->scope.names.lookup x=some .free->(cellsFrom (s.heap.objs.size+1) scope.names cls).lookup x=some c:=fun x c e f=>by
  rw[kF _ _ _ _ fun z=>by rw[S.own _ z rfl]at f;cases f]
  exact e
 refine⟨⟨I.ok.mod,?_,I.ok.glob,I.ok.blt,Nat.le_refl _,fun x y c h1 h2=>pf _ _ _ (fun x c e=>Nat.lt_succ_of_lt (clt x c e)) (fun x y c e1 e2=>I.ok.inj x y c (S.sub x c e1) (S.sub y c e2)) x y c h1 h2,fun x hx=>?_,fun x c z e=>?_,⟨I.ok.hd.1,I.hxb⟩,I.ok.frames,.inl rfl,fun b hb=>?_,fun b o e=>I.bs b o e,Nat.le_trans I.ok.bsz I.sz,fun b o e hb=>?_,fun b hb=>?_,I.stack,I.jg⟩,
  rfl,I.bare,Un.kept hk,⟨_,hns,fun i x v h1 h2 h3=>?_⟩,fun x c e=>?_,hC,fun x c e=>?_,fun p hp=>absurd hp (by simp[blk]),I.hok.kept hk,ho.1.trans I.len⟩
 ·exact S.kind
 ·have hx:(relabel scope X.env).names.lookup x=some .cell\/(relabel scope X.env).names.lookup x=some .free:=hx
  have key:scope.names.lookup x=some .cell\/scope.names.lookup x=some .free:=by
   rcases hx with hx | hx
   ·rcases bE hx with q | ⟨_,q,_⟩
    ·exact .inl q
    ·exact .inr q
   ·rcases bE hx with q | ⟨q,_⟩
    ·exact .inr q
    ·cases q
  rcases key with q | q
  ·have:=PySem.W.cellsFrom_some scope.names (s.heap.objs.size+1) cls (.inl q)
   exact Option.isSome_iff_exists.mp this
  ·obtain⟨c,hc⟩:=S.has x q
   exact⟨c,fre x c hc q⟩
 ·have z:(scope.names.lookup x == some .cell)=true:=z
  rcases jf _ _ _ _ _ (show(cellsFrom (s.heap.objs.size+1) scope.names cls).lookup x=some c from e)with⟨_,b⟩ | ⟨b,_⟩
  ·exact absurd (PySem.mem_of_lookup (by simpa using z)) b
  ·exact Nat.le_of_succ_le b
 ·obtain⟨⟨f0,f1,f2,f3,f4,f5⟩,f6⟩:=hf b hb
  refine⟨Nat.ne_of_lt f6,fun x c e=>?_⟩
  rcases cas x c e with⟨a,_⟩ | ⟨a,_⟩
  ·exact f4 x c a
  ·exact Nat.ne_of_gt (Nat.lt_trans f6 a)
 ·obtain⟨⟨f0,f1,f2,f3,f4,f5⟩,f6⟩:=hf b hb
  rcases f3 with z | z
  ·exact I.ok.iy b o e z
  ·exact absurd (Nat.lt_of_lt_of_le (Heap.lt_size e) I.ok.bsz) (Nat.not_lt.mpr z)
 ·obtain⟨⟨f0,f1,f2,f3,f4,f5⟩,f6⟩:=hf b hb
  intro z
  rcases List.mem_cons.mp (I.nQ b z)with e | e
  ·exact f1 e
  ·exact f2 e
 ·obtain⟨h4,h5,h6⟩:=ho.2 i x v h1 h2
  have h3:(relabel scope X.env).names.lookup x=some .local\/(relabel scope X.env).names.lookup x=some .cell\/(relabel scope X.env).names.lookup x=some .free:=h3
  have key:scope.names.lookup x=some .free:=by
   rcases h3 with z | z | z
   ·rcases bE z with q | ⟨q,_⟩
    ·exact absurd q h5
    ·cases q
   ·rcases bE z with q | ⟨_,q,_⟩
    ·exact absurd q h6
    ·exact q
   ·rcases bE z with q | ⟨q,_⟩
    ·exact q
    ·cases q
  obtain⟨c,hc⟩:=S.has x key
  have hcx:=S.sub x c hc
  obtain⟨m,hn,hl⟩:=I.loc
  have hv:Vis X.env.scope x:=.inr (S.vis x key)
  obtain⟨u,ru,lk⟩:=hl i x v h1 h4 hv
  refine⟨u,ru,.inr ⟨?_,c,fre x c hc key,?_⟩⟩
  ·rcases h3 with z | z
   ·rcases bE z with q | ⟨q,_⟩
    ·exact absurd q h5
    ·cases q
   ·exact z
  ·rcases lk with⟨z,_⟩ | ⟨_,c',e',q⟩
   ·have z:X.env.scope.names.lookup x=some .local:=z
    rcases S.vis x key with z' | z'<;>(rw[z]at z';cases z')
   ·rw[hcx]at e'
    cases e'
    obtain⟨o,g1,g2⟩:=q
    exact⟨o,hk _ _ g1,g2⟩
 ·rcases hcl x c e with a | a
  ·obtain⟨v,q⟩:=I.cell x c (S.sub x c a)
   obtain⟨o,h1,h2⟩:=q
   exact⟨v,o,hk _ _ h1,h2⟩
  ·exact⟨none,a⟩
 ·rcases cas x c e with⟨a,_⟩ | ⟨a,_⟩
  ·exact I.bZ x c a
  ·exact I.hok.fresh (Nat.le_of_succ_le a)
noncomputable def gM(wi:TI)(clr:St->St)(g:TG)(tc:TT)(te:TE):TE:=fun σ H Q=>wi σ H fun J H1=>∀ l,H1 l=none->∃ W:Nat->Nat->List V->Hp->Prop,(∃ m,W 0 m [] (upd H1 l (.lst []))) /\
 ∀ i m ys H2,W i m ys H2->H2 l=some (.lst ys)/\((J.stop i H2/\Q (.ref l) H2)\/(J.go i H2/\∀ x H3,J.yld i H2 x H3->g x (clr σ) H3 fun σ4 H4=>tc σ4 H4 fun k H5 =>
  if k=true then te σ4 H5 fun y H6=>H6 l=some (.lst ys)/\ys.length<sizeLine/\∃ m',m'<m/\W (i+1) m' (ys++[y]) (upd H6 l (.lst (ys++[y])))else ∃ m',m'<m/\W (i+1) m' ys H5))
structure mF(X:Cx)(scope:Scope)(tg:Expr)(ifs:List Expr)(elt:Expr)(clr:St->St)(g:TG)(tc:TT)(te:TE):Prop where
 htg:∀ cls C fp s H,PG (blk X scope cls C fp s H) tg g
 htc:∀ cls C fp s H pins s' σ H' Q,Inv (blk X scope cls C fp s H) pins σ H' s'->tc σ H' Q->wpAny (model X.prog X.w) X.A (fL ifs (compEnvC scope cls C X.env)) (TP (blk X scope cls C fp s H) pins σ Q) (fun _ _=>False) s'
 hte:∀ cls C fp s H,PE (blk X scope cls C fp s H) elt te
 Au:∀ σ:St,σ.length=X.N.length->xa X scope σ (clr σ)
 wZ:∀ (x:V) (σ:St) (H:Hp) (Q:St->Hp->Prop),g x (clr σ) H Q->g x (clr σ) H fun σ2 H2=>Q σ2 H2/\(clr σ).length=σ2.length/\∀ (i:Nat) v,(clr σ)[i]?=some (some v)->σ2[i]?=some (some v)
theorem mf{elt tg iter:Expr}{ifs:List Expr}{pos:Pos}{wi:TI}{clr:St->St}{g:TG}{tc:TT}{te:TE}{Q:VK}{RR:Value->Addr->Result->Shared->Prop}{CM:Cx->Prop}(hc:∀ {pins:List (Addr × Obj)} {σ:St} {H:Hp} {s:Shared} (cls:List (Str × Addr)) (C:Addr) (fp:List Addr),Inv X pins σ H s->CM (blk X scope cls C fp s H))(S:eN scope X.env.scope cls X.env.cells)
 (hi:PI' CM X tg iter wi)(B:mF X scope tg ifs elt clr g tc te)(I:Inv X pins σ H s)(h:gM wi clr g tc te σ H Q)
 (hRR:∀ l C H' s',Inv X pins σ H' s'->(∃ m,s'.heap.Ns C m)->H' C=none->C≠X.env.locals->X.s₀.heap.objs.size<=C->(∀ x c,X.env.cells.lookup x=some c->c≠C)->(∀ p∈X.pn++pins,p.1≠C)->Q (.ref l) H'->RR (.ref l) C (.ok .next) s') :
  wpAny (model X.prog X.w) X.A (eval iter X.env) (fun x s1=>wpAny (model X.prog X.w) X.A (pyIter x) (fun it s2=>wpAny (model X.prog X.w) X.A (newList []) (fun acc s3 =>
   wpAny (model X.prog X.w) X.A (newFunctionEnv scope X.env.globals cls [] X.env.qual none .none (some X.env)) (fun cenv s4 =>
    codeAny (model X.prog X.w) X.A (.compStart (.ListComp elt [⟨tg,iter,ifs,0⟩] scope pos) 0 it acc { cenv with scope:=relabel scope X.env }) (RR acc cenv.locals) s4) X.xe s3) X.xe s2) X.xe s1) X.xe s:=by
 refine thn (hi pins s σ H _ I h) fun x s1 h1=>thn h1 fun itv s2 h2=>?_
 obtain⟨it,fp,tn,J,H2,e,I2,T,st2,f2,h3⟩:=h2
 subst e
 have flt:∀ b∈fp,b<s2.heap.objs.size:=fun b hb=>by
  obtain⟨o,e,_⟩:=T.obj _ _ st2 b hb
  exact Heap.lt_size e
 refine wpAny_newObj_type ?_
 have I3:Inv X pins σ (upd H2 s2.heap.objs.size (.lst [])) { s2 with heap:=s2.heap.push { cls:=.type "list",dict:=none,data:=.seq ([]:List Value).toArray } } :=
  I2.laid (t':=s2.toks) (fun b u e=>Heap.get?_push_of_some _ e) (Nat.le_refl _) ⟨Nat.zero_le _,[],0,.nil,Heap.get?_push_size _ rfl⟩
 have hl2:H2 s2.heap.objs.size=none:=I2.hok.fresh (Nat.le_refl _)
 obtain⟨W,⟨m0,w0⟩,turn⟩:=h3 s2.heap.objs.size hl2
 have f3:∀ b∈fp,hW X pins (upd H2 s2.heap.objs.size (.lst [])) b/\b<(s2.heap.push { cls:=.type "list",dict:=none,data:=.seq ([]:List Value).toArray }).objs.size:=fun b hb=>by
  obtain⟨z0,z⟩:=f2 b hb
  refine⟨⟨?_,z⟩,?_⟩
  ·rw[aF (Nat.ne_of_lt (flt b hb))]
   exact z0
  ·rw[Heap.size_push]
   exact Nat.lt_succ_of_lt (flt b hb)
 generalize hs3:({ s2 with heap:=s2.heap.push { cls:=.type "list",dict:=none,data:=.seq ([]:List Value).toArray } }:Shared)=s3 at I3
 have hs3h:s3.heap=s2.heap.push { cls:=.type "list",dict:=none,data:=.seq ([]:List Value).toArray }:=by rw[<-hs3]
 rw[<-hs3h]at f3
 have st3:tn 0 s3.heap:=T.keep _ _ _ st2 fun b hb o e=>by rw[hs3h];exact Heap.get?_push_of_some _ e
 refine yi ?_
 have k4:∀ b o,s3.heap.get? b=some o->(pushCells (s3.heap.push { cls:=.type "dict",data:=.dict #[] }) scope.names).get? b=some o:=fun b o e=>pushCells_keeps _ _ b o (Heap.get?_push_of_some _ e)
 have hns4:(pushCells (s3.heap.push { cls:=.type "dict",data:=.dict #[] }) scope.names).Ns s3.heap.objs.size (fun _=>none):=(Heap.Ns.new s3.heap (.type "dict")).keeps (pushCells_keeps _ _)
 have hcl4:∀ x c,(cellsFrom (s3.heap.objs.size+1) scope.names cls).lookup x=some c->cls.lookup x=some c\/(pushCells (s3.heap.push { cls:=.type "dict",data:=.dict #[] }) scope.names).IsCell c none:=fun x c e=>kP scope.names (s3.heap.push { cls:=.type "dict",data:=.dict #[] }) cls x c (by rw[Heap.size_push];exact e)
 generalize pushCells (s3.heap.push { cls:=.type "dict",data:=.dict #[] }) scope.names=h4 at k4 hns4 hcl4
 have I4:Inv (blk X scope (cellsFrom (s3.heap.objs.size+1) scope.names cls) s3.heap.objs.size fp s3 (upd H2 s2.heap.objs.size (.lst []))) [] (clr σ) (upd H2 s2.heap.objs.size (.lst [])) { s3 with heap:=h4 } :=
  xK (t:=s3.toks) I3 S f3 (B.Au σ I.len) hns4 k4 hcl4
 generalize hs4:({ s3 with heap:=h4 }:Shared)=s4 at I4
 have hs4h:s4.heap=h4:=by rw[<-hs4]
 generalize hH3:upd H2 s2.heap.objs.size (.lst [])=H3 at I3 I4 w0
 have st4:tn 0 s4.heap:=T.keep _ _ _ st3 fun b hb o e=>by rw[hs4h];exact k4 b o e
 have fn4:∀ b∈fp,H3 b=none:=fun b hb=>by rw[<-hH3];exact(f3 b hb).1.1
 have stat:∀ {H':Hp} {σ':St} {s':Shared},Inv (blk X scope (cellsFrom (s3.heap.objs.size+1) scope.names cls) s3.heap.objs.size fp s3 H3) [] σ' H' s'->(∀ b∈fp,H' b=none)->∀ b∈fp,hW (blk X scope (cellsFrom (s3.heap.objs.size+1) scope.names cls) s3.heap.objs.size fp s3 H3) [] H' b :=
  fun {H' σ' s'} J hn b hb=>⟨hn b hb,(J.ok.exf b hb).1,J.ok.gY b hb,.inl hb,(J.ok.exf b hb).2,fun p hp=>absurd hp (by simp[blk])⟩
 have fin:∀ {H':Hp} {s':Shared},Inv (blk X scope (cellsFrom (s3.heap.objs.size+1) scope.names cls) s3.heap.objs.size fp s3 H3) [] (clr σ) H' s'->Q (.ref s2.heap.objs.size) H'->RR (.ref s2.heap.objs.size) s3.heap.objs.size (.ok .next) s':=fun {H' s'} J q=>by
  obtain⟨m,hn,_⟩:=J.loc
  have J1:Inv X pins σ H' s':=I3.r0 (s':=s') (ch:=fp) (J.os.trans rfl) J.base J.hok J.bare fun b hb=>by
   obtain⟨⟨g0,g1,g2,g3,g4,g5⟩,_⟩:=f3 b hb
   exact⟨g3,g1,g4,g5⟩
  refine hRR _ _ H' s' J1 ⟨m,hn⟩ J.free (Nat.ne_of_gt I3.lt) I3.sz (fun x c e=>?_) (fun p hp=>?_) q
  ·obtain⟨v,z⟩:=I3.cell x c e
   exact Nat.ne_of_lt z.lt
  ·exact Nat.ne_of_lt (Heap.lt_size (I3.pin p hp).1)
 have loop:codeAny (model X.prog X.w) X.A (.compLoop (.ListComp elt [⟨tg,iter,ifs,0⟩] scope pos) 0 (.ref it) (.ref s2.heap.objs.size) (compEnvC scope (cellsFrom (s3.heap.objs.size+1) scope.names cls) s3.heap.objs.size X.env))
   (RR (.ref s2.heap.objs.size) s3.heap.objs.size) s4:=by
  refine uI (fun n s'=>∃ i ys H',Inv (blk X scope (cellsFrom (s3.heap.objs.size+1) scope.names cls) s3.heap.objs.size fp s3 H3) [] (clr σ) H' s'/\tn i s'.heap/\(∀ b∈fp,H' b=none)/\W i n ys H') ?_ m0 ⟨0,[],H3,I4,st4,fn4,w0⟩
  rintro n s5 ⟨i,ys,H5,I5,st5,fr5,w5⟩
  obtain⟨hl5,tr⟩:=turn i n ys H5 w5
  rcases tr with⟨stop,qn⟩ | ⟨go,step⟩
  ·refine thn (T.done (blk X scope (cellsFrom (s3.heap.objs.size+1) scope.names cls) s3.heap.objs.size fp s3 H3) rfl rfl rfl (hc _ _ _ I3) i [] s5 (clr σ) H5 (fun _ _=>False) I5 (stat I5 fr5) st5 stop) fun r s6 ⟨hr,I6⟩=>?_
   subst hr
   exact fin I6 qn
  ·refine thn (T.item (blk X scope (cellsFrom (s3.heap.objs.size+1) scope.names cls) s3.heap.objs.size fp s3 H3) rfl rfl rfl (hc _ _ _ I3) i [] s5 (clr σ) H5 (fun _ _=>False) I5 (stat I5 fr5) st5 go) fun r s6 ⟨u,hr,h6⟩=>?_
   subst hr
   refine thn h6 fun _ s7 ⟨x,H7,I7,r7,y7,st7,fr7⟩=>?_
   have I7':=I7.pinned (stat I7 fr7) (T.obj _ _ st7)
   have back:∀ {σ':St} {H':Hp} {s':Shared},Inv (blk X scope (cellsFrom (s3.heap.objs.size+1) scope.names cls) s3.heap.objs.size fp s3 H3) ([]++iJ fp s7.heap) σ' H' s'->(clr σ).length=σ'.length->(∀ (i:Nat) v,(clr σ)[i]?=some (some v)->σ'[i]?=some (some v))->(∃ m ys',m<n/\W (i+1) m ys' H') ->
     ∃ m,m<n/\∃ i ys H',Inv (blk X scope (cellsFrom (s3.heap.objs.size+1) scope.names cls) s3.heap.objs.size fp s3 H3) [] (clr σ) H' s'/\tn i s'.heap/\(∀ b∈fp,H' b=none)/\W i m ys H':=fun {σ' H' s'} J el ew hw=>by
    obtain⟨m,ys',hm,w8⟩:=hw
    refine⟨m,hm,i+1,ys',H',J.ie.weak el ew,T.keep _ _ _ st7 fun b hb o e=>(J.pin (b,o) (List.mem_append_right _ (List.mem_append_right _ (fq hb e)))).1,fun b hb=>?_,w8⟩
    obtain⟨o,e,d⟩:=T.obj _ _ st7 b hb
    exact(J.pin (b,o) (List.mem_append_right _ (List.mem_append_right _ (fq hb e)))).2.1
   refine thn (B.htg _ s3.heap.objs.size fp s3 H3 _ s7 (clr σ) H7 x u _ I7' r7 (B.wZ x σ H7 _ (step x H7 y7))) fun _ s8 ⟨σ8,H8,I8,q8,el8,ew8⟩=>?_
   refine thn (B.htc _ s3.heap.objs.size fp s3 H3 _ s8 σ8 H8 _ I8 q8) fun ok s9 ⟨H9,I9,q9⟩=>?_
   cases ok with
   |false=>
    have q9:∃ m',m'<n/\W (i+1) m' ys H9:=q9
    obtain⟨m',hm,w9⟩:=q9
    exact back I9 el8 ew8 ⟨m',ys,hm,w9⟩
   |true=>
    refine thn (B.hte _ s3.heap.objs.size fp s3 H3 _ s9 σ8 H9 _ I9 q9) fun v s10 ⟨y,H10,I10,r10,hl10,hz,m',hm,w10⟩=>?_
    refine thn (l9 (X:=blk X scope (cellsFrom (s3.heap.objs.size+1) scope.names cls) s3.heap.objs.size fp s3 H3) _ s10 σ8 H10 (.ref s2.heap.objs.size) [y] (.ref s2.heap.objs.size) [v] (fun _ H'=>H'=upd H10 s2.heap.objs.size (.lst (ys++[y]))) I10 rfl (.cons r10 .nil) ⟨_,ys,y,rfl,rfl,hl10,hz,rfl⟩) fun _ s11 ⟨_,H11,I11,_,e11⟩=>?_
    subst e11
    exact back I11 el8 ew8 ⟨m',_,hm,w10⟩
 exact codeAny_compStart_list loop (T.self _ 0 _ _ _ st4 loop)
theorem qr{elt tg iter:Expr}{ifs:List Expr}{pos:Pos}{wi:TI}{clr:St->St}{g:TG}{tc:TT}{te:TE}{CM:Cx->Prop}(hc:∀ {pins:List (Addr × Obj)} {σ:St} {H:Hp} {s:Shared} (cls:List (Str × Addr)) (C:Addr) (fp:List Addr),Inv X pins σ H s->CM (blk X scope cls C fp s H))(S:eN scope X.env.scope cls X.env.cells)(hclos:closureFor scope X.env=pure cls)
 (hi:PI' CM X tg iter wi)(B:mF X scope tg ifs elt clr g tc te)(hs:∀ x,foldedSetIterable iter X.env x=pure x):PE X (.ListComp elt [⟨tg,iter,ifs,0⟩] scope pos) (gM wi clr g tc te):=by
 intro pins s σ H Q I h
 rw[eval_ListComp]
 refine wpAny_comprehension_free (use:=none) rfl hs hclos S.kind S.loc (mf (RR:=fun acc C=>compPost (model X.prog X.w) X.A X.xe none (EP X pins σ Q) acc C) hc S hi B I h ?_)
 intro l C H' s' J hn c0 c1 c2 c3 c4 q
 obtain⟨m,hn⟩:=hn
 exact⟨m,hn,fun h' sb=>⟨.ref l,H',J.turned (it:=C) (h':=h') (t':=s'.toks) (fun b o hb e=>(sb.2 b hb).trans e) c0 (Ne.symm (Ne.symm c1)) (.inr c2) c3 c4,rfl,q⟩⟩
noncomputable def CU(i:Nat)(t:TE):TS:=fun D σ H=>t σ H fun v H1=>D.nx (σ.set i (some v)) H1
theorem qF{elt tg iter:Expr}{ifs:List Expr}{pos spos py:Pos}{y:Str}{i:Nat}{wi:TI}{clr:St->St}{g:TG}{tc:TT}{te:TE}(hc:X.calm=true)(hN:X.N.Nodup)(hiy:X.N[i]?=some y)(hy:X.env.scope.names.lookup y=some .local)
 (S:eN scope X.env.scope cls X.env.cells)(hclos:closureFor scope X.env=pure cls)
 (hi:PI X tg iter wi)(B:mF X scope tg ifs elt clr g tc te)(hs:∀ x,foldedSetIterable iter X.env x=pure x)
 (hsw:swapsWith (.ListComp elt [⟨tg,iter,ifs,0⟩] scope pos) (some (.Name y py)) spos.line X.env=pure true) :
  PS X (.Assign [.Name y py] (.ListComp elt [⟨tg,iter,ifs,0⟩] scope pos) spos) (CU i (gM wi clr g tc te)):=by
 intro pins s σ H D I h
 have back:∀ (l C:Addr) (H':Hp) (s':Shared),Inv X pins σ H' s'->(∃ m,s'.heap.Ns C m)->H' C=none->C≠X.env.locals->X.s₀.heap.objs.size<=C->(∀ x c,X.env.cells.lookup x=some c->c≠C)->(∀ p∈X.pn++pins,p.1≠C)->D.nx (σ.set i (some (.ref l))) H' ->
   compPost (model X.prog X.w) X.A X.xe (some (assign (.Name y py) X.env)) (fun _ s'=>SP X pins D .next s') (.ref l) C (.ok .next) s':=by
  intro l C H' s' J hn c0 c1 c2 c3 c4 q
  obtain⟨m,hn⟩:=hn
  show wpAny _ X.A (assign (.Name y py) X.env (.ref l)) _ _ s'
  refine wpAny_assign_Name (lX (v:=.ref l) J hN hiy (.inl hy) rfl (fun s2 J2 ⟨a,sb,ha⟩=>?_) (.inr hy))
  have hne:C≠a:=by
   rcases ha with z | z
   ·rw[z];exact c1
   ·exact(c3 _ _ z).symm
  exact⟨m,hn.sameBut sb hne,fun h' sb'=>⟨σ.set i (some (.ref l)),H',J2.turned (it:=C) (h':=h') (t':=s2.toks) (fun b o hb e=>(sb'.2 b hb).trans e) c0 c1 (.inr c2) c3 c4,q⟩⟩
 have core:=mf (RR:=fun acc C=>compPost (model X.prog X.w) X.A X.xe (some (assign (.Name y py) X.env)) (fun _ s'=>SP X pins D .next s') acc C) (pos:=pos) (fun _ _ _ _=>hc) S hi B I h back
 have whole:=wpAny_comprehension_free (e:=.ListComp elt [⟨tg,iter,ifs,0⟩] scope pos) (newAcc:=newList []) (use:=some (assign (.Name y py) X.env)) (Q:=fun _ s'=>SP X pins D .next s') (pos:=iter.pos) rfl hs hclos S.kind S.loc core
 rw[exec_Assign_Name_used (hs:=hsw)]
 apply wpAny_bind
 apply wpAny_standAt
 apply wpAny_bind
 apply wpAny_bind
 refine thn whole fun _ s' hq=>?_
 apply wpAny_pure
 apply wpAny_pure
 exact hq
end
end L2
namespace RS
open PySem PySem.Spec PyProof.Rows L2
theorem gX{env:Env}:∀ (names:List (Str × NameKind)) (acc:List (Str × Addr)),(∀ x,(x,NameKind.free)∈names->∃ c,env.cells.lookup x=some c)->(∀ x c,acc.lookup x=some c->env.cells.lookup x=some c) ->
  ∃ cls,(forIn names acc fun(p:Str × NameKind) cs=>match p with | (name,kind)=>if(kind == NameKind.free)=true then do let c <- cellOf env name;pure (ForInStep.yield ((name,c)::cs))else pure (ForInStep.yield cs):Sem (List (Str × Addr)))=pure cls /\
   (∀ x c,cls.lookup x=some c->env.cells.lookup x=some c)/\(∀ x,(acc.lookup x).isSome=true\/(x,NameKind.free)∈names->∃ c,cls.lookup x=some c)
 | [],acc,_,ha=>⟨acc,rfl,ha,fun x hx=>by
   rcases hx with h | h
   ·exact Option.isSome_iff_exists.mp h
   ·simp at h⟩
 | (n,k)::r,acc,hn,ha=>by
  by_cases hk:k=.free
  ·subst hk
   obtain⟨c,hc⟩:=hn n List.mem_cons_self
   have ha':∀ x c',((n,c)::acc).lookup x=some c'->env.cells.lookup x=some c':=fun x c' e=>by
    rw[List.lookup_cons]at e
    cases hx:x == n with
    |true=>
     rw[hx]at e
     cases e
     rw[show x=n by simpa using hx]
     exact hc
    |false=>
     rw[hx]at e
     exact ha x c' e
   obtain⟨cls,h1,h2,h3⟩:=gX r ((n,c)::acc) (fun x hx=>hn x (List.mem_cons_of_mem _ hx)) ha'
   refine⟨cls,?_,h2,fun x hx=>h3 x ?_⟩
   ·rw[List.forIn_cons]
    have hcell:cellOf env n=pure c:=by unfold cellOf;rw[hc]
    simp only[beq_self_eq_true,if_true,hcell]
    exact h1
   ·rcases hx with h | h
    ·left
     rw[List.lookup_cons]
     split<;>simp_all
    ·rcases List.mem_cons.mp h with e | e
     ·cases e
      left
      simp[List.lookup_cons]
     ·exact .inr e
  ·obtain⟨cls,h1,h2,h3⟩:=gX r acc (fun x hx=>hn x (List.mem_cons_of_mem _ hx)) ha
   refine⟨cls,?_,h2,fun x hx=>h3 x ?_⟩
   ·rw[List.forIn_cons]
    have:(k == NameKind.free)=false:=by simpa using hk
    simp only[this,Bool.false_eq_true,if_false]
    exact h1
   ·rcases hx with h | h
    ·exact .inl h
    ·rcases List.mem_cons.mp h with e | e
     ·cases e
      exact absurd rfl hk
     ·exact .inr e
theorem qV{env:Env}{scope:Scope}(h:∀ x,(x,NameKind.free)∈scope.names->∃ c,env.cells.lookup x=some c) :
  ∃ cls,closureFor scope env=pure cls/\(∀ x c,cls.lookup x=some c->env.cells.lookup x=some c)/\(∀ x,scope.names.lookup x=some .free->∃ c,cls.lookup x=some c):=by
 obtain⟨cls,h1,h2,h3⟩:=gX (env:=env) scope.names [] h (fun x c e=>by simp at e)
 refine⟨cls,?_,h2,fun x hx=>h3 x (.inr (PySem.mem_of_lookup hx))⟩
 unfold closureFor
 simp only[bind_pure_comp]at h1 ⊢
 rw[h1]
 rfl
section
variable{X:Cx}{pos:Pos}
noncomputable def lb(K:PySem.W.Frag)(n:Nat)(t:TGs):TG:=fun v σ H Q=>∃ a xs,v=.ref a/\SqL K H a xs/\xs.length=n/\t xs σ H Q
end
section
variable{X:Cx}
theorem om{tgE:Expr}{t t':TG}(h:PG X tgE t)(h':PG X tgE t'):PG X tgE (fun v σ H Q=>t v σ H Q\/t' v σ H Q):=by
 intro pins s σ H v u Q I r hw
 rcases hw with q | q
 ·exact h pins s σ H v u Q I r q
 ·exact h' pins s σ H v u Q I r q
end
noncomputable def gs:List Nat->TGs
 | []=>BI
 | i::r=>xn (mL i) (gs r)
noncomputable def gT(K:PySem.W.Frag):List Nat->TG
 | [i]=>mL i
 | is=>fun v σ H Q=>kE K is.length (gs is) v σ H Q\/lb K is.length (gs is) v σ H Q
noncomputable def c8:List Nat->List V->L2.St->L2.St
 | i::is,v::vs,σ=>c8 is vs (σ.set i (some v))
 | _,_,σ=>σ
noncomputable def dQ:List Nat->List RL.D->RL.St->RL.St
 | i::is,d::ds,σ=>dQ is ds (σ.set i (some d))
 | _,_,σ=>σ
theorem eP:∀ {is:List Nat} {ds:List RL.D} {σ σ1:RL.St},RL.bj is ds σ=some σ1->is.length=ds.length/\σ1=dQ is ds σ
 | [],[],σ,σ1,h=>by cases h;exact⟨rfl,rfl⟩
 | [],d::ds,σ,σ1,h=>by cases h
 | i::is,[],σ,σ1,h=>by cases h
 | i::is,d::ds,σ,σ1,h=>by
  obtain⟨h1,h2⟩:=eP (is:=is) (ds:=ds) (σ:=σ.set i (some d)) h
  exact⟨by simp[h1],h2⟩
theorem hG:∀ {is:List Nat} {vs:List V} {σ:L2.St} {H:Hp} {Q:L2.St->Hp->Prop},is.length=vs.length->Q (c8 is vs σ) H->gs is vs σ H Q
 | [],[],σ,H,Q,_,q=>⟨rfl,q⟩
 | [],_::_,_,_,_,h,_=>by simp at h
 | _::_,[],_,_,_,h,_=>by simp at h
 | i::is,v::vs,σ,H,Q,h,q=>⟨v,vs,rfl,hG (is:=is) (by simpa using h) q⟩
theorem rP{K:PySem.W.Frag}{tg:List Nat}{d:RL.D}{v:V}{σD σD1:RL.St}{H:Hp}(h:RL.aT tg d σD=some σD1)(r:Rep nP K H d v) :
  ∃ ds vs,σD1=dQ tg ds σD/\tg.length=ds.length/\af nP K H ds vs/\(d.imm=true->RL.ay ds=true)/\∀ (σ:L2.St) (Q:L2.St->Hp->Prop),Q (c8 tg vs σ) H->gT K tg v σ H Q:=by
 unfold RL.aT at h
 split at h
 ·rename_i i
  cases h
  exact⟨[d],[v],rfl,rfl,af.cons r af.nil,fun z=>by simp[RL.ay,z],fun σ Q q=>q⟩
 ·rename_i hne
  have key:gT K tg=fun v σ H Q=>kE K tg.length (gs tg) v σ H Q\/lb K tg.length (gs tg) v σ H Q:=by
   unfold gT
   split
   ·rename_i i
    exact absurd rfl (hne i)
   ·rfl
  rw[key]
  split at h
  ·rename_i ds
   obtain⟨h1,h2⟩:=eP h
   obtain⟨p,xs,rfl,e2,e3⟩:=bo r
   exact⟨ds,xs,h2,h1,e3,fun z=>by rw[RL.D.imm]at z;exact z,fun σ Q q=>.inl ⟨p,xs,rfl,SqT.of e2,by rw[<-e3.length,h1],hG (h1.trans e3.length) q⟩⟩
  ·rename_i ds
   obtain⟨h1,h2⟩:=eP h
   obtain⟨p,xs,rfl,_,e2,e3⟩:=aD r
   exact⟨ds,xs,h2,h1,e3,fun z=>(by cases z),fun σ Q q=>.inr ⟨p,xs,rfl,SqL.of e2,by rw[<-e3.length,h1],hG (h1.trans e3.length) q⟩⟩
  ·cases h
theorem nq:∀ (is:List Nat) (vs:List V) (σ:L2.St),(c8 is vs σ).length=σ.length
 | [],_,_=>rfl
 | _::_,[],_=>rfl
 | i::is,v::vs,σ=>by rw[c8,nq is vs,List.length_set]
theorem kH:∀ (is:List Nat) (vs:List V) (σ:L2.St) (j:Nat),is.contains j=false->(c8 is vs σ)[j]?=σ[j]?
 | [],_,_,_,_=>rfl
 | _::_,[],_,_,_=>rfl
 | i::is,v::vs,σ,j,h=>by
  rw[List.contains_cons,Bool.or_eq_false_iff]at h
  rw[c8,kH is vs _ j h.2,List.getElem?_set_ne (by intro e;subst e;simp at h)]
theorem jG:∀ (is:List Nat) (vs:List RL.D) (σ:RL.St),(dQ is vs σ).length=σ.length
 | [],_,_=>rfl
 | _::_,[],_=>rfl
 | i::is,v::vs,σ=>by rw[dQ,jG is vs,List.length_set]
theorem jm:∀ (is:List Nat) (vs:List RL.D) (σ:RL.St) (j:Nat),is.contains j=false->(dQ is vs σ)[j]?=σ[j]?
 | [],_,_,_,_=>rfl
 | _::_,[],_,_,_=>rfl
 | i::is,v::vs,σ,j,h=>by
  rw[List.contains_cons,Bool.or_eq_false_iff]at h
  rw[dQ,jm is vs _ j h.2,List.getElem?_set_ne (by intro e;subst e;simp at h)]
noncomputable def RVx(T:List Nat)(K:PySem.W.Frag)(σD:RL.St)(σ:L2.St)(H:Hp):Prop:=σD.length<=σ.length/\∀ (i:Nat) (d:RL.D),T.contains i=false->σD[i]?=some (some d)->∃ v,σ[i]?=some (some v)/\Rep nP K H d v
theorem RVx.set{K:PySem.W.Frag}{σD:RL.St}{σ:L2.St}{H:Hp}{i:Nat}{T:List Nat}{d:RL.D}{v:V}(h:RVx (i::T) K σD σ H)(r:Rep nP K H d v):RVx T K (σD.set i (some d)) (σ.set i (some v)) H:=⟨by simpa using h.1,fun j dj hT e=>by
 by_cases hj:j=i
 ·subst hj
  have hlt:j<σD.length:=by
   have:=(List.getElem?_eq_some_iff.mp e).1
   simpa using this
  rw[List.getElem?_set_self hlt]at e
  cases e
  exact⟨v,by rw[List.getElem?_set_self (Nat.lt_of_lt_of_le hlt h.1)],r⟩
 ·rw[List.getElem?_set_ne (Ne.symm hj)]at e ⊢
  exact h.2 j dj (by rw[List.contains_cons,hT,Bool.or_false];simpa using hj) e⟩
theorem RVx.bj{K:PySem.W.Frag}{H:Hp}:∀ {is:List Nat} {ds:List RL.D} {vs:List V} {σD:RL.St} {σ:L2.St},RVx is K σD σ H->is.length=ds.length->af nP K H ds vs->RV0 K (dQ is ds σD) (c8 is vs σ) H
 | [],_,_,_,_,h,_,_=>⟨h.1,fun i d e=>h.2 i d rfl e⟩
 | i::is,[],_,_,_,_,hl,_=>by simp at hl
 | i::is,d::ds,vs,σD,σ,h,hl,r=>by
  rw[af]at r
  obtain⟨v,t,rfl,r1,r2⟩:=r
  rw[dQ,c8]
  exact RVx.bj (h.set r1) (by simpa using hl) r2
theorem zD{K:PySem.W.Frag}{tg:List Nat}{v:V}{σ:L2.St}{H:Hp}{Q:L2.St->Hp->Prop}(h:gT K tg v σ H Q):∃ vs,tg.length=vs.length/\Q (c8 tg vs σ) H/\∀ Q':L2.St->Hp->Prop,Q' (c8 tg vs σ) H->gT K tg v σ H Q':=by
 have inv:∀ (is:List Nat) (xs:List V) (σ:L2.St) (Q:L2.St->Hp->Prop),gs is xs σ H Q->is.length=xs.length/\Q (c8 is xs σ) H:=by
  intro is
  induction is with
  | nil=>intro xs σ Q h;obtain⟨rfl,q⟩:=h;exact⟨rfl,q⟩
  |cons i r ih=>
   intro xs σ Q h
   obtain⟨v,t,rfl,q⟩:=h
   obtain⟨h1,h2⟩:=ih t _ Q q
   exact⟨by simp[h1],h2⟩
 unfold gT at h
 split at h
 ·rename_i i
  exact⟨[v],rfl,h,fun Q' q=>q⟩
 ·rename_i hne
  have key:gT K tg=fun v σ H Q=>kE K tg.length (gs tg) v σ H Q\/lb K tg.length (gs tg) v σ H Q:=by
   unfold gT
   split
   ·rename_i i
    exact absurd rfl (hne i)
   ·rfl
  rw[key]
  rcases h with⟨a,xs,rfl,hq,hl,hg⟩ | ⟨a,xs,rfl,hq,hl,hg⟩
  ·obtain⟨h1,h2⟩:=inv _ _ _ _ hg
   exact⟨xs,h1,h2,fun Q' q=>.inl ⟨a,xs,rfl,hq,hl,hG h1 q⟩⟩
  ·obtain⟨h1,h2⟩:=inv _ _ _ _ hg
   exact⟨xs,h1,h2,fun Q' q=>.inr ⟨a,xs,rfl,hq,hl,hG h1 q⟩⟩
noncomputable def eT(tg:List Nat)(σ:L2.St):L2.St:=σ.mapIdx fun i o=>if tg.contains i then none else o
theorem nU(tg:List Nat)(σ:L2.St):(eT tg σ).length=σ.length:=by simp[eT]
theorem qO{tg:List Nat}{σ:L2.St}{i:Nat}(h:tg.contains i=false):(eT tg σ)[i]?=σ[i]?:=by
 unfold eT
 rw[List.getElem?_mapIdx]
 cases σ[i]? with
 | none=>rfl
 | some o=>simp only[Option.map_some,h,Bool.false_eq_true,if_false]
theorem qq{tg:List Nat}{σ:L2.St}{i:Nat}{v:V}(h:tg.contains i=true):(eT tg σ)[i]?≠some (some v):=by
 unfold eT
 rw[List.getElem?_mapIdx]
 cases σ[i]? with
 | none=>simp
 | some o=>simp only[Option.map_some,h,if_true];intro z;cases z
section comp
variable{X:Cx}{cl:RL.Cl}{tgE iter elt c:Expr}{e' c':RL.E}{it:RL.It}{tg:List Nat}{scope:Scope}{cls:List (Str × Addr)}{pos:Pos}{ifs:List Expr}
structure ip(X:Cx)(cl:RL.Cl)(scope:Scope)(tgE:Expr)(tg:List Nat)(elt:Expr)(e':RL.E)(tcs:TT)(ifs:List Expr):Prop where
 htg:∀ cls C fp s H,PG (blk X scope cls C fp s H) tgE (gT X.K tg)
 htc:∀ cls C fp s H pins s' σ H' Q,Inv (blk X scope cls C fp s H) pins σ H' s'->tcs σ H' Q->wpAny (model X.prog X.w) X.A (fL ifs (compEnvC scope cls C X.env)) (TP (blk X scope cls C fp s H) pins σ Q) (fun _ _=>False) s'
 hte:∀ cls C fp s H,SE (blk X scope cls C fp s H) cl elt e'
 cover:∀ (i:Nat) (x:Str),X.N[i]?=some x->scope.names.lookup x=some .local\/scope.names.lookup x=some .cell->tg.contains i=true
theorem ip.blk{tcs:TT}(B:ip X cl scope tgE tg elt e' tcs ifs):mF X scope tgE ifs elt (eT tg) (gT X.K tg) tcs (tE X.K cl e') where
 htg:=B.htg
 htc:=B.htc
 hte:=B.hte
 Au:=fun σ hl=>⟨nU tg σ,fun i x v h1 h2=>by
  by_cases hc:tg.contains i=true
  ·exact absurd h2 (qq hc)
  ·simp only[Bool.not_eq_true]at hc
   rw[qO hc]at h2
   refine⟨h2,fun z=>?_,fun z=>?_⟩
   ·rw[B.cover i x h1 (.inl z)]at hc
    cases hc
   ·rw[B.cover i x h1 (.inr z)]at hc
    cases hc⟩
 wZ:=fun x σ H Q h=>by
  obtain⟨vs,h1,h2,h3⟩:=zD h
  refine h3 _ ⟨h2,(nq _ _ _).symm,fun i v e=>?_⟩
  by_cases hc:tg.contains i=true
  ·exact absurd e (qq hc)
  ·simp only[Bool.not_eq_true]at hc
   rw[kH _ _ _ _ hc]
   exact e
theorem ud{f:RL.St->Option (Option RL.D)}{σ:RL.St}{d:RL.D}{r ys:List RL.D}(h:RL.cz f tg σ (d::r)=some ys):∃ σ1 y ys',RL.aT tg d σ=some σ1/\f σ1=some y/\RL.cz f tg σ r=some ys'/\RL.j8 y ys'=some ys:=by
 rw[RL.cz]at h
 obtain⟨σ1,h1,h⟩:=bind_some h
 obtain⟨y,h2,h⟩:=bind_some h
 obtain⟨ys',h3,h⟩:=bind_some h
 exact⟨σ1,y,ys',h1,h2,h3,h⟩
theorem qG{tcs:TT}{f:RL.St->Option (Option RL.D)}{σ:L2.St}{H:Hp}{Q:VK}{σD:RL.St}{ds total:List RL.D}(rv:RV0 X.K σD σ H)(ei:RL.bq cl σD it=some ds)(hz:ds.length<=RL.most)(hm:RL.cz f tg σD ds=some total)
 (ht:∀ σ1 σV H y (Q:Bool->Hp->Prop),RV0 X.K σ1 σV H->f σ1=some y->(∀ k H',au H H'->(if k=true then ∃ d,y=some d/\RL.ev cl σ1 e'=some d else y=none)->Q k H')->tcs σV H Q)
 (k:∀ l H',au H H'->H l=none->(∃ xs,H' l=some (.lst xs)/\af nP X.K H' total xs)->Q (.ref l) H'):gM (tI X.K cl it) (eT tg) (gT X.K tg) tcs (tE X.K cl e') σ H Q:=by
 refine⟨σD,ds,rv,ei,fun J H1 s1 src l hl=>?_⟩
 obtain⟨ok,_⟩:=src
 refine⟨fun i m xs H2=>∃ don rest,m=ds.length-i/\i<=ds.length/\au H1 H2/\H2 l=some (.lst xs)/\af (fun p=>p=l) X.K H2 don xs/\RL.cz f tg σD (ds.drop i)=some rest/\don++rest=total/\don.length<=i,
  ⟨_,[],total,rfl,Nat.zero_le _,au.c9 hl,aW,af.nil,hm,rfl,Nat.le_refl _⟩,?_⟩
 rintro i m xs H2 ⟨don,rest,rfl,hi,s2,hl2,rs,hr,htot,hdn⟩
 refine⟨hl2,?_⟩
 have off:Off nP H1 H2:=Off.same s2
 by_cases hlt:i<ds.length
 ·refine .inr ⟨ok.go H2 i off hlt,fun x H3 y=>?_⟩
  have hd:ds[i]?=some ds[i]:=by simp[hlt]
  obtain⟨s3,rp⟩:=ok.yld H2 i ds[i] x H3 off hd y
  have rp:=rp (.inr s2)
  rw[List.drop_eq_getElem_cons hlt]at hr
  obtain⟨σ1,y1,ys',h1,h2,h3,h4⟩:=ud hr
  obtain⟨dv,vs,e1,e2,e3,_,e5⟩:=rP h1 rp
  refine e5 _ _ ?_
  have rv3:RV0 X.K σD σ H3:=rv.same ((s1.trans s2).trans s3)
  have rvx:RVx tg X.K σD (eT tg σ) H3:=⟨by rw[nU];exact rv3.1,fun j d hT e=>by rw[qO hT];exact rv3.2 j d e⟩
  have rv1:RV0 X.K σ1 (c8 tg vs (eT tg σ)) H3:=by rw[e1];exact rvx.bj e2 e3
  refine ht σ1 _ H3 y1 _ rv1 h2 fun t H5 s5 hy=>?_
  have hl5:H5 l=some (.lst xs):=s5 _ _ (s3 _ _ hl2)
  have rs5:af (fun p=>p=l) X.K H5 don xs:=(rs.same s3).same s5
  cases t with
  |true=>
   obtain⟨d,rfl,hv⟩:=(show ∃ d,y1=some d/\RL.ev cl σ1 e'=some d from hy)
   have him:d.imm=true/\rest=d::ys':=by
    unfold RL.j8 at h4
    dsimp only at h4
    split at h4
    ·rename_i hh
     cases h4
     exact⟨hh,rfl⟩
    ·cases h4
   refine dX ⟨σ1,d,rv1.same s5,hv,fun v H6 r6=>⟨r6.same _ _ hl5,?_,ds.length-(i+1),by lia,don++[d],ys',rfl,hlt,?_,aW,?_,h3,?_,?_⟩⟩
   ·rw[<-rs.length]
    exact Nat.lt_of_lt_of_le (Nat.lt_of_le_of_lt hdn (Nat.lt_of_lt_of_le hlt hz)) (Nat.le_of_lt (by decide))
   ·intro b o e
    have hb:b≠l:=aG e hl
    rw[aF hb]
    exact r6.same _ _ (s5 _ _ (s3 _ _ (s2 _ _ e)))
   ·exact af.upd (P:=fun p=>p=l) (r6.same _ _ hl5) (.inl ⟨_,rfl⟩) rfl (af.append (rs5.same r6.same) (af.cons (r6.rep.imm him.1) af.nil))
   ·rw[<-htot,him.2,List.append_assoc]
    rfl
   ·rw[List.length_append,List.length_singleton]
    lia
  |false=>
   have hy:y1=none:=hy
   subst hy
   have hr2:rest=ys':=by
    unfold RL.j8 at h4
    dsimp only at h4
    cases h4
    rfl
   refine eE ⟨ds.length-(i+1),by lia,don,ys',rfl,hlt,(s2.trans s3).trans s5,hl5,rs5,h3,by rw[<-htot,hr2],by lia⟩
 ·have e:i=ds.length:=by lia
  subst e
  refine .inl ⟨ok.stop H2 off,k l H2 (s1.trans s2) (s1.free hl) ⟨xs,hl2,?_⟩⟩
  rw[List.drop_length,RL.cz]at hr
  cases hr
  rw[List.append_nil]at htot
  rw[<-htot]
  exact af.weak (fun _ z=>z.elim) rs
end comp
section comp
variable{X:Cx}{cl:RL.Cl}{tgE iter elt c:Expr}{e' c':RL.E}{it:RL.It}{tg:List Nat}{scope:Scope}{pos:Pos}{ifs:List Expr}
structure lu(scope sc:Scope):Prop where
 kind:scope.kind=.function
 own:∀ x∈scope.names,x.2=.cell->scope.names.lookup x.1=some .cell
 loc:∀ x∈scope.names,x.2=.local->scope.names.lookup x.1=some .local
 vis:∀ x∈scope.names,x.2=.free->sc.names.lookup x.1=some .cell\/sc.names.lookup x.1=some .free
theorem eZ{pins:List (Addr × Obj)}{σ:L2.St}{H:Hp}{s:Shared}(S:lu scope X.env.scope)(I:Inv X pins σ H s):∃ cls,closureFor scope X.env=pure cls/\eN scope X.env.scope cls X.env.cells:=by
 obtain⟨cls,h1,h2,h3⟩:=qV (env:=X.env) (scope:=scope) fun x hx=>I.ok.has x (S.vis _ hx rfl)
 exact⟨cls,h1,S.kind,S.own,S.loc,h2,h3,fun x hx=>S.vis _ (PySem.mem_of_lookup hx) rfl⟩
theorem pj{σD:RL.St}{σ:L2.St}{H H':Hp}{e:RL.E}{l:Addr}{total:List RL.D}(sm:au H H')(hl:H l=none)(h:∃ xs,H' l=some (.lst xs)/\af nP X.K H' total xs)(hav:∀ M,RL.avE M e=false):Res X.K σD σ H e (.lst total) (.ref l) H' where
 same:=sm
 rep:=by
  obtain⟨xs,h1,h2⟩:=h
  rw[Rep]
  exact⟨l,xs,rfl,fun z=>z,h1,h2⟩
 fresh:=fun _ _ a z=>by cases z;exact hl
 av:=fun M z=>by rw[hav M]at z;cases z
noncomputable def jV:TT:=fun _ H Q=>Q true H
theorem nz{σ:L2.St}{H:Hp}{Q:VK}(h:tE X.K cl (.compA e' tg it) σ H Q):gM (tI X.K cl it) (eT tg) (gT X.K tg) jV (tE X.K cl e') σ H Q:=by
 obtain⟨σD,d,rv,e,k⟩:=h
 rw[RL.ev]at e
 obtain⟨ds,e1,e⟩:=bind_some e
 obtain⟨ds',e2,e⟩:=bind_some e
 obtain⟨total,e3,e4⟩:=map_some e
 unfold RL.fits at e2
 split at e2
 ·rename_i hz
  cases e2
  subst e4
  refine qG (f:=fun σ1=>(RL.ev cl σ1 e').map some) rv e1 hz e3 (fun σ1 σV H y Q rv1 hy q=>?_) fun l H' sm hl hx=>k _ _ (pj sm hl hx fun _=>rfl)
  obtain⟨d,h1,h2⟩:=map_some hy
  exact q true H (au.refl H) (dX ⟨d,h2.symm,h1⟩)
 ·cases e2
theorem nY{σ:L2.St}{H:Hp}{Q:VK}(h:tE X.K cl (.comp e' tg it c') σ H Q):gM (tI X.K cl it) (eT tg) (gT X.K tg) (tT X.K cl c') (tE X.K cl e') σ H Q:=by
 obtain⟨σD,d,rv,e,k⟩:=h
 rw[RL.ev]at e
 obtain⟨ds,e1,e⟩:=bind_some e
 obtain⟨ds',e2,e⟩:=bind_some e
 obtain⟨total,e3,e4⟩:=map_some e
 unfold RL.fits at e2
 split at e2
 ·rename_i hz
  cases e2
  subst e4
  refine qG rv e1 hz e3 (fun σ1 σV H y Q rv1 hy q=>?_) fun l H' sm hl hx=>k _ _ (pj sm hl hx fun _=>rfl)
  obtain⟨t,h1,h2⟩:=bind_some hy
  refine⟨σ1,t,rv1,h1,fun H' sm=>q t H' sm ?_⟩
  cases t with
  |true=>
   obtain⟨d,h3,h4⟩:=map_some (show(RL.ev cl σ1 e').map some=some y from h2)
   exact dX ⟨d,h4.symm,h3⟩
  |false=>
   cases(show(some none:Option (Option RL.D))=some y from h2)
   exact eE rfl
 ·cases e2
theorem wI(hc:X.calm=true)(S:lu scope X.env.scope)(hi:SI X cl tgE iter it)(B:ip X cl scope tgE tg elt e' jV [])(hs:∀ x,foldedSetIterable iter X.env x=pure x):SE X cl (.ListComp elt [⟨tgE,iter,[],0⟩] scope pos) (.compA e' tg it):=by
 intro pins s σ H Q I h
 obtain⟨cls,h1,h2⟩:=eZ S I
 exact qr (fun _ _ _ _=>hc) h2 h1 hi B.blk hs pins s σ H Q I (nz h)
theorem oN{CM:Cx->Prop}(hc:∀ {pins:List (Addr × Obj)} {σ:L2.St} {H:Hp} {s:Shared} (cls:List (Str × Addr)) (C:Addr) (fp:List Addr),Inv X pins σ H s->CM (blk X scope cls C fp s H))(S:lu scope X.env.scope)(hi:PI' CM X tgE iter (tI X.K cl it))(B:ip X cl scope tgE tg elt e' (tT X.K cl c') [c])(hs:∀ x,foldedSetIterable iter X.env x=pure x):SE X cl (.ListComp elt [⟨tgE,iter,[c],0⟩] scope pos) (.comp e' tg it c'):=by
 intro pins s σ H Q I h
 obtain⟨cls,h1,h2⟩:=eZ S I
 exact qr hc h2 h1 hi B.blk hs pins s σ H Q I (nY h)
noncomputable def SA(X:Cx)(cl:RL.Cl)(st:Stmt)(i:Nat)(e':RL.E):Prop:=PS X st (fun D σ H=>tE X.K cl e' σ H fun v H1=>D.nx (σ.set i (some v)) H1)
theorem PS.weak{st:Stmt}{t t':TS}(h:PS X st t)(w:∀ D σ H,t' D σ H->t D σ H):PS X st t':=fun pins s σ H D I q=>h pins s σ H D I (w D σ H q)
theorem PSs.weak{st:List Stmt}{t t':TS}(h:PSs X st t)(w:∀ D σ H,t' D σ H->t D σ H):PSs X st t':=fun pins s σ H D I q=>h pins s σ H D I (w D σ H q)
variable{y:Str}{i:Nat}{py spos:Pos}
theorem vm(hc:X.calm=true)(hN:X.N.Nodup)(hiy:X.N[i]?=some y)(hy:X.env.scope.names.lookup y=some .local)(S:lu scope X.env.scope)(hi:SI X cl tgE iter it)(B:ip X cl scope tgE tg elt e' jV [])(hs:∀ x,foldedSetIterable iter X.env x=pure x)
 (hsw:swapsWith (.ListComp elt [⟨tgE,iter,[],0⟩] scope pos) (some (.Name y py)) spos.line X.env=pure true):SA X cl (.Assign [.Name y py] (.ListComp elt [⟨tgE,iter,[],0⟩] scope pos) spos) i (.compA e' tg it):=by
 intro pins s σ H D I h
 obtain⟨cls,h1,h2⟩:=eZ S I
 exact qF hc hN hiy hy h2 h1 hi B.blk hs hsw pins s σ H D I (nz h)
theorem wA(hc:X.calm=true)(hN:X.N.Nodup)(hiy:X.N[i]?=some y)(hy:X.env.scope.names.lookup y=some .local)(S:lu scope X.env.scope)(hi:SI X cl tgE iter it)(B:ip X cl scope tgE tg elt e' (tT X.K cl c') [c])(hs:∀ x,foldedSetIterable iter X.env x=pure x)
 (hsw:swapsWith (.ListComp elt [⟨tgE,iter,[c],0⟩] scope pos) (some (.Name y py)) spos.line X.env=pure true):SA X cl (.Assign [.Name y py] (.ListComp elt [⟨tgE,iter,[c],0⟩] scope pos) spos) i (.comp e' tg it c'):=by
 intro pins s σ H D I h
 obtain⟨cls,h1,h2⟩:=eZ S I
 exact qF hc hN hiy hy h2 h1 hi B.blk hs hsw pins s σ H D I (nY h)
theorem ve{e:Expr}(hN:X.N.Nodup)(hiy:X.N[i]?=some y)(hx:Loc X.env.scope y)(he:SE X cl e e')(hf:X.fn y=true\/X.env.scope.names.lookup y=some .local)(hs:swapsWith e (some (.Name y py)) spos.line X.env=pure false)(hf2:True):SA X cl (.Assign [.Name y py] e spos) i e':=by
 exact u7 hN hiy hx he hs hf
end comp
noncomputable def aV(M:List Nat)(σ:L2.St):Addr->Prop:=fun a=>∃ i,M.contains i=true/\σ[i]?=some (some (.ref a))
noncomputable def Own(K:PySem.W.Frag)(H:Hp)(d:RL.D)(v:V):Prop:=jJ d=true/\RL.aO d=true/\Rep nP K H d v
structure RVm(K:PySem.W.Frag)(M:List Nat)(σD:RL.St)(σ:L2.St)(H:Hp):Prop where
 len:σD.length=σ.length
 val:∀ (i:Nat) (d:RL.D),σD[i]?=some (some d)->∃ v,σ[i]?=some (some v)/\(if M.contains i=true then Own K H d v else Rep (aV M σ) K H d v)
 non:∀ (i:Nat) (v:V),σ[i]?=some (some v)->∃ d,σD[i]?=some (some d)
 sep:∀ (i j:Nat) (a:Addr),M.contains i=true->M.contains j=true->σ[i]?=some (some (.ref a))->σ[j]?=some (some (.ref a))->i=j
noncomputable def Fr'(M:List Nat)(σ:L2.St)(H:Hp)(σ':L2.St)(H':Hp):Prop:=(∀ b o,H b=some o->¬ aV M σ b->H' b=some o/\¬ aV M σ' b)/\∀ j,2<=M.count j->σ'[j]?=σ[j]?
theorem Fr'.trans{M:List Nat}{σ σ1 σ2:L2.St}{H H1 H2:Hp}(a:Fr' M σ H σ1 H1)(b:Fr' M σ1 H1 σ2 H2):Fr' M σ H σ2 H2:=⟨fun c o e n=>b.1 c o (a.1 c o e n).1 (a.1 c o e n).2,fun j hj=>(b.2 j hj).trans (a.2 j hj)⟩
theorem Fr'.same{M:List Nat}{σ:L2.St}{H H1:Hp}(s:au H H1):Fr' M σ H σ H1:=⟨fun c o e n=>⟨s _ _ e,n⟩,fun _ _=>rfl⟩
theorem gA{M:List Nat}{j:Nat}(h:2<=M.count j):M.contains j=true:=by
 have:0<M.count j:=by lia
 simpa using List.count_pos_iff.mp this
section st
variable{K:PySem.W.Frag}{M:List Nat}{σD:RL.St}{σ:L2.St}{H H1:Hp}
theorem Own.ref{d:RL.D}{v:V}(h:Own K H d v):∃ a o,v=.ref a/\H a=some o/\cA o:=by
 obtain⟨m,_,r⟩:=h
 cases d with
 | lst ds=>obtain⟨a,xs,e1,_,e2,_⟩:=aD r;exact⟨a,_,e1,e2,.inl ⟨_,rfl⟩⟩
 | dK ks ds=>rw[Rep]at r;obtain⟨a,xs,e1,_,e2,_⟩:=r;exact⟨a,_,e1,e2,.inr (.inl ⟨_,rfl⟩)⟩
 | dT ks ds=>rw[Rep]at r;obtain⟨a,xs,e1,_,e2,_⟩:=r;exact⟨a,_,e1,e2,.inr (.inr ⟨_,rfl⟩)⟩
 | _=>cases m
theorem RVm.rv0(h:RVm K M σD σ H):RV0 K σD σ H:=⟨Nat.le_of_eq h.len,fun i d e=>by
 obtain⟨v,h1,h2⟩:=h.val i d e
 refine⟨v,h1,?_⟩
 by_cases hm:M.contains i=true
 ·rw[if_pos hm]at h2
  exact h2.2.2
 ·rw[if_neg hm]at h2
  exact h2.none⟩
theorem RVm.sr(h:RVm K M σD σ H):∀ a,aV M σ a->∃ o,H a=some o/\cA o:=fun a ⟨i,hi,e⟩=>by
 obtain⟨d,hd⟩:=h.non i _ e
 obtain⟨v,h1,h2⟩:=h.val i d hd
 rw[if_pos hi]at h2
 obtain⟨b,o,e1,e2,e3⟩:=h2.ref
 rw[e]at h1
 cases h1
 cases e1
 exact⟨o,e2,e3⟩
theorem RVm.nM(h:RVm K M σD σ H):∀ a,aV M σ a->H a≠none:=fun a p=>by
 obtain⟨o,e,_⟩:=h.sr a p
 rw[e]
 exact fun z=>nomatch z
theorem Own.same{d:RL.D}{v:V}(h:Own K H d v)(s:au H H1):Own K H1 d v:=⟨h.1,h.2.1,h.2.2.same s⟩
theorem RVm.same(h:RVm K M σD σ H)(s:au H H1):RVm K M σD σ H1:=⟨h.len,fun i d e=>by
 obtain⟨v,h1,h2⟩:=h.val i d e
 refine⟨v,h1,?_⟩
 by_cases hm:M.contains i=true
 ·rw[if_pos hm]at h2 ⊢
  exact h2.same s
 ·rw[if_neg hm]at h2 ⊢
  exact h2.same s,h.non,h.sep⟩
theorem aV.set{i:Nat}{v:V}(hi:M.contains i=false):aV M (σ.set i (some v))=aV M σ:=by
 funext a
 apply propext
 constructor
 ·rintro⟨j,hj,e⟩
  have hne:i≠j:=fun z=>by subst z;rw[hi]at hj;cases hj
  rw[List.getElem?_set_ne hne]at e
  exact⟨j,hj,e⟩
 ·rintro⟨j,hj,e⟩
  have hne:i≠j:=fun z=>by subst z;rw[hi]at hj;cases hj
  exact⟨j,hj,by rw[List.getElem?_set_ne hne];exact e⟩
theorem RVm.bind{i:Nat}{d:RL.D}{v:V}(h:RVm K M σD σ H)(hi:M.contains i=false)(r:Rep (aV M σ) K H d v):RVm K M (σD.set i (some d)) (σ.set i (some v)) H where
 len:=by simpa using h.len
 val:=fun j dj e=>by
  rw[aV.set hi]
  by_cases hj:j=i
  ·subst hj
   have hlt:j<σD.length:=by
    have:=(List.getElem?_eq_some_iff.mp e).1
    simpa using this
   rw[List.getElem?_set_self hlt]at e
   cases e
   refine⟨v,by rw[List.getElem?_set_self (by rw[<-h.len];exact hlt)],?_⟩
   rw[if_neg (by rw[hi];decide)]
   exact r
  ·rw[List.getElem?_set_ne (Ne.symm hj)]at e ⊢
   exact h.val j dj e
 non:=fun j w e=>by
  by_cases hj:j=i
  ·subst hj
   have hlt:j<σ.length:=by
    have:=(List.getElem?_eq_some_iff.mp e).1
    simpa using this
   exact⟨d,by rw[List.getElem?_set_self (by rw[h.len];exact hlt)]⟩
  ·rw[List.getElem?_set_ne (Ne.symm hj)]at e ⊢
   exact h.non j w e
 sep:=fun j k a hj hk e1 e2=>by
  have n1:i≠j:=fun z=>by subst z;rw[hi]at hj;cases hj
  have n2:i≠k:=fun z=>by subst z;rw[hi]at hk;cases hk
  rw[List.getElem?_set_ne n1]at e1
  rw[List.getElem?_set_ne n2]at e2
  exact h.sep j k a hj hk e1 e2
theorem Fr'.bind{i:Nat}{v:V}(hi:M.contains i=false)(s:au H H1):Fr' M σ H (σ.set i (some v)) H1:=⟨fun b o e n=>⟨s _ _ e,by rw[aV.set hi];exact n⟩,fun j hj=>List.getElem?_set_ne (fun z=>by subst z;rw[gA hj]at hi;cases hi)⟩
end st
mutual
theorem Rep.dY{P:Addr->Prop}{K:PySem.W.Frag}{H:Hp}{a:Addr}(ha:H a=none):∀ {d:RL.D} {v:V},Rep P K H d v->Rep (fun p=>P p\/p=a) K H d v
 | .non,v,h=>by simpa[Rep]using h
 | .bl _,v,h=>by simpa[Rep]using h
 | .int _,v,h=>by simpa[Rep]using h
 | .str _,v,h=>by simpa[Rep]using h
 | .tup ds,v,h=>by
  rw[Rep]at h ⊢
  obtain⟨b,xs,e1,e2,e3⟩:=h
  exact⟨b,xs,e1,e2,af.dY ha e3⟩
 | .lst ds,v,h=>by
  rw[Rep]at h ⊢
  obtain⟨b,xs,e1,e0,e2,e3⟩:=h
  exact⟨b,xs,e1,fun z=>z.elim e0 (fun q=>aG e2 ha q),e2,af.dY ha e3⟩
 | .dK ks ds,v,h=>by
  rw[Rep]at h ⊢
  obtain⟨b,xs,e1,e0,e2,el,e3⟩:=h
  exact⟨b,xs,e1,fun z=>z.elim e0 (fun q=>aG e2 ha q),e2,el,af.dY ha e3⟩
 | .dT ks ds,v,h=>by
  rw[Rep]at h ⊢
  obtain⟨b,xs,e1,e0,e2,el,e3⟩:=h
  exact⟨b,xs,e1,fun z=>z.elim e0 (fun q=>aG e2 ha q),e2,el,af.dY ha e3⟩
 | .scr ds,v,h=>by
  rw[Rep]at h ⊢
  obtain⟨b,xs,e1,e2,e3⟩:=h
  exact⟨b,xs,e1,e2,af.dY ha e3⟩
 | .exc c,v,h=>by rw[Rep]at h ⊢;exact h
theorem af.dY{P:Addr->Prop}{K:PySem.W.Frag}{H:Hp}{a:Addr}(ha:H a=none):∀ {ds:List RL.D} {xs:List V},af P K H ds xs->af (fun p=>P p\/p=a) K H ds xs
 | [],xs,h=>by rw[af]at h ⊢;exact h
 | d::r,xs,h=>by
  rw[af]at h ⊢
  obtain⟨x,t,e1,e2,e3⟩:=h
  exact⟨x,t,e1,Rep.dY ha e2,af.dY ha e3⟩
end
section st
variable{K:PySem.W.Frag}{M:List Nat}{σD:RL.St}{σ:L2.St}{H H1:Hp}
theorem RVm.own{i:Nat}{d:RL.D}{a:Addr}(h:RVm K M σD σ H)(s:au H H1)(hi:M.contains i=true)(hi2:M.count i<2)(ha:H a=none)(r:Own K H1 d (.ref a)):RVm K M (σD.set i (some d)) (σ.set i (some (.ref a))) H1/\Fr' M σ H (σ.set i (some (.ref a))) H1:=by
 have sub:∀ b,aV M (σ.set i (some (.ref a))) b->aV M σ b\/b=a:=fun b ⟨j,hj,e⟩=>by
  by_cases hji:j=i
  ·subst hji
   have hlt:j<σ.length:=by
    have:=(List.getElem?_eq_some_iff.mp e).1
    simpa using this
   rw[List.getElem?_set_self hlt]at e
   cases e
   exact .inr rfl
  ·rw[List.getElem?_set_ne (Ne.symm hji)]at e
   exact .inl ⟨j,hj,e⟩
 have old:∀ b,aV M σ b->b≠a:=fun b p z=>h.nM b p (z▸ha)
 refine⟨⟨by simpa using h.len,fun j dj e=>?_,fun j w e=>?_,fun j k b hj hk e1 e2=>?_⟩,⟨fun b o e n=>⟨s _ _ e,fun z=>(sub b z).elim n fun q=>aG e ha q⟩,fun j hj=>List.getElem?_set_ne (fun z=>by subst z;lia)⟩⟩
 ·by_cases hj:j=i
  ·subst hj
   have hlt:j<σD.length:=by
    have:=(List.getElem?_eq_some_iff.mp e).1
    simpa using this
   rw[List.getElem?_set_self hlt]at e
   cases e
   refine⟨.ref a,by rw[List.getElem?_set_self (by rw[<-h.len];exact hlt)],?_⟩
   rw[if_pos hi]
   exact r
  ·rw[List.getElem?_set_ne (Ne.symm hj)]at e ⊢
   obtain⟨v,h1,h2⟩:=h.val j dj e
   refine⟨v,h1,?_⟩
   by_cases hm:M.contains j=true
   ·rw[if_pos hm]at h2 ⊢
    exact h2.same s
   ·rw[if_neg hm]at h2 ⊢
    exact((h2.dY ha).weak sub).same s
 ·by_cases hj:j=i
  ·subst hj
   have hlt:j<σ.length:=by
    have:=(List.getElem?_eq_some_iff.mp e).1
    simpa using this
   exact⟨d,by rw[List.getElem?_set_self (by rw[h.len];exact hlt)]⟩
  ·rw[List.getElem?_set_ne (Ne.symm hj)]at e ⊢
   exact h.non j w e
 ·by_cases h1:j=i
  ·by_cases h2:k=i
   ·rw[h1,h2]
   ·subst h1
    have hlt:j<σ.length:=by
     have:=(List.getElem?_eq_some_iff.mp e1).1
     simpa using this
    rw[List.getElem?_set_self hlt]at e1
    rw[List.getElem?_set_ne (Ne.symm h2)]at e2
    cases e1
    exact absurd rfl (old _ ⟨k,hk,e2⟩)
  ·rw[List.getElem?_set_ne (Ne.symm h1)]at e1
   by_cases h2:k=i
   ·subst h2
    have hlt:k<σ.length:=by
     have:=(List.getElem?_eq_some_iff.mp e2).1
     simpa using this
    rw[List.getElem?_set_self hlt]at e2
    cases e2
    exact absurd rfl (old _ ⟨j,hj,e1⟩)
   ·rw[List.getElem?_set_ne (Ne.symm h2)]at e2
    exact h.sep j k b hj hk e1 e2
theorem RVm.iK{i:Nat}{d':RL.D}{a:Addr}{o o':HO}(h:RVm K M σD σ H)(hi:M.contains i=true)(e:σ[i]?=some (some (.ref a)))(ha:H a=some o)(m:cA o)(r:Own K (upd H a o') d' (.ref a)):RVm K M (σD.set i (some d')) σ (upd H a o')/\Fr' M σ H σ (upd H a o'):=by
 have pa:aV M σ a:=⟨i,hi,e⟩
 refine⟨⟨by simpa using h.len,fun j dj e'=>?_,fun j w e'=>?_,h.sep⟩,⟨fun b u eb n=>⟨?_,n⟩,fun _ _=>rfl⟩⟩
 ·by_cases hj:j=i
  ·subst hj
   have hlt:j<σD.length:=by
    have:=(List.getElem?_eq_some_iff.mp e').1
    simpa using this
   rw[List.getElem?_set_self hlt]at e'
   cases e'
   refine⟨.ref a,e,?_⟩
   rw[if_pos hi]
   exact r
  ·rw[List.getElem?_set_ne (Ne.symm hj)]at e'
   obtain⟨v,h1,h2⟩:=h.val j dj e'
   refine⟨v,h1,?_⟩
   by_cases hm:M.contains j=true
   ·rw[if_pos hm]at h2 ⊢
    obtain⟨b,ob,rfl,hb,_⟩:=h2.ref
    have hne:b≠a:=fun z=>by subst z;exact hj (h.sep j i b hm hi h1 e)
    obtain⟨q1,q2,q3⟩:=h2
    refine⟨q1,q2,?_⟩
    have im:∀ {ds:List RL.D} {xs:List V},RL.ay ds=true->af nP K H ds xs->af nP K (L2.upd H a o') ds xs:=fun hi r=>(af.upd (P:=fun p=>p=a) ha m rfl (r.imm hi)).imm hi
    cases dj with
    | lst ds=>obtain⟨b',xs,e1,e0,e2,e3⟩:=aD q3;cases e1;rw[Rep];exact⟨b,xs,rfl,fun z=>z,by rw[L2.aF hne];exact e2,im q2 e3⟩
    | dK ks ds=>rw[Rep]at q3 ⊢;obtain⟨b',xs,e1,e0,e2,el,e3⟩:=q3;cases e1;exact⟨b,xs,rfl,fun z=>z,by rw[L2.aF hne];exact e2,el,im q2 e3⟩
    | dT ks ds=>rw[Rep]at q3 ⊢;obtain⟨b',xs,e1,e0,e2,el,e3⟩:=q3;cases e1;exact⟨b,xs,rfl,fun z=>z,by rw[L2.aF hne];exact e2,el,im q2 e3⟩
    | _=>cases q1
   ·rw[if_neg hm]at h2 ⊢
    exact Rep.upd ha m pa h2
 ·obtain⟨dj,hd⟩:=h.non j w e'
  by_cases hj:j=i
  ·subst hj
   have hlt:=(List.getElem?_eq_some_iff.mp hd).1
   exact⟨d',by rw[List.getElem?_set_self hlt]⟩
  ·exact⟨dj,by rw[List.getElem?_set_ne (Ne.symm hj)];exact hd⟩
 ·have hb:b≠a:=fun z=>n (z▸pa)
  rw[L2.aF hb]
  exact eb
end st
noncomputable def oA(K:PySem.W.Frag)(M:List Nat)(D:Ends)(σ:L2.St)(H:Hp):RL.Out->RL.St->Prop
 | .nx,σD'=>∀ σ' H',RVm K M σD' σ' H'->Fr' M σ H σ' H'->D.nx σ' H'
 | .rt d,σD'=>∀ σ1 H1 v H',RVm K M σD' σ1 H1->Fr' M σ H σ1 H1->au H1 H'->(∀ P:Addr->Prop,(∀ p,P p->H1 p≠none/\¬ aV M σ1 p)->Rep P K H' d v)->D.rt v H'
theorem oA.from{K:PySem.W.Frag}{M:List Nat}{D:Ends}{σ σ1:L2.St}{H H1:Hp}{r:RL.Out}{σD':RL.St}(h:oA K M D σ H r σD')(f:Fr' M σ H σ1 H1):oA K M D σ1 H1 r σD':=by
 cases r with
 | nx=>exact fun σ2 H2 rv2 fr2=>h σ2 H2 rv2 (f.trans fr2)
 | rt d=>exact fun σ1 H1 v H2 rv2 fr2 sm rp=>h σ1 H1 v H2 rv2 (f.trans fr2) sm rp
noncomputable def tS(K:PySem.W.Frag)(M:List Nat)(f:RL.St->Option (RL.Out × RL.St)):TS:=fun D σ H=>∃ σD r σD',RVm K M σD σ H/\f σD=some (r,σD')/\oA K M D σ H r σD'
noncomputable def SS(X:Cx)(cl:RL.Cl)(M:List Nat)(st:Stmt)(s:RL.S):Prop:=PS X st (tS X.K M (RL.evS cl M s))
noncomputable def SSs(X:Cx)(cl:RL.Cl)(M:List Nat)(st:List Stmt)(s:RL.Ss):Prop:=PSs X st (tS X.K M (RL.ag cl M s))
section rules
variable{X:Cx}{cl:RL.Cl}{M:List Nat}{st:Stmt}{sts:List Stmt}{e' k' c':RL.E}{i j:Nat}
theorem yh:SSs X cl M [] .nil:=by
 refine PSs.weak xH fun D σ H h=>?_
 obtain⟨σD,r,σD',rv,e,k⟩:=h
 rw[RL.ag]at e
 cases e
 exact k σ H rv (Fr'.same (au.refl H))
theorem vL{s:RL.S}{r:RL.Ss}(h1:SS X cl M st s)(h2:SSs X cl M sts r):SSs X cl M (st::sts) (.cons s r):=by
 refine PSs.weak (jK h1 h2) fun D σ H h=>?_
 obtain⟨σD,o,σD',rv,e,k⟩:=h
 rw[RL.ag]at e
 obtain⟨p,e1,e2⟩:=bind_some e
 obtain⟨o1,σ1⟩:=p
 refine⟨σD,o1,σ1,rv,e1,?_⟩
 cases o1 with
 |rt d=>
  cases e2
  exact k
 |nx=>
  exact fun σ' H' rv' fr'=>⟨σ1,o,σD',rv',e2,k.from fr'⟩
theorem Af(h:SA X cl st i e')(hi:M.contains i=false):SS X cl M st (.asg i e'):=by
 refine PS.weak h fun D σ H h=>?_
 obtain⟨σD,o,σD',rv,e,k⟩:=h
 rw[RL.evS]at e
 obtain⟨d,e1,e2⟩:=bind_some e
 split at e2
 ·rename_i ok
  cases e2
  refine⟨σD,d,rv.rv0,e1,fun v H1 r1=>k _ _ ?_ (Fr'.bind hi r1.same)⟩
  refine(rv.same r1.same).bind hi ?_
  unfold RL.ba at ok
  rw[Bool.or_eq_true,Bool.or_eq_true,Bool.and_eq_true]at ok
  rcases ok with(q | ⟨q1,q2⟩) | q
  ·exact r1.rep.imm q
  ·have rp:=r1.rep
   have fr:jJ d=true->∀ a,v=.ref a->¬ aV M σ a:=fun m a z p=>rv.nM a p (r1.fresh q2 m a z)
   cases d with
   | lst ds=>obtain⟨a,xs,e1,e0,e2,e3⟩:=aD rp;rw[Rep];exact⟨a,xs,e1,fr rfl a e1,e2,e3.imm q1⟩
   | dK ks ds=>rw[Rep]at rp ⊢;obtain⟨a,xs,e1,e0,e2,el,e3⟩:=rp;exact⟨a,xs,e1,fr rfl a e1,e2,el,e3.imm q1⟩
   | dT ks ds=>rw[Rep]at rp ⊢;obtain⟨a,xs,e1,e0,e2,el,e3⟩:=rp;exact⟨a,xs,e1,fr rfl a e1,e2,el,e3.imm q1⟩
   | _=>cases q1
  ·refine r1.av M q _ rv.nM fun j dj vj hj h1 h2=>?_
   obtain⟨v',h3,h4⟩:=rv.val j dj h1
   rw[h2]at h3
   cases h3
   rw[if_neg (by rw[hj];decide)]at h4
   exact h4
 ·cases e2
theorem A5(h:SA X cl st i e')(hi:M.contains i=true)(hi2:M.count i<2):SS X cl M st (.own i e'):=by
 refine PS.weak h fun D σ H h=>?_
 obtain⟨σD,o,σD',rv,e,k⟩:=h
 rw[RL.evS]at e
 obtain⟨d,e1,e2⟩:=bind_some e
 split at e2
 ·rename_i ok
  cases e2
  rw[Bool.and_eq_true]at ok
  refine⟨σD,d,rv.rv0,e1,fun v H1 r1=>?_⟩
  have m:jJ d=true:=by
   cases d with
   | lst _=>rfl
   | dK _ _=>rfl
   | dT _ _=>rfl
   | _=>cases ok.1
  have ow:Own X.K H1 d v:=⟨m,ok.1,r1.rep⟩
  obtain⟨a,ob,rfl,_,_⟩:=ow.ref
  obtain⟨h1,h2⟩:=rv.own r1.same hi hi2 (r1.fresh ok.2 m a rfl) ow
  exact k _ _ h1 h2
 ·cases e2
theorem CT{c:Expr}{a b:List Stmt}{a' b':RL.Ss}{pos:Pos}(hc:ST X cl c c')(ha:SSs X cl M a a')(hb:SSs X cl M b b'):SS X cl M (.If c a b pos) (.ife c' a' b'):=by
 refine PS.weak (rM hc ha hb) fun D σ H h=>?_
 obtain⟨σD,o,σD',rv,e,k⟩:=h
 rw[RL.evS]at e
 obtain⟨t,e1,e2⟩:=bind_some e
 refine⟨σD,t,rv.rv0,e1,fun H1 s1=>?_⟩
 have k1:=k.from (Fr'.same (σ:=σ) s1)
 cases t with
 | true=>exact dX ⟨σD,o,σD',rv.same s1,e2,k1⟩
 | false=>exact eE ⟨σD,o,σD',rv.same s1,e2,k1⟩
theorem AU{e:Expr}{pos:Pos}(he:SE X cl e e')(hv:∀ i,e'=.var i->M.contains i=false):SS X cl M (.Return (some e) pos) (.ret e'):=by
 refine PS.weak (nj he) fun D σ H h=>?_
 obtain⟨σD,o,σD',rv,ev,k⟩:=h
 rw[RL.evS]at ev
 obtain⟨d,e1,e2⟩:=bind_some ev
 split at e2
 ·rename_i ok
  cases e2
  refine⟨σD,d,rv.rv0,e1,fun v H1 r1=>k σ H v H1 rv (Fr'.same (au.refl H)) r1.same fun P hP=>?_⟩
  unfold RL.bt at ok
  rw[Bool.or_eq_true,Bool.and_eq_true,Bool.or_eq_true]at ok
  rcases ok with q | ⟨q1,q2⟩
  ·exact r1.rep.imm q
  ·have rp:=r1.rep
   have fr:jJ d=true->∀ a,v=.ref a->¬ P a:=fun m a z p=>by
    rcases q2 with q | q
    ·exact(hP a p).1 (r1.fresh q m a z)
    ·cases e' with
     |var i=>
      have hi:M.contains i=true:=q
      rw[hv i rfl]at hi
      cases hi
     | _=>cases q
   cases d with
   | lst ds=>obtain⟨a,xs,e1,e0,e2,e3⟩:=aD rp;rw[Rep];exact⟨a,xs,e1,fr rfl a e1,e2,e3.imm q1⟩
   | dK ks ds=>rw[Rep]at rp ⊢;obtain⟨a,xs,e1,e0,e2,el,e3⟩:=rp;exact⟨a,xs,e1,fr rfl a e1,e2,el,e3.imm q1⟩
   | dT ks ds=>rw[Rep]at rp ⊢;obtain⟨a,xs,e1,e0,e2,el,e3⟩:=rp;exact⟨a,xs,e1,fr rfl a e1,e2,el,e3.imm q1⟩
   | _=>cases q1
 ·cases e2
theorem xV{x:Str}{p pos:Pos}(hN:X.N[i]?=some x)(hv:Vis X.env.scope x)(hd:(x == ("__debug__" : Str))=false)(hcd:(x == ("__classdict__" : Str))=false)(hi:M.contains i=true):SS X cl M (.Return (some (.Name x p)) pos) (.ret (.var i)):=by
 refine PS.weak (nj (gB hN hv hd hcd)) fun D σ H h=>?_
 obtain⟨σD,o,σD',rv,e,k⟩:=h
 rw[RL.evS]at e
 obtain⟨d,e1,e2⟩:=bind_some e
 split at e2
 ·cases e2
  have e3:σD[i]?=some (some d):=by
   rw[RL.ev]at e1
   obtain⟨o,h1,h2⟩:=bind_some e1
   cases o with
   | none=>cases h2
   | some z=>cases h2;exact h1
  obtain⟨v,h1,h2⟩:=rv.val i d e3
  rw[if_pos hi]at h2
  refine⟨v,h1,k σ H v H rv (Fr'.same (au.refl H)) (au.refl H) fun P hP=>?_⟩
  obtain⟨a,o,rfl,_,_⟩:=h2.ref
  have np:¬ P a:=fun p=>(hP a p).2 ⟨i,hi,h1⟩
  obtain⟨q1,q2,q3⟩:=h2
  cases d with
  | lst ds=>obtain⟨b,xs,e1,e0,e2,e3⟩:=aD q3;cases e1;rw[Rep];exact⟨a,xs,rfl,np,e2,e3.imm q2⟩
  | dK ks ds=>rw[Rep]at q3 ⊢;obtain⟨b,xs,e1,e0,e2,el,e3⟩:=q3;cases e1;exact⟨a,xs,rfl,np,e2,el,e3.imm q2⟩
  | dT ks ds=>rw[Rep]at q3 ⊢;obtain⟨b,xs,e1,e0,e2,el,e3⟩:=q3;cases e1;exact⟨a,xs,rfl,np,e2,el,e3.imm q2⟩
  | _=>cases q1
 ·cases e2
theorem slot_get{σD:RL.St}{d:RL.D}(h:(σD[i]?).bind id=some d):σD[i]?=some (some d):=by
 obtain⟨o,h1,h2⟩:=bind_some h
 cases o with
 | none=>cases h2
 | some z=>cases h2;exact h1
theorem zg(h:PS X st (mK (tBM X.K "list" pW (i7 i) (tEs X.K cl (.cons e' .nil)))))(hi:M.contains i=true):SS X cl M st (.app i e'):=by
 refine PS.weak h fun D σ H h=>?_
 obtain⟨σD,o,σD',rv,e,k⟩:=h
 rw[RL.evS]at e
 obtain⟨d,e1,e2⟩:=bind_some e
 obtain⟨l,e3,e4⟩:=bind_some e2
 cases l with
 |lst ds=>
  dsimp only at e4
  split at e4
  ·rename_i ok
   cases e4
   rw[Bool.and_eq_true,decide_eq_true_eq]at ok
   obtain⟨v,h1,h2⟩:=rv.val i _ (slot_get e3)
   rw[if_pos hi]at h2
   obtain⟨q1,q2,q3⟩:=h2
   obtain⟨a,xs,rfl,_,f2,f3⟩:=aD q3
   refine⟨.ref a,h1,.inl ⟨rfl,xs,SqL.of f2⟩,σD,[d],rv.rv0,by rw[RL.evs,e1];rfl,fun vs H1 s1 r1=>?_⟩
   rw[af]at r1
   obtain⟨y,t,rfl,r2,r3⟩:=r1
   rw[af]at r3
   subst r3
   have hl:xs.length<sizeLine:=by rw[<-f3.length];exact Nat.lt_of_lt_of_le ok.2 bS
   refine⟨a,xs,y,rfl,rfl,s1 _ _ f2,hl,?_⟩
   have im:RL.ay (ds++[d])=true:=by
    have:∀ l:List RL.D,RL.ay l=true->RL.ay (l++[d])=true:=fun l=>by
     induction l with
     | nil=>intro _;simp[RL.ay,ok.1]
     | cons z r ih=>intro h;rw[RL.ay,Bool.and_eq_true]at h;rw[List.cons_append,RL.ay,h.1,ih h.2];rfl
    exact this ds q2
   have rs:af nP X.K (upd H1 a (.lst (xs++[y]))) (ds++[d]) (xs++[y]):=(af.upd (P:=fun p=>p=a) (s1 _ _ f2) (.inl ⟨_,rfl⟩) rfl ((af.append (f3.same s1) (af.cons r2 af.nil)).imm im)).imm im
   obtain⟨g1,g2⟩:=(rv.same s1).iK (d':=.lst (ds++[d])) (o':=.lst (xs++[y])) hi h1 (s1 _ _ f2) (.inl ⟨_,rfl⟩) ⟨rfl,im,by rw[Rep];exact⟨a,_,rfl,fun z=>z,aW,rs⟩⟩
   exact k _ _ g1 ((Fr'.same s1).trans g2)
  ·cases e4
 | _=>cases e4
end rules
theorem RVm.bj{K:PySem.W.Frag}{M:List Nat}{H:Hp}:∀ {tg:List Nat} {ds:List RL.D} {vs:List V} {σD:RL.St} {σ:L2.St},RVm K M σD σ H->(∀ i∈tg,M.contains i=false)->tg.length=ds.length->RL.ay ds=true->af nP K H ds vs ->
  RVm K M (dQ tg ds σD) (c8 tg vs σ) H/\aV M (c8 tg vs σ)=aV M σ
 | [],_,_,_,_,h,_,_,_,_=>⟨h,rfl⟩
 | i::is,[],_,_,_,_,_,hl,_,_=>by simp at hl
 | i::is,d::ds,vs,σD,σ,h,hM,hl,him,r=>by
  rw[af]at r
  obtain⟨v,t,rfl,r1,r2⟩:=r
  rw[RL.ay,Bool.and_eq_true]at him
  rw[dQ,c8]
  have hi:=hM i List.mem_cons_self
  obtain⟨g1,g2⟩:=RVm.bj (h.bind hi (r1.imm him.1)) (fun j hj=>hM j (List.mem_cons_of_mem _ hj)) (by simpa using hl) him.2 r2
  exact⟨g1,g2.trans (aV.set hi)⟩
theorem jF{M tg:List Nat}{vs:List V}{σ:L2.St}{j:Nat}(hM:∀ i∈tg,M.contains i=false)(hj:2<=M.count j):(c8 tg vs σ)[j]?=σ[j]?:=by
 refine kH tg vs σ j ?_
 cases hc:tg.contains j with
 | false=>rfl
 |true=>
  have:=hM j (by simpa using hc)
  rw[gA hj]at this
  cases this
section rules
variable{X:Cx}{cl:RL.Cl}{M:List Nat}{st:Stmt}{tgE iter:Expr}{body:List Stmt}{b:RL.Ss}{it:RL.It}{tg:List Nat}{e' k' a' b':RL.E}{i j:Nat}{pos:Pos}
theorem qW{f:RL.St->Option (RL.Out × RL.St)}{d:RL.D}{ds:List RL.D}{σ:RL.St}{p:RL.Out × RL.St}(h:RL.bb f tg (d::ds) σ=some p):d.imm=true/\∃ σ1 o σ2,RL.aT tg d σ=some σ1/\f σ1=some (o,σ2) /\
  (match o with | .nx=>RL.bb f tg ds σ2=some p | .rt d=>p=(.rt d,σ2)):=by
 rw[RL.bb]at h
 split at h
 ·rename_i him
  obtain⟨σ1,h1,h⟩:=bind_some h
  obtain⟨⟨o,σ2⟩,h2,h⟩:=bind_some h
  refine⟨him,σ1,o,σ2,h1,h2,?_⟩
  cases o with
  | nx=>exact h
  | rt d=>exact(Option.some.inj h).symm
 ·cases h
theorem zF(hx:X.xe=fun _ _=>False)(hc:X.calm=true)(hi:SI X cl tgE iter it)(hg:PG X tgE (gT X.K tg))(hb:SSs X cl M body b)(hs:∀ x,foldedSetIterable iter X.env x=pure x)(hav:RL.oj M it=true)(hM:∀ i∈tg,M.contains i=false) :
  SS X cl M (.For tgE iter body [] pos) (.forr tg it b):=by
 refine PS.weak (sG (by rw[hx];exact PassesOwn.never) hc hi hg hb hs) fun D σ H h=>?_
 obtain⟨σD,r,σD',rv,e,k⟩:=h
 rw[RL.evS]at e
 obtain⟨ds,e1,e2⟩:=bind_some e
 refine⟨σD,ds,rv.rv0,e1,fun J H1 s1 src=>?_⟩
 have ok:hU X.K J ds (aV M σ) H1:=src.2 M (aV M σ) hav rv.sr fun j dj vj hj h1 h2=>by
  obtain⟨v',h3,h4⟩:=rv.val j dj h1
  rw[h2]at h3
  cases h3
  rw[if_neg (by rw[hj];decide)]at h4
  exact h4
 have k1:=k.from (Fr'.same (σ:=σ) s1)
 refine⟨fun i m σ2 H2=>∃ σD2,m=ds.length-i/\i<=ds.length/\RVm X.K M σD2 σ2 H2/\Fr' M σ H1 σ2 H2/\RL.bb (RL.ag cl M b) tg (ds.drop i) σD2=some (r,σD'),⟨_,σD,rfl,Nat.zero_le _,rv.same s1,Fr'.same (au.refl _),e2⟩,?_⟩
 rintro i m σ2 H2 ⟨σD2,rfl,hi2,rv2,fr2,hl⟩
 have off:Off (aV M σ) H1 H2:=fun b o n e=>(fr2.1 b o e n).1
 by_cases hlt:i<ds.length
 ·refine .inr ⟨ok.go H2 i off hlt,fun σ' H'=>∃ m',m'<ds.length-i/\∃ σD2,m'=ds.length-(i+1)/\i+1<=ds.length/\RVm X.K M σD2 σ' H'/\Fr' M σ H1 σ' H'/\RL.bb (RL.ag cl M b) tg (ds.drop (i+1)) σD2=some (r,σD'),fun σ' H' z=>z,fun x H3 y=>?_⟩
  rw[List.drop_eq_getElem_cons hlt]at hl
  obtain⟨him,σ3,o,σ4,h1,h2,h3⟩:=qW hl
  obtain⟨s3,rp⟩:=ok.yld H2 i ds[i] x H3 off (by simp[hlt]) y
  obtain⟨dv,vs,q1,q2,q3,q4,q5⟩:=rP h1 (rp (.inl him))
  refine q5 _ _ ?_
  obtain⟨rv3,as3⟩:=(rv2.same s3).bj hM q2 (q4 him) q3
  have fr3:Fr' M σ H1 (c8 tg vs σ2) H3:=⟨fun b o e n=>⟨s3 _ _ (fr2.1 b o e n).1,by rw[as3];exact(fr2.1 b o e n).2⟩,fun j hj=>(jF hM hj).trans (fr2.2 j hj)⟩
  refine⟨σ3,o,σ4,by rw[q1];exact rv3,h2,?_⟩
  cases o with
  | nx=>exact fun σ' H' rv' fr'=>⟨_,by lia,σ4,rfl,hlt,rv',fr3.trans fr',h3⟩
  |rt d=>
   cases h3
   exact fun σ' H' v H4 rv' fr' sm rp=>k1 σ' H' v H4 rv' (fr3.trans fr') sm rp
 ·have e:i=ds.length:=by lia
  subst e
  rw[List.drop_length,RL.bb]at hl
  cases hl
  exact .inl ⟨ok.stop H2 off,k1 σ2 H2 rv2 fr2⟩
theorem vg{n:Nat}{k:Int}{j:Nat}(h:RL.jE n k=some j):ixN n k=some j:=h
theorem uZ:∀ {ds:List RL.D} {d:RL.D} (j:Nat),RL.ay ds=true->d.imm=true->RL.ay (ds.set j d)=true
 | [],d,j,_,_=>by simp[RL.ay]
 | x::r,d,0,h,hd=>by rw[RL.ay,Bool.and_eq_true]at h;rw[List.set_cons_zero,RL.ay,hd,h.2];rfl
 | x::r,d,j+1,h,hd=>by rw[RL.ay,Bool.and_eq_true]at h;rw[List.set_cons_succ,RL.ay,h.1,uZ j h.2 hd];rfl
theorem qa{H:Hp}{a:Addr}{ds:List RL.D}{xs ys:List V}{ds':List RL.D}(f2:H a=some (.lst xs))(im:RL.ay ds'=true)(rs:af nP X.K H ds' ys):Own X.K (upd H a (.lst ys)) (.lst ds') (.ref a) :=
 ⟨rfl,im,by rw[Rep];exact⟨a,_,rfl,fun z=>z,aW,(af.upd (P:=fun p=>p=a) f2 (.inl ⟨_,rfl⟩) rfl (rs.imm im)).imm im⟩⟩
theorem zm(h:PS X st (mY (tE X.K cl e') (vv (i7 i) (tE X.K cl k') rW)))(hi:M.contains i=true)(hl:True):PS X st (tS X.K M fun σD=>(RL.ev cl σD e').bind fun d=>(RL.ev cl σD k').bind fun kk=>((σD[i]?).bind id).bind fun l=>match l with
  | .lst _=>if d.imm then(RL.gg l kk d).map fun l'=>(.nx,σD.set i (some l'))else none
  | _=>none):=by
 refine PS.weak h fun D σ H h=>?_
 obtain⟨σD,o,σD',rv,e,k⟩:=h
 obtain⟨d,e1,e⟩:=bind_some e
 obtain⟨kk,e2,e⟩:=bind_some e
 obtain⟨l,e3,e⟩:=bind_some e
 cases l with
 |lst ds=>
  dsimp only at e
  split at e
  ·rename_i him
   obtain⟨l',e4,e5⟩:=map_some e
   cases e5
   obtain⟨v,h1,h2⟩:=rv.val i _ (slot_get e3)
   rw[if_pos hi]at h2
   obtain⟨q1,q2,q3⟩:=h2
   obtain⟨a,xs,rfl,_,f2,f3⟩:=aD q3
   cases kk with
   |int kk=>
    obtain⟨jx,e6,e7⟩:=map_some (show(RL.jE ds.length kk).map (fun j=>RL.D.lst (ds.set j d))=some l' from e4)
    subst e7
    refine⟨σD,d,rv.rv0,e1,fun y H1 r1=>⟨.ref a,h1,σD,.int kk,rv.rv0.same r1.same,e2,fun z H2 r2=>?_⟩⟩
    have sm:=r1.same.trans r2.same
    refine⟨a,xs,kk,jx,rfl,ah r2.rep,sm _ _ f2,?_,?_⟩
    ·rw[<-f3.length]
     exact vg e6
    ·have im:=uZ jx q2 him
     obtain⟨g1,g2⟩:=(rv.same sm).iK (d':=.lst (ds.set jx d)) (o':=.lst (xs.set jx y)) hi h1 (sm _ _ f2) (.inl ⟨_,rfl⟩) (qa (ds:=ds) (sm _ _ f2) im (af.set jx (f3.same sm) (r1.rep.same r2.same)))
     exact k _ _ g1 ((Fr'.same sm).trans g2)
   | _=>cases e4
  ·cases e
 | _=>cases e
theorem qz:∀ {ds:List RL.D},RL.ay ds=true->RL.ay ds.dropLast=true
 | [],_=>rfl
 | [x],_=>rfl
 | x::y::r,h=>by rw[RL.ay,Bool.and_eq_true]at h;rw[List.dropLast_cons_cons,RL.ay,h.1,qz h.2];rfl
theorem af.dropLast{P:Addr->Prop}{K:PySem.W.Frag}{H:Hp}{ds:List RL.D}{xs:List V}(h:af P K H ds xs):af P K H ds.dropLast xs.dropLast:=by
 rw[List.dropLast_eq_take,List.dropLast_eq_take,<-h.length]
 exact h.take _
theorem BM(h:PS X st (mK (tE X.K cl e'))):SS X cl M st (.exc e'):=by
 refine PS.weak h fun D σ H h=>?_
 obtain⟨σD,o,σD',rv,e,k⟩:=h
 rw[RL.evS]at e
 obtain⟨d,e1,e2⟩:=map_some e
 cases e2
 exact⟨σD,d,rv.rv0,e1,fun v H1 r1=>k _ _ (rv.same r1.same) (Fr'.same r1.same)⟩
end rules
section rules
variable{X:Cx}{cl:RL.Cl}{M:List Nat}{st:Stmt}{e':RL.E}
theorem yM{is:List Nat}(h:PS X st (mY (tE X.K cl e') (fun v σ H Q=>kE X.K is.length (gs is) v σ H Q\/lb X.K is.length (gs is) v σ H Q)))(hM:∀ i∈is,M.contains i=false):SS X cl M st (.unp is e'):=by
 refine PS.weak h fun D σ H h=>?_
 obtain⟨σD,o,σD',rv,e,k⟩:=h
 rw[RL.evS]at e
 obtain⟨d,e1,e⟩:=bind_some e
 obtain⟨ds,e2,e⟩:=bind_some e
 split at e
 ·rename_i him
  obtain⟨σ1,e3,e4⟩:=map_some e
  cases e4
  obtain⟨q1,q2⟩:=eP e3
  refine⟨σD,d,rv.rv0,e1,fun v H1 r1=>?_⟩
  obtain⟨p,xs,rfl,hp,rs⟩:=eG e2 r1.rep
  obtain⟨g1,g2⟩:=(rv.same r1.same).bj (vs:=xs) hM q1 him rs
  have fin:D.nx (c8 is xs σ) H1:=k _ _ (by rw[q2];exact g1) ⟨fun b o e n=>⟨r1.same _ _ e,by rw[g2];exact n⟩,fun j hj=>jF hM hj⟩
  have hl:xs.length=is.length:=by rw[<-rs.length,q1]
  rcases hp with⟨hp,_⟩ | ⟨hp,_⟩
  ·exact .inr ⟨p,xs,rfl,SqL.of hp,hl,hG hl.symm fin⟩
  ·exact .inl ⟨p,xs,rfl,SqT.of hp,hl,hG hl.symm fin⟩
 ·cases e
theorem jH{α:Type}(xs:List α)(k:Int):(xs.drop (HT.sIx xs.length 0 none)).take (HT.sIx xs.length xs.length (some k)-HT.sIx xs.length 0 none)=xs.take (RL.cutAt xs.length k):=by
 rw[HT.vF,List.drop_zero,Nat.sub_zero]
 congr 1
 have h:=HT.iV k xs.length xs.length
 unfold RL.cutAt
 split at h
 ·rename_i h0
  rw[if_neg (by lia)]
  lia
 ·rename_i h0
  rw[if_pos (by lia)]
  lia
end rules
section rules
variable{X:Cx}{cl:RL.Cl}{a b:Expr}{a' b':RL.E}{pos p p2:Pos}{x:Str}
theorem one{σ:L2.St}{H:Hp}{R:List V->Hp->Prop}{σD:RL.St}{d:RL.D}(rv:RV0 X.K σD σ H)(ea:RL.ev cl σD a'=some d)(k:∀ v H1,au H H1->Rep nP X.K H1 d v->R [v] H1):tEs X.K cl (.cons a' .nil) σ H R :=
 ⟨σD,[d],rv,by rw[RL.evs,ea];rfl,fun vs H1 s1 r1=>by
  rw[af]at r1
  obtain⟨v,t,rfl,r2,r3⟩:=r1
  rw[af]at r3
  subst r3
  exact k v H1 s1 r2⟩
theorem pair{σ:L2.St}{H:Hp}{R:List V->Hp->Prop}{σD:RL.St}{d d':RL.D}(rv:RV0 X.K σD σ H)(ea:RL.ev cl σD a'=some d)(eb:RL.ev cl σD b'=some d')(k:∀ v u H1,au H H1->Rep nP X.K H1 d v->Rep nP X.K H1 d' u->R [v,u] H1):tEs X.K cl (.cons a' (.cons b' .nil)) σ H R :=
 ⟨σD,[d,d'],rv,by rw[RL.evs,ea,RL.evs,eb];rfl,fun vs H1 s1 r1=>by
  rw[af]at r1
  obtain⟨v,t,rfl,r2,r3⟩:=r1
  rw[af]at r3
  obtain⟨u,t,rfl,r4,r5⟩:=r3
  rw[af]at r5
  subst r5
  exact k v u H1 s1 r2 r4⟩
theorem mh{id:String}{r:List V->Hp->VK->Prop}{b:RL.Bi}(hc:bH X (.builtin id) r)(hg:Gl X x)(hm:X.mg x=none)(hv:bootBuiltins x=some (.builtin id))(ha:SE X cl a a')(hn:noStar a=true)(h1:x ≠ "__name__")(h2:(x == ("__debug__" : Str))=false)
 (ok:∀ (σD:RL.St) (σ:L2.St) (H H1:Hp) (y d:RL.D) (v:V) (Q:VK),RL.biV b y=some d->au H H1->Rep nP X.K H1 y v->(∀ w H',Res X.K σD σ H (.bi b a') d w H'->Q w H')->r [v] H1 Q):SE X cl (.Call (.Name x p) [a] [] pos) (.bi b a'):=by
 refine PE.weak (gR hc hg hm hv (cy (cl:=cl) ha dS hn) h1 h2 (az [] hn) rfl) fun σ H Q h=>?_
 obtain⟨σD,d,rv,e,k⟩:=h
 rw[RL.ev]at e
 obtain⟨y,ea,e⟩:=bind_some e
 exact one rv ea fun v H1 s1 r1=>ok σD σ H H1 y d v Q e s1 r1 k
theorem lG{T:String}{r:List V->Hp->VK->Prop}{b:RL.Bi}(hc:bH X (.type T) r)(hg:Gl X x)(hm:X.mg x=none)(hv:bootBuiltins x=some (.type T))(ha:SE X cl a a')(hn:noStar a=true)(h1:x ≠ "__name__")(h2:(x == ("__debug__" : Str))=false)
 (ok:∀ (σD:RL.St) (σ:L2.St) (H H1:Hp) (y d:RL.D) (v:V) (Q:VK),RL.biV b y=some d->au H H1->Rep nP X.K H1 y v->(∀ w H',Res X.K σD σ H (.bi b a') d w H'->Q w H')->r [v] H1 Q):SE X cl (.Call (.Name x p) [a] [] pos) (.bi b a'):=by
 refine PE.weak (eQ hc hg hm hv (cy (cl:=cl) ha dS hn) h1 h2 (az [] hn) rfl) fun σ H Q h=>?_
 obtain⟨σD,d,rv,e,k⟩:=h
 rw[RL.ev]at e
 obtain⟨y,ea,e⟩:=bind_some e
 exact one rv ea fun v H1 s1 r1=>ok σD σ H H1 y d v Q e s1 r1 k
theorem xX(hg:Gl X "list")(hm:X.mg "list" = none)(ha:SE X cl a a')(hn:noStar a=true):SE X cl (.Call (.Name "list" p) [a] [] pos) (.bi .list a'):=by
 refine lG mV hg hm (by decide +kernel) ha hn (by decide) (by decide) fun σD σ H H1 y d v Q e s1 r1 k=>?_
 obtain⟨ds,e1,e2⟩:=map_some (show(RL.items y).map RL.D.lst=some d from e)
 subst e2
 obtain⟨q,xs,rfl,hp,rs⟩:=eG e1 r1
 refine⟨q,xs,rfl,?_,fun l hl=>k _ _ (eB s1 hl rs fun _=>rfl)⟩
 rcases hp with⟨z,_⟩ | ⟨z,_⟩
 ·exact .inl (SqL.of z)
 ·exact .inr (SqT.of z)
theorem wQ(hg:Gl X "tuple")(hm:X.mg "tuple" = none)(ha:SE X cl a a')(hn:noStar a=true):SE X cl (.Call (.Name "tuple" p) [a] [] pos) (.bi .tuple a'):=by
 refine lG mz hg hm (by decide +kernel) ha hn (by decide) (by decide) fun σD σ H H1 y d v Q e s1 r1 k=>?_
 obtain⟨ds,e1,e2⟩:=map_some (show(RL.items y).map RL.D.tup=some d from e)
 subst e2
 obtain⟨q,xs,rfl,hp,rs⟩:=eG e1 r1
 rcases hp with⟨z,_⟩ | ⟨z,_⟩
 ·exact⟨q,xs,rfl,.inl ⟨SqL.of z,fun l hl=>k _ _ (ij s1 hl rs fun _=>rfl)⟩⟩
 ·refine⟨q,xs,rfl,.inr ⟨SqT.of z,k _ _ ⟨s1,?_,fun _ m=>(by cases m),fun M z=>nomatch (show false=true from z)⟩⟩⟩
  rw[Rep]
  exact⟨q,xs,rfl,z,rs⟩
theorem rE{prog:Program}{w:World}{K:Type} [DecidableEq K]{knd:HeapKind prog w K}{d:Addr}(hd:(d == sysModules)=false) :
  MeetsIn prog w (Builtin.«dict.__len__» ⟨[.ref d],[]⟩) (fun _ R s=>∃ xs,s.heap.DictOfH knd d xs/\R (.ok (.ret (.int xs.length s.toks))) { s with toks:=s.toks+1 }) :=
 .of_wp fun A R s ⟨xs,hm,h⟩=>by
  obtain⟨o,es,ep,ho,hc,hdat,hk,_,_⟩:=hm
  show wpAny _ _ (dictSize d >>= _) _ _ s
  unfold dictSize
  refine wpAny_bind (wpAny_bind (wpAny_dictEntries ho hdat (wpAny_pure ?_)))
  show wpAny _ _ (Builtin.Dict.pendingCount d >>= _) _ _ s
  refine wpAny_bind (wpAny_pendingCount_other hd ?_)
  refine wpAny_ret_mkInt ?_
  rw[Nat.add_zero,size_of_entries hk]
  exact h
theorem kU{prog:Program}{w:World}{K:Type} [DecidableEq K]{knd:HeapKind prog w K}{A:Around}{E:Value->Shared->Prop}{s:Shared}{d:Addr}{xs:List (K × Addr × Value)}{Q:Value->Shared->Prop}(hd:(d == sysModules)=false)(hm:s.heap.DictOfH knd d xs)(hfit:(xs.length:Int)<2 ^ 63)
 (h:Q (.int xs.length (s.toks+1)) { s with toks:=s.toks+1+1 }):wpAny (model prog w) A (call (.builtin "len") [.ref d]) Q E s:=by
 refine Calls.call_function_entry kind_len plain_len entry_len (args_len1 _) ?_
 unfold Builtin.«len»
 refine wpAny_bind (m:=oneArg "len" _) (wpAny_pure ?_)
 refine wpAny_bind (m:=callSpecial? (.ref d) (Str.ofString "__len__")) (wpAny_callSpecial?_slot (name:=Str.ofString "__len__") hm.typeIs F.slot_dict_len
  (call_meetsIn F.slot_dict_len hm.typeIs F.entry_dict_len (F.args_dict_len_1 _) (rE hd) ⟨xs,hm,?_⟩))
 show wpAny _ _ _ _ _ { s with toks:=s.toks+1 }
 refine wpAny_bind (wpAny_holding (wpAny_pure ?_))
 refine wpAny_bind (wpAny_letGo ?_)
 show wpAny _ _ (if((xs.length:Nat):Int)<0 then _ else _) _ _ _
 rw[if_neg (by omega)]
 show wpAny _ _ (if((xs.length:Nat):Int)≥2 ^ 63 then _ else _) _ _ _
 rw[if_neg (by omega)]
 exact wpAny_bind (wpAny_mkInt (wpAny_pure ⟨_,rfl,h⟩))
theorem uS:bH X (.builtin "len") (fun xs H Q=>∃ a kvs,xs=[V.ref a]/\H a=some (.dT kvs)/\Q (.int kvs.length) H):=by
 intro pins s σ H xs us Q I r h
 obtain⟨a,kvs,rfl,ha,q⟩:=h
 obtain⟨u,rfl,ru⟩:=vals1 r
 cases ru
 obtain⟨z,hd,xs,rel,dd⟩:=xf I.hok ha
 have hl:kvs.length=xs.length:=Paired.length rel
 refine kU hd dd (by rw[<-hl];rw[sizeLine_eq]at z;omega) ?_
 rw[<-hl]
 exact⟨.int kvs.length,H,I.tok _,⟨_,rfl⟩,q⟩
theorem tu:bH X (.builtin "len") (fun xs H Q=>(∃ y n,xs=[y]/\Bj X.K y H n/\Q (.int n) H)\/(∃ q kvs,xs=[V.ref q]/\H q=some (.dK kvs)/\Q (.int kvs.length) H)\/∃ q kvs,xs=[V.ref q]/\H q=some (.dT kvs)/\Q (.int kvs.length) H):=bH.or wy (bH.or tD uS)
theorem zV(hg:Gl X "len")(hm:X.mg "len" = none)(ha:SE X cl a a')(hn:noStar a=true):SE X cl (.Call (.Name "len" p) [a] [] pos) (.bi .len a'):=by
 refine mh tu hg hm PySem.boot_len ha hn (by decide) (by decide) fun σD σ H H1 y d v Q e s1 r1 k=>?_
 cases y<;>simp only[RL.biV,RL.items,Option.map_some,Option.map_none]at e<;>first | (cases e;done) | skip
 case str t =>
  split at e
  ·rename_i hz
   cases e
   rw[aH r1]
   exact .inl ⟨_,_,rfl,⟨Nat.le_trans hz bS,rfl⟩,k _ _ (d6 s1 bp rfl)⟩
  ·cases e
 case tup t =>
  cases e
  obtain⟨q,xs,rfl,f2,f3⟩:=bo r1
  rw[f3.length]at k
  exact .inl ⟨_,_,rfl,.inr ⟨xs,SqT.of f2,rfl⟩,k _ _ (d6 s1 bp rfl)⟩
 case lst t =>
  cases e
  obtain⟨q,xs,rfl,_,f2,f3⟩:=aD r1
  rw[f3.length]at k
  exact .inl ⟨_,_,rfl,.inl ⟨xs,SqL.of f2,rfl⟩,k _ _ (d6 s1 bp rfl)⟩
 case dK ks t =>
  cases e
  rw[Rep]at r1
  obtain⟨q,xs,rfl,_,f2,fl,f3⟩:=r1
  refine .inr (.inl ⟨q,_,rfl,f2,?_⟩)
  have:(ks.zip xs).length=ks.length:=by rw[List.length_zip,<-f3.length,fl,Nat.min_self]
  rw[this]
  exact k _ _ (d6 s1 bp rfl)
 case dT ks t =>
  cases e
  rw[Rep]at r1
  obtain⟨q,xs,rfl,_,f2,fl,f3⟩:=r1
  refine .inr (.inr ⟨q,_,rfl,f2,?_⟩)
  have:(ks.zip xs).length=ks.length:=by rw[List.length_zip,<-f3.length,fl,Nat.min_self]
  rw[this]
  exact k _ _ (d6 s1 bp rfl)
noncomputable def tyN:RL.Ty->String
 | .int => "int"
 | .bool => "bool"
 | .list => "list"
 | .tuple => "tuple"
 | .str => "str"
theorem vD:bH X (.builtin "isinstance") (fun xs H Q=>∃ y t T k,xs=[y,.ty T]/\eg X.K H y t/\PySem.W.kitOne X.K t (.type T)=some k/\Q (.bl k) H):=by
 intro pins s σ H xs us Q I r h
 obtain⟨y,t,T,k,rfl,ty,e,q⟩:=h
 obtain⟨u,w,rfl,r1,r2⟩:=vals2 r
 cases r2
 exact ur I r1 ty e fun tk=>⟨.bl k,H,I.tok tk,rfl,q⟩
theorem B1{t:RL.Ty}{d:RL.D}{k:Bool}{v:V}{H:Hp}(h:RL.cG t d=some k)(r:Rep nP X.K H d v):∃ ty,eg X.K H v ty/\PySem.W.kitOne X.K ty (.type (tyN t))=some k:=by
 cases d with
 | non=>rw[Rep]at r;subst r;refine⟨_,.non,?_⟩;cases t<;>(simp only[RL.cG]at h;cases h;rfl)
 | bl i=>rw[aY r];refine⟨_,.bl i,?_⟩;cases t<;>(simp only[RL.cG]at h;cases h;rfl)
 | int i=>rw[ah r];refine⟨_,.int i,?_⟩;cases t<;>(simp only[RL.cG]at h;cases h;rfl)
 | str i=>rw[aH r];refine⟨_,.str i,?_⟩;cases t<;>(simp only[RL.cG]at h;cases h;rfl)
 | tup i=>obtain⟨q,xs,rfl,f2,f3⟩:=bo r;refine⟨_,.tup f2,?_⟩;cases t<;>(simp only[RL.cG]at h;cases h;rfl)
 | lst i=>obtain⟨q,xs,rfl,_,f2,f3⟩:=aD r;refine⟨_,.lst f2,?_⟩;cases t<;>(simp only[RL.cG]at h;cases h;rfl)
 | _=>cases t<;>(simp only[RL.cG]at h;cases h)
theorem B4{t:RL.Ty}{y:Str}(hg:Gl X "isinstance")(hm:X.mg "isinstance" = none)(hgy:Gl X y)(hmy:X.mg y=none)(hy:bootBuiltins y=some (.type (tyN t)))(hy1:y ≠ "__name__")(hy2:(y == ("__debug__" : Str))=false)(ha:SE X cl a a')(hn:noStar a=true) :
  SE X cl (.Call (.Name "isinstance" p) [a,.Name y p2] [] pos) (.isi a' t):=by
 have hty:PE X (.Name y p2) (tC (.ty (tyN t))):=qe hgy hmy hy rfl hy1 hy2
 refine PE.weak (gR vD hg hm (by decide +kernel) (bu ha (bu hty cW) (az _ hn)) (by decide) (by decide) (az _ hn) rfl) fun σ H Q h=>?_
 obtain⟨σD,d,rv,e,k⟩:=h
 rw[RL.ev]at e
 obtain⟨u,ea,e⟩:=bind_some e
 obtain⟨t',e1,e2⟩:=map_some e
 subst e2
 refine⟨σD,u,rv,ea,fun v H1 r1=>?_⟩
 obtain⟨ty,h1,h2⟩:=B1 e1 r1.rep
 exact⟨v,ty,_,t',rfl,h1,h2,k _ _ (du r1.same)⟩
end rules
end RS
namespace L2
open PySem PySem.Spec PyProof.Rows
structure iU(prog:Program)(w:World):Prop where
 draws:∀ {A:Around},A.handled=none->∀ (ti tp:Addr),tp≠ti->∀ its:Array Value,Draws prog w A ti [ti,tp] its.size (fun i v=>its[i]?=some v) (fun i h=>h.IsTupleIter ti tp i/\h.IsTuple tp its)
 call:∀ {A:Around} {E:Value->Shared->Prop} {z:Shared} {tp:Addr} {its:Array Value} {Q:Value->Shared->Prop},z.heap.IsTuple tp its ->
  (∀ g,IsEnum g (z.heap.objs.size+1) z.heap.objs.size 0 .none->g.IsTupleIter z.heap.objs.size tp 0->(∀ b o,z.heap.get? b=some o->g.get? b=some o)->Q (.ref (z.heap.objs.size+1)) { z with heap:=g })->wpAny (model prog w) A (call (.type "enumerate") [.ref tp]) Q E z
section
variable{X:Cx}{pins:List (Addr × Obj)}{σ:St}{H:Hp}{s:Shared}
theorem Inv.kY{h':Heap}{t':Nat}{fp:List Addr}(I:Inv X pins σ H s)(k:∀ b o,b∉fp->s.heap.get? b=some o->h'.get? b=some o)(hf:∀ b∈fp,H b=none/\(b∈X.ex\/X.s₀.heap.objs.size<=b)/\b≠X.env.locals/\(∀ x c,X.env.cells.lookup x=some c->c≠b)/\∀ p∈X.pn++pins,p.1≠b) :
  Inv X pins σ H { s with heap:=h',toks:=t' }:=by
 have nf:∀ b u,H b=some u->b∉fp:=fun b u e z=>by rw[(hf b z).1]at e;cases e
 refine I.r0 (s':={ s with heap:=h',toks:=t' }) (ch:=fp) rfl ⟨fun b o e _ _ hx=>k b o hx e,fun b o e _ _ hx=>⟨o.slots,k b o hx e⟩,fun _ _ _ n _=>n,fun b o e hx=>⟨o,k b o hx e⟩,fun _ _ e=>e,fun _ _ _ e=>e,fun b ps e=>⟨#[],by rw[e];simp⟩⟩ (fun b u e=>?_) I.bare fun b hb=>(hf b hb).2
 refine(I.hok b u e).il (fun c v hc q=>k c v ?_ q) (fun _ q=>q) fun _ _ q=>q
 rcases hc with z | z
 ·rw[z];exact nf b u e
 ·exact nf c _ z
end
noncomputable def Ite(cont:Hp->List V->Prop):It :=
 ⟨fun i H=>∃ xs x,cont H xs/\xs[i]?=some x,fun i H v H'=>∃ p x,H p=none/\v=.ref p/\H'=upd H p (.tup [.int i,x])/\∀ xs,cont H xs->xs[i]?=some x,fun i H=>∃ xs,cont H xs/\xs.length=i⟩
structure Src(P:Program)(w:World)(K:PySem.W.Frag)(e it:Addr)(cont:Hp->List V->Prop)(ia:Nat->Heap->Prop):Prop where
 obj:∀ i h,ia i h->∃ o,h.get? it=some o/\∀ v,o.data≠.cell v
 keep:∀ i h h',ia i h->(∀ o,h.get? it=some o->h'.get? it=some o)->ia i h'
 inj:∀ (H:Hp) xs ys,cont H xs->cont H ys->xs=ys
 dr:∀ (X:Cx),X.prog=P->X.w=w->X.K=K->X.calm=true->∀ (pins:List (Addr × Obj)) (s:Shared) (σ:St) (H:Hp) (xs:List V),Inv X pins σ H s->H e=none->H it=none->cont H xs ->
  ∃ (fp:List Addr) (Pv:Nat->Value->Prop) (St:Nat->Heap->Prop),Draws P w X.A.in1 it fp xs.length Pv St/\e∉fp/\(∀ i,ia i s.heap->St i s.heap)/\(∀ i h,St i h->ia i h)/\∀ i v,Pv i v->∃ x,xs[i]?=some x/\RelV x v
theorem uW{P:Program}{w:World}{K:PySem.W.Frag}{elts:List Expr}{kx:Nat}{tp:Pos}{e it:Addr}{cont:Hp->List V->Prop}{ia:Nat->Heap->Prop}(hei:e≠it)(S:Src P w K e it cont ia) :
  Turn P w K (.Tuple elts kx tp) (Ite cont) [e,it] e (fun i h=>(∃ old,IsEnum h e it i old)/\ia i h) where
 mem:=by simp
 obj:=fun i h st b hb=>by
  rcases List.mem_cons.mp hb with rfl | hb
  ·obtain⟨⟨old,he⟩,_⟩:=st
   exact⟨_,he,fun v z=>by cases z⟩
  ·rw[List.mem_singleton.mp hb]
   exact S.obj i h st.2
 keep:=fun i h h' st k=>by
  obtain⟨⟨old,he⟩,hi⟩:=st
  exact⟨⟨old,k e (by simp) _ he⟩,S.keep i h h' hi fun o q=>k it (by simp) o q⟩
 item:=by
  intro X hP hw hK hc i pins s σ H E I hf st hg
  subst hP hw hK
  obtain⟨⟨old,he⟩,hi⟩:=st
  obtain⟨xs,x,hq,hx⟩:=hg
  have fe:=hf e (by simp)
  have fi:=hf it (by simp)
  obtain⟨fp,Pv,St,D,hef,h1,h2,h3⟩:=S.dr X rfl rfl rfl hc pins s σ H xs I fe.1 fi.1 hq
  have hlt:i<xs.length:=(List.getElem?_eq_some_iff.mp hx).1
  refine wpAny_pyNext_enum_itemD D he (h1 i hi) hlt hei hef fun v h' tk hP ho hs' hT hsz hk=>?_
  obtain⟨x',hx',rx⟩:=h3 i v hP
  rw[hx]at hx'
  cases hx'
  refine⟨.ref s.heap.objs.size,rfl,wpAny_letOwnedTupleGo_enum ho fun h'' he' hs''=>?_⟩
  have hn:H s.heap.objs.size=none:=I.hok.fresh (Nat.le_refl _)
  have I1:Inv X pins σ (upd H s.heap.objs.size (.tup [.int i,x])) { s with heap:=s.heap.push { cls:=.type "tuple",data:=.seq #[.int i tk,v] },toks:=tk+1 } :=
   I.laid (t':=tk+1) (fun b u q=>Heap.get?_push_of_some _ q) (Nat.le_refl _) ⟨by show 2<=sizeLine;decide,[.int i tk,v],.cons ⟨tk,rfl⟩ (.cons rx .nil),⟨_,Heap.get?_push_size _ rfl,rfl,_,rfl⟩⟩
  have hes:e<s.heap.objs.size:=Heap.lt_size he
  have hit:it<s.heap.objs.size:=by obtain⟨o,q,_⟩:=S.obj i _ hi;exact Heap.lt_size q
  have stat:∀ b∈[e,it],upd H s.heap.objs.size (.tup [.int i,x]) b=none/\(b∈X.ex\/X.s₀.heap.objs.size<=b)/\b≠X.env.locals/\(∀ x c,X.env.cells.lookup x=some c->c≠b)/\∀ p∈X.pn++pins,p.1≠b:=fun b hb=>by
   obtain⟨f0,f1,f2,f3,f4,f5⟩:=hf b hb
   have hb':b≠s.heap.objs.size:=by
    rcases List.mem_cons.mp hb with rfl | hb
    ·exact Nat.ne_of_lt hes
    ·rw[List.mem_singleton.mp hb];exact Nat.ne_of_lt hit
   exact⟨by rw[aF hb'];exact f0,f3,f1,f4,f5⟩
  have I2:Inv X pins σ (upd H s.heap.objs.size (.tup [.int i,x])) { s with heap:=h'',toks:=tk+1 }:=by
   refine Inv.kY (s:={ s with heap:=s.heap.push { cls:=.type "tuple",data:=.seq #[.int i tk,v] },toks:=tk+1 }) (h':=h'') (t':=tk+1) (fp:=[e,it]) I1 (fun b o hb q=>?_) stat
   have b1:b≠e:=fun z=>hb (by simp[z])
   have b2:b≠it:=fun z=>hb (by simp[z])
   refine hs''.extBut b o b1 ?_
   by_cases hbT:b=s.heap.objs.size
   ·subst hbT
    have q':(s.heap.push { cls:=.type "tuple",data:=.seq #[.int i tk,v] }).get? s.heap.objs.size=some o:=q
    rw[Heap.get?_push_size _ rfl]at q'
    cases q'
    exact hT
   ·have q':s.heap.get? b=some o:=(Heap.get?_push_ne _ _ _ hbT).symm.trans q
    exact hk b o b1 b2 q'
  refine⟨.ref s.heap.objs.size,_,I2,rfl,⟨s.heap.objs.size,x,hn,rfl,rfl,fun ys hy=>by rw[S.inj H ys xs hy hq];exact hx⟩,⟨⟨v,by simpa using he'⟩,S.keep _ h' h'' (h2 _ _ hs') fun o q=>hs''.extBut _ _ (Ne.symm hei) q⟩,fun b hb=>(stat b hb).1⟩
 done:=by
  intro X hP hw hK hc i pins s σ H E I hf st hg
  subst hP hw hK
  obtain⟨⟨old,he⟩,hi⟩:=st
  obtain⟨xs,hq,hx⟩:=hg
  have fe:=hf e (by simp)
  have fi:=hf it (by simp)
  obtain⟨fp,Pv,St,D,hef,h1,h2,h3⟩:=S.dr X rfl rfl rfl hc pins s σ H xs I fe.1 fi.1 hq
  subst hx
  refine wpAny_pyNext_enum_endD D he (h1 _ hi) fun h' eb=>⟨rfl,?_⟩
  obtain⟨f0,f1,f2,f3,f4,f5⟩:=fi
  exact I.turned (it:=it) (h':=h') (t':=s.toks) (fun b o hb q=>eb b o hb q) f0 f1 f3 f4 f5
 self:=fun A i s Q E st h=>by
  obtain⟨⟨old,he⟩,hi⟩:=st
  exact wpAny_pyIter_enum he h
theorem src_list{P:Program}{w:World}{K:PySem.W.Frag}{e it l:Addr}(hei:e≠it):Src P w K e it (fun H xs=>H l=some (.lst xs)) (fun i h=>h.IsListIter it l i) where
 obj:=fun i h st=>let ⟨o,ho,_,hd⟩:=st;⟨o,ho,fun v q=>by rw[hd]at q;cases q⟩
 keep:=fun i h h' st k=>st.at fun o q=>k o q
 inj:=fun H xs ys h1 h2=>by rw[h1]at h2;cases h2;rfl
 dr:=by
  intro X hP hw hK hc pins s σ H xs I he hi hx
  subst hP hw hK
  obtain⟨its,rv,p,hz⟩:=I.list (SqL.of hx)
  have hl:its.toArray.size=xs.length:=by rw[List.size_toArray,rv.length]
  have hh:X.A.in1.handled=none:=I.ok.hd.1 hc
  have D:=Draws.list (prog:=X.prog) (w:=X.w) (A:=X.A.in1) hh it l (aG hx hi) its.toArray
  rw[hl]at D
  refine⟨_,_,_,D,?_,fun i st=>⟨st,p.isList⟩,fun i h st=>st.1,fun i v hv=>?_⟩
  ·intro m
   rcases List.mem_cons.mp m with q | m
   ·exact hei q
   ·exact(aG hx he).symm (List.mem_singleton.mp m)
  ·have hv:its[i]?=some v:=by simpa using hv
   have hlt:i<xs.length:=by rw[rv.length];exact(List.getElem?_eq_some_iff.mp hv).1
   obtain⟨u,h1,h2⟩:=rv.get (i:=i) (x:=xs[i]) (by simp[hlt])
   rw[hv]at h1
   cases h1
   exact⟨xs[i],by simp[hlt],h2⟩
theorem yz{P:Program}{w:World}{K:PySem.W.Frag}{e it l:Addr}(TE:iU P w)(hei:e≠it):Src P w K e it (fun H xs=>H l=some (.tup xs)) (fun i h=>h.IsTupleIter it l i) where
 obj:=fun i h st=>let ⟨o,ho,_,hd⟩:=st;⟨o,ho,fun v q=>by rw[hd]at q;cases q⟩
 keep:=fun i h h' st k=>let ⟨o,ho,r⟩:=st;⟨o,k o ho,r⟩
 inj:=fun H xs ys h1 h2=>by rw[h1]at h2;cases h2;rfl
 dr:=by
  intro X hP hw hK hc pins s σ H xs I he hi hx
  subst hP hw hK
  obtain⟨its,rv,p,hz⟩:=I.tuple (SqT.of hx)
  have hl:its.toArray.size=xs.length:=by rw[List.size_toArray,rv.length]
  have hh:X.A.in1.handled=none:=I.ok.hd.1 hc
  have D:=TE.draws (A:=X.A.in1) hh it l (aG hx hi) its.toArray
  rw[hl]at D
  refine⟨_,_,_,D,?_,fun i st=>⟨st,p⟩,fun i h st=>st.1,fun i v hv=>?_⟩
  ·intro m
   rcases List.mem_cons.mp m with q | m
   ·exact hei q
   ·exact(aG hx he).symm (List.mem_singleton.mp m)
  ·have hv:its[i]?=some v:=by simpa using hv
   have hlt:i<xs.length:=by rw[rv.length];exact(List.getElem?_eq_some_iff.mp hv).1
   obtain⟨u,h1,h2⟩:=rv.get (i:=i) (x:=xs[i]) (by simp[hlt])
   rw[hv]at h1
   cases h1
   exact⟨xs[i],by simp[hlt],h2⟩
noncomputable def gy(x:Str):List V:=x.cps.toList.map fun c=>.str ⟨#[c]⟩
theorem xD{P:Program}{w:World}{K:PySem.W.Frag}{e it:Addr}{x:Str}{t:Tok}(hei:e≠it):Src P w K e it (fun _ xs=>xs=gy x) (fun i h=>h.IsStrIter it (strIterType x) x t i) where
 obj:=fun i h st=>let ⟨o,ho,_,hd⟩:=st;⟨o,ho,fun v q=>by rw[hd]at q;cases q⟩
 keep:=fun i h h' st k=>let ⟨o,ho,r⟩:=st;⟨o,k o ho,r⟩
 inj:=fun H xs ys h1 h2=>by rw[h1,h2]
 dr:=by
  intro X hP hw hK hc pins s σ H xs I he hi hx
  subst hP hw hK hx
  have hh:X.A.in1.handled=none:=I.ok.hd.1 hc
  have hl:x.cps.size=(gy x).length:=by simp[gy]
  have pv:∀ (i:Nat) (v:Value),(∃ c u,x.cps[i]?=some c/\v=Value.str ⟨#[c]⟩ u)->∃ y,(gy x)[i]?=some y/\RelV y v:=fun i v hv=>by
   obtain⟨c,u,h1,h2⟩:=hv
   exact⟨.str ⟨#[c]⟩,by simp[gy,h1],u,h2⟩
  have ni:e∉[it]:=fun m=>hei (List.mem_singleton.mp m)
  cases ha:x.cps.all (·<128)with
  |true=>
   have ht:strIterType x = "str_ascii_iterator" := by simp[strIterType,ha]
   have D:=Draws.strAscii (prog:=X.prog) (w:=X.w) (A:=X.A.in1) hh it x t
   rw[hl]at D
   exact⟨_,_,_,D,ni,fun i st=>by rw[ht]at st;exact st,fun i h st=>by rw[ht];exact st,pv⟩
  |false=>
   have ht:strIterType x = "str_iterator" := by simp[strIterType,ha]
   have D:=Draws.strWide (prog:=X.prog) (w:=X.w) (A:=X.A.in1) hh it x t
   rw[hl]at D
   exact⟨_,_,_,D,ni,fun i st=>by rw[ht]at st;exact st,fun i h st=>by rw[ht];exact st,pv⟩
section
variable{X:Cx}{elts:List Expr}{kx:Nat}{tp p pos:Pos}{a:Expr}{ta:TA}
noncomputable def C8(ta:TA):TI:=fun σ H R=>ta σ H fun vs H1=>(∃ l xs,vs=[.ref l]/\H1 l=some (.lst xs)/\R (Ite fun H xs=>H l=some (.lst xs)) H1)\/(∃ l xs,vs=[.ref l]/\H1 l=some (.tup xs)/\R (Ite fun H xs=>H l=some (.tup xs)) H1) \/
 (∃ x,vs=[.str x]/\R (Ite fun _ xs=>xs=gy x) H1)
theorem jM{pins:List (Addr × Obj)}{σ:St}{H:Hp}{s:Shared}{g:Heap}{R:It->Hp->Prop}{E:Value->Shared->Prop}{cont:Hp->List V->Prop}{ia:Nat->Heap->Prop}(I:Inv X pins σ H s)(S:Src X.prog X.w X.K (s.heap.objs.size+1) s.heap.objs.size cont ia)
 (he:IsEnum g (s.heap.objs.size+1) s.heap.objs.size 0 .none)(hi:ia 0 g)(hk:∀ b o,s.heap.get? b=some o->g.get? b=some o)(q:R (Ite cont) H) :
  wpAny (model X.prog X.w) X.A (pyIter (.ref (s.heap.objs.size+1))) (PIE X pins σ (.Tuple elts kx tp) R) E { s with heap:=g }:=by
 refine wpAny_pyIter_enum he ⟨s.heap.objs.size+1,[s.heap.objs.size+1,s.heap.objs.size],_,_,H,rfl,I.kept (t':=s.toks) hk,uW (Nat.succ_ne_self _) S,⟨⟨.none,he⟩,hi⟩,fun b hb=>?_,q⟩
 have hb':s.heap.objs.size<=b:=by
  rcases List.mem_cons.mp hb with z | z
  ·rw[z];exact Nat.le_succ _
  ·rw[List.mem_singleton.mp z];exact Nat.le_refl _
 exact I.oq hb' (I.hok.fresh hb')
theorem xO(TE:iU X.prog X.w)(hg:Gl X "enumerate")(hm:X.mg "enumerate" = none)(ha:PA X [a] ta)(hs:starEach [a] X.env=[(false,eval a X.env)]):PI X (.Tuple elts kx tp) (.Call (.Name "enumerate" p) [a] [] pos) (C8 ta):=by
 intro pins s σ H R I h
 refine Call_ (fT I hg hm boot_enumerate (PyProof.Rows.callWith_type1 (thn (ha pos pins s σ H _ I h) fun us s1 ⟨vs,H1,I1,r1,q1⟩=>?_) hs rfl))
 rcases q1 with⟨l,xs,rfl,hx,q⟩ | ⟨l,xs,rfl,hx,q⟩ | ⟨x,rfl,q⟩
 ·obtain⟨u,rfl,ru⟩:=vals1 r1
  cases ru
  obtain⟨its,rv,pl,hz⟩:=I1.list (SqL.of hx)
  exact call_enumerate_list pl.isList fun g he hi hsz hk=>jM I1 (src_list (Nat.succ_ne_self _)) he hi hk q
 ·obtain⟨u,rfl,ru⟩:=vals1 r1
  cases ru
  obtain⟨its,rv,pl,hz⟩:=I1.tuple (SqT.of hx)
  exact TE.call pl fun g he hi hk=>jM I1 (yz TE (Nat.succ_ne_self _)) he hi hk q
 ·obtain⟨u,rfl,ru⟩:=vals1 r1
  obtain⟨t,rfl⟩:=ru
  exact call_enumerate_str fun g he hi hsz hk=>jM I1 (xD (Nat.succ_ne_self _)) he hi hk q
end
end L2
namespace RS
open PySem PySem.Spec PyProof.Rows L2
theorem iH:∀ (ds:List RL.D) (k:Int),(RL.dk k ds).length=ds.length
 | [],_=>rfl
 | d::r,k=>by rw[RL.dk,List.length_cons,List.length_cons,iH r]
theorem mj:∀ (ds:List RL.D) (k:Int) (i:Nat) (d:RL.D),(RL.dk k ds)[i]?=some d->∃ e,ds[i]?=some e/\d=.tup [.int (k+i),e]
 | [],k,i,d,h=>by simp[RL.dk]at h
 | e::r,k,0,d,h=>by simp[RL.dk]at h;exact⟨e,rfl,by simp[h]⟩
 | e::r,k,i+1,d,h=>by
  rw[RL.dk,List.getElem?_cons_succ]at h
  obtain⟨e',h1,h2⟩:=mj r (k+1) i d h
  refine⟨e',by simpa using h1,?_⟩
  rw[h2]
  congr 3
  lia
theorem f9{K:PySem.W.Frag}{H:Hp}{ds:List RL.D}{xs:List V}{P:Addr->Prop}{cont:Hp->List V->Prop}(hc:∀ H',Off P H H'->cont H' xs)(hj:∀ H' ys,cont H' xs->cont H' ys->ys=xs)(r:af nP K H ds xs)(hm:∀ b o,P b->H b=some o->cA o):hU K (Ite cont) (RL.dk 0 ds) P H where
 go:=fun H' i k hi=>by
  rw[iH]at hi
  obtain⟨x,e,_⟩:=r.get (i:=i) (d:=ds[i]) (by simp[hi])
  exact⟨xs,x,hc H' k,e⟩
 stop:=fun H' k=>⟨xs,hc H' k,by rw[iH,r.length]⟩
 yld:=fun H' i d v H2 k e y=>by
  obtain⟨p,x,hp,rfl,rfl,hx⟩:=y
  obtain⟨e',h1,rfl⟩:=mj ds 0 i d e
  obtain⟨x',h2,h3⟩:=r.get h1
  rw[hx xs (hc H' k)]at h2
  cases h2
  refine⟨au.c9 hp,fun q=>?_⟩
  have re:Rep nP K H' e' x:=by
   rcases q with q | q
   ·have q:(true&&(e'.imm&&true))=true:=q
    simp only[Bool.true_and,Bool.and_true]at q
    exact fR hm k h3 q
   ·exact h3.same q
  rw[Rep]
  refine⟨p,[.int i,x],rfl,aW,af.cons ?_ (af.cons (re.same (au.c9 hp)) af.nil)⟩
  simpa using(bp (P:=nP) (K:=K) (H:=upd H' p (.tup [.int i,x])) (i:=(i:Int)))
theorem ug{P:Addr->Prop}{K:PySem.W.Frag}{H:Hp}{d:RL.D}{ds:List RL.D}{v:V}(h:RL.fO d=some ds)(r:Rep P K H d v):(∃ p xs,v=.ref p/\H p=some (.lst xs)/\d=.lst ds/\af P K H ds xs)\/(∃ p xs,v=.ref p/\H p=some (.tup xs)/\d=.tup ds/\af P K H ds xs) \/
  (∃ x,v=.str x/\d=.str x/\ds=x.cps.toList.map fun c=>.str ⟨#[c]⟩):=by
 cases d<;>simp only[RL.fO]at h<;>first | (cases h;done) | skip
 case lst ys=>cases h;obtain⟨p,xs,e1,_,e2,e3⟩:=aD r;exact .inl ⟨p,xs,e1,e2,rfl,e3⟩
 case tup ys=>cases h;obtain⟨p,xs,e1,e2,e3⟩:=bo r;exact .inr (.inl ⟨p,xs,e1,e2,rfl,e3⟩)
 case str x=>cases h;exact .inr (.inr ⟨x,aH r,rfl,rfl⟩)
theorem gU{P:Addr->Prop}{K:PySem.W.Frag}{H:Hp}:∀ (cs:List Nat),af P K H (cs.map fun c=>RL.D.str ⟨#[c]⟩) (cs.map fun c=>V.str ⟨#[c]⟩)
 | []=>af.nil
 | c::r=>af.cons f7 (gU r)
section rules
variable{X:Cx}{cl:RL.Cl}{elts:List Expr}{kx:Nat}{tp p pos:Pos}{a:Expr}{a':RL.E}
theorem zG(TE:iU X.prog X.w)(hg:Gl X "enumerate")(hm:X.mg "enumerate" = none)(ha:SE X cl a a')(hn:noStar a=true):SI X cl (.Tuple elts kx tp) (.Call (.Name "enumerate" p) [a] [] pos) (.enm a'):=by
 intro pins s σ H R I h
 obtain⟨σD,ds,rv,e,k⟩:=h
 rw[RL.bq]at e
 obtain⟨d,e1,e2⟩:=bind_some e
 obtain⟨es,e3,e4⟩:=map_some e2
 subst e4
 have hpa:PA X [a] (gb (tE X.K cl a') iL):=bu ha cW (az [] hn)
 refine xO TE hg hm hpa (az [] hn) pins s σ H R I ⟨σD,d,rv,e1,fun v H1 r1=>?_⟩
 rcases ug e3 r1.rep with⟨l,xs,rfl,hx,rfl,rs⟩ | ⟨l,xs,rfl,hx,rfl,rs⟩ | ⟨x,rfl,rfl,rfl⟩
 ·refine .inl ⟨l,xs,rfl,hx,k _ _ r1.same ⟨f9 (fun H' o=>o _ _ (fun z=>z) hx) (fun H' ys h1 h2=>by rw[h1]at h2;cases h2;rfl) rs fI,fun M P z hP av=>?_⟩⟩
  exact f9 (fun H' o=>o _ _ (kf r1 z hP av _ _ rfl rfl) hx) (fun H' ys h1 h2=>by rw[h1]at h2;cases h2;rfl) rs (dO r1.same hP)
 ·have np:∀ P:Addr->Prop,(∀ b o,P b->H1 b=some o->cA o)->¬ P l:=fun P hP q=>by rcases hP l _ q hx with⟨z,q⟩ | ⟨z,q⟩ | ⟨z,q⟩<;>cases q
  exact .inr (.inl ⟨l,xs,rfl,hx,k _ _ r1.same ⟨f9 (fun H' o=>o _ _ (np _ fI) hx) (fun H' ys h1 h2=>by rw[h1]at h2;cases h2;rfl) rs fI,fun M P z hP av=>f9 (fun H' o=>o _ _ (np P (dO r1.same hP)) hx) (fun H' ys h1 h2=>by rw[h1]at h2;cases h2;rfl) rs (dO r1.same hP)⟩⟩)
 ·exact .inr (.inr ⟨x,rfl,k _ _ r1.same ⟨f9 (fun H' o=>rfl) (fun H' ys h1 h2=>h2) (gU _) fI,fun M P z hP av=>f9 (fun H' o=>rfl) (fun H' ys h1 h2=>h2) (gU _) (dO r1.same hP)⟩⟩)
end rules
section rules
variable{X:Cx}{cl:RL.Cl}{a b:Expr}{a' b':RL.E}{pos p p2:Pos}{M:List Nat}{st:Stmt}{i:Nat}{e' k':RL.E}
theorem yr{P:Addr->Prop}{K:PySem.W.Frag}{H:Hp}{ds:List RL.D}{v:V}(h:Rep P K H (.scr ds) v):∃ a xs,v=.ref a/\iG K H a xs/\af P K H ds xs:=by rw[Rep]at h;exact h
theorem sI(n:Nat)(k:Int):HT.sIx n n (some k)=RL.cutAt n k:=by
 have h:=HT.iV k n n
 unfold RL.cutAt
 split at h
 ·rw[if_neg (by lia)];lia
 ·rw[if_pos (by lia)];lia
theorem zA(ha:SE X cl a a')(hb:SE X cl b b'):SE X cl (.Subscript a (.Slice none (some b) none p2) pos) (.slT a' b'):=by
 refine PE.weak (wL (SlR.or xE zT) ha xI (ym hb)) fun σ H Q h=>?_
 obtain⟨σD,d,rv,e,k⟩:=h
 rw[RL.ev]at e
 obtain⟨x,ea,e⟩:=bind_some e
 obtain⟨y,eb,e⟩:=bind_some e
 refine⟨σD,x,rv,ea,fun v H1 r1=>⟨σD,y,rv.same r1.same,eb,fun u H2 r2=>?_⟩⟩
 have rx:=r1.rep.same r2.same
 have sm:=r1.same.trans r2.same
 cases y with
 |int n=>
  refine⟨n,ah r2.rep,?_⟩
  cases x with
  |lst xs=>
   cases e
   obtain⟨q,ys,rfl,_,f2,f3⟩:=aD rx
   refine .inl ⟨q,ys,rfl,SqL.of f2,fun l hl=>?_⟩
   unfold iq
   rw[jH,<-f3.length]
   exact k _ _ (eB sm hl (f3.take _) fun _=>rfl)
  |scr xs=>
   cases e
   obtain⟨q,ys,rfl,f2,f3⟩:=yr rx
   refine .inl ⟨q,ys,rfl,f2.seq,fun l hl=>?_⟩
   unfold iq
   rw[jH,<-f3.length]
   exact k _ _ (eB sm hl (f3.take _) fun _=>rfl)
  |tup xs=>
   simp only[RL.sx]at e
   split at e
   ·rename_i hz
    cases e
    obtain⟨q,ys,rfl,f2,f3⟩:=bo rx
    refine .inr ⟨q,ys,rfl,SqT.of f2,fun z=>?_,fun l hl=>?_⟩
    ·rw[sI,<-f3.length]at z
     lia
    ·unfold iq
     rw[jH,<-f3.length]
     exact k _ _ (ij sm hl (f3.take _) fun _=>rfl)
   ·cases e
  | _=>cases e
 | _=>cases x<;>cases e
theorem mW{P:Addr->Prop}{K:PySem.W.Frag}{H:Hp}{d:RL.D}{k:RL.Ky}{v:V}(h:RL.keyOf d=some k)(r:Rep P K H d v):v=kV k:=by
 cases d<;>simp only[RL.keyOf]at h<;>first | (cases h;done) | skip
 case int i=>cases h;exact ah r
 case str i=>cases h;exact aH r
theorem lD{P:Addr->Prop}{K:PySem.W.Frag}{H:Hp}:∀ {ds:List RL.D} {k:List RL.Ky} {xs:List V},RL.keysOf ds=some k->af P K H ds xs->xs=k.map kV
 | [],k,xs,h,r=>by cases h;rw[af]at r;exact r
 | d::ds,k,xs,h,r=>by
  rw[RL.keysOf]at h
  obtain⟨k1,h1,h⟩:=bind_some h
  obtain⟨k2,h2,h3⟩:=map_some h
  subst h3
  rw[af]at r
  obtain⟨v,t,rfl,r1,r2⟩:=r
  rw[mW h1 r1,lD h2 r2]
  rfl
end rules
section rules
variable{X:Cx}{cl:RL.Cl}{a b:Expr}{a' b':RL.E}{pos p p2:Pos}{M:List Nat}{st:Stmt}{i:Nat}{e' k':RL.E}
theorem qN{κ:Type} [DecidableEq κ]{x:κ}{d:RL.D}{v:V}{P:Addr->Prop}{K:PySem.W.Frag}{H:Hp}{ks:List κ}{ds:List RL.D}{xs:List V}(hl:ks.length=ds.length)(r:af P K H ds xs)(rv:Rep P K H d v) :
  ∃ ys,putK (ks.zip xs) x v=(RL.putD ks ds x d).1.zip ys/\(RL.putD ks ds x d).1.length=(RL.putD ks ds x d).2.length/\af P K H (RL.putD ks ds x d).2 ys:=by
 have hx:ks.length=xs.length:=hl.trans r.length
 have any:∀ (ks:List κ) (xs:List V),ks.length=xs.length->((ks.zip xs).any fun kv=>decide (kv.1=x))=decide (x∈ks):=by
  intro ks
  induction ks with
  | nil=>intro xs _;simp
  |cons k r ih=>
   intro xs h
   cases xs with
   | nil=>simp at h
   |cons y t=>
    rw[List.zip_cons_cons,List.any_cons,ih t (by simpa using h)]
    by_cases hk:k=x
    ·simp[hk]
    ·simp[hk,Ne.symm hk]
 unfold putK RL.putD
 rw[any ks xs hx]
 by_cases hm:x∈ks
 ·rw[if_pos (by simpa using hm),if_pos hm]
  refine⟨List.zipWith (fun k w=>if k=x then v else w) ks xs,?_,?_,?_⟩
  ·clear any hm hl r
   induction ks generalizing xs with
   | nil=>simp
   |cons k t ih=>
    cases xs with
    | nil=>simp at hx
    |cons y t'=>
     rw[List.zip_cons_cons,List.map_cons,List.zipWith_cons_cons,List.zip_cons_cons,ih (by simpa using hx)]
     by_cases hk:k=x<;>simp[hk]
  ·rw[List.length_zipWith,hl,Nat.min_self]
  ·clear any hm hx
   induction ks generalizing ds xs with
   | nil=>simpa using af.nil
   |cons k t ih=>
    cases ds with
    | nil=>simp at hl
    |cons d0 ds=>
     rw[af]at r
     obtain⟨y,t',rfl,r1,r2⟩:=r
     rw[List.zipWith_cons_cons,List.zipWith_cons_cons]
     refine af.cons ?_ (ih (by simpa using hl) r2)
     by_cases hk:k=x
     ·rw[if_pos hk,if_pos hk];exact rv
     ·rw[if_neg hk,if_neg hk];exact r1
 ·rw[if_neg (by simpa using hm),if_neg hm]
  refine⟨xs++[v],?_,by simp[hl],af.append r (af.cons rv af.nil)⟩
  rw[List.zip_append hx]
  rfl
theorem uq{κ:Type} [DecidableEq κ]{x:κ}{d:RL.D}(hd:d.imm=true):∀ {ks:List κ} {ds:List RL.D},RL.ay ds=true->RL.ay (RL.putD ks ds x d).2=true:=by
 have app:∀ l:List RL.D,RL.ay l=true->RL.ay (l++[d])=true:=fun l=>by
  induction l with
  | nil=>intro _;simp[RL.ay,hd]
  | cons z r ih=>intro h;rw[RL.ay,Bool.and_eq_true]at h;rw[List.cons_append,RL.ay,h.1,ih h.2];rfl
 have zw:∀ (ks:List κ) (ds:List RL.D),RL.ay ds=true->RL.ay (List.zipWith (fun k w=>if k=x then d else w) ks ds)=true:=fun ks=>by
  induction ks with
  | nil=>intro ds _;simp[RL.ay]
  |cons k r ih=>
   intro ds h
   cases ds with
   | nil=>simp[RL.ay]
   |cons y t=>
    rw[RL.ay,Bool.and_eq_true]at h
    rw[List.zipWith_cons_cons,RL.ay,ih t h.2,Bool.and_true]
    by_cases hk:k=x
    ·rw[if_pos hk];exact hd
    ·rw[if_neg hk];exact h.1
 intro ks ds h
 unfold RL.putD
 split
 ·exact zw ks ds h
 ·exact app ds h
theorem xR(h:PS X st (rj (i7 i) (tE X.K cl k') (tE X.K cl e')))(hi:M.contains i=true):PS X st (tS X.K M fun σD=>(RL.ev cl σD e').bind fun d=>(RL.ev cl σD k').bind fun kk=>((σD[i]?).bind id).bind fun l=>match l with
  | .lst _=>none
  | _=>if d.imm then(RL.gg l kk d).map fun l'=>(.nx,σD.set i (some l'))else none):=by
 refine PS.weak h fun D σ H h=>?_
 obtain⟨σD,o,σD',rv,e,k⟩:=h
 obtain⟨d,e1,e⟩:=bind_some e
 obtain⟨kk,e2,e⟩:=bind_some e
 obtain⟨l,e3,e⟩:=bind_some e
 obtain⟨v,h1,h2⟩:=rv.val i _ (slot_get e3)
 rw[if_pos hi]at h2
 obtain⟨q1,q2,q3⟩:=h2
 cases l with
 |dK ks ds=>
  dsimp only at e
  split at e
  ·rename_i him
   obtain⟨l',e4,e5⟩:=map_some e
   cases e5
   obtain⟨kx,e6,e7⟩:=bind_some (show(RL.keyOf kk).bind _=some l' from e4)
   split at e7
   ·rename_i hz
    cases e7
    rw[Rep]at q3
    obtain⟨q,xs,rfl,_,f2,fl,f3⟩:=q3
    refine⟨σD,d,rv.rv0,e1,fun y H1 r1=>⟨.ref q,h1,σD,kk,rv.rv0.same r1.same,e2,fun u H2 r2=>?_⟩⟩
    have sm:=r1.same.trans r2.same
    obtain⟨ys,p1,p2,p3⟩:=qN (x:=kx) fl (f3.same sm) (r1.rep.same r2.same)
    have hlen:(ks.zip xs).length<sizeLine:=by
     rw[List.length_zip,<-f3.length,fl,Nat.min_self,<-fl]
     exact Nat.lt_of_lt_of_le hz bS
    refine⟨q,_,rfl,by rw[mW e6 r2.rep];exact iN.k (sm _ _ f2) hlen,?_⟩
    have im:=uq (x:=kx) him (ks:=ks) q2
    obtain⟨g1,g2⟩:=(rv.same sm).iK (d':=.dK (RL.putD ks ds kx d).1 (RL.putD ks ds kx d).2) (o':=.dK (putK (ks.zip xs) kx y)) hi h1 (sm _ _ f2) (.inr (.inl ⟨_,rfl⟩)) ⟨rfl,im,by
     rw[Rep]
     exact⟨q,ys,rfl,fun z=>z,by rw[aW,p1],p2,(af.upd (P:=fun p=>p=q) (sm _ _ f2) (.inr (.inl ⟨_,rfl⟩)) rfl (p3.imm im)).imm im⟩⟩
    exact k _ _ g1 ((Fr'.same sm).trans g2)
   ·cases e7
  ·cases e
 |dT ks ds=>
  dsimp only at e
  split at e
  ·rename_i him
   obtain⟨l',e4,e5⟩:=map_some e
   cases e5
   cases kk with
   |tup kt=>
    obtain⟨kx,e6,e7⟩:=bind_some (show(RL.keysOf kt).bind _=some l' from e4)
    split at e7
    ·rename_i hz
     cases e7
     rw[Rep]at q3
     obtain⟨q,xs,rfl,_,f2,fl,f3⟩:=q3
     refine⟨σD,d,rv.rv0,e1,fun y H1 r1=>⟨.ref q,h1,σD,.tup kt,rv.rv0.same r1.same,e2,fun u H2 r2=>?_⟩⟩
     have sm:=r1.same.trans r2.same
     obtain⟨ys,p1,p2,p3⟩:=qN (x:=kx) fl (f3.same sm) (r1.rep.same r2.same)
     have hlen:(ks.zip xs).length<sizeLine:=by
      rw[List.length_zip,<-f3.length,fl,Nat.min_self,<-fl]
      exact Nat.lt_of_lt_of_le hz bS
     obtain⟨b,ws,rfl,g2,g3⟩:=bo r2.rep
     rw[lD e6 g3]at g2
     refine⟨q,_,rfl,iN.t (sm _ _ f2) g2 hlen,?_⟩
     have im:=uq (x:=kx) him (ks:=ks) q2
     obtain⟨g1,g2⟩:=(rv.same sm).iK (d':=.dT (RL.putD ks ds kx d).1 (RL.putD ks ds kx d).2) (o':=.dT (putK (ks.zip xs) kx y)) hi h1 (sm _ _ f2) (.inr (.inr ⟨_,rfl⟩)) ⟨rfl,im,by
      rw[Rep]
      exact⟨q,ys,rfl,fun z=>z,by rw[aW,p1],p2,(af.upd (P:=fun p=>p=q) (sm _ _ f2) (.inr (.inr ⟨_,rfl⟩)) rfl (p3.imm im)).imm im⟩⟩
     exact k _ _ g1 ((Fr'.same sm).trans g2)
    ·cases e7
   | _=>cases e4
  ·cases e
 | lst _=>cases e
 | _=>cases q1
end rules
end RS
namespace L2
open PySem PySem.Spec PyProof.Rows
end L2
namespace RS
open PySem PySem.Spec PyProof.Rows L2
section rules
variable{X:Cx}{cl:RL.Cl}{M:List Nat}{st:Stmt}{i:Nat}{e':RL.E}
theorem u6{o:RL.Bop}{f:Int->Int->Int}(hf:∀ a b,RL.aI o (.int a) (.int b)=some (.int (f a b)))(h:PS X st (vN i (tE X.K cl e') (ipI f)))(hi:M.contains i=false):SS X cl M st (.aug i o e'):=by
 refine PS.weak h fun D σ H h=>?_
 obtain⟨σD,ou,σD',rv,e,k⟩:=h
 rw[RL.evS]at e
 obtain⟨x,e1,e⟩:=bind_some e
 obtain⟨y,e2,e⟩:=bind_some e
 cases x with
 |int a=>
  cases y with
  |int b=>
   dsimp only at e
   rw[hf]at e
   cases e
   obtain⟨v,h1,h2⟩:=rv.val i _ (slot_get e1)
   rw[if_neg (by rw[hi];decide)]at h2
   refine⟨v,h1,σD,.int b,rv.rv0,e2,fun u H1 r1=>⟨a,b,ah h2,ah r1.rep,?_⟩⟩
   exact k _ _ ((rv.same r1.same).bind hi bp) (Fr'.bind hi r1.same)
  | _=>cases e
 | _=>cases e
end rules
noncomputable def oC(p:Addr)(a b c:Int):HO:=.ext fun h=>∃ t u v,IsRange h p a b c t u v
theorem pz(a b c:Int):0<=Builtin.Range.rangeSize a b c:=by
 unfold Builtin.Range.rangeSize
 split
 ·split
  ·have:=Int.ediv_nonneg (a:=b-a-1) (b:=c) (by lia) (by lia)
   omega
  ·lia
 ·split
  ·by_cases h0:c=0
   ·subst h0
    simp
   ·have:=Int.ediv_nonneg (a:=a-b-1) (b:=-c) (by lia) (by lia)
    omega
  ·lia
theorem wj(a b c:Int):Builtin.Range.rangeSize a b c<=(if a<b then b-a else a-b)+1:=by
 unfold Builtin.Range.rangeSize
 split
 ·split
  ·have:=Int.ediv_le_self (a:=b-a-1) c (by lia)
   lia
  ·lia
 ·split
  ·have:=Int.ediv_le_self (a:=a-b-1) (-c) (by lia)
   split<;>omega
  ·split<;>lia
theorem lY(a b c:Int):(RL.cB c a b:Int)=Builtin.Range.rangeSize a b c:=Int.toNat_of_nonneg (pz a b c)
theorem mi{a b c:Int}(ha:-(2 ^ 60)<=a)(ha':a<2 ^ 60)(hb:-(2 ^ 60)<=b)(hb':b<2 ^ 60)(hc:-(2 ^ 60)<=c)(hc':c<2 ^ 60):Builtin.Range.small a b c=true:=by
 have h1:=pz a b c
 have h2:=wj a b c
 unfold Builtin.Range.small
 simp only[Builtin.Range.rangeFitsLong,Bool.and_eq_true,Bool.or_eq_true,decide_eq_true_eq,beq_iff_eq]
 refine⟨⟨⟨⟨?_,?_⟩,?_⟩,?_⟩,.inr ?_⟩
 ·lia
 ·lia
 ·lia
 ·split at h2<;>lia
 ·split<;>(rw[Bool.and_eq_true,decide_eq_true_eq,decide_eq_true_eq];lia)
section
variable{X:Cx}{cl:RL.Cl}{tg a b l:Expr}{a' b' e':RL.E}{pos p q:Pos}
noncomputable def mX(xs:List V)(a b c:Int):Prop:=(xs=[.int b]/\a=0/\c=1)\/(xs=[.int a,.int b]/\c=1)\/(xs=[.int a,.int b,.int c]/\c≠0/\c.natAbs<2 ^ 60)
theorem j6{pins:List (Addr × Obj)}{σ:L2.St}{H:Hp}{s:Shared}{a b c:Int}{t u v:Tok}{tk:Nat}(I:Inv X pins σ H s):Inv X pins σ (upd H s.heap.objs.size (oC s.heap.objs.size a b c)) { s with heap:=s.heap.push { cls:=.type "range",data:=.fields #[.int a t,.int b u,.int c v] },toks:=tk } :=
 I.laid (fun b u e=>Heap.get?_push_of_some _ e) (Nat.le_refl _) ⟨⟨t,u,v,IsRange.new _ a b c t u v⟩,⟨_,Heap.get?_push_size _ rfl⟩,fun h1 h2 ⟨t,u,v,e⟩ k=>⟨t,u,v,k _ e⟩⟩
theorem pD:bH X (.type "range") (fun xs H Q=>∃ a b c,mX xs a b c/\∀ p,H p=none->Q (.ref p) (upd H p (oC p a b c))):=by
 intro pins s σ H xs us Q I r h
 obtain⟨a,b,c,ha,q⟩:=h
 have hf:H s.heap.objs.size=none:=I.hok.fresh (Nat.le_refl _)
 rcases ha with⟨rfl,rfl,rfl⟩ | ⟨rfl,rfl⟩ | ⟨rfl,hc,hc2⟩
 ·cases r with
  |cons r rr=>
   cases rr
   obtain⟨t,rfl⟩:=r
   exact call_range_1 ⟨.ref _,_,j6 I,rfl,q _ hf⟩
 ·cases r with
  |cons r rr=>
   cases rr with
   |cons r2 rr=>
    cases rr
    obtain⟨t,rfl⟩:=r
    obtain⟨t2,rfl⟩:=r2
    exact call_range_2 ⟨.ref _,_,j6 I,rfl,q _ hf⟩
 ·cases r with
  |cons r rr=>
   cases rr with
   |cons r2 rr=>
    cases rr with
    |cons r3 rr=>
     cases rr
     obtain⟨t,rfl⟩:=r
     obtain⟨t2,rfl⟩:=r2
     obtain⟨t3,rfl⟩:=r3
     refine call_range_3 hc ⟨.ref _,_,j6 I,rfl,q _ hf⟩ (.inl (PyProof.noPylong_of_log2 ?_))
     have:c.natAbs.log2<60:=(Nat.log2_lt (by lia)).mpr hc2
     lia
noncomputable def cS(a c:Int)(n:Nat):List V:=(List.range n).map fun(i:Nat)=>V.int (a+(i:Int)*c)
theorem i6(hc:X.calm=true):bH X (.type "list") (fun xs H Q=>∃ p a b c,xs=[.ref p]/\H p=some (oC p a b c)/\Builtin.Range.small a b c=true/\RL.cB c a b<=RL.most /\
  ∀ l,H l=none->Q (.ref l) (upd H l (.lst (cS a c (RL.cB c a b))))):=by
 intro pins s σ H xs us Q I r h
 obtain⟨p,a,b,c,rfl,hp,hs,hn,q⟩:=h
 cases r with
 |cons r rr=>
  cases rr
  cases r
  obtain⟨⟨t,u,v,hR⟩,_,_⟩:=I.hok p _ hp
  refine call_list_range (I.ok.hd.1 hc) hR hs (lY a b c).symm (Nat.le_trans hn (by decide)) fun h' tk acc c' hk hS hI=>?_
  have hf:H s.heap.objs.size=none:=I.hok.fresh (Nat.le_refl _)
  refine⟨.ref s.heap.objs.size,upd H s.heap.objs.size (.lst (cS a c (RL.cB c a b))),I.laid hk (Nat.le_refl _) (show _/\_ from⟨?_,acc.toList,c',?_,?_⟩),rfl,q _ hf⟩
  ·simp only[cS,List.length_map,List.length_range]
   exact Nat.le_trans hn bS
  ·have len:(cS a c (RL.cB c a b)).length=acc.toList.length:=by
    simp only[cS,List.length_map,List.length_range,Array.length_toList,hI.1]
   have gen:∀ (xs:List V) (us:List Value),xs.length=us.length->(∀ (i:Nat) u,us[i]?=some u->∃ x,xs[i]?=some x/\RelV x u)->Vals xs us:=by
    intro xs
    induction xs with
    | nil=>intro us h _;cases us with
     | nil=>exact .nil
     | cons _ _=>cases h
    | cons x r ih=>intro us h g;cases us with
     | nil=>cases h
     |cons u us=>
      obtain⟨x',e1,e2⟩:=g 0 u rfl
      cases e1
      exact .cons e2 (ih us (by simpa using h) fun i u hu=>by
       obtain⟨y,e3,e4⟩:=g (i+1) u (by simpa using hu)
       exact⟨y,by simpa using e3,e4⟩)
   refine gen _ _ len fun i u hu=>?_
   have hu':acc[i]?=some u:=by simpa using hu
   obtain⟨tk,rfl⟩:=hI.2 i u hu'
   have hi:i<RL.cB c a b:=by
    have:=(Array.getElem?_eq_some_iff.mp hu').1
    rw[hI.1]at this
    exact this
   exact⟨.int (a+(i:Int)*c),by simp[cS,hi],tk,rfl⟩
  ·rw[Array.toArray_toList]
   exact hS
theorem lI{P:Addr->Prop}{K:PySem.W.Frag}{H:Hp}:∀ (n:Nat) (a c:Int),af P K H (RL.fQ c a n) (cS a c n)
 | 0,a,c=>af.nil
 | n+1,a,c=>by
  have e:cS a c (n+1)=V.int a::cS (a+c) c n:=by
   simp only[cS,List.range_succ_eq_map,List.map_cons,List.map_map]
   congr 1
   ·simp
   ·apply List.map_congr_left
    intro i _
    show V.int (a+((i+1:Nat):Int)*c)=V.int (a+c+(i:Int)*c)
    congr 1
    rw[show((i+1:Nat):Int)=(i:Int)+1 by lia,Int.add_mul]
    lia
  rw[RL.fQ,e]
  exact af.cons bp (lI n (a+c) c)
theorem j5:∀ (n:Nat) (a:Int),RL.bY a n=RL.fQ 1 a n
 | 0,_=>rfl
 | n+1,a=>by rw[RL.bY,RL.fQ,j5 n]
theorem eX(a b:Int):RL.cB 1 a b=(b-a).toNat:=by
 have h:=lY a b 1
 rw[rangeSize_one]at h
 split at h<;>lia
theorem tY{σD:RL.St}{σ:L2.St}{H H1:Hp}{e:RL.E}{Q:VK}{vs:List V}{a b c:Int}{ds:List RL.D}(hv:mX vs a b c)(hd:ds=RL.fQ c a (RL.cB c a b))(hn:RL.cB c a b<=RL.most)(hs:Builtin.Range.small a b c=true)(sm:au H H1)
 (hav:∀ M,RL.avE M e=false)(k:∀ v H',Res X.K σD σ H e (.lst ds) v H'->Q v H') :
  ∃ a b c,mX vs a b c/\∀ p,H1 p=none->(fun xs H Q=>∃ p a b c,xs=[V.ref p]/\H p=some (oC p a b c)/\Builtin.Range.small a b c=true/\RL.cB c a b<=RL.most/\∀ l,H l=none->Q (.ref l) (upd H l (.lst (cS a c (RL.cB c a b))))) [.ref p] (upd H1 p (oC p a b c)) Q:=by
 refine⟨a,b,c,hv,fun p hp=>⟨p,a,b,c,rfl,aW,hs,hn,fun l hl=>k _ _ ?_⟩⟩
 subst hd
 exact eB (sm.trans (au.c9 hp)) hl (lI _ _ _) hav
theorem yC(hc:X.calm=true)(hgl:Gl X "list")(hml:X.mg "list" = none)(hg:Gl X "range")(hm:X.mg "range" = none)(ha:SE X cl a a')(hn:noStar a=true){p2 pos2:Pos}:SE X cl (.Call (.Name "list" p2) [.Call (.Name "range" p) [a] [] pos] [] pos2) (.rng1 a'):=by
 refine PE.weak (eQ (i6 hc) hgl hml (by decide +kernel) (bu (eQ pD hg hm boot_range (cy (cl:=cl) ha dS hn) (by decide) (by decide) (az [] hn) rfl) cW) (by decide) (by decide) rfl rfl) fun σ H Q h=>?_
 obtain⟨σD,d,rv,e,k⟩:=h
 rw[RL.ev]at e
 obtain⟨x,ea,e⟩:=bind_some e
 obtain⟨ds,e1,e2⟩:=map_some e
 subst e2
 obtain⟨i,j,e3,rfl,hb,hm2,rfl⟩:=jP e1
 cases e3
 have hb2:-(2 ^ 60)<=j/\j<2 ^ 60:=by
  simp only[RL.cP]at e1
  split at e1
  ·lia
  ·cases e1
 refine one rv ea fun v H1 s1 r1=>?_
 exact tY (a:=0) (b:=j) (c:=1) (.inl ⟨by rw[ah r1],rfl,rfl⟩) (by rw[j5,eX]) (by rw[eX];exact hm2) (mi (by decide) (by decide) hb2.1 hb2.2 (by decide) (by decide)) s1 (fun _=>rfl) k
theorem yk(hc:X.calm=true)(hgl:Gl X "list")(hml:X.mg "list" = none)(hg:Gl X "range")(hm:X.mg "range" = none)(ha:SE X cl a a')(hb:SE X cl b b')(hn:noStar a=true)(hn2:noStar b=true){p2 pos2:Pos}:SE X cl (.Call (.Name "list" p2) [.Call (.Name "range" p) [a,b] [] pos] [] pos2) (.rng2 a' b'):=by
 refine PE.weak (eQ (i6 hc) hgl hml (by decide +kernel) (bu (eQ pD hg hm boot_range (cy (cl:=cl) ha (cy hb dS hn2) hn) (by decide) (by decide) (az _ hn) (dJ (by simp[hn2]))) cW) (by decide) (by decide) rfl rfl) fun σ H Q h=>?_
 obtain⟨σD,d,rv,e,k⟩:=h
 rw[RL.ev]at e
 obtain⟨x,ea,e⟩:=bind_some e
 obtain⟨y,eb,e⟩:=bind_some e
 obtain⟨ds,e1,e2⟩:=map_some e
 subst e2
 obtain⟨i,j,rfl,rfl,hb,hm2,rfl⟩:=jP e1
 have hb2:(-(2 ^ 60)<=i/\i<2 ^ 60)/\-(2 ^ 60)<=j/\j<2 ^ 60:=by
  simp only[RL.cP]at e1
  split at e1
  ·lia
  ·cases e1
 refine pair rv ea eb fun v u H1 s1 r1 r2=>?_
 exact tY (a:=i) (b:=j) (c:=1) (.inr (.inl ⟨by rw[ah r1,ah r2],rfl⟩)) (by rw[j5,eX]) (by rw[eX];exact hm2) (mi hb2.1.1 hb2.1.2 hb2.2.1 hb2.2.2 (by decide) (by decide)) s1 (fun _=>rfl) k
theorem yn(hl:SE X cl l e'):SI X cl tg l (.seq e'):=by
 refine PI.weak (As (cl:=cl) hl trivial) fun σ H R h=>?_
 obtain⟨σD,ds,rv,e,k⟩:=h
 rw[RL.bq]at e
 obtain⟨d,e1,e2⟩:=bind_some e
 exact⟨σD,d,ds,rv,e1,e2,k⟩
theorem zQ(ha:SE X cl a a'):SE X cl (.UnaryOp .USub a pos) (.neg a'):=by
 refine PE.weak (CI Ad ha) fun σ H Q h=>?_
 obtain⟨σD,d,rv,e,k⟩:=h
 rw[RL.ev]at e
 obtain⟨x,ea,e⟩:=bind_some e
 cases x with
 | int i=>cases e;exact⟨σD,_,rv,ea,fun v H1 r1=>⟨i,ah r1.rep,k _ _ (d6 r1.same bp rfl)⟩⟩
 | _=>cases e
end
noncomputable def mAt(mp:List Nat)(vs:List V):Addr->Prop:=fun a=>∃ p,p∈mp/\vs[p]?=some (.ref a)
structure AX(K:PySem.W.Frag)(mp:List Nat)(ds:List RL.D)(vs:List V)(H:Hp):Prop where
 l6:af nP K H ds vs
 own:∀ p∈mp,∃ d a,ds[p]?=some d/\vs[p]?=some (.ref a)/\Own K H d (.ref a)
 sep:∀ p∈mp,∀ q∈mp,∀ a,vs[p]?=some (.ref a)->vs[q]?=some (.ref a)->p=q
 oth:∀ (q:Nat) d v,q∉mp->ds[q]?=some d->vs[q]?=some v->Rep (mAt mp vs) K H d v
structure Eb(K:PySem.W.Frag)(mp:List Nat)(outs:List RL.D)(vs:List V)(H:Hp):Prop where
 len:outs.length=mp.length
 own:∀ (k p:Nat) o,mp[k]?=some p->outs[k]?=some o->∃ a,vs[p]?=some (.ref a)/\Own K H o (.ref a)
noncomputable def spM(K:PySem.W.Frag)(cl:RL.Cl)(mp:List Nat)(f:Nat):Sp:=fun vs H Q _=>∃ ds d outs,cl f ds=some (.tup (d::outs))/\AX K mp ds vs H/\∀ v H',Off (mAt mp vs) H H'->Rep nP K H' d v->d.imm=true->Eb K mp outs vs H'->Q v H'
noncomputable def pC(K:PySem.W.Frag)(cl:RL.Cl):RL.E->TE
 | .var j=>i7 j
 | e=>tE K cl e
noncomputable def fU(K:PySem.W.Frag)(cl:RL.Cl):RL.Es->TA
 | .nil=>iL
 | .cons e es=>gb (pC K cl e) (fU K cl es)
noncomputable def cu(K:PySem.W.Frag)(M:List Nat)(σ:L2.St)(ps:List Nat)(H:Hp):Nat->RL.Es->List RL.D->List V->Prop
 | _,.nil,[],[]=>True
 | q,.cons e es,d::ds,v::vs=>Rep nP K H d v/\(if ps.contains q=true then ∃ j,e=.var j/\σ[j]?=some (some v)else Rep (aV M σ) K H d v)/\cu K M σ ps H (q+1) es ds vs
 | _,_,_,_=>False
section
variable{K:PySem.W.Frag}{M:List Nat}{cl:RL.Cl}{σD:RL.St}{σ:L2.St}{H H1:Hp}
theorem tR{j:Nat}{d:RL.D}(e:RL.ev cl σD (.var j)=some d):σD[j]?=some (some d):=by
 rw[RL.ev]at e
 exact slot_get e
theorem zH{e':RL.E}{d:RL.D}{v:V}(rv:RVm K M σD σ H)(r1:Res K σD σ H e' d v H1)(ok:RL.ba M e' d=true):Rep (aV M σ) K H1 d v:=by
 unfold RL.ba at ok
 rw[Bool.or_eq_true,Bool.or_eq_true,Bool.and_eq_true]at ok
 rcases ok with(q | ⟨q1,q2⟩) | q
 ·exact r1.rep.imm q
 ·have rp:=r1.rep
  have fr:jJ d=true->∀ a,v=.ref a->¬ aV M σ a:=fun m a z p=>rv.nM a p (r1.fresh q2 m a z)
  cases d with
  | lst ds=>obtain⟨a,xs,e1,e0,e2,e3⟩:=aD rp;rw[Rep];exact⟨a,xs,e1,fr rfl a e1,e2,e3.imm q1⟩
  | dK ks ds=>rw[Rep]at rp ⊢;obtain⟨a,xs,e1,e0,e2,el,e3⟩:=rp;exact⟨a,xs,e1,fr rfl a e1,e2,el,e3.imm q1⟩
  | dT ks ds=>rw[Rep]at rp ⊢;obtain⟨a,xs,e1,e0,e2,el,e3⟩:=rp;exact⟨a,xs,e1,fr rfl a e1,e2,el,e3.imm q1⟩
  | _=>cases q1
 ·refine r1.av M q _ rv.nM fun j dj vj hj h1 h2=>?_
  obtain⟨v',h3,h4⟩:=rv.val j dj h1
  rw[h2]at h3
  cases h3
  rw[if_neg (by rw[hj];decide)]at h4
  exact h4
theorem yU{e:RL.E}{d:RL.D}{ps:List Nat}{q:Nat}{R:V->Hp->Prop}(rv:RVm K M σD σ H)(he:RL.ev cl σD e=some d)(ok:(if ps.contains q=true then RL.isVar e else RL.ba M e d)=true)
 (k:∀ v H1,au H H1->Rep nP K H1 d v->(if ps.contains q=true then ∃ j,e=.var j/\σ[j]?=some (some v)else Rep (aV M σ) K H1 d v)->R v H1):pC K cl e σ H R:=by
 have other:pC K cl e=tE K cl e->ps.contains q=false->pC K cl e σ H R:=fun z hq=>by
  rw[z]
  rw[if_neg (by rw[hq];decide)]at ok
  refine⟨σD,d,rv.rv0,he,fun v H1 r1=>k v H1 r1.same r1.rep ?_⟩
  rw[if_neg (by rw[hq];decide)]
  exact zH rv r1 ok
 cases e with
 |var j=>
  have hj:=tR he
  obtain⟨v,h1,h2⟩:=rv.val j d hj
  refine⟨v,h1,k v H (au.refl H) ?_ ?_⟩
  ·obtain⟨v',h3,h4⟩:=rv.rv0.2 j d hj
   rw[h1]at h3
   cases h3
   exact h4
  ·by_cases hq:ps.contains q=true
   ·rw[if_pos hq]
    exact⟨j,rfl,h1⟩
   ·rw[if_neg hq]at ok ⊢
    by_cases hm:M.contains j=true
    ·rw[if_pos hm]at h2
     have im:d.imm=true:=by
      unfold RL.ba at ok
      rw[Bool.or_eq_true,Bool.or_eq_true,Bool.and_eq_true]at ok
      rcases ok with(z | ⟨_,z⟩) | z
      ·exact z
      ·cases z
      ·rw[RL.avE,hm]at z
       cases z
     exact h2.2.2.imm im
    ·rw[if_neg hm]at h2
     exact h2
 |_=>
  refine other rfl ?_
  cases hq:ps.contains q with
  | false=>rfl
  |true=>
   rw[if_pos hq]at ok
   cases ok
theorem nS{ps:List Nat}:∀ {es:RL.Es} {q:Nat} {ds:List RL.D} {H:Hp} {R:List V->Hp->Prop},RVm K M σD σ H->RL.evs cl σD es=some ds->RL.cI M ps q es ds=true ->
  (∀ vs H1,au H H1->cu K M σ ps H1 q es ds vs->R vs H1)->fU K cl es σ H R
 | .nil,q,ds,H,R,rv,he,ok,k=>by
  rw[RL.evs]at he
  cases he
  exact k [] H (au.refl H) (by rw[cu];trivial)
 | .cons e es,q,ds,H,R,rv,he,ok,k=>by
  rw[RL.evs]at he
  obtain⟨d,e1,he⟩:=bind_some he
  obtain⟨ds',e2,e3⟩:=map_some he
  subst e3
  rw[RL.cI,Bool.and_eq_true]at ok
  refine yU rv e1 ok.1 fun v H1 s1 r1 x1=>?_
  refine nS (rv.same s1) e2 ok.2 fun vs H2 s2 r2=>k (v::vs) H2 (s1.trans s2) ?_
  rw[cu]
  refine⟨r1.same s2,?_,r2⟩
  by_cases hq:ps.contains q=true
  ·rw[if_pos hq]at x1 ⊢
   exact x1
  ·rw[if_neg hq]at x1 ⊢
   exact x1.same s2
noncomputable def jj:RL.Es->Nat->Option RL.E
 | .nil,_=>none
 | .cons e _,0=>some e
 | .cons _ es,n+1=>jj es n
theorem cu.l6{ps:List Nat}:∀ {q:Nat} {es:RL.Es} {ds:List RL.D} {vs:List V},cu K M σ ps H q es ds vs->af nP K H ds vs
 | _,.nil,[],[],h=>af.nil
 | q,.cons e es,d::ds,v::vs,h=>by
  rw[cu]at h
  exact af.cons h.1 (cu.l6 h.2.2)
 | _,.nil,_::_,_,h=>by simp[cu]at h
 | _,.nil,[],_::_,h=>by simp[cu]at h
 | _,.cons _ _,[],_,h=>by simp[cu]at h
 | _,.cons _ _,_::_,[],h=>by simp[cu]at h
theorem cu.get{ps:List Nat}:∀ {q:Nat} {es:RL.Es} {ds:List RL.D} {vs:List V} (n:Nat) {d:RL.D} {v:V},cu K M σ ps H q es ds vs->ds[n]?=some d->vs[n]?=some v ->
  Rep nP K H d v/\(if ps.contains (q+n)=true then ∃ j,jj es n=some (.var j)/\σ[j]?=some (some v)else Rep (aV M σ) K H d v)
 | _,.nil,[],[],n,_,_,h,e,_=>by simp at e
 | q,.cons e es,d::ds,v::vs,0,_,_,h,e1,e2=>by
  simp at e1 e2
  subst e1 e2
  rw[cu]at h
  refine⟨h.1,?_⟩
  have h2:=h.2.1
  rw[Nat.add_zero]
  by_cases hq:ps.contains q=true
  ·rw[if_pos hq]at h2 ⊢
   obtain⟨j,z,y⟩:=h2
   subst z
   exact⟨j,rfl,y⟩
  ·rw[if_neg hq]at h2 ⊢
   exact h2
 | q,.cons e es,d::ds,v::vs,n+1,_,_,h,e1,e2=>by
  rw[cu]at h
  have:=cu.get n h.2.2 (by simpa using e1) (by simpa using e2)
  rw[show q+1+n=q+(n+1) by lia]at this
  exact this
 | _,.nil,_::_,_,_,_,_,h,_,_=>by simp[cu]at h
 | _,.nil,[],_::_,_,_,_,h,_,_=>by simp[cu]at h
 | _,.cons _ _,[],_,_,_,_,h,_,_=>by simp[cu]at h
 | _,.cons _ _,_::_,[],_,_,_,h,_,_=>by simp[cu]at h
theorem Own.off{P:Addr->Prop}{d:RL.D}{a:Addr}(h:Own K H d (.ref a))(hm:∀ b o,P b->H b=some o->cA o)(k:Off P H H1)(n:¬ P a):Own K H1 d (.ref a):=by
 obtain⟨q1,q2,q3⟩:=h
 refine⟨q1,q2,?_⟩
 have im:∀ {ds:List RL.D} {xs:List V},RL.ay ds=true->af nP K H ds xs->af nP K H1 ds xs:=fun hi r=>((r.imm hi).off hm k).imm hi
 cases d with
 | lst ds=>obtain⟨b',xs,e1,e0,e2,e3⟩:=aD q3;cases e1;rw[Rep];exact⟨a,xs,rfl,fun z=>z,k _ _ n e2,im q2 e3⟩
 | dK ks ds=>rw[Rep]at q3 ⊢;obtain⟨b',xs,e1,e0,e2,el,e3⟩:=q3;cases e1;exact⟨a,xs,rfl,fun z=>z,k _ _ n e2,el,im q2 e3⟩
 | dT ks ds=>rw[Rep]at q3 ⊢;obtain⟨b',xs,e1,e0,e2,el,e3⟩:=q3;cases e1;exact⟨a,xs,rfl,fun z=>z,k _ _ n e2,el,im q2 e3⟩
 | _=>cases q1
theorem kQ:∀ {ms:List Nat} {outs:List RL.D} {σD:RL.St} {k i:Nat} {o:RL.D},ms.Nodup->ms[k]?=some i->outs[k]?=some o->i<σD.length->(dQ ms outs σD)[i]?=some (some o)
 | [],_,_,_,_,_,_,e,_,_=>by simp at e
 | m::ms,[],_,_,_,_,_,_,e,_=>by simp at e
 | m::ms,d::ds,σD,0,i,o,nd,e1,e2,hl=>by
  simp at e1 e2
  subst e1 e2
  rw[dQ,jm _ _ _ _ (by simpa using(List.nodup_cons.mp nd).1),List.getElem?_set_self hl]
 | m::ms,d::ds,σD,k+1,i,o,nd,e1,e2,hl=>by
  rw[dQ]
  exact kQ (List.nodup_cons.mp nd).2 (by simpa using e1) (by simpa using e2) (by simpa using hl)
theorem RVm.changed{ms:List Nat}{outs:List RL.D}(h:RVm K M σD σ H)(hms:∀ i∈ms,M.contains i=true)(nd:ms.Nodup)(len:ms.length=outs.length)(k:Off (fun a=>∃ i∈ms,σ[i]?=some (some (.ref a))) H H1)
 (ow:∀ (k i:Nat) o,ms[k]?=some i->outs[k]?=some o->∃ a,σ[i]?=some (some (.ref a))/\Own K H1 o (.ref a)):RVm K M (dQ ms outs σD) σ H1/\Fr' M σ H σ H1:=by
 have sub:∀ a,(∃ i∈ms,σ[i]?=some (some (.ref a)))->aV M σ a:=fun a ⟨i,hi,e⟩=>⟨i,hms i hi,e⟩
 have offA:Off (aV M σ) H H1:=fun b o n e=>k b o (fun z=>n (sub b z)) e
 have hmA:∀ b o,aV M σ b->H b=some o->cA o:=fun b o p e=>by
  obtain⟨o',e',m⟩:=h.sr b p
  rw[e]at e'
  cases e'
  exact m
 have at_:∀ i,i∈ms->∃ (kk:Nat) (o:RL.D),ms[kk]?=some i/\outs[kk]?=some o:=fun i hi=>by
  obtain⟨kk,hk,e⟩:=List.getElem_of_mem hi
  exact⟨kk,outs[kk]'(by lia),by simp[hk,e],by simp⟩
 refine⟨⟨by rw[jG];exact h.len,fun i d e=>?_,fun i v e=>?_,h.sep⟩,⟨fun b o e n=>⟨offA b o n e,n⟩,fun _ _=>rfl⟩⟩
 ·by_cases hi:i∈ms
  ·obtain⟨kk,o,e1,e2⟩:=at_ i hi
   have hl:i<σD.length:=by
    have:=(List.getElem?_eq_some_iff.mp e).1
    rw[jG]at this
    exact this
   rw[kQ nd e1 e2 hl]at e
   cases e
   obtain⟨a,q1,q2⟩:=ow kk i _ e1 e2
   exact⟨.ref a,q1,by rw[if_pos (hms i hi)];exact q2⟩
  ·rw[jm _ _ _ _ (by simpa using hi)]at e
   obtain⟨v,h1,h2⟩:=h.val i d e
   refine⟨v,h1,?_⟩
   by_cases hm:M.contains i=true
   ·rw[if_pos hm]at h2 ⊢
    obtain⟨a,o,rfl,_,_⟩:=h2.ref
    refine h2.off (fun b o p e=>hmA b o (sub b p) e) k fun⟨j,hj,ej⟩=>?_
    exact hi (h.sep i j a hm (hms j hj) h1 ej▸hj)
   ·rw[if_neg hm]at h2 ⊢
    exact h2.off hmA offA
 ·obtain⟨d,hd⟩:=h.non i v e
  by_cases hi:i∈ms
  ·obtain⟨kk,o,e1,e2⟩:=at_ i hi
   exact⟨o,kQ nd e1 e2 (List.getElem?_eq_some_iff.mp hd).1⟩
  ·exact⟨d,by rw[jm _ _ _ _ (by simpa using hi)];exact hd⟩
end
section rules
variable{X:Cx}{cl:RL.Cl}{M:List Nat}{st:Stmt}{i f:Nat}{es:RL.Es}{ps ms:List Nat}
noncomputable def bM(es:RL.Es):List Nat->List Nat->Bool
 | [],[]=>true
 | p::ps,m::ms=>(match jj es p with | some (.var j)=>j == m | _=>false)&&bM es ps ms
 | _,_=>false
theorem js:∀ {ps ms:List Nat} {k p:Nat},bM es ps ms=true->ps[k]?=some p->∃ m,ms[k]?=some m/\jj es p=some (.var m)
 | [],_,_,_,_,e=>by simp at e
 | _::_,[],_,_,h,_=>by simp[bM]at h
 | p::ps,m::ms,0,q,h,e=>by
  rw[bM,Bool.and_eq_true]at h
  simp at e
  subst e
  have h1:=h.1
  split at h1
  ·rename_i j hj
   rw[beq_iff_eq]at h1
   subst h1
   exact⟨j,rfl,hj⟩
  ·cases h1
 | p::ps,m::ms,k+1,q,h,e=>by
  rw[bM,Bool.and_eq_true]at h
  obtain⟨m',h1,h2⟩:=js (k:=k) h.2 (by simpa using e)
  exact⟨m',by simpa using h1,h2⟩
theorem gi:∀ {ps ms:List Nat},bM es ps ms=true->ps.length=ms.length
 | [],[],_=>rfl
 | [],_::_,h=>by simp[bM]at h
 | _::_,[],h=>by simp[bM]at h
 | p::ps,m::ms,h=>by
  rw[bM,Bool.and_eq_true]at h
  rw[List.length_cons,List.length_cons,gi h.2]
theorem ny{σD:RL.St}{σ:L2.St}{H:Hp}{ds outs:List RL.D}{d:RL.D}{σ1:RL.St}{Q:VK}(rv:RVm X.K M σD σ H)(he:RL.evs cl σD es=some ds)(ok:RL.cI M ps 0 es ds=true)(hc:cl f ds=some (.tup (d::outs)))
 (hs:bM es ps ms=true)(hms:∀ i∈ms,M.contains i=true)(nd:ms.Nodup)(ndp:ps.Nodup)(hset:RL.bj ms outs σD=some σ1)
 (k:∀ v H',Rep nP X.K H' d v->d.imm=true->RVm X.K M σ1 σ H'->Fr' M σ H σ H'->Q v H'):k9 (spM X.K cl ps f) [] E0 (fU X.K cl es) σ H Q:=by
 refine nS rv he ok fun vs H1 s1 ar=>?_
 show spM X.K cl ps f (vs++[]) H1 Q E0
 rw[List.append_nil]
 have rv1:=rv.same s1
 have rps:=ar.l6
 obtain⟨hlen,hσ1⟩:=eP hset
 subst hσ1
 have adr:∀ (k p:Nat),ps[k]?=some p->∃ m a d',ms[k]?=some m/\σ[m]?=some (some (.ref a))/\vs[p]?=some (.ref a)/\ds[p]?=some d'/\Own X.K H1 d' (.ref a)/\jj es p=some (.var m):=by
  intro k p hk
  obtain⟨m,h1,h2⟩:=js hs hk
  have evg:∀ (es:RL.Es) (ds:List RL.D) (n:Nat) (e:RL.E),RL.evs cl σD es=some ds->jj es n=some e->∃ d',ds[n]?=some d'/\RL.ev cl σD e=some d':=by
   intro es
   induction es using RL.Es.rec (motive_1:=fun _=>True) (motive_3:=fun _=>True)with
   | nil=>intro ds n e _ z;cases z
   |cons e0 es0 _ ih=>
    intro ds n e h z
    rw[RL.evs]at h
    obtain⟨d0,y1,h⟩:=bind_some h
    obtain⟨ds0,y2,y3⟩:=map_some h
    subst y3
    cases n with
    | zero=>cases z;exact⟨d0,rfl,y1⟩
    | succ n=>exact ih ds0 n e y2 z
   | _=>trivial
  obtain⟨d',g1,g2⟩:=evg es ds p _ he h2
  obtain⟨v,g3,g4⟩:=rps.get g1
  have hpc:ps.contains (0+p)=true:=by
   rw[Nat.zero_add]
   simpa using List.mem_of_getElem? hk
  have g5:=(ar.get p g1 g3).2
  rw[if_pos hpc]at g5
  obtain⟨j,z1,z2⟩:=g5
  rw[h2]at z1
  cases z1
  have hm:M.contains m=true:=hms m (List.mem_of_getElem? h1)
  obtain⟨v',z3,z4⟩:=rv1.val m d' (tR g2)
  rw[z2]at z3
  cases z3
  rw[if_pos hm]at z4
  obtain⟨a,o,rfl,_,_⟩:=z4.ref
  exact⟨m,a,d',h1,z2,g3,g1,z4,h2⟩
 have adr':∀ a,mAt ps vs a->∃ i∈ms,σ[i]?=some (some (.ref a)):=fun a ⟨p,hp,e⟩=>by
  obtain⟨k,hk,z⟩:=List.getElem_of_mem hp
  obtain⟨m,a',d',h1,h2,h3,_⟩:=adr k p (by simp[hk,z])
  rw[e]at h3
  cases h3
  exact⟨m,List.mem_of_getElem? h1,h2⟩
 refine⟨ds,d,outs,hc,⟨rps,fun p hp=>?_,fun p hp q hq a e1 e2=>?_,fun q dq v hq e1 e2=>?_⟩,fun v H' off rp im mo=>?_⟩
 ·obtain⟨k,hk,z⟩:=List.getElem_of_mem hp
  obtain⟨m,a',d',h1,h2,h3,h4,h5,_⟩:=adr k p (by simp[hk,z])
  exact⟨d',a',h4,h3,h5⟩
 ·obtain⟨k,hk,z⟩:=List.getElem_of_mem hp
  obtain⟨l,hl,y⟩:=List.getElem_of_mem hq
  have gk:ps[k]?=some p:=by simp[hk,z]
  have gl:ps[l]?=some q:=by simp[hl,y]
  obtain⟨m,a1,d1,h1,h2,h3,_⟩:=adr k p gk
  obtain⟨m',a2,d2,h1',h2',h3',_⟩:=adr l q gl
  rw[e1]at h3
  cases h3
  rw[e2]at h3'
  cases h3'
  have hmm:=rv1.sep m m' a (hms m (List.mem_of_getElem? h1)) (hms m' (List.mem_of_getElem? h1')) h2 h2'
  subst hmm
  have hkl:k=l:=(List.getElem?_inj (by rw[<-gi hs];exact hk) nd).mp (by rw[h1,h1'])
  subst hkl
  rw[gk]at gl
  exact Option.some.inj gl
 ·have hpc:ps.contains (0+q)=false:=by
   rw[Nat.zero_add]
   simpa using hq
  have g5:=(ar.get q e1 e2).2
  rw[if_neg (by rw[hpc];decide)]at g5
  exact g5.weak fun a ha=>by
   obtain⟨i,hi,e⟩:=adr' a ha
   exact⟨i,hms i hi,e⟩
 ·obtain⟨g1,g2⟩:=rv1.changed (outs:=outs) (H1:=H') hms nd hlen (fun b o n e=>off b o (fun z=>n (adr' b z)) e) fun k i o hk ho=>by
   have hkl:k<ps.length:=by
    rw[gi hs]
    exact(List.getElem?_eq_some_iff.mp hk).1
   obtain⟨m,a1,d1,h1,h2,h3,_⟩:=adr k ps[k] (by simp[hkl])
   rw[hk]at h1
   cases h1
   obtain⟨a,q1,q2⟩:=mo.own k ps[k] o (by simp[hkl]) ho
   rw[q1]at h3
   cases h3
   exact⟨_,h2,q2⟩
  exact k v H' rp im g1 ((Fr'.same s1).trans g2)
theorem yA(h:PS X st (mK (k9 (spM X.K cl ps f) [] E0 (fU X.K cl es))))(hs:bM es ps ms=true)(hms:∀ i∈ms,M.contains i=true)(nd:ms.Nodup)(ndp:ps.Nodup):SS X cl M st (.mexc f es ps ms):=by
 refine PS.weak h fun D σ H h=>?_
 obtain⟨σD,o,σD',rv,e,k⟩:=h
 rw[RL.evS]at e
 obtain⟨ds,e1,e⟩:=bind_some e
 split at e
 ·rename_i ok
  obtain⟨r,e2,e⟩:=bind_some e
  split at e
  ·rename_i d outs
   obtain⟨σ1,e3,e4⟩:=map_some e
   cases e4
   exact ny rv e1 ok e2 hs hms nd ndp e3 fun v H' _ _ rv' fr'=>k _ _ rv' fr'
  ·cases e
 ·cases e
theorem y8(h:PS X st (vN i (k9 (spM X.K cl ps f) [] E0 (fU X.K cl es)) (ipI fun a b=>a+b)))(hi:M.contains i=false)(hs:bM es ps ms=true)(hms:∀ i∈ms,M.contains i=true)(nd:ms.Nodup)(ndp:ps.Nodup):SS X cl M st (.maug i f es ps ms):=by
 refine PS.weak h fun D σ H h=>?_
 obtain⟨σD,o,σD',rv,e,k⟩:=h
 rw[RL.evS]at e
 obtain⟨x,e0,e⟩:=bind_some e
 obtain⟨ds,e1,e⟩:=bind_some e
 split at e
 ·rename_i ok
  obtain⟨r,e2,e⟩:=bind_some e
  split at e
  ·rename_i y outs
   cases x with
   |int a=>
     cases y with
     |int b=>
    obtain⟨σ1,e3,e4⟩:=map_some e
    cases e4
    obtain⟨v,h1,h2⟩:=rv.val i _ (slot_get e0)
    rw[if_neg (by rw[hi];decide)]at h2
    refine⟨v,h1,ny rv e1 ok e2 hs hms nd ndp e3 fun u H' rp _ rv' fr'=>⟨a,b,ah h2,ah rp,?_⟩⟩
    exact k _ _ (rv'.bind hi bp) (fr'.trans (Fr'.bind hi (au.refl _)))
     | _=>cases e
   | _=>cases e
  ·cases e
 ·cases e
end rules
end RS
namespace L2
open PySem PySem.Spec PyProof.Rows
noncomputable def dN(A:Around)(h:Heap):Prop:=A.handled=none\/∃ x o vs,A.handled=some (.ref x)/\h.get? x=some o/\o.data=.fields vs/\vs[2]?=some .none
theorem dN.keeps{A:Around}{h h':Heap}(x:dN A h)(k:∀ b o vs,h.get? b=some o->o.data=.fields vs->A.handled=some (.ref b)->h'.get? b=some o):dN A h':=by
 rcases x with z | ⟨y,o,vs,h1,h2,h3,h4⟩
 ·exact .inl z
 ·exact .inr ⟨y,o,vs,h1,k _ _ _ h2 h3 h1,h3,h4⟩
section
variable{prog:Program}{w:World}{A:Around}{E:Value->Shared->Prop}{s:Shared}
theorem mm:entryFor table "proto.unchain" = some Builtin.«proto.unchain»:=entryFor_of_tree (by kernel_rfl)
theorem vk{α:Type}{e:Addr}{oe:Obj}{vs:Array Value}{Q:α->Shared->Prop}(hd:dN A s.heap)(he:s.heap.get? e=some oe)(hf:oe.data=.fields vs)(hz:2<vs.size)(ne:A.handled≠some (.ref e))
 (k:∀ h',Heap.SameBut e s.heap h'->(∃ o,h'.get? e=some o/\o.cls=oe.cls)->E (.ref e) { s with heap:=h' }):wpAny (model prog w) A (raiseNew (.ref e):Sem α) Q E s:=by
 unfold raiseNew
 refine wpAny_bind (wpAny_handled ?_)
 rcases hd with z | ⟨x,o,ws,h1,h2,h3,h4⟩
 ·rw[z]
  exact wpAny_bind (wpAny_pure (wpAny_throw (k s.heap (.refl ..) ⟨oe,he,rfl⟩)))
 ·rw[h1]
  have nx:(Value.ref x != Value.ref e)=true:=by
   rw[bne_iff_ne]
   intro q
   exact ne (by rw[h1,q])
  dsimp only
  rw[if_pos nx]
  refine wpAny_bind (wpAny_holding (wpAny_runValue (codeAny_builtin mm ?_)))
  unfold Builtin.«proto.unchain»
  refine wpAny_bind (wpAny_field h2 h3 h4 ?_)
  rw[if_pos (by decide)]
  refine wpAny_bind (wpAny_pure (wpAny_pure ?_))
  show wpAny _ _ _ _ _ _
  refine wpAny_bind ?_
  show wpAny _ _ (setField (.ref e) 2 (.ref x)) _ _ _
  refine wpAny_setField he hf hz (wpAny_throw (k _ (.update ..) ⟨_,Heap.get?_update_self _ he (Obj.isFreed_of_fields (Obj.data_mapFields hf _)),Obj.cls_mapFields ..⟩))
theorem lj{α:Type}{Q:α->Shared->Prop}(hd:dN A s.heap)(k:∀ h' e,(∀ b o,s.heap.get? b=some o->h'.get? b=some o)->(∃ o,h'.get? e=some o/\o.cls=.type "StopIteration")->E (.ref e) { s with heap:=h' }) :
  wpAny (model prog w) A (newExc (.type "StopIteration") []) (fun e s'=>wpAny (model prog w) A (raiseNew e:Sem α) Q E s') E s:=by
 simp only[newExc,newTuple]
 apply wpAny_bind
 refine wpAny_newObj_type ?_ (by size_fits)
 apply wpAny_bind (m:=firstArgMember _ _)
 refine wpAny_of_eq (a:=Value.none) (by first | rfl | (simp only[firstArgMember];rfl)) ?_
 refine wpAny_newObj_type ?_ (by size_fits)
 have hs:∀ b o,s.heap.get? b=some o->b≠(s.heap.push { cls:=.type "tuple",data:=.seq ([]:List Value).toArray }).objs.size:=fun b o e=>Nat.ne_of_lt (by rw[Heap.size_push];exact Nat.lt_succ_of_lt (Heap.lt_size e))
 refine vk (hd.keeps fun b o vs e _ _=>Heap.get?_push_of_some _ (Heap.get?_push_of_some _ e)) (Heap.get?_push_size _ rfl) rfl (Nat.lt_of_lt_of_le (by decide:2<6) (by simp)) (fun q=>?_) fun h' sb ho=>k h' _ (fun b o e=>(sb.2 b (hs b o e)).trans (Heap.get?_push_of_some _ (Heap.get?_push_of_some _ e))) ho
 rcases hd with z | ⟨x,o,ws,h1,h2,_,_⟩
 ·rw[z]at q
  cases q
 ·rw[h1]at q
  cases q
  exact hs _ _ h2 rfl
theorem i5{it l:Addr}{i:Nat}{its:Array Value}{o ol:Obj}{nl:Nat}{Q:Fin->Shared->Prop}(hd:dN A s.heap)(ni:A.handled≠some (.ref it))(ho:s.heap.get? it=some o)(hdt:o.data=.fields #[.ref l,.int i 0])(hol:s.heap.get? l=some ol)(hdl:ol.data=.seq its nl)(hx:its[i]?=none)
 (k:∀ h' e,Heap.ExtBut it s.heap h'->(∃ o,h'.get? e=some o/\o.cls=.type "StopIteration")->E (.ref e) { s with heap:=h' }):wpAny (model prog w) A (Builtin.«list_iterator.__next__» ⟨[.ref it],[]⟩) Q E s:=by
 have n0:¬ ((Value.ref l == Value.none)=true):=Bool.false_ne_true
 refine show wpAny _ _ (field (.ref it) 0 >>= _) _ _ s from wpAny_bind (wpAny_field ho hdt (x:=.ref l) rfl ?_)
 refine show wpAny _ _ (if(Value.ref l == Value.none)=true then _ else _) _ _ s from ?_
 rw[if_neg n0]
 refine show wpAny _ _ (field (.ref it) 1 >>= _) _ _ s from wpAny_bind (wpAny_field ho hdt (x:=.int i 0) rfl ?_)
 refine show wpAny _ _ (seqItems? (.ref l) >>= _) _ _ s from wpAny_bind (wpAny_seqItems hol hdl ?_)
 simp only[Int.toNat_natCast,hx]
 refine wpAny_bind (wpAny_rule (wpAny_bind (wpAny_setField ho hdt (by simp) ?_)))
 refine show wpAny _ _ (newExc (.type "StopIteration") [] >>= _) _ _ _ from wpAny_bind ?_
 have sb:=Heap.SameBut.update s.heap it (Obj.mapFields (·.setIfInBounds 0 Value.none))
 refine lj (hd.keeps fun b u vs e _ hb=>(sb.2 b fun z=>ni (z▸hb)).trans e) fun h' e kk he=>k h' e (fun b u hb q=>kk b u ((sb.2 b hb).trans q)) he
theorem mn{it l:Addr}{i:Nat}{its:Array Value}{Q:Value->Shared->Prop}(hd:dN A s.heap)(ni:A.handled≠some (.ref it))(hit:s.heap.IsListIter it l i)(hl:s.heap.IsList l its)(hx:its[i]?=none)
 (k:∀ h' e,Heap.ExtBut it s.heap h'->(∃ o,h'.get? e=some o/\o.cls=.type "StopIteration")->E (.ref e) { s with heap:=h' }):wpAny (model prog w) A (Builtin.SmallTypes.nextOf (.ref it)) Q E s:=by
 obtain⟨o,ho,hc,hdt⟩:=id hit
 obtain⟨ol,hol,_,nl,hdl⟩:=hl
 unfold Builtin.SmallTypes.nextOf
 apply wpAny_bind
 apply wpAny_callSpecial?_slot (name:=Str.ofString "__next__") hit.typeIs slot_listiter_next
 refine wpAny_call_entry slot_listiter_next hit.typeIs entry_listiter_next ?_ (args_listiter_next _)
 exact i5 hd ni ho hdt hol hdl hx k
theorem pH{it l:Addr}{i:Nat}{its:Array Value}{Q:Option Value->Shared->Prop}(hd:dN A s.heap)(ni:A.handled≠some (.ref it))(hit:s.heap.IsListIter it l i)(hl:s.heap.IsList l its)(hx:its[i]?=none)
 (k:∀ h',Heap.ExtBut it s.heap h'->Q none { s with heap:=h' }):wpAny (model prog w) A (pyNext (.ref it)) Q E s:=by
 obtain⟨o,ho,hc,hdt⟩:=id hit
 obtain⟨ol,hol,_,nl,hdl⟩:=hl
 unfold pyNext
 apply wpAny_bind
 apply wpAny_attempt
 apply wpAny_callSpecial?_slot (name:=Str.ofString "__next__") hit.typeIs slot_listiter_next
 refine wpAny_call_entry slot_listiter_next hit.typeIs entry_listiter_next ?_ (args_listiter_next _)
 refine i5 hd ni ho hdt hol hdl hx fun h' e eb he=>?_
 apply wpAny_bind
 refine wpAny_isInstance (T := "StopIteration") (b:=true) he isSubtype_stop ?_
 exact wpAny_pure (k h' eb)
end
section
variable{prog:Program}{w:World}{A:Around}{E:Value->Shared->Prop}
theorem mR{z:Shared}{ti tp:Addr}{i:Nat}{its:Array Value}{x:Value}{Q:Value->Shared->Prop}(hi:z.heap.IsTupleIter ti tp i)(ht:z.heap.IsTuple tp its)(hx:its[i]?=some x)
 (k:∀ g,g.IsTupleIter ti tp (i+1)->Heap.SameBut ti z.heap g->Q x { z with heap:=g }):wpAny (model prog w) A (Builtin.SmallTypes.nextOf (.ref ti)) Q E z:=by
 have hty:=hi.typeIs
 obtain⟨⟨c1,d1,f1,s1⟩,g1,c1',f1'⟩:=hi
 obtain⟨⟨c2,d2,f2,s2⟩,g2,c2',n2,f2'⟩:=ht
 dsimp only at c1' f1' c2' f2'
 subst c1' f1' c2' f2'
 obtain⟨hp,g,d,tk,os⟩:=z
 unfold Builtin.SmallTypes.nextOf
 refine wpAny_bind (wpAny_callSpecial?_slot (name:=Str.ofString "__next__") hty F.slot_tuple_iterator_next (wpAny_call_entry F.slot_tuple_iterator_next hty F.entry_tuple_iterator_next ?_ (F.args_tuple_iterator_next_1 _)))
 unfold Builtin.«tuple_iterator.__next__»
 wp_walk using AutoSeq1.wpAny_loadPart' g1,AutoSeq1.wpAny_loadPart' g2
 have e:its[((i:Nat):Int).toNat]?=some x:=hx
 rw[e]
 dsimp only
 apply wpAny_bind
 apply wpAny_setField g1 rfl (by simp)
 apply wpAny_pure
 refine⟨x,rfl,?_⟩
 apply wpAny_pure
 apply k
 ·exact⟨_,Heap.get?_update_self _ g1 rfl,rfl,by simp[Obj.mapFields,rawInt]⟩
 ·exact Heap.SameBut.update ..
theorem qJ{z:Shared}{ti tp:Addr}{i:Nat}{its:Array Value}{Q:Value->Shared->Prop}(hd:dN A z.heap)(ni:A.handled≠some (.ref ti))(hi:z.heap.IsTupleIter ti tp i)(ht:z.heap.IsTuple tp its)(hx:its[i]?=none)
 (k:∀ g e,Heap.ExtBut ti z.heap g->(∃ o,g.get? e=some o/\o.cls=.type "StopIteration")->E (.ref e) { z with heap:=g }):wpAny (model prog w) A (Builtin.SmallTypes.nextOf (.ref ti)) Q E z:=by
 have hty:=hi.typeIs
 obtain⟨⟨c1,d1,f1,s1⟩,g1,c1',f1'⟩:=hi
 obtain⟨⟨c2,d2,f2,s2⟩,g2,c2',n2,f2'⟩:=ht
 dsimp only at c1' f1' c2' f2'
 subst c1' f1' c2' f2'
 obtain⟨hp,g,d,tk,os⟩:=z
 unfold Builtin.SmallTypes.nextOf
 refine wpAny_bind (wpAny_callSpecial?_slot (name:=Str.ofString "__next__") hty F.slot_tuple_iterator_next (wpAny_call_entry F.slot_tuple_iterator_next hty F.entry_tuple_iterator_next ?_ (F.args_tuple_iterator_next_1 _)))
 unfold Builtin.«tuple_iterator.__next__»
 wp_walk using AutoSeq1.wpAny_loadPart' g1,AutoSeq1.wpAny_loadPart' g2
 have e:its[((i:Nat):Int).toNat]?=none:=hx
 rw[e]
 dsimp only
 apply wpAny_bind
 apply wpAny_rule
 apply wpAny_bind
 apply wpAny_setField g1 rfl (by simp)
 unfold Builtin.SmallTypes.stopIteration
 apply wpAny_bind
 refine lj (hd.keeps fun b u vs e _ hb=>(Heap.SameBut.update ..).extBut b u (fun z=>ni (z▸hb)) e) fun g e kp hc=>k g e (fun b o hb q=>kp b o ?_) hc
 exact(Heap.SameBut.update ..).extBut b o hb q
theorem mG{α:Type}{m:Sem α}{S Q:α->Shared->Prop}{E:Value->Shared->Prop}{z:Shared}(h:wpAny (model prog w) A m S (fun _ _=>False) z)(k:∀ a z1,S a z1->Q a z1):wpAny (model prog w) A m Q E z:=wpAny_mono h k fun _ _ f=>f.elim
theorem sX{b:Bool}{Q:Bool->Shared->Prop}{E:Value->Shared->Prop}{z:Shared}(h:∀ b,Q b z):wpAny (model prog w) A (pure b) Q E z:=wpAny_pure (h b)
theorem vq{x:Value}{S:Addr->Shared->Prop}{z:Shared}{Q:Value->Shared->Prop}(hx:∀ A:Around,wpAny (model prog w) A (pyIter x) (fun v z1=>∃ it,v=.ref it/\S it z1) (fun _ _=>False) z)
 (k:∀ it z1,S it z1->Q (.ref z1.heap.objs.size) { z1 with heap:=z1.heap.push { cls:=.type "enumerate",data:=.fields #[.none,.bool false,.ref it,rawInt 0,.none,.none] } }):wpAny (model prog w) A (call (.type "enumerate") [x]) Q E z:=by
 have body:MeetsIn prog w (Builtin.«enumerate.__new__» ⟨[.type "enumerate",x],[]⟩) (fun A R s=>s=z/\∀ it z1,S it z1->R (.ok (.ret (.ref z1.heap.objs.size))) { z1 with heap:=z1.heap.push { cls:=.type "enumerate",data:=.fields #[.none,.bool false,.ref it,rawInt 0,.none,.none] } }):=by
  rintro A R s ⟨rfl,hR⟩
  have hsub:=sub_enumerate
  have iter:=hx A.in1
  obtain⟨hp,g,d,tk,os⟩:=s
  wp_walk
  refine wpAny_stack_any fun st=>sX fun b=>?_
  have done:∀ it z1,S it z1->wpAny (model prog w) A.in1 (do let r <- Builtin.SmallTypes.newRecord (.type "enumerate") (Builtin.SmallTypes.ownedTupleFields++[.ref it,rawInt 0,.none,.none]);ret r)
    (fun fin s'=>match fin with | .done f=>R (.ok f) s' | .again c'=>c'.quiet=true/\codeAny (model prog w) A c' R s') (fun e s'=>R (.error e) s') z1:=by
   intro it z1 h1
   have:=hR it z1 h1
   obtain⟨hp1,gg1,dd1,tk1,os1⟩:=z1
   wp_walk
   exact this
  cases b
  ·wp_walk using mG iter
   rintro _ z1 ⟨it,rfl,h1⟩
   exact done it z1 h1
  ·wp_walk using mG iter
   rintro _ z1 ⟨it,rfl,h1⟩
   exact done it z1 h1
 refine callType_newIn F.called_enumerate (by decide) (F.typeCall_enumerate_1 _) (F.newCall_enumerate_1 _) (fun obj=>F.args_object_init_2 obj _) F.entry_enumerate_new body ⟨rfl,fun it z1 h=>?_⟩
 exact⟨⟨_,Heap.get?_push_size _ rfl,rfl⟩,k it z1 h⟩
theorem nk:iU prog w where
 draws:=fun hh ti tp hne its=>{
  live:=fun i h st=>let ⟨o,e,_⟩:=st.1;⟨o,e⟩
  frame:=fun i h h' st kp=>by
   obtain⟨⟨o1,e1,r1⟩,⟨o2,e2,r2⟩⟩:=st
   exact⟨⟨o1,kp ti (by simp) _ e1,r1⟩,⟨o2,kp tp (by simp) _ e2,r2⟩⟩
  item:=fun i s Q E hi st k=>by
   refine mR st.1 st.2 (x:=its[i]) (by simp[hi]) fun g h1 h2=>k its[i] g s.toks (by simp[hi]) ⟨h1,st.2.extBut h2.extBut hne⟩ h2
  done:=fun s Q E st k=>qJ (.inl hh) (by rw[hh];exact fun z=>nomatch z) st.1 st.2 (by simp) fun g e h1 h2=>k g e h1 h2 }
 call:=fun {A E z tp its Q} ht k=>by
  refine vq (S:=fun it z1=>it=z.heap.objs.size/\z1={ z with heap:=z.heap.push { cls:=.type "tuple_iterator",data:=.fields #[.ref tp,rawInt 0] } }) (fun A=>wpAny_pyIter_tuple ht ⟨_,rfl,rfl,rfl⟩) ?_
  rintro it z1 ⟨rfl,rfl⟩
  have hz:(z.heap.push { cls:=.type "tuple_iterator",data:=.fields #[.ref tp,rawInt 0] }).objs.size=z.heap.objs.size+1:=Heap.size_push ..
  dsimp only
  rw[hz]
  refine k _ ?_ ⟨_,Heap.get?_push_of_some _ (Heap.get?_push_size _ rfl),rfl,rfl⟩ fun b o e=>Heap.get?_push_of_some _ (Heap.get?_push_of_some _ e)
  have:=Heap.get?_push_size (z.heap.push { cls:=.type "tuple_iterator",data:=.fields #[.ref tp,rawInt 0] }) (o:={ cls:=.type "enumerate",data:=.fields #[.none,.bool false,.ref z.heap.objs.size,rawInt 0,.none,.none] }) rfl
  rw[hz]at this
  exact this
end
end L2
namespace RS
open PySem PySem.Spec PyProof.Rows L2
section
variable{X:Cx}{cl:RL.Cl}{a b:Expr}{a' b':RL.E}{pos p p2 pos2:Pos}{M:List Nat}
theorem qo:∀ {bs:List Bool} {us:List Value},Vals (bs.map V.bl) us->us=bs.map Value.bool
 | [],_,h=>by cases h;rfl
 | b::bs,_,h=>by
  cases h with
  |cons r t=>
   cases r
   rw[qo t]
   rfl
theorem vi{A:Around}{bs:List Bool}:TruthOf X.prog X.w A (fun i v=>(bs.map Value.bool).toArray[i]?=some v) (fun i=>bs.getD i false):=by
 intro i v s Q E hP q
 have hP':(bs.map Value.bool)[i]?=some v:=by simpa using hP
 rw[List.getElem?_map]at hP'
 obtain⟨b,h1,h2⟩:=map_some hP'
 subst h2
 have:bs.getD i false=b:=by rw[List.getD_eq_getElem?_getD,h1];rfl
 have q':Q b s:=this▸q
 exact wpAny_truthy_bool q'
theorem range_all(bs:List Bool):(List.range bs.length).all (fun i=>bs.getD i false)=bs.all id:=by
 have:bs=(List.range bs.length).map fun i=>bs.getD i false:=by
  apply List.ext_getElem
  ·simp
  ·intro i h1 h2
   simp[List.getD_eq_getElem?_getD,h1]
 conv=>rhs;rw[this]
 rw[List.all_map]
 rfl
noncomputable def BX(f:List Bool->Bool):List V->Hp->VK->Prop:=fun xs H Q=>∃ p bs,xs=[.ref p]/\H p=some (.lst (bs.map V.bl))/\Q (.bl (f bs)) H
theorem vC(hc:X.calm=true):bH X (.builtin "all") (BX fun bs=>bs.all id):=by
 intro pins s σ H xs us Q I r h
 obtain⟨p,bs,rfl,hp,q⟩:=h
 cases r with
 |cons r rr=>
  cases rr
  cases r
  obtain⟨its,rv,hl,hz⟩:=I.list (SqL.of hp)
  have hits:=qo rv
  subst hits
  have hlt:p<s.heap.objs.size:=by obtain⟨o,ho,_⟩:=hl.isList;exact Heap.lt_size ho
  refine call_all_walk (wpAny_pyIter_list hl.isList ?_)
  refine⟨s.heap.objs.size,_,[s.heap.objs.size],_,_,_,_,rfl,Walks.list (A:=X.A.in1) (I.ok.hd.1 hc) s.heap.objs.size p (Nat.ne_of_lt hlt) (bs.map Value.bool).toArray,⟨⟨_,Heap.get?_push_size _ rfl,rfl,rfl⟩,hl.isList.push _⟩,vi,fun h' tk hk=>?_⟩
  refine⟨.bl (bs.all id),H,I.kept (t':=tk) (fun b o e=>hk b o (fun z=>?_) (Heap.get?_push_of_some _ e)),?_,q⟩
  ·rw[List.mem_singleton.mp z]at e
   exact absurd (Heap.lt_size e) (Nat.lt_irrefl _)
  ·have:=range_all bs
   show Value.bool _=Value.bool _
   rw[<-this]
   simp
theorem pd{P:Addr->Prop}{K:PySem.W.Frag}{H:Hp}:∀ {ds:List RL.D} {bs:List Bool} {xs:List V},RL.dh ds=some bs->af P K H ds xs->xs=bs.map V.bl
 | [],bs,xs,h,r=>by rw[RL.dh]at h;cases h;rw[af]at r;exact r
 | d::ds,bs,xs,h,r=>by
  cases d<;>simp only[RL.dh]at h<;>first | (cases h;done) | skip
  rename_i b
  obtain⟨bs',h1,h2⟩:=map_some h
  subst h2
  rw[af]at r
  obtain⟨x,t,rfl,r1,r2⟩:=r
  rw[aY r1,pd h1 r2]
  rfl
theorem B7(hc:X.calm=true)(hg:Gl X "all")(hm:X.mg "all" = none)(ha:SE X cl a a')(hn:noStar a=true):SE X cl (.Call (.Name "all" p) [a] [] pos) (.bi .all a'):=by
 refine mh (vC hc) hg hm (by decide +kernel) ha hn (by decide) (by decide) fun σD σ H H1 y d v Q e s1 r1 k=>?_
 cases y<;>simp only[RL.biV]at e<;>first | (cases e;done) | skip
 case lst ds =>
  obtain⟨bs,e1,e2⟩:=map_some e
  subst e2
  obtain⟨q,xs,rfl,_,f2,f3⟩:=aD r1
  rw[pd e1 f3]at f2
  exact⟨q,bs,rfl,f2,k _ _ (d6 s1 ng rfl)⟩
theorem y6{elts:List Expr}{kx:Nat}{tp:Pos}(hg:Gl X "enumerate")(hm:X.mg "enumerate" = none)(ha:SE X cl a a')(hn:noStar a=true):SI X cl (.Tuple elts kx tp) (.Call (.Name "enumerate" p) [a] [] pos) (.enm a'):=zG nk hg hm ha hn
theorem Ai{l e:Expr}{e':RL.E}{i:Nat}{A B:List Stmt}{A' B':RL.Ss}(hl:PE X l (zU X.K "list" Bb (i7 i)))(he:SE X cl e e')(ha:SSs X cl M A A')(hb:SSs X cl M B B')(hi:M.contains i=true):SS X cl M (.If (.Compare l [.NotEq] [e] pos) A B pos2) (.ifp i e' A' B'):=by
 refine PS.weak (rM (iR Cp hl he (mS _)) ha hb) fun D σ H h=>?_
 obtain⟨σD,o,σD',rv,ev,k⟩:=h
 rw[RL.evS]at ev
 obtain⟨l,e3,ev⟩:=bind_some ev
 cases l with
 |lst ds=>
  obtain⟨d,e4,ev⟩:=bind_some ev
  obtain⟨y,e5,ev⟩:=bind_some ev
  obtain⟨v,h1,h2⟩:=rv.val i _ (slot_get e3)
  rw[if_pos hi]at h2
  obtain⟨q1,q2,q3⟩:=h2
  obtain⟨a,xs,rfl,_,f2,f3⟩:=aD q3
  obtain⟨u,f4,f5⟩:=f3.get e4
  have im:=qz q2
  obtain⟨g1,g2⟩:=rv.iK (d':=.lst ds.dropLast) (o':=.lst xs.dropLast) hi h1 f2 (.inl ⟨_,rfl⟩) (qa (ds:=ds) f2 im f3.dropLast)
  cases d with
  |int m=>
   cases y with
   |int n=>
    refine⟨.ref a,h1,.inl ⟨rfl,xs,SqL.of f2⟩,a,xs,u,rfl,rfl,f2,by rw[<-f3.length];exact f4,?_⟩
    refine⟨_,_,g1.rv0,e5,fun w H1 r1=>?_⟩
    rw[ah f5,ah r1.rep]
    have k1:=k.from (g2.trans (Fr'.same (σ:=σ) r1.same))
    refine⟨rfl,_,rfl,?_⟩
    dsimp only at ev
    by_cases hmn:m=n
    ·rw[if_pos (by simpa using hmn)]at ev
     have hd:(!decide (V.int m=V.int n))=false:=by rw[hmn];simp
     rw[hd]
     exact eE ⟨_,o,σD',g1.same r1.same,ev,k1⟩
    ·rw[if_neg (by simpa using hmn)]at ev
     have hd:(!decide (V.int m=V.int n))=true:=by
      have:V.int m≠V.int n:=fun z=>hmn (by injection z)
      simp[this]
     rw[hd]
     exact dX ⟨_,o,σD',g1.same r1.same,ev,k1⟩
   | _=>cases ev
  | _=>cases ev
 | _=>cases ev
end
end RS
namespace L2
open PySem PySem.Spec PyProof.Rows
section
variable{prog:Program}{w:World}{A:Around}{E:Value->Shared->Prop}
theorem yH{x y:Value}{S1:Addr->Shared->Prop}{S2:Addr->Addr->Shared->Prop}{z:Shared}{Q:Value->Shared->Prop}(hx:∀ A:Around,wpAny (model prog w) A (pyIter x) (fun v z1=>∃ it,v=.ref it/\S1 it z1) (fun _ _=>False) z)
 (hy:∀ it z1,S1 it z1->∀ A:Around,wpAny (model prog w) A (pyIter y) (fun v z2=>∃ jt,v=.ref jt/\S2 it jt z2) (fun _ _=>False) z1)
 (k:∀ it jt z2,S2 it jt z2->Q (.ref (((z2.heap.push { cls:=.type "tuple",data:=.seq #[.ref it,.ref jt] }).push { cls:=.type "tuple",data:=.seq #[.none,.none] })).objs.size)
   { z2 with heap:=((z2.heap.push { cls:=.type "tuple",data:=.seq #[.ref it,.ref jt] }).push { cls:=.type "tuple",data:=.seq #[.none,.none] }).push { cls:=.type "zip",data:=.fields #[.none,.bool false,.bool false,.ref z2.heap.objs.size,.ref (z2.heap.push { cls:=.type "tuple",data:=.seq #[.ref it,.ref jt] }).objs.size] } }) :
  wpAny (model prog w) A (call (.type "zip") [x,y]) Q E z:=by
 have body:MeetsIn prog w (Builtin.«zip.__new__» ⟨[.type "zip",x,y],[]⟩) (fun A R s=>s=z/\∀ it jt z2,S2 it jt z2->R (.ok (.ret (.ref (((z2.heap.push { cls:=.type "tuple",data:=.seq #[.ref it,.ref jt] }).push { cls:=.type "tuple",data:=.seq #[.none,.none] })).objs.size)))
   { z2 with heap:=((z2.heap.push { cls:=.type "tuple",data:=.seq #[.ref it,.ref jt] }).push { cls:=.type "tuple",data:=.seq #[.none,.none] }).push { cls:=.type "zip",data:=.fields #[.none,.bool false,.bool false,.ref z2.heap.objs.size,.ref (z2.heap.push { cls:=.type "tuple",data:=.seq #[.ref it,.ref jt] }).objs.size] } }):=by
  rintro A R s ⟨rfl,hR⟩
  have hsub:=sub_zip
  have iter:=hx A.in1
  obtain⟨hp,g,d,tk,os⟩:=s
  wp_walk using mG iter
  rintro _ z1 ⟨it,rfl,h1⟩
  have iter2:=hy it z1 h1 A.in1
  obtain⟨hp1,gg1,dd1,tk1,os1⟩:=z1
  wp_walk using mG iter2
  rintro _ z2 ⟨jt,rfl,h2⟩
  have fin:=hR it jt z2 h2
  obtain⟨hp2,gg2,dd2,tk2,os2⟩:=z2
  wp_walk
  exact fin
 refine callType_newIn F.called_zip (by decide) (F.typeCall_zip_2 _ _) (F.newCall_zip_2 _ _) (fun obj=>F.args_object_init_3 obj _ _) F.entry_zip_new body ⟨rfl,fun it jt z2 h=>?_⟩
 exact⟨⟨_,Heap.get?_push_size _ rfl,rfl⟩,k it jt z2 h⟩
structure gx(z TI TO i1 i2:Addr)(fp1 fp2:List Addr):Prop where
 zTI:TI≠z
 zTO:TO≠z
 TT:TI≠TO
 i1z:i1≠z
 i2z:i2≠z
 Ef:i1≠TO
 DG:i2≠TO
 i12:i1≠i2
 z1:z∉fp1
 z2:z∉fp2
 TO1:TO∉fp1
 TO2:TO∉fp2
 i1f:i1∉fp2
 i2f:i2∉fp1
theorem vQ{z TI TO i1 i2:Addr}{fp1 fp2:List Addr}{n1 n2 k:Nat}{P1 P2:Nat->Value->Prop}{S1 S2:Nat->Heap->Prop}{a b:Value}{s:Shared}{Q:Value->Shared->Prop}(Z:gx z TI TO i1 i2 fp1 fp2)
 (D1:Draws prog w A i1 fp1 n1 P1 S1)(D2:Draws prog w A i2 fp2 n2 P2 S2)(hz:IsZip s.heap z TI TO .none)(hTI:IsPair s.heap TI (.ref i1) (.ref i2))(hTO:IsPair s.heap TO a b)(s1:S1 k s.heap)(s2:S2 k s.heap)(k1:k<n1)(k2:k<n2)
 (hQ:∀ x y g tk,P1 k x->P2 k y->IsZip g z TI TO (rawInt s.heap.objs.size)->IsPair g TO x y->S1 (k+1) g->S2 (k+1) g->IsPair g s.heap.objs.size x y->g.objs.size=s.heap.objs.size+1->(∀ c o,c≠z->c≠TO->c≠i1->c≠i2->s.heap.get? c=some o->g.get? c=some o)->Q (.ref s.heap.objs.size) { s with heap:=g,toks:=tk }) :
  wpAny (model prog w) A (Builtin.«zip.__next__» ⟨[.ref z],[]⟩) (fun fin s'=>∃ v,fin=.done (.ret v)/\Q v s') E s:=by
 obtain⟨hp,g,d,tk,os⟩:=s
 have off:∀ (f:Obj->Obj) b o,b≠z->hp.get? b=some o->(hp.update z f).get? b=some o:=fun f b o hb e=>(Heap.SameBut.update ..).extBut b o hb e
 have st1:∀ f:Obj->Obj,S1 k (hp.update z f):=fun f=>D1.frame k _ _ s1 fun b hb o e=>off f b o (fun q=>Z.z1 (q▸hb)) e
 have st2:∀ f:Obj->Obj,S2 k (hp.update z f):=fun f=>D2.frame k _ _ s2 fun b hb o e=>off f b o (fun q=>Z.z2 (q▸hb)) e
 unfold Builtin.«zip.__next__»
 wp_walk using AutoSeq1.wpAny_loadPart' hz,AutoSeq1.wpAny_loadPart' hTI,wpAny_onRaise,(D1.item k _ _ _ k1 (st1 _))
 intro x h1 t1 px st1' sb1
 have q1:IsPair h1 TO a b:=sb1.extBut _ _ (Ne.symm Z.Ef) (off _ TO _ Z.zTO hTO)
 have z1:IsZip h1 z TI TO .ellipsis:=sb1.extBut _ _ (Ne.symm Z.i1z) (Heap.get?_update_self _ hz rfl)
 have u1:=sb1.1
 have c1:∀ c o,c≠z->c≠i1->hp.get? c=some o->h1.get? c=some o:=fun c o n1 n2 e=>sb1.extBut _ _ n2 (off _ c o n1 e)
 clear sb1 st1 st2
 wp_walk using AutoSeq1.wpAny_loadPart' q1,(wpAny_updateSeq_pair q1)
 intro h2 q2 sb2
 replace q2:IsPair h2 TO x b:=q2
 have z2:IsZip h2 z TI TO .ellipsis:=sb2.extBut _ _ (Ne.symm Z.zTO) z1
 have c2:∀ c o,c≠z->c≠TO->c≠i1->hp.get? c=some o->h2.get? c=some o:=fun c o n1 n2 n3 e=>sb2.extBut _ _ n2 (c1 c o n1 n3 e)
 have e1:S1 (k+1) h2:=D1.frame _ _ _ st1' fun b hb o e=>sb2.extBut _ _ (fun q=>Z.TO1 (q▸hb)) e
 have e2:S2 k h2:=D2.frame _ _ _ s2 fun b hb o e=>c2 b o (fun q=>Z.z2 (q▸hb)) (fun q=>Z.TO2 (q▸hb)) (fun q=>Z.i1f (q▸hb)) e
 have u2:=sb2.1.trans u1
 clear sb2 u1 c1 z1 q1
 wp_walk using wpAny_onRaise,(D2.item k _ _ _ k2 e2)
 intro y h3 t3 py f2 sb3
 have q3:IsPair h3 TO x b:=sb3.extBut _ _ (Ne.symm Z.DG) q2
 have z3:IsZip h3 z TI TO .ellipsis:=sb3.extBut _ _ (Ne.symm Z.i2z) z2
 have f1:S1 (k+1) h3:=D1.frame _ _ _ e1 fun b hb o e=>sb3.extBut _ _ (fun q=>Z.i2f (q▸hb)) e
 have c3:∀ c o,c≠z->c≠TO->c≠i1->c≠i2->hp.get? c=some o->h3.get? c=some o:=fun c o n1 n2 n3 n4 e=>sb3.extBut _ _ n4 (c2 c o n1 n2 n3 e)
 have u3:=sb3.1.trans u2
 clear sb3 u2 c2 z2 q2 e1 e2
 wp_walk using AutoSeq1.wpAny_loadPart' q3,(wpAny_updateSeq_pair q3)
 intro h4 q4 sb4
 replace q4:IsPair h4 TO x y:=q4
 have z4:IsZip h4 z TI TO .ellipsis:=sb4.extBut _ _ (Ne.symm Z.zTO) z3
 have g1:S1 (k+1) h4:=D1.frame _ _ _ f1 fun b hb o e=>sb4.extBut _ _ (fun q=>Z.TO1 (q▸hb)) e
 have g2:S2 (k+1) h4:=D2.frame _ _ _ f2 fun b hb o e=>sb4.extBut _ _ (fun q=>Z.TO2 (q▸hb)) e
 have c4:∀ c o,c≠z->c≠TO->c≠i1->c≠i2->hp.get? c=some o->h4.get? c=some o:=fun c o n1 n2 n3 n4 e=>sb4.extBut _ _ n2 (c3 c o n1 n2 n3 n4 e)
 have u4:=sb4.1.trans u3
 clear sb4 u3 c3 z3 q3 f1 f2
 wp_walk using AutoSeq1.wpAny_loadPart' q4
 have u0:h4.objs.size=hp.objs.size:=u4.trans (Heap.SameBut.update ..).1
 refine⟨_,rfl,?_⟩
 show Q (.ref h4.objs.size) _
 have zp:IsZip (h4.push { cls:=.type "tuple",data:=.seq #[x,y].toList.toArray }) z TI TO .ellipsis:=Heap.get?_push_of_some _ z4
 have zlt:z<h4.objs.size:=Heap.lt_size z4
 have up:∀ (f f':Obj->Obj) c o,c≠z->(h4.push { cls:=.type "tuple",data:=.seq #[x,y].toList.toArray }).get? c=some o->(((h4.push { cls:=.type "tuple",data:=.seq #[x,y].toList.toArray }).update z f).update z f').get? c=some o:=fun f f' c o hc e =>
  (Heap.SameBut.update ..).extBut c o hc ((Heap.SameBut.update ..).extBut c o hc e)
 have goal:=hQ x y (((h4.push { cls:=.type "tuple",data:=.seq #[x,y].toList.toArray }).update z (Obj.mapFields (·.setIfInBounds 0 (rawInt h4.objs.size)))).update z (Obj.mapFields (·.setIfInBounds 1 (.bool false)))) t3 px py ?_ ?_ ?_ ?_ ?_ ?_ ?_
 ·rw[u0]at goal ⊢
  exact goal
 ·rw[<-u0]
  exact Heap.get?_update_self _ (Heap.get?_update_self _ zp rfl) rfl
 ·exact up _ _ _ _ Z.zTO (Heap.get?_push_of_some _ q4)
 ·exact D1.frame _ _ _ g1 fun b hb o e=>up _ _ _ _ (fun q=>Z.z1 (q▸hb)) (Heap.get?_push_of_some _ e)
 ·exact D2.frame _ _ _ g2 fun b hb o e=>up _ _ _ _ (fun q=>Z.z2 (q▸hb)) (Heap.get?_push_of_some _ e)
 ·show IsPair _ hp.objs.size x y
  rw[<-u0]
  exact up _ _ _ _ (Nat.ne_of_gt zlt) (Heap.get?_push_size _ rfl)
 ·refine((Heap.SameBut.update ..).1.trans ((Heap.SameBut.update ..).1.trans ((Heap.size_push ..).trans ?_)))
  show h4.objs.size+1=hp.objs.size+1
  rw[u0]
 ·exact fun c o n1 n2 n3 n4 e=>up _ _ _ _ n1 (Heap.get?_push_of_some _ (c4 c o n1 n2 n3 n4 e))
theorem xZ{z TI TO i1 i2:Addr}{fp1 fp2:List Addr}{n1:Nat}{P1:Nat->Value->Prop}{S1:Nat->Heap->Prop}{a b:Value}{s:Shared}{Q:Fin->Shared->Prop}(Z:gx z TI TO i1 i2 fp1 fp2)
 (D1:Draws prog w A i1 fp1 n1 P1 S1)(hz:IsZip s.heap z TI TO .none)(hTI:IsPair s.heap TI (.ref i1) (.ref i2))(hTO:IsPair s.heap TO a b)(s1:S1 n1 s.heap)
 (hE:∀ g e,(∀ c o,c≠z->c≠i1->s.heap.get? c=some o->g.get? c=some o)->(∃ o,g.get? e=some o/\o.cls=.type "StopIteration")->E (.ref e) { s with heap:=g }) :
  wpAny (model prog w) A (Builtin.«zip.__next__» ⟨[.ref z],[]⟩) Q E s:=by
 obtain⟨hp,g,d,tk,os⟩:=s
 have off:∀ (f:Obj->Obj) b o,b≠z->hp.get? b=some o->(hp.update z f).get? b=some o:=fun f b o hb e=>(Heap.SameBut.update ..).extBut b o hb e
 have st1:∀ f:Obj->Obj,S1 n1 (hp.update z f):=fun f=>D1.frame n1 _ _ s1 fun b hb o e=>off f b o (fun q=>Z.z1 (q▸hb)) e
 unfold Builtin.«zip.__next__»
 wp_walk using AutoSeq1.wpAny_loadPart' hz,AutoSeq1.wpAny_loadPart' hTI,wpAny_onRaise,(D1.done _ _ _ (st1 _))
 rintro h1 e eb ⟨oe,he,hce⟩
 have z1:IsZip h1 z TI TO .ellipsis:=eb _ _ (Ne.symm Z.i1z) (Heap.get?_update_self _ hz rfl)
 have ez:e≠z:=fun q=>by
  rw[q,z1]at he
  have:=Option.some.inj he
  rw[<-this]at hce
  simp at hce
 refine wpAny_setField_rec z1 (by simp) fun h2 _ sb2=>?_
 exact hE h2 e (fun c o n1 n2 q=>sb2.extBut _ _ n1 (eb _ _ n2 (off _ _ _ n1 q))) ⟨oe,sb2.extBut _ _ ez he,hce⟩
end
section
variable{prog:Program}{w:World}{A:Around}{E:Value->Shared->Prop}{z TI TO i1 i2:Addr}{fp1 fp2:List Addr}{n1 n2 k:Nat}{P1 P2:Nat->Value->Prop}{S1 S2:Nat->Heap->Prop}{a b:Value}{s:Shared}
theorem vH{Q:Option Value->Shared->Prop}(Z:gx z TI TO i1 i2 fp1 fp2)(D1:Draws prog w A.in1 i1 fp1 n1 P1 S1)(D2:Draws prog w A.in1 i2 fp2 n2 P2 S2)(hz:IsZip s.heap z TI TO .none)(hTI:IsPair s.heap TI (.ref i1) (.ref i2))(hTO:IsPair s.heap TO a b)(s1:S1 k s.heap)(s2:S2 k s.heap)(k1:k<n1)(k2:k<n2)
 (hQ:∀ x y g tk,P1 k x->P2 k y->IsZip g z TI TO (rawInt s.heap.objs.size)->IsPair g TO x y->S1 (k+1) g->S2 (k+1) g->IsPair g s.heap.objs.size x y->g.objs.size=s.heap.objs.size+1->(∀ c o,c≠z->c≠TO->c≠i1->c≠i2->s.heap.get? c=some o->g.get? c=some o)->Q (some (.ref s.heap.objs.size)) { s with heap:=g,toks:=tk }) :
  wpAny (model prog w) A (pyNext (.ref z)) Q E s:=by
 have hT:s.TypeIs (.ref z) "zip" := ⟨_,hz,rfl⟩
 unfold pyNext
 apply wpAny_bind
 apply wpAny_attempt
 apply wpAny_callSpecial?_slot (name:=Str.ofString "__next__") hT F.slot_zip_next
 refine wpAny_call_entry F.slot_zip_next hT F.entry_zip_next ?_ (F.args_zip_next_1 _)
 refine vQ Z D1 D2 hz hTI hTO s1 s2 k1 k2 fun x y g tk px py q1 q2 q3 q4 q5 q6 q7=>?_
 apply wpAny_pure
 exact hQ x y g tk px py q1 q2 q3 q4 q5 q6 q7
theorem wq{Q:Option Value->Shared->Prop}(Z:gx z TI TO i1 i2 fp1 fp2)(D1:Draws prog w A.in1 i1 fp1 n1 P1 S1)(hz:IsZip s.heap z TI TO .none)(hTI:IsPair s.heap TI (.ref i1) (.ref i2))(hTO:IsPair s.heap TO a b)(s1:S1 n1 s.heap)
 (hQ:∀ g,(∀ c o,c≠z->c≠i1->s.heap.get? c=some o->g.get? c=some o)->Q none { s with heap:=g }):wpAny (model prog w) A (pyNext (.ref z)) Q E s:=by
 have hT:s.TypeIs (.ref z) "zip" := ⟨_,hz,rfl⟩
 unfold pyNext
 apply wpAny_bind
 apply wpAny_attempt
 apply wpAny_callSpecial?_slot (name:=Str.ofString "__next__") hT F.slot_zip_next
 refine wpAny_call_entry F.slot_zip_next hT F.entry_zip_next ?_ (F.args_zip_next_1 _)
 refine xZ Z D1 hz hTI hTO s1 fun g e hk ⟨o,he,hc⟩=>?_
 apply wpAny_bind
 refine wpAny_isInstance (T := "StopIteration") (b:=true) ⟨_,he,hc⟩ isSubtype_stop ?_
 apply wpAny_pure
 exact hQ g hk
end
section
variable{prog:Program}{w:World}{A:Around}{E:Value->Shared->Prop}{s:Shared}
theorem dN.uV(hd:dN A s.heap):A.handled≠some (.ref s.heap.objs.size):=fun q=>by
 rcases hd with z | ⟨x,o,ws,h1,h2,_,_⟩
 ·rw[z]at q
  cases q
 ·rw[h1]at q
  cases q
  exact Nat.lt_irrefl _ (Heap.lt_size h2)
theorem rf{it t:Addr}{i:Nat}{its:Array Value}{Q:Option Value->Shared->Prop}(hd:dN A s.heap)(ni:A.handled≠some (.ref it))(hit:IsTupIter s.heap it t i)(ht:IsTup s.heap t its)(hx:its[i]?=none)
 (k:∀ h',Heap.ExtBut it s.heap h'->Q none { s with heap:=h' }):wpAny (model prog w) A (pyNext (.ref it)) Q E s:=by
 obtain⟨o,ho,hc,hdt⟩:=id hit
 obtain⟨ol,hol,_,nl,hdl⟩:=ht
 unfold pyNext
 apply wpAny_bind
 apply wpAny_attempt
 apply wpAny_callSpecial?_slot (name:=Str.ofString "__next__") hit.typeIs slot_tupleiter_next
 refine wpAny_call_entry slot_tupleiter_next hit.typeIs entry_tupleiter_next ?_ (args_tupleiter_next _)
 have n0:¬ ((Value.ref t == Value.none)=true):=Bool.false_ne_true
 refine show wpAny _ _ (field (.ref it) 0 >>= _) _ _ s from wpAny_bind (wpAny_field ho hdt (x:=.ref t) rfl ?_)
 refine show wpAny _ _ (if(Value.ref t == Value.none)=true then _ else _) _ _ s from ?_
 rw[if_neg n0]
 refine show wpAny _ _ (field (.ref it) 1 >>= _) _ _ s from wpAny_bind (wpAny_field ho hdt (x:=.int i 0) rfl ?_)
 refine show wpAny _ _ (seqItems? (.ref t) >>= _) _ _ s from wpAny_bind (wpAny_seqItems hol hdl ?_)
 simp only[Int.toNat_natCast,hx]
 refine wpAny_bind (wpAny_rule (wpAny_bind (wpAny_setField ho hdt (by simp) ?_)))
 refine show wpAny _ _ (newExc (.type "StopIteration") [] >>= _) _ _ _ from wpAny_bind ?_
 have sb:=Heap.SameBut.update s.heap it (Obj.mapFields (·.setIfInBounds 0 Value.none))
 refine lj (hd.keeps fun b u vs e _ hb=>(sb.2 b fun z=>ni (z▸hb)).trans e) fun h' e kk he=>?_
 apply wpAny_bind
 refine wpAny_isInstance (T := "StopIteration") (b:=true) he isSubtype_stop ?_
 exact wpAny_pure (k h' fun b u hb q=>kk b u ((sb.2 b hb).trans q))
theorem take_all{its:Array Value}:List.take its.size (List.drop 0 its.toList)=its.toList:=by
 rw[List.drop_zero,List.take_of_length_le (by simp)]
theorem su{t:Addr}{its:Array Value}{Q:List Value->Shared->Prop}(hd:dN A s.heap)(ht:IsTup s.heap t its)(k:∀ h',Heap.ExtBut s.heap.objs.size s.heap h'->Q its.toList { s with heap:=h' }):wpAny (model prog w) A (unpackItems (.ref t) its.size none) Q E s:=by
 have hlt:t≠s.heap.objs.size:=Nat.ne_of_lt ht.lt
 have nn:=hd.uV
 unfold unpackItems
 apply wpAny_bind
 unfold notIterableAtAll
 apply wpAny_bind
 refine wpAny_specialOf ht.typeIs slot_tuple_iter.lookup (wpAny_pure ?_)
 simp only[Bool.false_eq_true,if_false]
 apply wpAny_bind
 refine wpAny_holding (iter_tuple ht ?_)
 apply wpAny_bind
 refine wpAny_holding (draw_tuple hlt its.size 0 _ _ ⟨_,Heap.get?_push_size _ rfl,rfl,rfl⟩ (ht.push _) (by omega) fun g hit sb=>?_)
 rw[take_all,if_neg (by simp)]
 apply wpAny_bind
 refine wpAny_holding (rf (hd.keeps fun b o vs e _ hb=>(sb.2 b fun z=>nn (z▸hb)).trans (Heap.get?_push_of_some _ e)) nn hit ((ht.push _).extBut sb.extBut hlt) (by simp) fun g2 eb=>?_)
 simp only[Option.isSome_none,Bool.false_eq_true,if_false]
 exact wpAny_pure (k g2 fun b o hb e=>eb b o hb (sb.extBut b o hb (Heap.get?_push_of_some _ e)))
theorem sg{l:Addr}{its:Array Value}{Q:List Value->Shared->Prop}(hd:dN A s.heap)(hl:s.heap.IsList l its)(k:∀ h',Heap.ExtBut s.heap.objs.size s.heap h'->Q its.toList { s with heap:=h' }):wpAny (model prog w) A (unpackItems (.ref l) its.size none) Q E s:=by
 have hlt:l≠s.heap.objs.size:=let ⟨o,ho,_⟩:=hl;Nat.ne_of_lt (Heap.lt_size ho)
 have nn:=hd.uV
 unfold unpackItems
 apply wpAny_bind
 unfold notIterableAtAll
 apply wpAny_bind
 refine wpAny_specialOf hl.typeIs slot_list_iter.lookup (wpAny_pure ?_)
 simp only[Bool.false_eq_true,if_false]
 apply wpAny_bind
 refine wpAny_holding (wpAny_pyIter_list hl ?_)
 apply wpAny_bind
 refine wpAny_holding (PySem.W.kun_draw hlt its.size 0 _ _ ⟨_,Heap.get?_push_size _ rfl,rfl,rfl⟩ (hl.push _) (by omega) fun g hit sb=>?_)
 rw[take_all,if_neg (by simp)]
 apply wpAny_bind
 refine wpAny_holding (pH (hd.keeps fun b o vs e _ hb=>(sb.2 b fun z=>nn (z▸hb)).trans (Heap.get?_push_of_some _ e)) nn hit ((hl.push _).extBut sb.extBut hlt) (by simp) fun g2 eb=>?_)
 simp only[Option.isSome_none,Bool.false_eq_true,if_false]
 exact wpAny_pure (k g2 fun b o hb e=>eb b o hb (sb.extBut b o hb (Heap.get?_push_of_some _ e)))
theorem vx{it l x:Addr}{ox:Obj}{xs:Array Value}(hh:A.handled=some (.ref x))(hd:ox.data=.fields xs)(h2:xs[2]?=some .none)(nx:x≠it)(hne:l≠it)(its:Array Value) :
  Draws prog w A it [it,l,x] its.size (fun i v=>its[i]?=some v) (fun i h=>(h.IsListIter it l i/\h.IsList l its)/\h.get? x=some ox) where
 live:=fun _ _ st=>let ⟨o,ho,_⟩:=st.1.1;⟨o,ho⟩
 frame:=fun _ _ _ st hk=>⟨⟨st.1.1.at fun o e=>hk it (by simp) o e,st.1.2.at fun o e=>hk l (by simp) o e⟩,hk x (by simp) _ st.2⟩
 item:=fun i s Q E hi st hQ=>wpAny_nextOf_list_item st.1.1 st.1.2 (x:=its[i]) (by simp[hi]) fun h' hit' hs'=>hQ _ h' s.toks (by simp[hi]) ⟨⟨hit',st.1.2.extBut hs'.extBut hne⟩,(hs'.2 x nx).trans st.2⟩ hs'
 done:=fun s Q E st hE=>mn (.inr ⟨x,ox,xs,hh,st.2,hd,h2⟩) (fun q=>by rw[hh]at q;cases q;exact nx rfl) st.1.1 st.1.2 (by simp) hE
theorem uh{it l x:Addr}{ox:Obj}{xs:Array Value}(hh:A.handled=some (.ref x))(hd:ox.data=.fields xs)(h2:xs[2]?=some .none)(nx:x≠it)(hne:l≠it)(its:Array Value) :
  Draws prog w A it [it,l,x] its.size (fun i v=>its[i]?=some v) (fun i h=>(h.IsTupleIter it l i/\h.IsTuple l its)/\h.get? x=some ox) where
 live:=fun _ _ st=>let ⟨o,ho,_⟩:=st.1.1;⟨o,ho⟩
 frame:=fun _ _ _ st hk=>by
  obtain⟨⟨⟨o1,e1,r1⟩,⟨o2,e2,r2⟩⟩,e3⟩:=st
  exact⟨⟨⟨o1,hk it (by simp) _ e1,r1⟩,⟨o2,hk l (by simp) _ e2,r2⟩⟩,hk x (by simp) _ e3⟩
 item:=fun i s Q E hi st k=>mR st.1.1 st.1.2 (x:=its[i]) (by simp[hi]) fun g g1 g2=>k its[i] g s.toks (by simp[hi]) ⟨⟨g1,st.1.2.extBut g2.extBut hne⟩,(g2.2 x nx).trans st.2⟩ g2
 done:=fun s Q E st hE=>qJ (.inr ⟨x,ox,xs,hh,st.2,hd,h2⟩) (fun q=>by rw[hh]at q;cases q;exact nx rfl) st.1.1 st.1.2 (by simp) hE
end
section
variable{X:Cx}{pins:List (Addr × Obj)}{σ:St}{H:Hp}{s:Shared}{pos:Pos}
theorem Inv.hd(I:Inv X pins σ H s):dN X.A s.heap:=by
 rcases I.ok.hd.2 with z | ⟨h,o,u,vs,h1,h2,h3,h4⟩
 ·exact .inl z
 ·exact .inr ⟨h,o,vs,h1,(I.hok _ _ (I.base.cC _ _ _ h2)).1,h3,h4⟩
end
noncomputable def d4(t:Bool)(xs:List V):HO:=if t then .tup xs else .lst xs
noncomputable def gp(t:Bool)(it l:Addr)(i:Nat)(h:Heap):Prop:=if t then h.IsTupleIter it l i else h.IsListIter it l i
theorem gp.obj{t:Bool}{it l:Addr}{i:Nat}{h:Heap}(st:gp t it l i h):∃ o,h.get? it=some o/\∀ v,o.data≠.cell v:=by
 cases t with
 | true=>exact let ⟨o,ho,_,hd⟩:=(show h.IsTupleIter it l i from st);⟨o,ho,fun v q=>by rw[hd]at q;cases q⟩
 | false=>exact let ⟨o,ho,_,hd⟩:=(show h.IsListIter it l i from st);⟨o,ho,fun v q=>by rw[hd]at q;cases q⟩
theorem gp.keep{t:Bool}{it l:Addr}{i:Nat}{h h':Heap}(st:gp t it l i h)(k:∀ o,h.get? it=some o->h'.get? it=some o):gp t it l i h':=by
 cases t with
 | true=>exact let ⟨o,ho,r⟩:=(show h.IsTupleIter it l i from st);⟨o,k o ho,r⟩
 | false=>exact(show h.IsListIter it l i from st).at fun o q=>k o q
theorem fZ{X:Cx}{t:Bool}{it l:Addr}{pins:List (Addr × Obj)}{s:Shared}{σ:St}{H:Hp}{xs:List V}(I:Inv X pins σ H s)(hi:H it=none)(hx:H l=some (d4 t xs)) :
  ∃ (fp:List Addr) (Pv:Nat->Value->Prop) (St:Nat->Heap->Prop),Draws X.prog X.w X.A.in1 it fp xs.length Pv St/\(∀ b∈fp,b=it\/H b≠none)/\(∀ i,gp t it l i s.heap->St i s.heap)/\(∀ i h,St i h->gp t it l i h)/\∀ i v,Pv i v->∃ x,xs[i]?=some x/\RelV x v:=by
 have back:∀ {its:List Value},Vals xs its->∀ (i:Nat) (v:Value),its.toArray[i]?=some v->∃ x,xs[i]?=some x/\RelV x v:=fun {its} rv i v hv=>by
  have hv:its[i]?=some v:=by simpa using hv
  have hlt:i<xs.length:=by rw[rv.length];exact(List.getElem?_eq_some_iff.mp hv).1
  obtain⟨u,h1,h2⟩:=rv.get (i:=i) (x:=xs[i]) (by simp[hlt])
  rw[hv]at h1
  cases h1
  exact⟨xs[i],by simp[hlt],h2⟩
 have two:∀ {u:HO},H l=some u->∀ b∈[it,l],b=it\/H b≠none:=fun {u} e b hb=>by
  rcases List.mem_cons.mp hb with z | z
  ·exact .inl z
  ·rw[List.mem_singleton.mp z,e]
   exact .inr fun z=>nomatch z
 rcases I.ok.hd.2 with hh | ⟨x,ox,ux,ws,hh,g1,g2,g3⟩
 ·cases t with
  |true=>
   have hx:H l=some (.tup xs):=hx
   obtain⟨its,rv,p,hz⟩:=I.tuple (SqT.of hx)
   have D:=nk.draws (prog:=X.prog) (w:=X.w) (A:=X.A.in1) hh it l (aG hx hi) its.toArray
   rw[show its.toArray.size=xs.length by rw[List.size_toArray,rv.length]]at D
   exact⟨_,_,_,D,two hx,fun i st=>⟨st,p⟩,fun i h st=>st.1,back rv⟩
  |false=>
   have hx:H l=some (.lst xs):=hx
   obtain⟨its,rv,p,hz⟩:=I.list (SqL.of hx)
   have D:=Draws.list (prog:=X.prog) (w:=X.w) (A:=X.A.in1) hh it l (aG hx hi) its.toArray
   rw[show its.toArray.size=xs.length by rw[List.size_toArray,rv.length]]at D
   exact⟨_,_,_,D,two hx,fun i st=>⟨st,p.isList⟩,fun i h st=>st.1,back rv⟩
 ·have hxx:=I.base.cC _ _ _ g1
  have hxo:s.heap.get? x=some ox:=(I.hok _ _ hxx).1
  have nx:x≠it:=aG hxx hi
  have three:∀ {u:HO},H l=some u->∀ b∈[it,l,x],b=it\/H b≠none:=fun {u} e b hb=>by
   simp only[List.mem_cons,List.mem_nil_iff,or_false]at hb
   rcases hb with z | z | z
   ·exact .inl z
   ·rw[z,e]
    exact .inr fun z=>nomatch z
   ·rw[z,hxx]
    exact .inr fun z=>nomatch z
  cases t with
  |true=>
   have hx:H l=some (.tup xs):=hx
   obtain⟨its,rv,p,hz⟩:=I.tuple (SqT.of hx)
   have D:=uh (prog:=X.prog) (w:=X.w) (A:=X.A.in1) hh g2 g3 nx (aG hx hi) its.toArray
   rw[show its.toArray.size=xs.length by rw[List.size_toArray,rv.length]]at D
   exact⟨_,_,_,D,three hx,fun i st=>⟨⟨st,p⟩,hxo⟩,fun i h st=>st.1.1,back rv⟩
  |false=>
   have hx:H l=some (.lst xs):=hx
   obtain⟨its,rv,p,hz⟩:=I.list (SqL.of hx)
   have D:=vx (prog:=X.prog) (w:=X.w) (A:=X.A.in1) hh g2 g3 nx (aG hx hi) its.toArray
   rw[show its.toArray.size=xs.length by rw[List.size_toArray,rv.length]]at D
   exact⟨_,_,_,D,three hx,fun i st=>⟨⟨st,p.isList⟩,hxo⟩,fun i h st=>st.1.1,back rv⟩
noncomputable def Itz(t1 t2:Bool)(l1 l2:Addr):It :=
 ⟨fun i H=>∃ xs ys x y,H l1=some (d4 t1 xs)/\H l2=some (d4 t2 ys)/\xs[i]?=some x/\ys[i]?=some y,
   fun i H v H'=>∃ p x y,H p=none/\v=.ref p/\H'=upd H p (.tup [x,y])/\(∀ xs,H l1=some (d4 t1 xs)->xs[i]?=some x)/\∀ ys,H l2=some (d4 t2 ys)->ys[i]?=some y,
   fun i H=>∃ xs ys,H l1=some (d4 t1 xs)/\H l2=some (d4 t2 ys)/\xs.length=i/\ys.length=i⟩
theorem oU{t:Bool}{xs ys:List V}(h:d4 t xs=d4 t ys):xs=ys:=by
 cases t<;>(injection h)
theorem wU{P:Program}{w:World}{K:PySem.W.Frag}{elts:List Expr}{kx:Nat}{tp:Pos}{t1 t2:Bool}{z TI TO i1 i2 l1 l2:Addr}(n1:TI≠z)(n2:TO≠z)(n3:TI≠TO)(n4:i1≠z)(n5:i2≠z)(n6:i1≠TO)(n7:i2≠TO)(n8:i1≠i2)(n9:i1≠TI)(n10:i2≠TI) :
  k8 (fun _=>True) P w K (.Tuple elts kx tp) (Itz t1 t2 l1 l2) [z,TI,TO,i1,i2] z (fun i h=>IsZip h z TI TO .none/\IsPair h TI (.ref i1) (.ref i2)/\(∃ a b,IsPair h TO a b)/\gp t1 i1 l1 i h/\gp t2 i2 l2 i h) where
 mem:=by simp
 obj:=fun i h st b hb=>by
  obtain⟨h1,h2,⟨a,c,h3⟩,h4,h5⟩:=st
  simp only[List.mem_cons,List.mem_nil_iff,or_false]at hb
  rcases hb with rfl | rfl | rfl | rfl | rfl
  ·exact⟨_,h1,fun v q=>by cases q⟩
  ·exact⟨_,h2,fun v q=>by cases q⟩
  ·exact⟨_,h3,fun v q=>by cases q⟩
  ·exact h4.obj
  ·exact h5.obj
 keep:=fun i h h' st k=>by
  obtain⟨h1,h2,⟨a,c,h3⟩,h4,h5⟩:=st
  exact⟨k z (by simp) _ h1,k TI (by simp) _ h2,⟨a,c,k TO (by simp) _ h3⟩,h4.keep fun o q=>k i1 (by simp) o q,h5.keep fun o q=>k i2 (by simp) o q⟩
 item:=by
  intro X hP hw hK hc i pins s σ H E I hf st hg
  subst hP hw hK
  obtain⟨h1,h2,⟨a,c,h3⟩,h4,h5⟩:=st
  obtain⟨xs,ys,x,y,hx,hy,ex,ey⟩:=hg
  have f:∀ b∈[z,TI,TO,i1,i2],H b=none:=fun b hb=>(hf b hb).1
  obtain⟨fp1,Pv1,St1,D1,m1,a1,a2,a3⟩:=fZ I (f i1 (by simp)) hx
  obtain⟨fp2,Pv2,St2,D2,m2,b1,b2,b3⟩:=fZ I (f i2 (by simp)) hy
  have no:∀ {fp:List Addr} {i b:Addr},(∀ b∈fp,b=i\/H b≠none)->b∈[z,TI,TO,i1,i2]->b≠i->b∉fp:=fun m hb n z=>(m _ z).elim n fun q=>q (f _ hb)
  have Z:gx z TI TO i1 i2 fp1 fp2:=⟨n1,n2,n3,n4,n5,n6,n7,n8,no m1 (by simp) (Ne.symm n4),no m2 (by simp) (Ne.symm n5),no m1 (by simp) (Ne.symm n6),no m2 (by simp) (Ne.symm n7),no m2 (by simp) n8,no m1 (by simp) (Ne.symm n8)⟩
  refine vH Z D1 D2 h1 h2 h3 (a1 i h4) (b1 i h5) (List.getElem?_eq_some_iff.mp ex).1 (List.getElem?_eq_some_iff.mp ey).1 fun u v g tk pu pv g1 g2 g3 g4 g5 g6 g7=>?_
  obtain⟨x',ex',rx⟩:=a3 i u pu
  obtain⟨y',ey',ry⟩:=b3 i v pv
  rw[ex]at ex'
  rw[ey]at ey'
  cases ex'
  cases ey'
  refine⟨.ref s.heap.objs.size,rfl,wpAny_letOwnedTupleGo_zip g1 fun g' gz' sb=>?_⟩
  have hn:H s.heap.objs.size=none:=I.hok.fresh (Nat.le_refl _)
  have I1:Inv X pins σ (upd H s.heap.objs.size (.tup [x,y])) { s with heap:=s.heap.push { cls:=.type "tuple",data:=.seq #[u,v] },toks:=tk } :=
   I.laid (t':=tk) (fun b o q=>Heap.get?_push_of_some _ q) (Nat.le_refl _) ⟨by show 2<=sizeLine;decide,[u,v],.cons rx (.cons ry .nil),⟨_,Heap.get?_push_size _ rfl,rfl,_,rfl⟩⟩
  have lt:∀ b∈[z,TI,TO,i1,i2],b≠s.heap.objs.size:=fun b hb=>by
   have:∃ o,s.heap.get? b=some o:=by
    simp only[List.mem_cons,List.mem_nil_iff,or_false]at hb
    rcases hb with rfl | rfl | rfl | rfl | rfl
    ·exact⟨_,h1⟩
    ·exact⟨_,h2⟩
    ·exact⟨_,h3⟩
    ·exact let ⟨o,q,_⟩:=h4.obj;⟨o,q⟩
    ·exact let ⟨o,q,_⟩:=h5.obj;⟨o,q⟩
   obtain⟨o,q⟩:=this
   exact Nat.ne_of_lt (Heap.lt_size q)
  have stat:∀ b∈[z,TI,TO,i1,i2],upd H s.heap.objs.size (.tup [x,y]) b=none/\(b∈X.ex\/X.s₀.heap.objs.size<=b)/\b≠X.env.locals/\(∀ x c,X.env.cells.lookup x=some c->c≠b)/\∀ p∈X.pn++pins,p.1≠b:=fun b hb=>by
   obtain⟨f0,f1,f2,f3,f4,f5⟩:=hf b hb
   exact⟨by rw[aF (lt b hb)];exact f0,f3,f1,f4,f5⟩
  have I2:Inv X pins σ (upd H s.heap.objs.size (.tup [x,y])) { s with heap:=g',toks:=tk }:=by
   refine Inv.kY (s:={ s with heap:=s.heap.push { cls:=.type "tuple",data:=.seq #[u,v] },toks:=tk }) (h':=g') (t':=tk) (fp:=[z,TI,TO,i1,i2]) I1 (fun b o hb q=>?_) stat
   simp only[List.mem_cons,List.mem_nil_iff,or_false,not_or]at hb
   refine sb.extBut b o hb.1 ?_
   by_cases hbT:b=s.heap.objs.size
   ·subst hbT
    have q':(s.heap.push { cls:=.type "tuple",data:=.seq #[u,v] }).get? s.heap.objs.size=some o:=q
    rw[Heap.get?_push_size _ rfl]at q'
    cases q'
    exact g5
   ·exact g7 b o hb.1 hb.2.2.1 hb.2.2.2.1 hb.2.2.2.2 ((Heap.get?_push_ne _ _ _ hbT).symm.trans q)
  have kp:∀ b∈[TI,TO,i1,i2],∀ o,g.get? b=some o->g'.get? b=some o:=fun b hb o q=>sb.extBut b o (fun e=>by
   subst e
   simp only[List.mem_cons,List.mem_nil_iff,or_false]at hb
   rcases hb with e | e | e | e
   ·exact n1 e.symm
   ·exact n2 e.symm
   ·exact n4 e.symm
   ·exact n5 e.symm) q
  refine⟨.ref s.heap.objs.size,_,I2,rfl,⟨s.heap.objs.size,x,y,hn,rfl,rfl,fun xs' hx'=>?_,fun ys' hy'=>?_⟩,⟨gz',kp TI (by simp) _ (g7 TI _ n1 n3 (Ne.symm n9) (Ne.symm n10) h2),⟨u,v,kp TO (by simp) _ g2⟩,(a2 _ _ g3).keep fun o q=>kp i1 (by simp) o q,(b2 _ _ g4).keep fun o q=>kp i2 (by simp) o q⟩,fun b hb=>(stat b hb).1⟩
  ·rw[hx]at hx'
   rw[<-oU (Option.some.inj hx')]
   exact ex
  ·rw[hy]at hy'
   rw[<-oU (Option.some.inj hy')]
   exact ey
 done:=by
  intro X hP hw hK hc i pins s σ H E I hf st hg
  subst hP hw hK
  obtain⟨h1,h2,⟨a,c,h3⟩,h4,h5⟩:=st
  obtain⟨xs,ys,hx,hy,ex,ey⟩:=hg
  have f:∀ b∈[z,TI,TO,i1,i2],H b=none:=fun b hb=>(hf b hb).1
  obtain⟨fp1,Pv1,St1,D1,m1,a1,a2,a3⟩:=fZ I (f i1 (by simp)) hx
  obtain⟨fp2,_,_,_,m2,_⟩:=fZ I (f i2 (by simp)) hy
  have no:∀ {fp:List Addr} {i b:Addr},(∀ b∈fp,b=i\/H b≠none)->b∈[z,TI,TO,i1,i2]->b≠i->b∉fp:=fun m hb n z=>(m _ z).elim n fun q=>q (f _ hb)
  have Z:gx z TI TO i1 i2 fp1 fp2:=⟨n1,n2,n3,n4,n5,n6,n7,n8,no m1 (by simp) (Ne.symm n4),no m2 (by simp) (Ne.symm n5),no m1 (by simp) (Ne.symm n6),no m2 (by simp) (Ne.symm n7),no m2 (by simp) n8,no m1 (by simp) (Ne.symm n8)⟩
  subst ex
  refine wq Z D1 h1 h2 h3 (a1 _ h4) fun g hk=>⟨rfl,?_⟩
  refine Inv.kY (h':=g) (t':=s.toks) (fp:=[z,i1]) I (fun b o hb q=>?_) fun b hb=>?_
  ·simp only[List.mem_cons,List.mem_nil_iff,or_false,not_or]at hb
   exact hk b o hb.1 hb.2 q
  ·have hb':b∈[z,TI,TO,i1,i2]:=by
    simp only[List.mem_cons,List.mem_nil_iff,or_false]at hb ⊢
    rcases hb with q | q
    ·exact .inl q
    ·exact .inr (.inr (.inr (.inl q)))
   obtain⟨f0,f1,f2,f3,f4,f5⟩:=hf b hb'
   exact⟨f0,f3,f1,f4,f5⟩
 self:=fun A i s Q E st h=>wpAny_pyIter_zip st.1 h
theorem k8.calm{P:Program}{w:World}{K:PySem.W.Frag}{tg:Expr}{J:It}{fp:List Addr}{it:Addr}{tn:Nat->Heap->Prop}(T:k8 (fun _=>True) P w K tg J fp it tn):Turn P w K tg J fp it tn where
 mem:=T.mem
 obj:=T.obj
 keep:=T.keep
 item:=fun X a b c hc i pins s σ H E I=>T.item X a b c trivial i pins s σ H E I
 done:=fun X a b c hc i pins s σ H E I=>T.done X a b c trivial i pins s σ H E I
 self:=T.self
theorem PI'.calm{X:Cx}{tg iter:Expr}{wi:TI}(h:PI' (fun _=>True) X tg iter wi):PI X tg iter wi:=fun pins s σ H R I q =>
 thn (h pins s σ H R I q) fun v s1 h1=>thn h1 fun itv s2 ⟨it,fp,tn,J,H',e,I',T,r⟩=>⟨it,fp,tn,J,H',e,I',T.calm,r⟩
noncomputable def cF(t:Bool)(l:Addr):Obj:=if t then { cls:=.type "tuple_iterator",data:=.fields #[.ref l,rawInt 0] } else { cls:=.type "list_iterator",data:=.fields #[.ref l,.int 0 0] }
theorem nX{t:Bool}{l it:Addr}{h:Heap}(e:h.get? it=some (cF t l)):gp t it l 0 h:=by
 cases t with
 | true=>exact⟨_,e,rfl,rfl⟩
 | false=>exact⟨_,e,rfl,rfl⟩
theorem o7{X:Cx}{pins:List (Addr × Obj)}{s:Shared}{σ:St}{H:Hp}{t:Bool}{l:Addr}{xs:List V}{A:Around}{Q:Value->Shared->Prop}{E:Value->Shared->Prop}(I:Inv X pins σ H s)(hx:H l=some (d4 t xs))(q:Q (.ref s.heap.objs.size) { s with heap:=s.heap.push (cF t l) }):wpAny (model X.prog X.w) A (pyIter (.ref l)) Q E s:=by
 cases t with
 |true=>
  obtain⟨its,rv,p,hz⟩:=I.tuple (SqT.of (show H l=some (.tup xs)from hx))
  exact wpAny_pyIter_tuple p q
 |false=>
  obtain⟨its,rv,p,hz⟩:=I.list (SqL.of (show H l=some (.lst xs)from hx))
  exact wpAny_pyIter_list p.isList q
section
variable{X:Cx}{elts:List Expr}{kx:Nat}{tp p pos:Pos}{a b:Expr}{ta:TA}
noncomputable def DR(ta:TA):TI:=fun σ H R=>ta σ H fun vs H1=>∃ t1 t2 l1 l2 xs ys,vs=[.ref l1,.ref l2]/\H1 l1=some (d4 t1 xs)/\H1 l2=some (d4 t2 ys)/\R (Itz t1 t2 l1 l2) H1
theorem far(n a b:Nat)(h:a≠b):n+a≠n+b:=fun q=>h (Nat.add_left_cancel q)
theorem uc:bootBuiltins "zip" = some (.type "zip"):=by decide +kernel
theorem Bz(hg:Gl X "zip")(hm:X.mg "zip" = none)(ha:PA X [a,b] ta)(hs:starEach [a,b] X.env=[(false,eval a X.env),(false,eval b X.env)])(hs2:starEach [b] X.env=[(false,eval b X.env)]):PI' (fun _=>True) X (.Tuple elts kx tp) (.Call (.Name "zip" p) [a,b] [] pos) (DR ta):=by
 intro pins s0 σ H0 R I0 h
 refine Call_ (fT I0 hg hm uc (PyProof.Rows.callWith_type1 (thn (ha pos pins s0 σ H0 _ I0 h) fun us s ⟨vs,H,I,r1,q1⟩=>?_) (by rw[hs,hs2]) (by rw[hs2];rfl)))
 obtain⟨t1,t2,l1,l2,xs,ys,rfl,hx,hy,q⟩:=q1
 cases r1 with
 |cons r rr=>
  cases rr with
  |cons r2 rr=>
   cases rr
   cases r
   cases r2
   have I1:Inv X pins σ H { s with heap:=s.heap.push (cF t1 l1) }:=I.kept (t':=s.toks) fun b o e=>Heap.get?_push_of_some _ e
   refine yH (S1:=fun it z1=>it=s.heap.objs.size/\z1={ s with heap:=s.heap.push (cF t1 l1) }) (S2:=fun it jt z2=>it=s.heap.objs.size/\jt=(s.heap.push (cF t1 l1)).objs.size/\z2={ s with heap:=(s.heap.push (cF t1 l1)).push (cF t2 l2) })
    (fun A=>o7 I hx ⟨_,rfl,rfl,rfl⟩) (fun it z1 h1 A=>?_) fun it jt z2 h2=>?_
   ·obtain⟨rfl,rfl⟩:=h1
    exact o7 I1 hy ⟨_,rfl,rfl,rfl,rfl⟩
   ·obtain⟨rfl,rfl,rfl⟩:=h2
    have z1:(s.heap.push (cF t1 l1)).objs.size=s.heap.objs.size+1:=Heap.size_push ..
    generalize e1:s.heap.push (cF t1 l1)=g1 at *
    have p1:g1.get? s.heap.objs.size=some (cF t1 l1):=by
     rw[<-e1]
     exact Heap.get?_push_size _ (by cases t1<;>rfl)
    have k1:∀ b o,s.heap.get? b=some o->g1.get? b=some o:=fun b o e=>by rw[<-e1];exact Heap.get?_push_of_some _ e
    have z2:(g1.push (cF t2 l2)).objs.size=s.heap.objs.size+2:=by rw[Heap.size_push,z1]
    have p2:(g1.push (cF t2 l2)).get? (s.heap.objs.size+1)=some (cF t2 l2):=by
     rw[<-z1]
     exact Heap.get?_push_size _ (by cases t2<;>rfl)
    have k2:∀ b o,g1.get? b=some o->(g1.push (cF t2 l2)).get? b=some o:=fun b o e=>Heap.get?_push_of_some _ e
    generalize e2:g1.push (cF t2 l2)=g2 at *
    dsimp only
    rw[z1]
    have z3:(g2.push { cls:=.type "tuple",data:=.seq #[.ref s.heap.objs.size,.ref (s.heap.objs.size+1)] }).objs.size=s.heap.objs.size+3:=by rw[Heap.size_push,z2]
    have p3:(g2.push { cls:=.type "tuple",data:=.seq #[.ref s.heap.objs.size,.ref (s.heap.objs.size+1)] }).get? (s.heap.objs.size+2)=some { cls:=.type "tuple",data:=.seq #[.ref s.heap.objs.size,.ref (s.heap.objs.size+1)] }:=by
     rw[<-z2]
     exact Heap.get?_push_size _ rfl
    have k3:∀ b o,g2.get? b=some o->(g2.push { cls:=.type "tuple",data:=.seq #[.ref s.heap.objs.size,.ref (s.heap.objs.size+1)] }).get? b=some o:=fun b o e=>Heap.get?_push_of_some _ e
    rw[z2]
    generalize e3:g2.push { cls:=.type "tuple",data:=.seq #[.ref s.heap.objs.size,.ref (s.heap.objs.size+1)] }=g3 at *
    rw[z3]
    have z4:(g3.push { cls:=.type "tuple",data:=.seq #[.none,.none] }).objs.size=s.heap.objs.size+4:=by rw[Heap.size_push,z3]
    have p4:(g3.push { cls:=.type "tuple",data:=.seq #[.none,.none] }).get? (s.heap.objs.size+3)=some { cls:=.type "tuple",data:=.seq #[.none,.none] }:=by
     rw[<-z3]
     exact Heap.get?_push_size _ rfl
    have k4:∀ b o,g3.get? b=some o->(g3.push { cls:=.type "tuple",data:=.seq #[.none,.none] }).get? b=some o:=fun b o e=>Heap.get?_push_of_some _ e
    generalize e4:g3.push { cls:=.type "tuple",data:=.seq #[.none,.none] }=g4 at *
    rw[z4]
    have p5:(g4.push { cls:=.type "zip",data:=.fields #[.none,.bool false,.bool false,.ref (s.heap.objs.size+2),.ref (s.heap.objs.size+3)] }).get? (s.heap.objs.size+4)=some { cls:=.type "zip",data:=.fields #[.none,.bool false,.bool false,.ref (s.heap.objs.size+2),.ref (s.heap.objs.size+3)] }:=by
     rw[<-z4]
     exact Heap.get?_push_size _ rfl
    have k5:∀ b o,g4.get? b=some o->(g4.push { cls:=.type "zip",data:=.fields #[.none,.bool false,.bool false,.ref (s.heap.objs.size+2),.ref (s.heap.objs.size+3)] }).get? b=some o:=fun b o e=>Heap.get?_push_of_some _ e
    generalize e5:g4.push { cls:=.type "zip",data:=.fields #[.none,.bool false,.bool false,.ref (s.heap.objs.size+2),.ref (s.heap.objs.size+3)] }=g5 at *
    refine wpAny_pyIter_zip (TI:=s.heap.objs.size+2) (TO:=s.heap.objs.size+3) (f0:=.none) p5 ⟨s.heap.objs.size+4,[s.heap.objs.size+4,s.heap.objs.size+2,s.heap.objs.size+3,s.heap.objs.size,s.heap.objs.size+1],_,Itz t1 t2 l1 l2,H,rfl,I.kept (t':=s.toks) fun b o e=>k5 _ _ (k4 _ _ (k3 _ _ (k2 _ _ (k1 _ _ e)))),wU (far _ 2 4 (by decide)) (far _ 3 4 (by decide)) (far _ 2 3 (by decide)) (far _ 0 4 (by decide)) (far _ 1 4 (by decide)) (far _ 0 3 (by decide)) (far _ 1 3 (by decide)) (far _ 0 1 (by decide)) (far _ 0 2 (by decide)) (far _ 1 2 (by decide)),
     ⟨p5,k5 _ _ (k4 _ _ p3),⟨_,_,k5 _ _ p4⟩,nX (k5 _ _ (k4 _ _ (k3 _ _ (k2 _ _ p1)))),nX (k5 _ _ (k4 _ _ (k3 _ _ p2)))⟩,fun b hb=>?_,q⟩
    have hb':s.heap.objs.size<=b:=by
     simp only[List.mem_cons,List.mem_nil_iff,or_false]at hb
     rcases hb with rfl | rfl | rfl | rfl | rfl<;>first | exact Nat.le_refl _ | exact Nat.le_add_right _ _
    exact I.oq hb' (I.hok.fresh hb')
end
end L2
namespace RS
open PySem PySem.Spec PyProof.Rows L2
theorem gP:∀ (ds es:List RL.D),ds.length=es.length->(RL.dW ds es).length=ds.length
 | [],[],_=>rfl
 | [],_::_,h=>by cases h
 | _::_,[],h=>by cases h
 | d::ds,e::es,h=>by rw[RL.dW,List.length_cons,List.length_cons,gP ds es (by simpa using h)]
theorem oX:∀ (ds es:List RL.D) (i:Nat) (d:RL.D),(RL.dW ds es)[i]?=some d->∃ x y,ds[i]?=some x/\es[i]?=some y/\d=.tup [x,y]
 | [],es,i,d,h=>by cases es<;>simp[RL.dW]at h
 | _::_,[],i,d,h=>by simp[RL.dW]at h
 | x::ds,y::es,0,d,h=>by simp[RL.dW]at h;exact⟨x,y,rfl,rfl,h.symm⟩
 | x::ds,y::es,i+1,d,h=>by
  rw[RL.dW,List.getElem?_cons_succ]at h
  obtain⟨x',y',h1,h2,h3⟩:=oX ds es i d h
  exact⟨x',y',by simpa using h1,by simpa using h2,h3⟩
theorem uw{K:PySem.W.Frag}{H:Hp}{ds es:List RL.D}{xs ys:List V}{P:Addr->Prop}{t1 t2:Bool}{l1 l2:Addr}(hl:ds.length=es.length)(h1:H l1=some (d4 t1 xs))(h2:H l2=some (d4 t2 ys))(n1:¬ P l1)(n2:¬ P l2)(r1:af nP K H ds xs)(r2:af nP K H es ys)(hm:∀ b o,P b->H b=some o->cA o) :
  hU K (Itz t1 t2 l1 l2) (RL.dW ds es) P H where
 go:=fun H' i k hi=>by
  rw[gP ds es hl]at hi
  obtain⟨x,e,_⟩:=r1.get (i:=i) (d:=ds[i]) (by simp[hi])
  obtain⟨y,e',_⟩:=r2.get (i:=i) (d:=es[i]'(by lia)) (by simp)
  exact⟨xs,ys,x,y,k _ _ n1 h1,k _ _ n2 h2,e,e'⟩
 stop:=fun H' k=>⟨xs,ys,k _ _ n1 h1,k _ _ n2 h2,by rw[gP ds es hl,r1.length],by rw[gP ds es hl,hl,r2.length]⟩
 yld:=fun H' i d v H2 k e y=>by
  obtain⟨p,x,w,hp,rfl,rfl,hx,hw⟩:=y
  obtain⟨dx,dw,g1,g2,rfl⟩:=oX ds es i d e
  obtain⟨x',g3,g4⟩:=r1.get g1
  obtain⟨w',g5,g6⟩:=r2.get g2
  rw[hx xs (k _ _ n1 h1)]at g3
  rw[hw ys (k _ _ n2 h2)]at g5
  cases g3
  cases g5
  refine⟨au.c9 hp,fun q=>?_⟩
  have re:Rep nP K H' dx x/\Rep nP K H' dw w:=by
   rcases q with q | q
   ·have q:(dx.imm&&(dw.imm&&true))=true:=q
    rw[Bool.and_true,Bool.and_eq_true]at q
    exact⟨fR hm k g4 q.1,fR hm k g6 q.2⟩
   ·exact⟨g4.same q,g6.same q⟩
  rw[Rep]
  exact⟨p,[x,w],rfl,aW,af.cons (re.1.same (au.c9 hp)) (af.cons (re.2.same (au.c9 hp)) af.nil)⟩
theorem lL{P:Addr->Prop}{K:PySem.W.Frag}{H:Hp}{d:RL.D}{ds:List RL.D}{v:V}(h:RL.items d=some ds)(r:Rep P K H d v):∃ t l xs,v=.ref l/\H l=some (d4 t xs)/\af P K H ds xs/\(t=false->d=.lst ds):=by
 obtain⟨p,xs,rfl,hp,rs⟩:=eG h r
 rcases hp with⟨q,rfl⟩ | ⟨q,rfl⟩
 ·exact⟨false,p,xs,rfl,q,rs,fun _=>rfl⟩
 ·exact⟨true,p,xs,rfl,q,rs,fun z=>by cases z⟩
section rules
variable{X:Cx}{cl:RL.Cl}{elts:List Expr}{kx:Nat}{tp p pos:Pos}{a b:Expr}{a' b':RL.E}
theorem vc(hg:Gl X "zip")(hm:X.mg "zip" = none)(ha:SE X cl a a')(hb:SE X cl b b')(hn:noStar a=true)(hn2:noStar b=true):PI' (fun _=>True) X (.Tuple elts kx tp) (.Call (.Name "zip" p) [a,b] [] pos) (tI X.K cl (.zip a' b')):=by
 intro pins s σ H R I h
 obtain⟨σD,ds,rv,e,k⟩:=h
 rw[RL.bq]at e
 obtain⟨x,ea,e⟩:=bind_some e
 obtain⟨y,eb,e⟩:=bind_some e
 obtain⟨xs,e1,e⟩:=bind_some e
 obtain⟨ys,e2,e⟩:=bind_some e
 split at e
 ·rename_i hl
  cases e
  have hpa:PA X [a,b] (gb (tE X.K cl a') (gb (tE X.K cl b') iL)):=bu ha (bu hb cW (az [] hn2)) (az _ hn)
  refine Bz hg hm hpa (by rw[az _ hn,az _ hn2];rfl) (az [] hn2) pins s σ H R I ?_
  refine⟨σD,x,rv,ea,fun v H1 r1=>⟨σD,y,rv.same r1.same,eb,fun u H2 r2=>?_⟩⟩
  obtain⟨t1,l1,vs,rfl,h1,p1,c1⟩:=lL e1 (r1.rep.same r2.same)
  obtain⟨t2,l2,us,rfl,h2,p2,c2⟩:=lL e2 r2.rep
  refine⟨t1,t2,l1,l2,vs,us,rfl,h1,h2,k _ _ (r1.same.trans r2.same) ⟨uw hl h1 h2 (fun z=>z) (fun z=>z) p1 p2 fI,fun M P z hP av=>?_⟩⟩
  have hP2:=dO (r1.same.trans r2.same) hP
  unfold RL.oj at z
  rw[Bool.and_eq_true]at z
  have notT:∀ (t:Bool) l zs,H2 l=some (d4 t zs)->t=true->¬ P l:=fun t l zs hl ht q=>by
   subst ht
   rcases hP2 l _ q hl with⟨_,q⟩ | ⟨_,q⟩ | ⟨_,q⟩<;>cases q
  refine uw hl h1 h2 ?_ ?_ p1 p2 hP2
  ·cases ht:t1 with
   | true=>exact notT t1 l1 vs h1 ht
   | false=>exact kf r1 z.1 hP av _ _ (c1 ht) rfl
  ·cases ht:t2 with
   | true=>exact notT t2 l2 us h2 ht
   |false=>
    refine kf r2 z.2 (fun b q=>?_) (fun j dj vj hj h3 h4=>(av j dj vj hj h3 h4).same r1.same) _ _ (c2 ht) rfl
    obtain⟨o,ho,hmu⟩:=hP b q
    exact⟨o,r1.same _ _ ho,hmu⟩
 ·cases e
end rules
end RS
namespace L2
open PySem PySem.Spec PyProof.Rows
section
variable{X:Cx}{e:Expr}{te:TE}{pos p2 p3 p4:Pos}{j:Nat}
end
end L2
namespace RS
open PySem PySem.Spec PyProof.Rows L2
section
variable{X:Cx}{cl:RL.Cl}{a b:Expr}{a' b' c':RL.E}{pos p p2:Pos}{M:List Nat}
theorem vV{c:Expr}{body:List Stmt}{b:RL.Ss}(hx:X.xe=fun _ _=>False)(hc:ST X cl c c')(hb:SSs X cl M body b):SS X cl M (.While c body [] pos) (.whil c' b):=by
 refine PS.weak (wM (by rw[hx];exact PassesOwn.never) hc hb) fun D σ H h=>?_
 obtain⟨σD,r,σD',rv,e,k⟩:=h
 rw[RL.evS]at e
 refine⟨fun m σ2 H2=>∃ σD2,RVm X.K M σD2 σ2 H2/\Fr' M σ H σ2 H2/\RL.whF (fun σ=>(RL.ev cl σ c').bind RL.truth) (RL.ag cl M b) m σD2=some (r,σD'),⟨_,σD,rv,Fr'.same (au.refl _),e⟩,?_⟩
 rintro m σ2 H2 ⟨σD2,rv2,fr2,hl⟩
 cases m with
 | zero=>rw[RL.whF]at hl;cases hl
 |succ m=>
  rw[RL.whF]at hl
  obtain⟨t,e1,hl⟩:=bind_some hl
  refine⟨σD2,t,rv2.rv0,e1,fun H3 s3=>?_⟩
  have fr3:=fr2.trans (Fr'.same (M:=M) (σ:=σ2) s3)
  cases t with
  |true=>
   rw[if_pos rfl]at hl
   dsimp only
   rw[if_pos rfl]
   obtain⟨⟨o,σD3⟩,e2,hl⟩:=bind_some hl
   refine⟨fun σ' H'=>∃ m',m'<m+1/\∃ σDx,RVm X.K M σDx σ' H'/\Fr' M σ H σ' H'/\RL.whF (fun σ=>(RL.ev cl σ c').bind RL.truth) (RL.ag cl M b) m' σDx=some (r,σD'),fun _ _ h=>h,σD2,o,σD3,rv2.same s3,e2,?_⟩
   cases o with
   | nx=>exact fun σ' H' rv' fr'=>⟨m,by lia,σD3,rv',fr3.trans fr',hl⟩
   |rt d=>
    cases hl
    exact fun σ' H' v H4 rv' fr' sm rp=>k σ' H' v H4 rv' (fr3.trans fr') sm rp
  |false=>
   rw[if_neg (by decide)]at hl
   dsimp only
   rw[if_neg (by decide)]
   cases hl
   exact k σ2 H3 (rv2.same s3) fr3
end
end RS
namespace L2
open PySem PySem.Spec PyProof.Rows
section
variable{X:Cx}
end
section
variable{X:Cx}{pos:Pos}{a b c g:Expr}{ta tb tc tg:TE}
end
end L2
namespace RS
open PySem PySem.Spec PyProof.Rows L2
section
variable{X:Cx}{cl:RL.Cl}{a b c g:Expr}{a' b' c' g':RL.E}{pos p p2:Pos}{M:List Nat}
end
section
variable{X:Cx}{cl:RL.Cl}{M:List Nat}{st:Stmt}{i:Nat}{k' l' a' b':RL.E}
end
section
variable{X:Cx}{cl:RL.Cl}{a b c:Expr}{a' b' c':RL.E}{pos p:Pos}{M:List Nat}
end
theorem nos{α:Type}{P:Prop}{x:α}(h:(none:Option α)=some x):P:=by cases h
theorem aj{α:Type}{o:Option α}{f:α->Bool}(h:o.any f=true):∃ x,o=some x/\f x=true:=by
 cases o with
 | none=>cases h
 | some x=>exact⟨x,rfl,h⟩
theorem ae{a b:Bool}(h:(a&&b)=true):a=true/\b=true:=by rw[Bool.and_eq_true]at h;exact h
noncomputable def ee:Expr->Option Str
 | .Name x _=>some x
 | _=>none
theorem bU{e:Expr}{x:Str}(h:ee e=some x):∃ p,e=.Name x p:=by
 cases e
 case Name=>cases h;exact⟨_,rfl⟩
 all_goals exact nos h
noncomputable def ly:Expr->Option Const
 | .Constant k _ _=>some k
 | _=>none
theorem gD{e:Expr}{k:Const}(h:ly e=some k):∃ j p,e=.Constant k j p:=by
 cases e
 case Constant=>cases h;exact⟨_,_,rfl⟩
 all_goals exact nos h
noncomputable def Bm:Expr->Option (Expr × Operator × Expr)
 | .BinOp l o r _=>some (l,o,r)
 | _=>none
theorem yW{e:Expr}{l r:Expr}{o:Operator}(h:Bm e=some (l,o,r)):∃ p,e=.BinOp l o r p:=by
 cases e
 case BinOp=>cases h;exact⟨_,rfl⟩
 all_goals exact nos h
noncomputable def vUn:Expr->Option (UnaryOp × Expr)
 | .UnaryOp o x _=>some (o,x)
 | _=>none
theorem oG{e x:Expr}{o:UnaryOp}(h:vUn e=some (o,x)):∃ p,e=.UnaryOp o x p:=by
 cases e
 case UnaryOp=>cases h;exact⟨_,rfl⟩
 all_goals exact nos h
noncomputable def kZ:Expr->Option (Expr × List CmpOp × List Expr)
 | .Compare l o r _=>some (l,o,r)
 | _=>none
theorem gF{e l:Expr}{r:List Expr}{o:List CmpOp}(h:kZ e=some (l,o,r)):∃ p,e=.Compare l o r p:=by
 cases e
 case Compare=>cases h;exact⟨_,rfl⟩
 all_goals exact nos h
noncomputable def vBool:Expr->Option (BoolOp × List Expr × Pos)
 | .BoolOp o es p=>some (o,es,p)
 | _=>none
theorem hX{e:Expr}{es:List Expr}{o:BoolOp}{p:Pos}(h:vBool e=some (o,es,p)):e=.BoolOp o es p:=by
 cases e
 case BoolOp=>cases h;exact rfl
 all_goals exact nos h
noncomputable def zS:Expr->Option (Expr × Expr × Expr)
 | .IfExp c a b _=>some (c,a,b)
 | _=>none
theorem yc{e a b c:Expr}(h:zS e=some (c,a,b)):∃ p,e=.IfExp c a b p:=by
 cases e
 case IfExp=>cases h;exact⟨_,rfl⟩
 all_goals exact nos h
noncomputable def lg:Expr->Option (List Expr)
 | .Tuple es _ _=>some es
 | _=>none
theorem eA{e:Expr}{es:List Expr}(h:lg e=some es):∃ k p,e=.Tuple es k p:=by
 cases e
 case Tuple=>cases h;exact⟨_,_,rfl⟩
 all_goals exact nos h
noncomputable def A2:Expr->Option (List Expr)
 | .List es _=>some es
 | _=>none
theorem yp{e:Expr}{es:List Expr}(h:A2 e=some es):∃ p,e=.List es p:=by
 cases e
 case List=>cases h;exact⟨_,rfl⟩
 all_goals exact nos h
noncomputable def sv:Expr->Option (Expr × Expr)
 | .Subscript a b _=>some (a,b)
 | _=>none
theorem iY{e a b:Expr}(h:sv e=some (a,b)):∃ p,e=.Subscript a b p:=by
 cases e
 case Subscript=>cases h;exact⟨_,rfl⟩
 all_goals exact nos h
noncomputable def vSl:Expr->Option (Option Expr × Option Expr × Option Expr)
 | .Slice a b c _=>some (a,b,c)
 | _=>none
theorem AS{e:Expr}{a b c:Option Expr}(h:vSl e=some (a,b,c)):∃ p,e=.Slice a b c p:=by
 cases e
 case Slice=>cases h;exact⟨_,rfl⟩
 all_goals exact nos h
noncomputable def hV:Expr->Option (Expr × List Expr × List Keyword × Pos)
 | .Call f as ks p=>some (f,as,ks,p)
 | _=>none
theorem dF{e f:Expr}{as:List Expr}{ks:List Keyword}{p:Pos}(h:hV e=some (f,as,ks,p)):e=.Call f as ks p:=by
 cases e
 case Call=>cases h;exact rfl
 all_goals exact nos h
noncomputable def rA:Expr->Option (Expr × Str × Pos)
 | .Attribute o x p=>some (o,x,p)
 | _=>none
theorem oJ{e o:Expr}{x:Str}{p:Pos}(h:rA e=some (o,x,p)):e=.Attribute o x p:=by
 cases e
 case Attribute=>cases h;exact rfl
 all_goals exact nos h
noncomputable def qU:Expr->Option (Expr × List Comprehension × Scope × Pos)
 | .ListComp e gs sc p=>some (e,gs,sc,p)
 | _=>none
theorem nh{e x:Expr}{gs:List Comprehension}{sc:Scope}{p:Pos}(h:qU e=some (x,gs,sc,p)):e=.ListComp x gs sc p:=by
 cases e
 case ListComp=>cases h;exact rfl
 all_goals exact nos h
noncomputable def of1{α:Type}(xs:List α)(f:α->Bool):Bool:=match xs with
 | [a]=>f a
 | _=>false
noncomputable def of2{α:Type}(xs:List α)(f:α->α->Bool):Bool:=match xs with
 | [a,b]=>f a b
 | _=>false
theorem aQ{α:Type}:∀ {xs:List α} {f:α->Bool},of1 xs f=true->∃ a,xs=[a]/\f a=true
 | [a],_,h=>⟨a,rfl,h⟩
theorem eM{α:Type}:∀ {xs:List α} {f:α->α->Bool},of2 xs f=true->∃ a b,xs=[a,b]/\f a b=true
 | [a,b],_,h=>⟨a,b,rfl,h⟩
noncomputable def ofM{α:Type}(xs:List α)(f:α->α->List α->Bool):Bool:=match xs with
 | a::b::r=>f a b r
 | _=>false
theorem jQ{α:Type}:∀ {xs:List α} {f:α->α->List α->Bool},ofM xs f=true->∃ a b r,xs=a::b::r/\f a b r=true
 | a::b::r,_,h=>⟨a,b,r,rfl,h⟩
noncomputable def oW:Stmt->Option (List Expr × Expr)
 | .Assign ts e _=>some (ts,e)
 | _=>none
theorem et{st:Stmt}{ts:List Expr}{e:Expr}(h:oW st=some (ts,e)):∃ p,st=.Assign ts e p:=by
 cases st
 case Assign=>cases h;exact⟨_,rfl⟩
 all_goals exact nos h
noncomputable def vZ:Stmt->Option (Expr × Operator × Expr)
 | .AugAssign t o e _=>some (t,o,e)
 | _=>none
theorem pY{st:Stmt}{t e:Expr}{o:Operator}(h:vZ st=some (t,o,e)):∃ p,st=.AugAssign t o e p:=by
 cases st
 case AugAssign=>cases h;exact⟨_,rfl⟩
 all_goals exact nos h
noncomputable def rV:Stmt->Option Expr
 | .Expr e _=>some e
 | _=>none
theorem ji{st:Stmt}{e:Expr}(h:rV st=some e):∃ p,st=.Expr e p:=by
 cases st
 case Expr=>cases h;exact⟨_,rfl⟩
 all_goals exact nos h
noncomputable def wIf:Stmt->Option (Expr × List Stmt × List Stmt)
 | .If c a b _=>some (c,a,b)
 | _=>none
theorem nB{st:Stmt}{c:Expr}{a b:List Stmt}(h:wIf st=some (c,a,b)):∃ p,st=.If c a b p:=by
 cases st
 case If=>cases h;exact⟨_,rfl⟩
 all_goals exact nos h
noncomputable def Aj:Stmt->Option (Expr × Expr × List Stmt × List Stmt)
 | .For t i b o _=>some (t,i,b,o)
 | _=>none
theorem qm{st:Stmt}{t i:Expr}{b o:List Stmt}(h:Aj st=some (t,i,b,o)):∃ p,st=.For t i b o p:=by
 cases st
 case For=>cases h;exact⟨_,rfl⟩
 all_goals exact nos h
noncomputable def Cf:Stmt->Option (Expr × List Stmt × List Stmt)
 | .While c b o _=>some (c,b,o)
 | _=>none
theorem yK{st:Stmt}{c:Expr}{b o:List Stmt}(h:Cf st=some (c,b,o)):∃ p,st=.While c b o p:=by
 cases st
 case While=>cases h;exact⟨_,rfl⟩
 all_goals exact nos h
noncomputable def zY:Stmt->Option (Option Expr)
 | .Return e _=>some e
 | _=>none
theorem pS{st:Stmt}{e:Option Expr}(h:zY st=some e):∃ p,st=.Return e p:=by
 cases st
 case Return=>cases h;exact⟨_,rfl⟩
 all_goals exact nos h
end RS
namespace L2
open PySem PySem.Spec PyProof.Rows
theorem uX{o:Obj}{f:Array Value->Array Value}:(o.mapFields f).dict=o.dict:=by
 obtain⟨c,d,dt,sl⟩:=o
 cases dt<;>rfl
noncomputable def Exc(P:Addr->Prop)(e:Addr)(C:Addr)(tb:Bool)(h:Heap):Prop :=
 ∃ oe vs,h.get? e=some oe/\(oe.cls=.ref C/\oe.dict=none)/\oe.data=.fields vs/\vs[2]?=some .none/\¬ P e /\
  ((tb=false/\vs[1]?=some .none)\/∃ T oT ts,vs[1]?=some (.ref T)/\T≠e/\h.get? T=some oT/\oT.data=.fields ts/\ts[3]?=some .none/\¬ P T)
structure Off1(P:Addr->Prop)(fs:List Addr)(h h':Heap):Prop where
 sz:h.objs.size<=h'.objs.size
 keep:∀ b o,P b->b∉fs->h.get? b=some o->h'.get? b=some o
 slot:∀ b o,P b->b∈fs->h.get? b=some o->∃ sl,h'.get? b=some { o with slots:=sl }
theorem Off1.trans{P:Addr->Prop}{fs:List Addr}{h h1 h2:Heap}(a:Off1 P fs h h1)(b:Off1 P fs h1 h2):Off1 P fs h h2 where
 sz:=Nat.le_trans a.sz b.sz
 keep:=fun c o p n e=>b.keep c o p n (a.keep c o p n e)
 slot:=fun c o p n e=>by
  obtain⟨sl,e1⟩:=a.slot c o p n e
  obtain⟨sl2,e2⟩:=b.slot c _ p n e1
  exact⟨sl2,e2⟩
theorem Off1.so{P:Addr->Prop}{fs:List Addr}{h:Heap}{a:Addr}(n:¬ P a)(f:Obj->Obj):Off1 P fs h (h.update a f) where
 sz:=by rw[(Heap.SameBut.update ..).1];exact Nat.le_refl _
 keep:=fun b o p _ e=>by rw[Heap.get?_update_other _ _ (show a≠b from fun z=>n (z.symm▸p))];exact e
 slot:=fun b o p _ e=>⟨o.slots,by rw[Heap.get?_update_other _ _ (show a≠b from fun z=>n (z.symm▸p))];exact e⟩
theorem Off1.ext{P:Addr->Prop}{fs:List Addr}{h:Heap}(o:Obj):Off1 P fs h (h.push o) where
 sz:=by rw[Heap.size_push];exact Nat.le_succ _
 keep:=fun b _ _ _ e=>Heap.get?_push_of_some _ e
 slot:=fun b o _ _ e=>⟨o.slots,Heap.get?_push_of_some _ e⟩
theorem Off1.slots{P:Addr->Prop}{fs:List Addr}{h h':Heap}(x:Heap.SlotsOnly fs h h'):Off1 P fs h h' where
 sz:=Nat.le_of_eq x.1.symm
 keep:=fun b o _ n e=>(x.2.1 b n).trans e
 slot:=fun b o _ _ e=>x.2.2 b o e
section
variable{M:Model}{A:Around}{E:Value->Shared->Prop}{s:Shared}{base:Heap}{env:Env}{outer:List Env}{L e C:Addr}{P:Addr->Prop}{Q:Unit->Shared->Prop}
theorem og{oe:Obj}{vs:Array Value}{head:Value}{had:Bool}(hfr:A.frames=some (env::outer))(hl:s.heap.FunFrames base (env::outer))(hf:env.frame=some L)(he:s.heap.get? e=some oe)(hc:oe.cls=.ref C/\oe.dict=none)(hd:oe.data=.fields vs)(h2:vs[2]?=some .none)
 (ne:¬ P e)(hP:∀ b,P b->b<s.heap.objs.size)(k:∀ h',Exc P e C true h'->Off1 P (frs (env::outer)) s.heap h'->Q () { s with heap:=h' }) :
  wpAny M A (do let fr <- frameOf env;let q <- entryPlaceOf L had;let t <- EntryCells.newEntry head fr .none (rawInt L) .none q;setField (.ref e) 1 t) (fun _ s2=>wpAny M A (setFlight (.ref e) none) Q E s2) E s:=by
 have efr:e∉(env::outer).filterMap (·.frame):=fun z=>by
  obtain⟨_,o,ho,hn⟩:=hl.mem z
  rw[he]at ho
  cases ho
  exact hn vs hd
 have z1:1<vs.size:=Nat.lt_trans (by decide) (Array.getElem?_eq_some_iff.mp h2).1
 apply wpAny_bind
 refine wpAny_frameOf_fun hfr hl hf fun g1 sl=>?_
 apply wpAny_bind
 refine wpAny_entryPlaceOf fun q hq=>?_
 unfold EntryCells.newEntry newFields
 apply wpAny_bind
 refine wpAny_newObj_type ?_ (hq.sizeOk5 _ _ _ _ _)
 have e1:g1.get? e=some oe:=(sl.2.1 e efr).trans he
 generalize hto:({ cls:=.type "traceback",dict:=none,data:=.fields ([head,.ref L,.none,rawInt L,.none]++(if q.isEmpty then List.replicate 6 Value.none else q)).toArray }:Obj)=to
 have e2:(g1.push to).get? e=some oe:=Heap.get?_push_of_some _ e1
 have te:g1.objs.size≠e:=Nat.ne_of_gt (Heap.lt_size e1)
 refine wpAny_setField e2 hd z1 ?_
 have d3:=Obj.data_mapFields hd (·.setIfInBounds 1 (Value.ref g1.objs.size))
 have e3:=Heap.get?_update_self (Obj.mapFields (·.setIfInBounds 1 (Value.ref g1.objs.size))) e2 (Obj.isFreed_of_fields d3)
 have tod:to.data=.fields ([head,.ref L,.none,rawInt L,.none]++(if q.isEmpty then List.replicate 6 Value.none else q)).toArray:=by rw[<-hto]
 have t3:=(Heap.get?_update_other (g1.push to) (Obj.mapFields (·.setIfInBounds 1 (Value.ref g1.objs.size))) (Ne.symm te)).trans (Heap.get?_push_size g1 (by rw[<-hto];rfl))
 unfold setFlight
 apply wpAny_bind
 refine wpAny_field e3 d3 (x:=.ref g1.objs.size) (by simp[z1]) ?_
 rw[if_pos (show(Value.ref g1.objs.size != Value.none)=true from by simp)]
 refine wpAny_setField t3 tod (by simp only[List.size_toArray,List.length_append,List.length_cons,List.length_nil]<;>omega) (k _ ?_ ?_)
 ·refine⟨_,_,(Heap.get?_update_other _ _ te).trans e3,⟨(Obj.cls_mapFields _ _).trans hc.1,uX.trans hc.2⟩,d3,by rw[Array.getElem?_setIfInBounds_ne (by decide)];exact h2,ne,.inr ⟨g1.objs.size,_,_,by simp[z1],te,Heap.get?_update_self _ t3 (Obj.isFreed_of_fields (Obj.data_mapFields tod _)),Obj.data_mapFields tod _,?_,fun z=>?_⟩⟩
  ·rw[Array.getElem?_setIfInBounds_self_of_lt (by simp only[List.size_toArray,List.length_append,List.length_cons,List.length_nil]<;>omega)]
   rfl
  ·have:=hP _ z
   rw[sl.1]at this
   exact Nat.lt_irrefl _ this
 ·refine(((Off1.slots sl).trans (Off1.ext _)).trans (Off1.so ne _)).trans (Off1.so (fun z=>?_) _)
  have:=hP _ z
  rw[sl.1]at this
  exact Nat.lt_irrefl _ this
theorem me{tb:Bool}(hfr:A.frames=some (env::outer))(hl:s.heap.FunFrames base (env::outer))(hf:env.frame=some L)(x:Exc P e C tb s.heap)(hP:∀ b,P b->b<s.heap.objs.size)
 (k:∀ h',Exc P e C true h'->Off1 P (frs (env::outer)) s.heap h'->Q () { s with heap:=h' }) :
  wpAny M A (noteFrame (.ref e) env) (fun _ s2=>wpAny M A (setFlight (.ref e) none) Q E s2) E s:=by
 obtain⟨oe,vs,he,hc,hd,h2,ne,x⟩:=x
 unfold noteFrame
 simp only[hf]
 apply wpAny_bind
 rcases x with⟨_,h1⟩ | ⟨T,oT,ts,h1,hTe,hT,hdT,h3,nT⟩
 ·refine wpAny_field he hd h1 ?_
  rw[if_neg (by decide)]
  exact og hfr hl hf he hc hd h2 ne hP k
 ·refine wpAny_field he hd h1 ?_
  rw[if_pos (show(Value.ref T != Value.none)=true from by simp)]
  apply wpAny_bind
  refine wpAny_field hT hdT h3 ?_
  rw[if_neg (show ¬ ((Value.none == rawInt L)=true)from by simp[rawInt])]
  apply wpAny_bind
  refine wpAny_setField hT hdT (Array.getElem?_eq_some_iff.mp h3).1 ?_
  have oth:∀ b,b≠T->(s.heap.update T (Obj.mapFields (·.setIfInBounds 3 Value.none))).get? b=s.heap.get? b:=fun b hb=>Heap.get?_update_other _ _ (Ne.symm hb)
  have up:Off1 P (frs (env::outer)) s.heap (s.heap.update T (Obj.mapFields (·.setIfInBounds 3 Value.none))):=Off1.so nT _
  have hl':(s.heap.update T (Obj.mapFields (·.setIfInBounds 3 Value.none))).FunFrames base (env::outer):=hl.of_keeps fun b o hb hn=>⟨o,(oth b fun z=>by
   rw[z,hT]at hb
   cases hb
   exact hn ts hdT).trans hb,rfl⟩
  exact og (s:={ s with heap:=s.heap.update T (Obj.mapFields (·.setIfInBounds 3 Value.none)) }) hfr hl' hf ((oth e (Ne.symm hTe)).trans he) hc hd h2 ne (fun b hb=>Nat.lt_of_lt_of_le (hP b hb) up.sz) fun h' x' o'=>k h' x' (up.trans o')
theorem t9{tb:Bool}(hfr:A.frames=some (env::outer))(hl:s.heap.FunFrames base (env::outer))(hf:env.frame=some L)(x:Exc P e C tb s.heap)(hP:∀ b,P b->b<s.heap.objs.size)
 (k:∀ h',Exc P e C true h'->Off1 P (frs (env::outer)) s.heap h'->Q () { s with heap:=h' }):wpAny M A (leaving env (.ref e)) Q E s:=by
 unfold leaving
 exact wpAny_bind (me hfr hl hf x hP k)
end
theorem bg.there{P:Program}{w:World}{H:Hp}{h:Heap}{a:Addr}{o:HO}(x:bg P w H h a o):∃ u,h.get? a=some u:=by
 cases o with
 | lst xs=>obtain⟨_,_,_,_,e⟩:=x;exact⟨_,e⟩
 | tup xs=>obtain⟨_,_,_,o,e,_⟩:=x;exact⟨_,e⟩
 | dK kvs=>obtain⟨_,_,_,_,o,_,_,e,_⟩:=x;exact⟨_,e⟩
 | dT kvs=>obtain⟨_,_,_,_,o,_,_,e,_⟩:=x;exact⟨_,e⟩
 | set S n=>obtain⟨o,_,_,_,e,_⟩:=x;exact⟨_,e⟩
 | ins C dx fs=>obtain⟨_,_,_,e,_⟩:=x;exact⟨_,e⟩
 | own y=>exact x
 | xd fs=>obtain⟨_,⟨_,_,_,e,_⟩,_⟩:=x;exact⟨_,e⟩
 | rng lo hi=>obtain⟨_,_,_,e⟩:=x;exact⟨_,e⟩
 | frz ob u=>exact⟨_,x.1⟩
 | tbl ps=>exact⟨_,x⟩
 | met f y=>exact⟨_,x⟩
 | ext φ=>exact x.2.1
noncomputable def eU(h:Heap)(H:Hp)(b:Addr):Prop:=(∃ o,h.get? b=some o)\/H b≠none
theorem Exc.mono{P P':Addr->Prop}{e C:Addr}{tb:Bool}{h:Heap}(x:Exc P e C tb h)(k:∀ b,P' b->P b):Exc P' e C tb h:=by
 obtain⟨oe,vs,h1,h2,h3,h4,h5,h6⟩:=x
 refine⟨oe,vs,h1,h2,h3,h4,fun z=>h5 (k _ z),h6.imp (fun z=>z) fun⟨T,oT,ts,a1,a2,a3,a4,a5,a6⟩=>⟨T,oT,ts,a1,a2,a3,a4,a5,fun z=>a6 (k _ z)⟩⟩
noncomputable def CXE(P:Program)(w:World):CXT:=fun outer H s E e s'=>∃ x C H',e=.ref x/\E (.ref C) none H'/\s'.os=s.os/\AllBare s'.gens/\Un (frs outer) [] H H' s.heap s'.heap/\HOk P w H' s'.heap/\Exc (eU s.heap H') x C true s'.heap
section
variable{X:Cx}{pins:List (Addr × Obj)}{σ:St}{H:Hp}{s:Shared}
theorem Inv.old(I:Inv X pins σ H s)(hex:X.ex=[]){b:Addr}{o:Obj}(e:X.s₀.heap.get? b=some o):∃ o',s.heap.get? b=some o':=I.base.there b o e (by rw[hex];simp)
theorem o8{e C:Addr}{tb:Bool}{EE:XK}{A:Around}{E':Value->Shared->Prop}(I:Inv X pins σ H s)(hst:X.stack=X.env::X.outer)(hfrm:X.env.frame=some X.env.locals)(hex:X.ex=[])(x:Exc (eU X.s₀.heap H) e C tb s.heap)(hE:EE (.ref C) none H)(hA:A.frames=some (X.env::X.outer)) :
  wpAny (model X.prog X.w) A (leaving X.env (.ref e)) (fun _ s2=>CXE X.prog X.w X.outer X.H₀ X.s₀ EE (.ref e) s2) E' s:=by
 have hl:=I.stack
 rw[hst]at hl
 have hfr:∀ b∈frs (X.env::X.outer),H b=none:=by
  have:=I.jg
  rw[hst]at this
  exact this
 have hP:∀ b,eU X.s₀.heap H b->b<s.heap.objs.size:=fun b hb=>by
  rcases hb with⟨o,e⟩ | hb
  ·exact Nat.lt_of_lt_of_le (Heap.lt_size e) I.sz
  ·obtain⟨o,ho⟩:=Option.ne_none_iff_exists'.mp hb
   exact I.hok.lt ho
 refine t9 hA hl hfrm x hP fun h' x' o'=>?_
 have fsE:X.fs=frs X.outer:=rfl
 have mem:∀ b o,X.s₀.heap.get? b=some o->b∉frs X.outer->b∉frs (X.env::X.outer):=fun b o e n z=>by
  unfold frs at z
  rw[List.filterMap_cons,hfrm]at z
  rcases List.mem_cons.mp z with z | z
  ·have h1:=Heap.lt_size e
   have h2:=I.ok.above
   rw[z]at h1
   exact Nat.lt_irrefl _ (Nat.lt_of_lt_of_le h1 h2)
  ·exact n z
 have mem2:∀ b,b∈frs X.outer->b∈frs (X.env::X.outer):=fun b z=>by
  unfold frs
  rw[List.filterMap_cons,hfrm]
  exact List.mem_cons_of_mem _ z
 have nex:∀ b:Addr,b∉X.ex:=fun b=>by rw[hex];simp
 refine⟨e,C,H,rfl,hE,I.os,I.bare,⟨fun b o q n hb _=>?_,fun b o q n hb _=>?_,fun b o q n _=>I.base.free b o q n (nex b),fun b o q _=>?_,I.base.dE,I.base.cC,I.base.dI⟩,fun a o q=>?_,x'⟩
 ·exact o'.keep b o (.inl ⟨o,q⟩) (mem b o q hb) (I.base.keep b o q n hb (nex b))
 ·obtain⟨sl,q2⟩:=I.base.slot b o q n hb (nex b)
  obtain⟨sl2,q3⟩:=o'.slot b _ (.inl ⟨o,q⟩) (mem2 b hb) q2
  exact⟨sl2,q3⟩
 ·obtain⟨o1,q1⟩:=I.base.there b o q (nex b)
  by_cases hb:b∈frs (X.env::X.outer)
  ·obtain⟨sl,q2⟩:=o'.slot b _ (.inl ⟨o,q⟩) hb q1
   exact⟨_,q2⟩
  ·exact⟨_,o'.keep b _ (.inl ⟨o,q⟩) hb q1⟩
 ·refine(I.hok a o q).il (fun b u hb r=>?_) (fun _ z=>z) fun _ _ z=>z
  have hn:H b≠none:=by
   rcases hb with rfl | hb
   ·rw[q];exact fun z=>nomatch z
   ·rw[hb];exact fun z=>nomatch z
  exact o'.keep b u (.inr hn) (fun z=>hn (hfr b z)) r
theorem Inv.refused{E:XK}{e:Value}{s':Shared}(I:Inv X pins σ H s)(hex:X.ex=[])(h:CXE X.prog X.w X.stack H s E e s'):∃ x C H',e=.ref x/\E (.ref C) none H'/\Inv X pins σ H' s'/\Exc (eU X.s₀.heap H') x C true s'.heap/\Exc (eU s.heap H') x C true s'.heap/\Un (frs X.stack) [] H H' s.heap s'.heap:=by
 obtain⟨x,C,H',rfl,hE,os,bare,un,hok,ex⟩:=h
 obtain⟨hh,g,d,t,os'⟩:=s'
 obtain rfl:os'=s.os:=os
 refine⟨x,C,H',rfl,hE,I.call (h':=hh) (g':=g) (d':=d) (t':=t) (ch:=[]) un hok bare (fun b z=>absurd z (by simp)),ex.mono fun b hb=>?_,ex,un⟩
 rcases hb with⟨o,q⟩ | hb
 ·exact .inl (I.old hex q)
 ·exact .inr hb
theorem mQ{h':Heap}{e C:Addr}{vs:List Value}{P:Program}{w:World}{h:Heap}(hok:HOk P w H h)(m:Heap.MadeExcOf h h' e (.ref C) vs):Exc (eU h H) e C false h':=by
 obtain⟨t,he,_,_⟩:=m.there
 refine⟨_,_,he,⟨rfl,rfl⟩,rfl,rfl,fun z=>?_,.inl ⟨rfl,rfl⟩⟩
 have hn:=m.new
 rcases z with⟨o,q⟩ | z
 ·rw[hn]at q
  cases q
 ·obtain⟨o,ho⟩:=Option.ne_none_iff_exists'.mp z
  obtain⟨u,q⟩:=(hok e o ho).there
  rw[hn]at q
  cases q
theorem Inv.newExc{h':Heap}{e C:Addr}{vs:List Value}(I:Inv X pins σ H s)(hex:X.ex=[])(m:Heap.MadeExcOf s.heap h' e (.ref C) vs):Inv X pins σ H { s with heap:=h' }/\Exc (eU X.s₀.heap H) e C false h' :=
 ⟨I.kept (t':=s.toks) m.keeps,(mQ I.hok m).mono fun b hb=>hb.imp (fun⟨o,q⟩=>I.old hex q) fun z=>z⟩
end
open PySem.W
section
variable{prog:Program}{w:World}{A:Around}{E:Value->Shared->Prop}{s:Shared}{K:PySem.W.Frag}{x D:Addr}{ox:Obj}
structure oa(K:PySem.W.Frag)(D:Addr):Prop where
 ga:findIn K (.ref D) "__getattribute__" = some (some (.builtin "BaseException.__getattribute__"))
 gn:findIn K (.ref D) "__getattr__" = some none
 fo:findObj K D none "__class__" = some (.bind (.builtin "getset_descriptor.__get__") (.builtin "object.__class__"))
 mo:mroIn K D (.type "object")=some true
 mb:subIn K (.ref D) (.type "BaseException")=some true
 is:(clsIn K D).isSome=true
theorem Ae{Q:Option Value->Shared->Prop}(F:oa K D)(X:K.In s.heap)(I:InstAt s.heap x ox D none)(h:Q (some (.ref D)) { s with toks:=s.toks+1 }):wpAny (model prog w) A (getAttr? (.ref x) "__class__") Q E s:=by
 have L0:=I.type (M:=model prog w)
 have L1:=looks_findIn (M:=model prog w) X F.ga
 have L2:=looks_findIn (M:=model prog w) X F.gn
 have L3:=looks_find (M:=model prog w) X I F.fo
 have L4:=looks_subIn (M:=model prog w) X F.mb
 have cg:=fun(A:Around) (R:Result->Shared->Prop) (t:Nat)=>class_get (prog:=prog) (w:=w) (A:=A) (R:=R) (tp:=.ref D) (s:={ s with toks:=t }) X I F.mo
 obtain⟨hh,g,d,t,os⟩:=s
 unfold getAttr? getAttrBy? getAttrBy
 refine wpAny_bind (wpAny_mkText (wpAny_bind (wpAny_attempt (wpAny_holding (wpAny_bind (L0.at (wpAny_bind (L1.at ?_))))))))
 have n0:¬ ((onTheHeap (Value.ref D)&&(Value.builtin "BaseException.__getattribute__" == Value.builtin "object.__getattribute__"))=true):=by
  have:(Value.builtin "BaseException.__getattribute__" == Value.builtin "object.__getattribute__")=false:=by decide +kernel
  rw[this,Bool.and_false]
  exact Bool.false_ne_true
 dsimp only
 rw[if_neg n0]
 unfold getAttrByItsOwn hookBefore
 rw[if_pos (show onTheHeap (Value.ref D)=true from rfl)]
 refine wpAny_bind (L2.at ?_)
 unfold callGetattribute boundAndCalled
 rw[if_neg (show ¬ ((false&&onTheHeap (Value.builtin "BaseException.__getattribute__"))=true)from Bool.false_ne_true)]
 refine wpAny_bind (wpAny_attempt (wpAny_holding (wpAny_bind (wpAny_of_eq (PySem.F.attrBase_ValueError.ga.bind (.ref x)) ?_))))
 refine wpAny_call (codeAny_call_builtin PySem.F.attrBase_ValueError.ga.plain PySem.F.entry_bexc_ga ?_)
 have hk:builtinKind "BaseException.__getattribute__" = some .slot:=by decide +kernel
 have hsplit:splitId "BaseException.__getattribute__" = some ("BaseException", "__getattribute__"):=by decide +kernel
 have ha:=PySem.F.args_bexc_ga (.ref x) (.str "__class__" t)
 simp only[checkBuiltinCall,hk,hsplit]
 unfold isInstance
 repeat (any_goals (first | assumption | exact L0 | (with_reducible refine L0.at ?_) | (with_reducible refine L4.at ?_) | (with_reducible refine L3.at ?_) | (with_reducible refine wpAny_bind (L3.at ?_)) | wp_step))
 refine cg _ _ _ ?_
 refine wpAny_pure ?_
 exact wpAny_of_eq (handedOut_of rfl) (wpAny_pure h)
theorem oz(F:oa K D):KitX K (.ref x) (.ref D) (fun h=>InstAt h x ox D none) where
 ty:=fun _ _ _ I=>I.type
 it:=fun M h X _=>by
  have z:=F.is
  unfold clsIn at z
  split at z
  ·rename_i ho
   intro A' Q' E' s' k q
   unfold isType loadHead
   exact wpAny_bind (wpAny_loadPart (k _ _ (X _ _ ho)) (wpAny_pure q))
  ·cases z
 ne:=fun h tp dd its n sl X htp=>by
  refine Bool.eq_false_iff.mpr fun q=>?_
  have e:D=tp:=Value.ref.inj (beq_iff_eq.mp q)
  subst e
  have z:=F.is
  unfold clsIn at z
  split at z
  ·rename_i ho
   cases(X _ _ ho).symm.trans htp
  ·cases z
 ca:=fun X I k=>Ae F X I k
end
section
variable{X:Cx}{pos:Pos}
theorem kL{es:List Expr}{k:Nat}{t:TGs}{n:Nat}(h:PGs X es t)(hn:(assignEach es X.env).length=n)(hst:(assignEach es X.env).findIdx? (·.1)=none):PG X (.Tuple es k pos) (kE X.K n t):=by
 intro pins s σ H v u Q I r hw
 obtain⟨a,xs,e1,hq,hl,hw⟩:=hw
 subst e1
 cases r
 obtain⟨its,rv,ht,hz⟩:=I.tuple hq
 have hsz:(assignEach es X.env).length=its.toArray.size:=by rw[hn,<-hl,rv.length,List.size_toArray]
 rw[PyProof.Rows.assign_Tuple]
 refine wpAny_bind (wpAny_standAt ?_)
 unfold unpack
 rw[hsz,hst]
 refine wpAny_bind (wpAny_holding (su I.hd ht fun h' hx=>?_))
 exact h pins _ σ H xs _ Q (I.kept (t':=s.toks) fun b o e=>hx b o (Nat.ne_of_lt (Heap.lt_size e)) e) (by simpa using rv) hw
theorem l5{es:List Expr}{k:Nat}{t:TGs}{n:Nat}(h:PGs X es t)(hn:(assignEach es X.env).length=n)(hst:(assignEach es X.env).findIdx? (·.1)=none):PG X (.Tuple es k pos) (RS.lb X.K n t):=by
 intro pins s σ H v u Q I r hw
 obtain⟨a,xs,e1,hq,hl,hw⟩:=hw
 subst e1
 cases r
 obtain⟨its,rv,ht,hz⟩:=I.list hq
 have hsz:(assignEach es X.env).length=its.toArray.size:=by rw[hn,<-hl,rv.length,List.size_toArray]
 rw[PyProof.Rows.assign_Tuple]
 refine wpAny_bind (wpAny_standAt ?_)
 unfold unpack
 rw[hsz,hst]
 refine wpAny_bind (wpAny_holding (sg I.hd ht.isList fun h' hx=>?_))
 exact h pins _ σ H xs _ Q (I.kept (t':=s.toks) fun b o e=>hx b o (Nat.ne_of_lt (Heap.lt_size e)) e) (by simpa using rv) hw
end
section
variable{X:Cx}
theorem PA.nox{es:List Expr}{t:TA}(h:PA X.nox es t):PA X es t:=fun pos pins s σ H Q I hw =>
 wpAny_mono (h pos pins s σ H Q (I.dz _) hw) (fun _ _ ⟨v,H',I',r,q⟩=>⟨v,H',I'.cb,r,q⟩) fun _ _ z=>False.elim z
theorem PS.nox{st:Stmt}{t:TS}(h:PS X.nox st t):PS X st t:=fun pins s σ H D I hw =>
 wpAny_mono (h pins s σ H D (I.dz _) hw) (fun _ _ q=>q.cb) fun _ _ z=>False.elim z
theorem PG.nox{tg:Expr}{t:TG}(h:PG X.nox tg t):PG X tg t:=fun pins s σ H v u Q I r hw =>
 wpAny_mono (h pins s σ H v u Q (I.dz _) r hw) (fun _ _ ⟨σ',H',I',q⟩=>⟨σ',H',I'.cb,q⟩) fun _ _ z=>False.elim z
theorem PI.nox{tg iter:Expr}{wi:TI}(h:PI X.nox tg iter wi):PI X tg iter wi:=fun pins s σ H R I hw =>
 wpAny_mono (h pins s σ H R (I.dz _) hw) (fun _ _ h1=>wpAny_mono h1 (fun _ _ ⟨it,fp,tn,J,H',e,I',T,t0,f,r⟩=>⟨it,fp,tn,J,H',e,I'.cb,T,t0,f,r⟩) fun _ _ z=>False.elim z) fun _ _ z=>False.elim z
theorem oS{CX:CXT}{k:Nat}{f:Addr}{fd:FuncData}{ps:List Str}{sp:Sp}{EX:St->XK}{x:Str}{p pos:Pos}{e:Expr}{es:List Expr}{t:TA}(F:d5 X.prog X.w X.K X.mg X.base CX k f fd ps sp)(hr:bV k X.A)(hg:Gl X x)(hm:X.mg x=some (.ref f))(hk:PySem.W.keepIn X.K (.ref f)=true)
 (hb:Binds X.K fd ps [])(hx:∀ pins σ H s e s',Inv X pins σ H s->CX X.stack H s (EX σ) e s'->X.xe e s')(ha:PA X (e::es) t)(hdb:(x == ("__debug__" : Str))=false)(he:starEach (e::es) X.env=(false,eval e X.env)::starEach es X.env)(hpl:(backTo pos (starEach es X.env)).any (·.1)=false) :
  PE X (.Call (.Name x p) (e::es) [] pos) (fun σ H Q=>t σ H fun vs H1=>sp vs H1 Q (EX σ)):=by
 intro pins s σ H Q I h
 refine wpAny_Call_Name_kw (fD I hg hm ?_ hdb)
 refine PySem.W.callWith_K (h₀:=X.base) I.ok.mod.kin hk (thn (ha pos pins s σ H _ I h) fun us s1 ⟨vs,H1,I1,r,q⟩=>⟨I1.kIn,?_⟩) he hpl
 have hl:us.length=ps.length:=by rw[<-r.length];exact F.len _ _ _ _ q
 have hbb:=hb s1 us I1.kIn (by rw[List.append_nil];exact hl)
 rw[List.append_nil]at hbb
 refine wpAny_call (codeAny_mono (F.run X.A X.stack s1 H1 ⟨us,[]⟩ us vs Q (EX σ) hr I1.wJ hbb r q) fun r s' hq=>?_)
 cases r with
 | error e=>exact hx pins σ H1 s1 e s' I1 hq
 |ok fl=>
  cases fl with
  | ret u=>exact I1.after hq
  | next=>exact False.elim hq
  | brk=>exact False.elim hq
  | cont=>exact False.elim hq
end
end L2
namespace RS
open PySem PySem.Spec PyProof.Rows L2
noncomputable def spX(K:PySem.W.Frag)(cl:RL.Cl)(f:Nat):Sp:=fun vs H _ E=>∃ ds x,af nP K H ds vs/\RL.clX cl f ds=some x/\∀ C H',Cls K x C->au H H'->E (.ref C) none H'
noncomputable def tXE(K:PySem.W.Frag)(cl:RL.Cl)(EX:L2.St->XK)(e:RL.E):TE:=fun σ H _=>∃ σD x,RV0 K σD σ H/\RL.evX cl σD e=some x/\∀ C H1,Cls K x C->au H H1->EX σ (.ref C) none H1
noncomputable def tXA(K:PySem.W.Frag)(cl:RL.Cl)(EX:L2.St->XK)(es:RL.Es):TA:=fun σ H _=>∃ σD x,RV0 K σD σ H/\RL.nR cl σD es=some x/\∀ C H1,Cls K x C->au H H1->EX σ (.ref C) none H1
noncomputable def RE(X:Cx)(EX:L2.St->XK)(cl:RL.Cl)(e:Expr)(e':RL.E):Prop:=PE X e (tXE X.K cl EX e')
noncomputable def RA(X:Cx)(EX:L2.St->XK)(cl:RL.Cl)(es:List Expr)(es':RL.Es):Prop:=PA X es (tXA X.K cl EX es')
noncomputable def tXS(K:PySem.W.Frag)(M:List Nat)(EX:L2.St->XK)(r:RL.St->Option (Str × RL.St)):TS:=fun _ σ H=>∃ σD x σD',RVm K M σD σ H/\r σD=some (x,σD')/\∀ σ1 H1 C,Cls K x C->RVm K M σD' σ1 H1->Fr' M σ H σ1 H1->EX σ1 (.ref C) none H1
noncomputable def RZ(X:Cx)(EX:L2.St->XK)(cl:RL.Cl)(M:List Nat)(st:Stmt)(s:RL.S):Prop:=PS X st (tXS X.K M EX (RL.dP cl M s))
noncomputable def RZs(X:Cx)(EX:L2.St->XK)(cl:RL.Cl)(M:List Nat)(st:List Stmt)(s:RL.Ss):Prop:=PSs X st (tXS X.K M EX (RL.bG cl M s))
section
variable{X:Cx}{EX:L2.St->XK}{cl:RL.Cl}{M:List Nat}{st:Stmt}{sts:List Stmt}{e:Expr}{es:List Expr}{e':RL.E}{es':RL.Es}{i:Nat}
theorem aL(h:∀ σD,RL.evX cl σD e'=none):RE X EX cl e e':=fun pins s σ H Q I ⟨σD,x,_,z,_⟩=>by
 rw[h]at z
 cases z
theorem fk{s':RL.S}(h:∀ σD,RL.dP cl M s' σD=none):RZ X EX cl M st s':=fun pins s σ H Q I ⟨σD,x,_,_,z,_⟩=>by
 rw[h]at z
 cases z
theorem zM:RA X EX cl es .nil:=fun pos pins s σ H Q I ⟨σD,x,_,z,_⟩=>by
 rw[RL.nR]at z
 cases z
theorem yZ(he:SE X cl e e')(hx:RE X EX cl e e')(hr:RA X EX cl es es')(hs:starEach (e::es) X.env=(false,eval e X.env)::starEach es X.env):RA X EX cl (e::es) (.cons e' es'):=by
 intro pos pins s σ H Q I h
 obtain⟨σD,x,rv,z,k⟩:=h
 rw[RL.nR]at z
 cases hev:RL.ev cl σD e' with
 |some d=>
  rw[hev]at z
  exact bu he hr hs pos pins s σ H Q I ⟨σD,d,rv,hev,fun v H1 r1=>⟨σD,x,rv.same r1.same,z,fun C H2 hc sm=>k C H2 hc (r1.same.trans sm)⟩⟩
 |none=>
  rw[hev]at z
  exact bu hx hr hs pos pins s σ H Q I ⟨σD,x,rv,z,k⟩
theorem yJ{f:Nat}{x:Str}{p pos:Pos}{k:Nat}{fa:Addr}{fd:FuncData}{ps:List Str}(F:d5 X.prog X.w X.K X.mg X.base (CXE X.prog X.w) k fa fd ps (spX X.K cl f))(hr:bV k X.A)(hg:Gl X x)
 (hm:X.mg x=some (.ref fa))(hk:PySem.W.keepIn X.K (.ref fa)=true)(hb:Binds X.K fd ps [])(hx:∀ pins σ H s e s',Inv X pins σ H s->CXE X.prog X.w X.stack H s (EX σ) e s'->X.xe e s')(he:SEs X cl (e::es) es')(ha:RA X EX cl (e::es) es')(hdb:(x == ("__debug__" : Str))=false)(hn:noStar e=true)(hns:es.all noStar=true) :
  RE X EX cl (.Call (.Name x p) (e::es) [] pos) (.call f es'):=by
 intro pins s σ H Q I h
 obtain⟨σD,y,rv,z,k⟩:=h
 rw[RL.evX]at z
 cases hev:RL.evs cl σD es' with
 |some ds=>
  rw[hev]at z
  exact oS F hr hg hm hk hb hx he hdb (az es hn) (dJ hns) pins s σ H Q I ⟨σD,ds,rv,hev,fun vs H1 s1 r1=>⟨ds,y,r1,z,fun C H2 hc sm=>k C H2 hc (s1.trans sm)⟩⟩
 |none=>
  rw[hev]at z
  exact oS F hr hg hm hk hb hx ha hdb (az es hn) (dJ hns) pins s σ H Q I ⟨σD,y,rv,z,k⟩
theorem m6{s':RL.S}{g:Ends->L2.St->VK}(h:PS X st (fun D σ H=>tXE X.K cl EX e' σ H (g D σ)))(he:∀ σD,RL.dP cl M s' σD=(RL.evX cl σD e').map fun x=>(x,σD)):RZ X EX cl M st s':=by
 refine PS.weak h fun D σ H h=>?_
 obtain⟨σD,x,σD',rv,z,k⟩:=h
 rw[he]at z
 obtain⟨y,z1,z2⟩:=map_some z
 cases z2
 exact⟨σD,x,rv.rv0,z1,fun C H1 hc sm=>k σ H1 C hc (rv.same sm) (Fr'.same sm)⟩
theorem yu:RZs X EX cl M sts .nil:=fun pins s σ H Q I ⟨σD,x,_,_,z,_⟩=>by
 rw[RL.bG]at z
 cases z
theorem wg{s:RL.S}{r:RL.Ss}(h1:SS X cl M st s)(h2:RZ X EX cl M st s)(h3:RZs X EX cl M sts r):RZs X EX cl M (st::sts) (.cons s r):=by
 intro pins sh σ H D I h
 obtain⟨σD,x,σD',rv,z,k⟩:=h
 rw[RL.bG]at z
 cases hev:RL.evS cl M s σD with
 |some p=>
  obtain⟨o,σ1⟩:=p
  rw[hev]at z
  cases o with
  | nx=>exact jK h1 h3 pins sh σ H D I ⟨σD,.nx,σ1,rv,hev,fun σ2 H2 rv2 fr2=>⟨σ1,x,σD',rv2,z,fun σ3 H3 C hc rv3 fr3=>k σ3 H3 C hc rv3 (fr2.trans fr3)⟩⟩
  | rt d=>cases z
 |none=>
  rw[hev]at z
  exact jK h2 h3 pins sh σ H D I ⟨σD,x,σD',rv,z,k⟩
theorem Dc{c:Expr}{a b:List Stmt}{c':RL.E}{a' b':RL.Ss}{pos:Pos}(hc:ST X cl c c')(ha:RZs X EX cl M a a')(hb:RZs X EX cl M b b'):RZ X EX cl M (.If c a b pos) (.ife c' a' b'):=by
 refine PS.weak (rM hc ha hb) fun D σ H h=>?_
 obtain⟨σD,x,σD',rv,z,k⟩:=h
 rw[RL.dP]at z
 obtain⟨t,z1,z2⟩:=bind_some z
 refine⟨σD,t,rv.rv0,z1,fun H1 sm=>?_⟩
 have kk:∀ σ1 H2 C,Cls X.K x C->RVm X.K M σD' σ1 H2->Fr' M σ H1 σ1 H2->EX σ1 (.ref C) none H2:=fun σ1 H2 C hc r f=>k σ1 H2 C hc r ((Fr'.same sm).trans f)
 cases t with
 | true=>exact dX ⟨σD,x,σD',rv.same sm,z2,kk⟩
 | false=>exact eE ⟨σD,x,σD',rv.same sm,z2,kk⟩
end
section
variable{X:Cx}{EX:L2.St->XK}{cl:RL.Cl}{M:List Nat}{tgE iter:Expr}{body:List Stmt}{b:RL.Ss}{it:RL.It}{tg:List Nat}{pos:Pos}
theorem rC{f:RL.St->Option (RL.Out × RL.St)}{fx:RL.St->Option (Str × RL.St)}{d:RL.D}{ds:List RL.D}{σ:RL.St}{p:Str × RL.St}(h:RL.cO f fx tg (d::ds) σ=some p):d.imm=true/\∃ σ1,RL.aT tg d σ=some σ1 /\
  ((∃ σ2,f σ1=some (.nx,σ2)/\RL.cO f fx tg ds σ2=some p)\/fx σ1=some p):=by
 rw[RL.cO]at h
 by_cases him:d.imm=true
 case neg=>rw[if_neg him]at h;cases h
 rw[if_pos him]at h
 obtain⟨σ1,h1,h⟩:=bind_some h
 refine⟨him,σ1,h1,?_⟩
 cases hf:f σ1 with
 | none=>rw[hf]at h;exact .inr h
 |some q=>
  obtain⟨o,σ2⟩:=q
  rw[hf]at h
  cases o with
  | nx=>exact .inl ⟨σ2,rfl,h⟩
  | rt d=>cases h
theorem BZ(hp:PassesOwn (model X.prog X.w) X.A X.env X.xe)(hc:X.calm=true)(hi:SI X cl tgE iter it)(hg:PG X tgE (gT X.K tg))(hb:SSs X cl M body b)(hbx:RZs X EX cl M body b)(hs:∀ x,foldedSetIterable iter X.env x=pure x)(hav:RL.oj M it=true)(hM:∀ i∈tg,M.contains i=false) :
  RZ X EX cl M (.For tgE iter body [] pos) (.forr tg it b):=by
 have both:PSs X body (fun D σ H=>tS X.K M (RL.ag cl M b) D σ H\/tXS X.K M EX (RL.bG cl M b) D σ H):=fun pins s σ H D I h=>h.elim (hb pins s σ H D I) (hbx pins s σ H D I)
 refine PS.weak (sG hp hc hi hg both hs) fun D σ H h=>?_
 obtain⟨σD,x,σD',rv,e,k⟩:=h
 rw[RL.dP]at e
 obtain⟨ds,e1,e2⟩:=bind_some e
 refine⟨σD,ds,rv.rv0,e1,fun J H1 s1 src=>?_⟩
 have ok:hU X.K J ds (aV M σ) H1:=src.2 M (aV M σ) hav rv.sr fun j dj vj hj h1 h2=>by
  obtain⟨v',h3,h4⟩:=rv.val j dj h1
  rw[h2]at h3
  cases h3
  rw[if_neg (by rw[hj];decide)]at h4
  exact h4
 refine⟨fun i m σ2 H2=>∃ σD2,m=ds.length-i/\i<=ds.length/\RVm X.K M σD2 σ2 H2/\Fr' M σ H1 σ2 H2/\RL.cO (RL.ag cl M b) (RL.bG cl M b) tg (ds.drop i) σD2=some (x,σD'),⟨_,σD,rfl,Nat.zero_le _,rv.same s1,Fr'.same (au.refl _),e2⟩,?_⟩
 rintro i m σ2 H2 ⟨σD2,rfl,hi2,rv2,fr2,hl⟩
 have off:Off (aV M σ) H1 H2:=fun b o n e=>(fr2.1 b o e n).1
 by_cases hlt:i<ds.length
 ·refine .inr ⟨ok.go H2 i off hlt,fun σ' H'=>∃ m',m'<ds.length-i/\∃ σD2,m'=ds.length-(i+1)/\i+1<=ds.length/\RVm X.K M σD2 σ' H'/\Fr' M σ H1 σ' H'/\RL.cO (RL.ag cl M b) (RL.bG cl M b) tg (ds.drop (i+1)) σD2=some (x,σD'),fun σ' H' z=>z,fun y H3 yl=>?_⟩
  rw[List.drop_eq_getElem_cons hlt]at hl
  obtain⟨him,σ3,h1,h2⟩:=rC hl
  obtain⟨s3,rp⟩:=ok.yld H2 i ds[i] y H3 off (by simp[hlt]) yl
  obtain⟨dv,vs,q1,q2,q3,q4,q5⟩:=rP h1 (rp (.inl him))
  refine q5 _ _ ?_
  obtain⟨rv3,as3⟩:=(rv2.same s3).bj hM q2 (q4 him) q3
  have fr3:Fr' M σ H1 (c8 tg vs σ2) H3:=⟨fun b o e n=>⟨s3 _ _ (fr2.1 b o e n).1,by rw[as3];exact(fr2.1 b o e n).2⟩,fun j hj=>(jF hM hj).trans (fr2.2 j hj)⟩
  rcases h2 with⟨σ4,h2,h3⟩ | h2
  ·exact .inl ⟨σ3,.nx,σ4,by rw[q1];exact rv3,h2,fun σ' H' rv' fr'=>⟨_,by lia,σ4,rfl,hlt,rv',fr3.trans fr',h3⟩⟩
  ·exact .inr ⟨σ3,x,σD',by rw[q1];exact rv3,h2,fun σ' H' C hc rv' fr'=>k σ' H' C hc rv' (((Fr'.same s1).trans fr3).trans fr')⟩
 ·have e:i=ds.length:=by lia
  subst e
  rw[List.drop_length,RL.cO]at hl
  cases hl
end
end RS
namespace L2
open PySem PySem.Spec PyProof.Rows
open RS (VE)
theorem qP{K:PySem.W.Frag}{h:Heap}{C:Addr}(X:K.In h)(q:PySem.W.excIn K C VE "ValueError.__new__" = true):∃ bm N nm qn bs hdct sn sub ab col dd k0 k1 k2 k3 k5 mN,h.get? C=some (excClassObj nm qn C N bs bm hdct sn sub ab col dd k0 k1 k2 k3 k5 "ValueError.__new__")/\h.Ns N mN/\mN "__init__" = none/\OwnTail h VE bm:=by
 unfold PySem.W.excIn at q
 split at q
 ·rename_i dd cd sl ho
  split at q
  ·rename_i C' bm k0 k1 k2 k3 n k5 hm hs
   simp only[Bool.and_eq_true,beq_iff_eq,Bool.not_eq_true']at q
   obtain⟨⟨⟨⟨⟨rfl,rfl⟩,hdel⟩,ht⟩,hok⟩,hni⟩:=q
   obtain⟨nm,bs,mro,ns,qn,hd,sn,sub,ab,col,del⟩:=cd
   dsimp only at hm hdel hok hni
   subst hm hdel
   obtain⟨l⟩:=sl
   simp only at hs
   subst hs
   exact⟨bm,ns,nm,qn,bs,hd,sn,sub,ab,col,dd,k0,k1,k2,k3,k5,_,X _ _ ho,.of_isNs (PySem.W.isNs_of_in X hok),PySem.W.nsMap_none_of_in X hok hni,PySem.W.tail_of_in X ht⟩
  ·cases q
 ·cases q
section
variable{X:Cx}{x:Str}{C:Addr}{np cpos pos:Pos}{arg:Expr}{ta:TE}{EX:St->XK}
theorem wG(hh:X.A.handled=none)(hg:Gl X x)(hm:X.mg x=some (.ref C))(hdb:(x == ("__debug__" : Str))=false)(q:PySem.W.excIn X.K C VE "ValueError.__new__" = true)(hk:∀ pins σ H s h' e vs,Inv X pins σ H s->Heap.MadeExcOf s.heap h' e (.ref C) vs->EX σ (.ref C) none H->X.xe (.ref e) { s with heap:=h' })
 (ha:PA X [arg] (gb ta iL))(hs:starEach [arg] X.env=[(false,eval arg X.env)]):PS X (.Raise (some (.Call (.Name x np) [arg] [] cpos)) none pos) (fun _ σ H=>ta σ H fun v H1=>[v].length<=sizeLine/\EX σ (.ref C) none H1):=by
 intro pins s σ H D I h
 obtain⟨bm,N,nm,qn,bs,hdct,sn,sub,ab,col,dd,k0,k1,k2,k3,k5,mN,hC,hN,hni,T⟩:=qP I.ok.mod.kin q
 refine wpAny_Raise_call_subT (C:=C) (nm:=nm) (q:=qn) (N:=N) (bs:=bs) (bm:=bm) (hdct:=hdct) (sn:=sn) (sub:=sub) (ab:=ab) (col:=col) (dd:=dd) (k0:=k0) (k1:=k1) (k2:=k2) (k3:=k3) (k5:=k5) PySem.F.excBase_ValueError (mN:=mN) (T.hasType PySem.F.excBase_ValueError.hasBase) hh (by rw[hs];rfl) hni (fD I hg hm ⟨rfl,?_⟩ hdb)
 have ha':=ha cpos pins s σ H (fun vs H1=>vs.length<=sizeLine/\EX σ (.ref C) none H1) I h
 rw[hs]at ha' ⊢
 refine Calls.evalArgs_plain (thn ha' fun us s1 ⟨vs,H1,I1,r,q1⟩=>?_)
 exact⟨rfl,by rw[<-r.length];exact q1.1,I1.bk _ _ hC,hN.keeps I1.bk,T.keeps I1.bk,fun h' e m=>hk pins σ H1 s1 h' e us I1 m q1.2⟩
noncomputable def PJ(X:Cx)(vs:List Expr)(t:TA):Prop:=∀ (pins:List (Addr × Obj)) (s:Shared) (σ:St) (H:Hp) (Q:Hp->Prop) (out:Str),Inv X pins σ H s->t σ H (fun _ H1=>Q H1)->out.length+3000*vs.length<=sizeLine->wpAny (model X.prog X.w) X.A (joinParts out (evalEach vs X.env)) (EP X pins σ fun v H1=>(∃ x,v=.str x)/\Q H1) X.xe s
theorem Ac:PJ X [] iL:=fun pins s σ H Q out I h z=>joinParts_nil (out:=out) ⟨.str out,H,I.tok _,⟨_,rfl⟩,⟨_,rfl⟩,h⟩ (by simpa using z)
theorem xJ{y:Str}{k:Nat}{p:Pos}{vs:List Expr}{t:TA}(h:PJ X vs t)(hy:y.length<=3000):PJ X (.Constant (.str y) k p::vs) t:=fun pins s σ H Q out I q z=>by
 have hz:(out++y).length+3000*vs.length<=sizeLine:=by
  rw[strLen_append]
  rw[List.length_cons]at z
  omega
 refine joinParts_cons (Calls.Constant_str ⟨by omega,?_⟩)
 exact h pins _ σ H Q (out++y) (I.tok _) q hz
noncomputable def uB(te:TE)(t:TA):TA:=fun σ H Q=>te σ H fun v H1=>∃ i,v=.int i/\i.natAbs<2 ^ 1900/\t σ H1 Q
theorem Bp{e:Expr}{p:Pos}{te:TE}{vs:List Expr}{t:TA}(he:PE X e te)(h:PJ X vs t):PJ X (.FormattedValue e (-1) none p::vs) (uB te t):=fun pins s σ H Q out I q z=>by
 refine joinParts_cons (FormattedValue_plain (thn (he pins s σ H _ I q) fun u s1 ⟨v,H1,I1,r1,i,hv,hi,q1⟩=>?_))
 subst hv
 obtain⟨tk,rfl⟩:=r1
 have hl:i.natAbs.log2<1920:=by
  by_cases h0:i.natAbs=0
  ·rw[h0]
   decide
  ·exact Nat.lt_trans ((Nat.log2_lt h0).mpr hi) (by decide)
 have hy:(Str.ofString (toString i)).length<=1921:=by
  rw[PySem.ofString_length]
  exact int_text_length_le (by decide) hl
 have hz:(out++Str.ofString (toString i)).length+3000*vs.length<=sizeLine:=by
  rw[strLen_append]
  rw[List.length_cons]at z
  omega
 refine formatField_int_small hl ⟨?_,?_⟩
 ·exact Nat.le_trans (Nat.le_add_right _ _) hz
 ·exact h pins _ σ H1 Q _ ((I1.tok _).tok _) q1 hz
theorem sZ{v v2:Expr}{vs:List Expr}{t:TA}(h:PJ X (v::v2::vs) t)(hn:vs.length<=100):PE X (.JoinedStr (v::v2::vs) pos) (fun σ H Q=>t σ H fun _ H1=>∀ x,Q (.str x) H1):=by
 intro pins s σ H Q I q
 refine JoinedStr_many (thn (h pins s σ H (fun H1=>∀ x,Q (.str x) H1) Str.empty I q ?_) fun u s1 ⟨v,H1,I1,r1,⟨x,hv⟩,q1⟩=>⟨v,H1,I1,r1,by rw[hv];exact q1 x⟩)
 rw[List.length_cons,List.length_cons,sizeLine_eq]
 have:Str.empty.length=0:=rfl
 omega
end
section
variable{M:Model}{A:Around}{E:Value->Shared->Prop}{h:Heap}{g:Array GenState}{d:Drawn}{t:Nat}{os:OsState}
theorem vo{e C R:Addr}{oe:Obj}{nm q:Str}{N:Addr}{bs bm:List Value}{hdct:Bool}{sn:List Str}{sub:List Value}{ab:Bool}{col:Option Bool}{dd:Option Addr}{k0 k1 k2 k3 k5:Option Value}{newId:String}{b:Bool}{Q:Bool->Shared->Prop}
 (hR:h.get? R=some (excClassObj nm q R N bs bm hdct sn sub ab col dd k0 k1 k2 k3 k5 newId))(he:h.get? e=some oe)(hc:oe.cls=.ref C)(hb:bm.contains (.type "BaseException")=true)(L:PySem.W.Looks M h (isSubtype (.ref C) (.ref R)) b)(hq:Q b ⟨h,g,d,t,os⟩) :
  wpAny M A (excMatches (.ref e) (.ref R)) Q E ⟨h,g,d,t,os⟩:=by
 have hcB:(Value.ref R::bm).contains (.type "BaseException")=true:=by rw[List.contains_cons,hb,Bool.or_true]
 have f:=tc_notTuple
 unfold excMatches
 repeat (first | (with_reducible refine wpAny_loadPart_at he ?_;rw[hc]) | with_reducible refine wpAny_loadPart_at hR ?_ | (with_reducible refine wpAny_isSubtype_exc hR ?_;rw[hcB]) | (with_reducible refine L.at ?_) | wp_step)
 cases b<;>(wp_walk;exact hq)
end
section
variable{X:Cx}{pins:List (Addr × Obj)}{σ:St}{H:Hp}{s:Shared}
theorem qw{M:Model}{A:Around}{E:Value->Shared->Prop}{i:Nat}{n:Str}{pos:Pos}{Q:Unit->Shared->Prop}(I:Inv X pins σ H s)(hN:X.N.Nodup)(hi:X.N[i]?=some n)(hl:X.env.scope.names.lookup n=some .local)
 (k:∀ s',Inv X pins (σ.set i none) H s'->Q () s'):wpAny M A (do bindName X.env n .none;unbindBehindTheSuite X.env n pos) Q E s:=by
 obtain⟨m,hn,hlk⟩:=id I.loc
 have hcls:(X.env.scope.kind == .class || (X.env.scope.kind == .module&&X.env.locals != X.env.globals))=false:=by rw[I.ok.kind];rfl
 refine wpAny_nameGoes_keeps hl hn hcls fun h' v hn' hs=>k _ ?_
 have up:∀ b o,X.s₀.heap.get? b=some o->b≠X.env.locals:=fun b o e=>Nat.ne_of_lt (Nat.lt_of_lt_of_le (Heap.lt_size e) I.ok.above)
 have cne:=I.cne
 refine⟨I.ok,I.os,I.bare,⟨fun b o e nn hb hx=>(hs.2 b (up b o e)).trans (I.base.keep b o e nn hb hx),fun b o e nn hb hx=>?_,I.base.free,fun b o e hx=>?_,I.base.dE,I.base.cC,I.base.dI⟩,⟨_,hn',fun j y v' e1 e2 e3=>?_⟩,fun y c e=>?_,I.free,I.bZ,fun p hp=>?_,fun a o e=>?_,by simpa using I.len⟩
 ·obtain⟨sl,e1⟩:=I.base.slot b o e nn hb hx
  exact⟨sl,(hs.2 b (up b o e)).trans e1⟩
 ·obtain⟨o',e1⟩:=I.base.there b o e hx
  exact⟨o',(hs.2 b (up b o e)).trans e1⟩
 ·have hj:j≠i:=fun z=>by
   subst z
   rw[List.getElem?_set_self (by rw[I.len];exact(List.getElem?_eq_some_iff.mp hi).1)]at e2
   cases e2
  rw[List.getElem?_set_ne (Ne.symm hj)]at e2
  obtain⟨u,r,lk⟩:=hlk j y v' e1 e2 e3
  refine⟨u,r,?_⟩
  rcases lk with⟨a1,a2⟩ | ⟨a1,c,a2,a3⟩
  ·have hy:y≠n:=fun z=>hj (jB hN e1 (z▸hi))
   exact .inl ⟨a1,by simp[hy,a2]⟩
  ·exact .inr ⟨a1,c,a2,a3.sameBut hs (cne y c a2)⟩
 ·obtain⟨v,q⟩:=I.cell y c e
  exact⟨v,q.sameBut hs (cne y c e)⟩
 ·obtain⟨p1,p2,p3,p4⟩:=I.pin p hp
  exact⟨(hs.2 p.1 p3).trans p1,p2,p3,p4⟩
 ·refine(I.hok a o e).il (fun c w hc q=>(hs.2 c fun z=>?_).trans q) (fun _ z=>z) fun _ _ z=>z
  subst z
  rcases hc with z | z
  ·rw[<-z,I.free]at e
   cases e
  ·rw[I.free]at z
   cases z
abbrev Fz(oe:Obj):HO:=.frz oe (.ext fun _=>True)
abbrev Cx.bB(X:Cx)(e:Addr)(oe:Obj):Cx:={ X with A:=X.A.mark (some (.ref e)),calm:=false,H₀:=upd X.H₀ e (Fz oe) }
theorem lZ{H0 H':Hp}{s0:Shared}{h1 h2:Heap}{g:Array GenState}{dr:Drawn}{tk:Nat}{e:Addr}{oe:Obj}{vs:Array Value}(I0:Inv X pins σ H0 s0)(hst:X.stack=X.env::X.outer)(hex:X.ex=[])(un:Un (frs X.stack) [] H0 H' s0.heap h1)(hok:HOk X.prog X.w H' h1)(bare:AllBare g)
 (o:Off1 (eU s0.heap H') (frs (X.env::X.outer)) h1 h2)(he:h2.get? e=some oe)(hd:oe.data=.fields vs)(hv:vs[2]?=some .none)(ne:¬ eU s0.heap H' e) :
  Inv (X.bB e oe) pins σ (upd H' e (Fz oe)) ⟨h2,g,dr,tk,s0.os⟩:=by
 have hne:H' e=none:=Classical.byContradiction fun z=>ne (.inr z)
 have n0:∀ b u,s0.heap.get? b=some u->b≠e:=fun b u q z=>ne (.inl ⟨u,z▸q⟩)
 have n1:∀ b u,X.s₀.heap.get? b=some u->b≠e:=fun b u q=>let ⟨u',q'⟩:=I0.old hex q;n0 b u' q'
 have off:∀ {b:Addr},b≠e->upd H' e (Fz oe) b=H' b:=fun z=>aF z
 have nfr:∀ b,H' b≠none->b∉frs (X.env::X.outer):=fun b hb z=>by
  rw[<-hst]at z
  obtain⟨_,ob,hob,_⟩:=I0.stack.mem z
  exact hb (un.free b ob hob (I0.jg b z) (by simp))
 have un2:Un (frs X.stack) [] H0 (upd H' e (Fz oe)) s0.heap h2:=by
  refine⟨fun b u q n hb hx=>?_,fun b u q n hb hx=>?_,fun b u q n hx=>by rw[off (n0 b u q)];exact un.free b u q n hx,fun b u q hx=>?_,fun b xs q=>?_,fun b ob u q=>?_,fun b ps q=>?_⟩
  ·exact o.keep b u (.inl ⟨u,q⟩) (by rw[<-hst];exact hb) (un.keep b u q n hb hx)
  ·obtain⟨sl,q1⟩:=un.slot b u q n hb hx
   obtain⟨sl2,q2⟩:=o.slot b _ (.inl ⟨u,q⟩) (by rw[<-hst];exact hb) q1
   exact⟨sl2,q2⟩
  ·obtain⟨u1,q1⟩:=un.there b u q hx
   by_cases hb:b∈frs (X.env::X.outer)
   ·obtain⟨sl,q2⟩:=o.slot b _ (.inl ⟨u,q⟩) hb q1
    exact⟨_,q2⟩
   ·exact⟨_,o.keep b _ (.inl ⟨u,q⟩) hb q1⟩
  ·have:=un.dE b xs q
   rw[off (fun z=>by rw[z,hne]at this;cases this)]
   exact this
  ·have:=un.cC b ob u q
   rw[off (fun z=>by rw[z,hne]at this;cases this)]
   exact this
  ·obtain⟨more,this⟩:=un.dI b ps q
   rw[off (fun z=>by rw[z,hne]at this;cases this)]
   exact⟨more,this⟩
 have hok2:HOk X.prog X.w (upd H' e (Fz oe)) h2:=fun a ob q=>by
  by_cases ha:a=e
  ·subst ha
   rw[aW]at q
   cases q
   exact⟨he,trivial,⟨_,he⟩,fun _ _ _ _=>trivial⟩
  ·rw[off ha]at q
   have up:∀ (b:Addr) (u:HO),H' b=some u->upd H' e (Fz oe) b=some u:=fun b u z=>by rw[off (aG z hne)];exact z
   refine(hok a ob q).il (fun b u hb r=>?_) (fun b z=>up b _ z) fun b xs z=>up b _ z
   have hn:H' b≠none:=by
    rcases hb with rfl | hb
    ·rw[q];exact fun z=>nomatch z
    ·rw[hb];exact fun z=>nomatch z
   exact o.keep b u (.inr hn) (nfr b hn) r
 have J:=I0.call (h':=h2) (g':=g) (d':=dr) (t':=tk) (ch:=[]) un2 hok2 bare (fun b z=>absurd z (by simp))
 have offH:∀ {b:Addr} {u:Obj},X.s₀.heap.get? b=some u->upd X.H₀ e (Fz oe) b=X.H₀ b:=fun q=>aF (n1 _ _ q)
 refine⟨⟨J.ok.mod,J.ok.kind,J.ok.glob,J.ok.blt,J.ok.above,J.ok.inj,J.ok.has,J.ok.cab,⟨fun z=>(nomatch z),.inr ⟨e,oe,_,vs,rfl,aW,hd,hv⟩⟩,J.ok.frames,J.ok.stk,J.ok.exf,fun b ob q=>?_,J.ok.bsz,J.ok.iy,J.ok.gY,J.ok.cV,fun b hb=>?_⟩,J.os,J.bare,⟨fun b u q n=>?_,fun b u q n=>?_,fun b u q n=>?_,J.base.there,fun b xs q=>?_,fun b ob u q=>?_,fun b ps q=>?_⟩,J.loc,J.cell,J.free,J.bZ,J.pin,J.hok,J.len⟩
 ·obtain⟨q1,q2⟩:=J.ok.bs b ob q
  exact⟨q1,(offH q1).trans q2⟩
 ·obtain⟨_,ob,q,_⟩:=J.ok.cV.mem hb
  exact(offH q).trans (J.ok.frf b hb)
 ·exact J.base.keep b u q ((offH q).symm.trans n)
 ·exact J.base.slot b u q ((offH q).symm.trans n)
 ·exact J.base.free b u q ((offH q).symm.trans n)
 ·by_cases hb:b=e
  ·subst hb
   rw[show(X.bB b oe).H₀ b=some (Fz oe)from aW]at q
   cases q
  ·exact J.base.dE b xs ((aF hb).symm.trans q)
 ·by_cases hb:b=e
  ·subst hb
   rw[show(X.bB b oe).H₀ b=some (Fz oe)from aW]at q
   cases q
   exact aW
  ·exact J.base.cC b ob u ((aF hb).symm.trans q)
 ·by_cases hb:b=e
  ·subst hb
   rw[show(X.bB b oe).H₀ b=some (Fz oe)from aW]at q
   cases q
  ·exact J.base.dI b ps ((aF hb).symm.trans q)
theorem ky{e:Addr}{oe:Obj}(J:Inv (X.bB e oe) pins σ H s)(ok:X.Ok)(hn:X.s₀.heap.get? e=none)(h1:∀ xs,X.H₀ e≠some (.tup xs))(h2:∀ o u,X.H₀ e≠some (.frz o u))(h3:∀ ps,X.H₀ e≠some (.tbl ps)):Inv X pins σ H s:=by
 have offH:∀ {b:Addr} {u:Obj},X.s₀.heap.get? b=some u->upd X.H₀ e (Fz oe) b=X.H₀ b:=fun {b u} q=>aF fun z=>by rw[z,hn]at q;cases q
 have up:∀ (b:Addr) (u:HO),b≠e->X.H₀ b=some u->(X.bB e oe).H₀ b=some u:=fun b u hb z=>(aF hb).trans z
 exact⟨ok,J.os,J.bare,⟨fun b u q n=>J.base.keep b u q ((offH q).trans n),fun b u q n=>J.base.slot b u q ((offH q).trans n),fun b u q n=>J.base.free b u q ((offH q).trans n),J.base.there,
  fun b xs q=>J.base.dE b xs (up b _ (fun z=>h1 xs (z▸q)) q),fun b o u q=>J.base.cC b o u (up b _ (fun z=>h2 o u (z▸q)) q),fun b ps q=>J.base.dI b ps (up b _ (fun z=>h3 ps (z▸q)) q)⟩,J.loc,J.cell,J.free,J.bZ,J.pin,J.hok,J.len⟩
end
end L2
namespace RS
open PySem PySem.Spec PyProof.Rows L2
theorem Cls.kin{K:PySem.W.Frag}{x:Str}{C:Addr}(h:Cls K x C):oa K C:=by
 have:=h.ok
 simp only[er,Bool.and_eq_true,beq_iff_eq]at this
 obtain⟨⟨⟨⟨⟨⟨⟨⟨_,a1⟩,a2⟩,a3⟩,a4⟩,a5⟩,a6⟩,_⟩,_⟩:=this
 refine⟨a1,a2,?_,a4,a5,a6⟩
 unfold oH at a3
 split at a3
 ·rename_i a b e
  simp only[Bool.and_eq_true,beq_iff_eq]at a3
  rw[e,a3.1,a3.2]
 ·cases a3
section
variable{X:Cx}{pins:List (Addr × Obj)}{σ:L2.St}
theorem se{H0 H':Hp}{s0 s1:Shared}{e C R:Addr}{tb:Bool}{x c n:Str}{i:Nat}{np hpos:Pos}{b0:Stmt}{bB:List Stmt}{Q:Flow->Shared->Prop}{E:Value->Shared->Prop}(I0:Inv X pins σ H0 s0)(hst:X.stack=X.env::X.outer)(hfrm:X.env.frame=some X.env.locals)(hex:X.ex=[])
 (os:s1.os=s0.os)(bare:AllBare s1.gens)(un:Un (frs X.stack) [] H0 H' s0.heap s1.heap)(hok:HOk X.prog X.w H' s1.heap)(xx:Exc (eU s0.heap H') e C tb s1.heap)(hc:Cls X.K x C)(hR:Cls X.K c R)(hcr:c∈cU)(hsub:RL.c7 x c=true)(hg:Gl X c)(hm:X.mg c=some (.ref R))(hdb:(c == ("__debug__" : Str))=false)
 (hN:X.N.Nodup)(hi:X.N[i]?=some n)(hl:X.env.scope.names.lookup n=some .local)
 (k:∀ oe vs s4,(oe.cls=.ref C/\oe.dict=none)->oe.data=.fields vs->vs[2]?=some .none->H' e=none->X.s₀.heap.get? e=none->(∀ xs,X.H₀ e≠some (.tup xs))->(∀ o u,X.H₀ e≠some (.frz o u))->(∀ ps,X.H₀ e≠some (.tbl ps))->Inv (X.bB e oe) pins (σ.set i (some (.ref e))) (upd H' e (Fz oe)) s4 ->
   wpAny (model X.prog X.w) (X.A.mark (some (.ref e))) (execs (b0::bB) X.env) (fun f s5=>wpAny (model X.prog X.w) X.A (do bindName X.env n .none;unbindBehindTheSuite X.env n hpos) (fun _ s6=>Q f s6) E s5) (fun _ _=>False) s4) :
  wpAny (model X.prog X.w) X.A (noteFrame (.ref e) X.env) (fun _ s2=>wpAny (model X.prog X.w) X.A (setFlight (.ref e) none) (fun _ s3=>wpAny (model X.prog X.w) X.A (handleBy (.ref e) X.env [.ExceptHandler (some (.Name c np)) (some n) (b0::bB) hpos]) Q E s3) E s2) E s1:=by
 have I1:Inv X pins σ H' s1:=I0.r0 (ch:=[]) os un hok bare (fun b z=>absurd z (by simp))
 have hls:=I1.stack
 have hfr:=I1.ok.frames
 rw[hst]at hls hfr
 have hP:∀ b,eU s0.heap H' b->b<s1.heap.objs.size:=fun b hb=>by
  rcases hb with⟨o,q⟩ | hb
  ·obtain⟨o',q'⟩:=un.there b o q (by simp)
   exact Heap.lt_size q'
  ·obtain⟨o,ho⟩:=Option.ne_none_iff_exists'.mp hb
   exact hok.lt ho
 refine me hfr hls hfrm xx hP fun h2 x2 o2=>?_
 obtain⟨oe,vs,he,hcd,hd,hv,ne,xt⟩:=x2
 obtain⟨hp,g,d,tk,os'⟩:=s1
 obtain rfl:os'=s0.os:=os
 have J2:Inv (X.bB e oe) pins σ (upd H' e (Fz oe)) ⟨h2,g,d,tk,s0.os⟩:=lZ I0 hst hex un hok bare o2 he hd hv ne
 refine wpAny_handleBy_cons (codeAny_handlers_test ?_) (by intro q;cases q)
 refine fD J2 hg hm ?_ hdb
 obtain⟨bm,N,nm,qn,bs,hdct,sn,sub,ab,col,dd,k0,k1,k2,k3,k5,mN,g1,g2,g3,T⟩:=qP J2.kIn hR.exc
 have L:=PySem.W.looks_subIn (M:=model X.prog X.w) J2.kIn (hc.ref hcr hR.ns).2
 rw[hsub]at L
 refine vo g1 he hcd.1 (T.hasType PySem.F.excBase_ValueError.hasBase) L ?_
 refine codeAny_handlers_suite_as ?_
 rcases xt with⟨z,_⟩ | ⟨T,oT,ts,h1,hTe,hT,hdT,h3,nT⟩
 ·cases z
 unfold setFlight
 refine wpAny_bind (wpAny_field he hd h1 ?_)
 rw[if_pos (show(Value.ref T != Value.none)=true from by simp)]
 refine wpAny_setField hT hdT (Array.getElem?_eq_some_iff.mp h3).1 ?_
 have he3:(h2.update T (Obj.mapFields (·.setIfInBounds 3 Value.none))).get? e=some oe:=(Heap.get?_update_other _ _ hTe).trans he
 have J3:Inv (X.bB e oe) pins σ (upd H' e (Fz oe)) ⟨h2.update T (Obj.mapFields (·.setIfInBounds 3 Value.none)),g,d,tk,s0.os⟩:=lZ I0 hst hex un hok bare (o2.trans (Off1.so nT _)) he3 hd hv ne
 have hne:H' e=none:=Classical.byContradiction fun z=>ne (.inr z)
 have tup:∀ u,X.H₀ e=some u->(∀ b,X.H₀ b=some u->H' b=some u)->False:=fun u q z=>by
  have:=z e q
  rw[hne]at this
  cases this
 refine h8 (X:=X.bB e oe) (v:=.ref e) J3 hN hi (.inl hl) rfl (fun s4 J4=>?_) (.inr hl)
 refine wpAny_mono (k oe vs s4 hcd hd hv hne ?_ (fun xs q=>?_) (fun o u q=>?_) (fun ps q=>?_) J4) (fun f s5 z=>z) fun _ _ z=>z.elim
 ·cases q:X.s₀.heap.get? e with
  | none=>rfl
  |some u=>
   obtain⟨u',q'⟩:=I0.old hex q
   exact(ne (.inl ⟨u',q'⟩)).elim
 ·have:=un.dE e xs (I0.base.dE e xs q)
  rw[hne]at this
  cases this
 ·have:=un.cC e o u (I0.base.cC e o u q)
  rw[hne]at this
  cases this
 ·obtain⟨m1,q1⟩:=I0.base.dI e ps q
  obtain⟨m2,q2⟩:=un.dI e _ q1
  rw[hne]at q2
  cases q2
end
section
variable{K:PySem.W.Frag}{M:List Nat}{σD:RL.St}{σ:L2.St}{H:Hp}{i:Nat}
theorem aV.unset(hi:M.contains i=false):aV M (σ.set i none)=aV M σ:=by
 funext a
 apply propext
 have hne:∀ {j},M.contains j=true->i≠j:=fun hj z=>by subst z;rw[hi]at hj;cases hj
 constructor
 ·rintro⟨j,hj,e⟩
  rw[List.getElem?_set_ne (hne hj)]at e
  exact⟨j,hj,e⟩
 ·rintro⟨j,hj,e⟩
  exact⟨j,hj,by rw[List.getElem?_set_ne (hne hj)];exact e⟩
theorem gW{α:Type}{l:List (Option α)}{i j:Nat}{v:α}(h:(l.set i none)[j]?=some (some v)):i≠j/\l[j]?=some (some v):=by
 by_cases hj:i=j
 ·subst hj
  rw[List.getElem?_set]at h
  split at h
  ·split at h<;>cases h
  ·exact absurd rfl ‹_›
 ·rw[List.getElem?_set_ne hj]at h
  exact⟨hj,h⟩
theorem RVm.unset(h:RVm K M σD σ H)(hi:M.contains i=false):RVm K M (σD.set i none) (σ.set i none) H where
 len:=by simpa using h.len
 val:=fun j d e=>by
  obtain⟨hj,e⟩:=gW e
  obtain⟨v,e1,e2⟩:=h.val j d e
  exact⟨v,by rw[List.getElem?_set_ne hj];exact e1,by rw[aV.unset hi];exact e2⟩
 non:=fun j v e=>by
  obtain⟨hj,e⟩:=gW e
  obtain⟨d,e1⟩:=h.non j v e
  exact⟨d,by rw[List.getElem?_set_ne hj];exact e1⟩
 sep:=fun j k a hj hk e1 e2=>h.sep j k a hj hk (gW e1).2 (gW e2).2
theorem Fr'.unset(hi:M.contains i=false):Fr' M σ H (σ.set i none) H:=⟨fun b o e n=>⟨e,by rw[aV.unset hi];exact n⟩,fun j hj=>List.getElem?_set_ne fun z=>by subst z;rw[gA hj]at hi;cases hi⟩
end
section
variable{X:Cx}{cl:RL.Cl}{M:List Nat}{body bB:List Stmt}{b0:Stmt}{b h:RL.Ss}{c n:Str}{i:Nat}{R:Addr}{np hpos pos:Pos}
abbrev CxX(X:Cx)(pn:List (Addr × Obj))(E:Value->Shared->Prop):Cx:={ X with pn:=pn,xe:=E }
theorem AM(hx:X.xe=fun _ _=>False)(hst:X.stack=X.env::X.outer)(hfrm:X.env.frame=some X.env.locals)(hex:X.ex=[])(hb:SSs X cl M body b)
 (hbx:∀ (pn:List (Addr × Obj)) (E:Value->Shared->Prop) (EX:L2.St->XK),(∀ pins σ H s e s',Inv (CxX X pn E) pins σ H s->CXE X.prog X.w X.stack H s (EX σ) e s'->E e s')->(∀ pins σ H s h' e C vs,Inv (CxX X pn E) pins σ H s->Heap.MadeExcOf s.heap h' e (.ref C) vs->EX σ (.ref C) none H->E (.ref e) { s with heap:=h' }) ->
   PassesOwn (model X.prog X.w) X.A X.env E->RZs (CxX X pn E) EX cl M body b)
 (hsu:∀ e oe,SSs (X.bB e oe) cl M (b0::bB) h)(hR:Cls X.K c R)(hcr:c∈cU)(hg:Gl X c)(hm:X.mg c=some (.ref R))(hdb:(c == ("__debug__" : Str))=false)(hN:X.N.Nodup)(hi:X.N[i]?=some n)(hl:X.env.scope.names.lookup n=some .local)(hM:M.contains i=false) :
  SS X cl M (.Try body [.ExceptHandler (some (.Name c np)) (some n) (b0::bB) hpos] [] [] pos) (.tryc b c i h):=by
 intro pins s σ H D I hh
 obtain⟨σD,r,σD',rv,ev,post⟩:=hh
 rw[RL.evS]at ev
 refine wpAny_Try_except ?_
 cases hev:RL.ag cl M b σD with
 |some p=>
  rw[hev]at ev
  cases ev
  refine wpAny_mono (hb pins s σ H D I ⟨σD,r,σD',rv,hev,post⟩) (fun f s1 q=>?_) fun e s1 z=>by rw[hx]at z;exact z.elim
  cases f with
  | next=>exact wpAny_execs_nil q
  | ret u=>exact q
  | brk=>exact q
  | cont=>exact q
 |none=>
  rw[hev]at ev
  obtain⟨⟨x,σD1⟩,hev2,ev⟩:=bind_some ev
  by_cases hs:RL.c7 x c=true
  case neg=>rw[if_neg hs]at ev;cases ev
  rw[if_pos hs]at ev
  obtain⟨⟨rr,σ5⟩,hev3,ev⟩:=map_some ev
  cases ev
  dsimp only at hev3 post
  generalize hE:(fun(e:Value) (s₁:Shared)=>wpAny (model X.prog X.w) X.A (noteFrame e X.env) (fun _ s₂=>wpAny (model X.prog X.w) X.A (setFlight e none) (fun _ s₃=>wpAny (model X.prog X.w) X.A (handleBy e X.env [.ExceptHandler (some (.Name c np)) (some n) (b0::bB) hpos]) (SP X pins D) X.xe s₃) X.xe s₂) X.xe s₁)=E1
  have own:PassesOwn (model X.prog X.w) X.A X.env E1:=by
   rw[<-hE]
   exact PassesOwn.looking
  have hand:∀ (pins':List (Addr × Obj)) (σ1:L2.St) (H0 H':Hp) (s0 s1:Shared) (e C:Addr) (tb:Bool),Inv (CxX X (X.pn++pins) E1) pins' σ1 H0 s0->s1.os=s0.os->AllBare s1.gens->Un (frs X.stack) [] H0 H' s0.heap s1.heap->HOk X.prog X.w H' s1.heap->Exc (eU s0.heap H') e C tb s1.heap ->
    (Cls X.K x C/\RVm X.K M σD1 σ1 H'/\Fr' M σ H σ1 H')->E1 (.ref e) s1:=by
   intro pins' σ1 H0 H' s0 s1 e C tb J os bare un hok ex ⟨hc,rv1,fr1⟩
   have I0:Inv X pins σ1 H0 s0:=⟨⟨J.ok.mod,J.ok.kind,J.ok.glob,J.ok.blt,J.ok.above,J.ok.inj,J.ok.has,J.ok.cab,J.ok.hd,J.ok.frames,J.ok.stk,J.ok.exf,J.ok.bs,J.ok.bsz,J.ok.iy,J.ok.gY,J.ok.cV,J.ok.frf⟩,J.os,J.bare,J.base,J.loc,J.cell,J.free,J.bZ,fun p hp=>J.pin p (List.mem_append_left _ hp),J.hok,J.len⟩
   rw[<-hE]
   refine se I0 hst hfrm hex os bare un hok ex hc hR hcr hs hg hm hdb hN hi hl fun oe vs s4 hcd hd hv hne hn0 n1 n2 n3 J4=>?_
   have sm:au H' (upd H' e (Fz oe)):=fun a u q=>by rw[aF (aG q hne)];exact q
   have rv4:RVm X.K M (σD1.set i (some (.exc x))) (σ1.set i (some (.ref e))) (upd H' e (Fz oe)):=(rv1.same sm).bind hM (by
    rw[Rep]
    exact⟨e,oe,_,C,vs,rfl,aW,hcd,hd,hv,hc⟩)
   have fr4:Fr' M σ H (σ1.set i (some (.ref e))) (upd H' e (Fz oe)):=fr1.trans (Fr'.bind hM sm)
   have post2:oA X.K M { nx:=fun σ' H5=>D.nx (σ'.set i none) H5,rt:=D.rt } (σ1.set i (some (.ref e))) (upd H' e (Fz oe)) rr σ5:=by
    cases rr with
    | nx=>exact fun σ' H5 rv5 fr5=>post (σ'.set i none) H5 (rv5.unset hM) ((fr4.trans fr5).trans (Fr'.unset hM))
    | rt d=>exact fun σ' H5 v H6 rv5 fr5 sm5 rp=>post (σ'.set i none) H5 v H6 (rv5.unset hM) ((fr4.trans fr5).trans (Fr'.unset hM)) sm5 fun P hP=>rp P fun p hp=>by rw[<-aV.unset hM];exact hP p hp
   refine wpAny_mono (hsu e oe pins s4 _ _ _ J4 ⟨_,rr,σ5,rv4,hev3,post2⟩) (fun f s5 q=>?_) fun e s5 z=>by
    have z:X.xe e s5:=z
    rw[hx]at z
    exact z.elim
   cases f with
   |next=>
    obtain⟨σ',H5,J5,q⟩:=q
    exact qw (ky J5 I0.ok hn0 n1 n2 n3) hN hi hl fun s6 J6=>⟨_,H5,J6,q⟩
   |ret u=>
    obtain⟨v,σ',H5,J5,rel,q⟩:=q
    exact qw (ky J5 I0.ok hn0 n1 n2 n3) hN hi hl fun s6 J6=>⟨v,_,H5,J6,rel,q⟩
   |brk=>
    obtain⟨_,_,_,q⟩:=q
    exact q.elim
   |cont=>
    obtain⟨_,_,_,q⟩:=q
    exact q.elim
  have rz:=hbx (X.pn++pins) E1 (fun σ1 Cv _ H1=>∃ C,Cv=.ref C/\Cls X.K x C/\RVm X.K M σD1 σ1 H1/\Fr' M σ H σ1 H1) (fun pins' σ1 H0 s0 e s1 J z=>by
    obtain⟨x',C,H',rfl,⟨C',q,hc⟩,os,bare,un,hok,ex⟩:=z
    cases q
    exact hand pins' σ1 H0 H' s0 s1 x' C true J os bare un hok ex hc) (fun pins' σ1 H0 s0 h' e C vs J m z=>by
    obtain⟨C',q,hc⟩:=z
    cases q
    exact hand pins' σ1 H0 H0 s0 _ e C false J rfl J.bare (Un.kept m.keeps) (J.hok.kept m.keeps) (mQ J.hok m) hc) own
  have I1:Inv (CxX X (X.pn++pins) E1) [] σ H s:=⟨⟨I.ok.mod,I.ok.kind,I.ok.glob,I.ok.blt,I.ok.above,I.ok.inj,I.ok.has,I.ok.cab,I.ok.hd,I.ok.frames,I.ok.stk,I.ok.exf,I.ok.bs,I.ok.bsz,I.ok.iy,I.ok.gY,I.ok.cV,I.ok.frf⟩,I.os,I.bare,I.base,I.loc,I.cell,I.free,I.bZ,fun p hp=>I.pin p (by rw[List.append_nil]at hp;exact hp),I.hok,I.len⟩
  refine wpAny_mono (rz [] s σ H { nx:=fun _ _=>False,rt:=fun _ _=>False } I1 ⟨σD,x,σD1,rv,hev2,fun σ1 H1 C hc rv1 fr1=>⟨C,rfl,hc,rv1,fr1⟩⟩) (fun f s1 q=>?_) fun e s1 z=>by
   have z:E1 e s1:=z
   subst hE
   exact z
  cases f with
  |next=>
   obtain⟨_,_,_,q⟩:=q
   exact q.elim
  |ret u=>
   obtain⟨_,_,_,_,_,q⟩:=q
   exact q.elim
  |brk=>
   obtain⟨_,_,_,q⟩:=q
   exact q.elim
  |cont=>
   obtain⟨_,_,_,q⟩:=q
   exact q.elim
end
section
variable{X:Cx}{cl:RL.Cl}{a:Expr}{a':RL.E}{p p2 pos:Pos}{c:Str}{D:Addr}
theorem ph:bH X (.builtin "isinstance") (fun xs H Q=>∃ b o u C vs t k,xs=[.ref b,t]/\H b=some (.frz o u)/\(o.cls=.ref C/\o.dict=none)/\o.data=.fields vs/\oa X.K C/\((∃ D,t=.ref D/\PySem.W.kitOne X.K (.ref C) (.ref D)=some k)\/∃ T,t=.ty T/\PySem.W.kitOne X.K (.ref C) (.type T)=some k)/\Q (.bl k) H):=by
 intro pins s σ H xs us Q I r h
 obtain⟨b,o,u,C,vs,t,k,rfl,hb,hcd,hd,F,hk,q⟩:=h
 cases r with
 |cons r1 r2=>
  cases r2 with
  |cons r2 r3=>
   cases r3
   cases r1
   have J:PySem.W.InstAt s.heap b o C none:=⟨(I.hok _ _ hb).1,hcd.1,by unfold PySem.W.notCls;rw[hd],by rw[hcd.2];trivial⟩
   rcases hk with⟨D,rfl,e⟩ | ⟨T,rfl,e⟩
   ·cases r2
    exact PySem.W.kia_one (oz F) I.kIn J e (fun z=>nomatch z) fun tk=>⟨.bl k,H,I.tok tk,rfl,q⟩
   ·cases r2
    exact PySem.W.kia_one (oz F) I.kIn J e (fun z=>nomatch z) fun tk=>⟨.bl k,H,I.tok tk,rfl,q⟩
theorem sN{σ:L2.St}{H:Hp}{Q:VK}{t:V}(ht:∀ x C,Cls X.K x C->(∃ D,t=.ref D/\PySem.W.kitOne X.K (.ref C) (.ref D)=some (RL.c7 x c))\/∃ T,t=.ty T/\PySem.W.kitOne X.K (.ref C) (.type T)=some (RL.c7 x c))(h:tE X.K cl (.isx a' c) σ H Q) :
  tCB (fun xs H Q=>∃ b o u C vs t k,xs=[.ref b,t]/\H b=some (.frz o u)/\(o.cls=.ref C/\o.dict=none)/\o.data=.fields vs/\oa X.K C/\((∃ D,t=.ref D/\PySem.W.kitOne X.K (.ref C) (.ref D)=some k)\/∃ T,t=.ty T/\PySem.W.kitOne X.K (.ref C) (.type T)=some k)/\Q (.bl k) H) (gb (tE X.K cl a') (gb (tC t) iL)) σ H Q:=by
 obtain⟨σD,d,rv,e,k⟩:=h
 rw[RL.ev]at e
 obtain⟨x,ea,e⟩:=bind_some e
 cases x with
 |exc n=>
  cases e
  refine⟨σD,_,rv,ea,fun v H1 r1=>?_⟩
  have rp:=r1.rep
  rw[Rep]at rp
  obtain⟨b,o,u,C,vs,rfl,h1,h2,h3,h4,h5⟩:=rp
  exact⟨b,o,u,C,vs,t,_,rfl,h1,h2,h3,h5.kin,ht n C h5,k _ _ (du r1.same)⟩
 | _=>cases e
theorem Aq(hg:Gl X "isinstance")(hm:X.mg "isinstance" = none)(hgc:Gl X c)(hmc:X.mg c=some (.ref D))(hns:PySem.W.nsIn X.K mainGlobals c=some (some (.ref D)))(hcr:c∈cU)(hdb:(c == ("__debug__" : Str))=false)(ha:SE X cl a a')(hn:noStar a=true) :
  SE X cl (.Call (.Name "isinstance" p) [a,.Name c p2] [] pos) (.isx a' c) :=
 PE.weak (gR ph hg hm (by decide +kernel) (bu ha (bu (qA (v:=.ref D) hgc hmc rfl hdb) cW) (az _ hn)) (by decide) (by decide) (az _ hn) rfl) fun σ H Q h=>sN (fun x C hc=>.inl ⟨D,rfl,(hc.ref hcr hns).1⟩) h
theorem B8(hg:Gl X "isinstance")(hm:X.mg "isinstance" = none)(hgc:Gl X "ValueError")(hmc:X.mg "ValueError" = none)(ha:SE X cl a a')(hn:noStar a=true):SE X cl (.Call (.Name "isinstance" p) [a,.Name "ValueError" p2] [] pos) (.isx a' "ValueError") :=
 PE.weak (gR ph hg hm (by decide +kernel) (bu ha (bu (qe (v:=.ty "ValueError") hgc hmc PyProof.Rows.Boot.«ValueError» rfl) cW) (az _ hn)) (by decide) (by decide) (az _ hn) rfl) fun σ H Q h=>sN (fun x C hc=>.inr ⟨_,rfl,by rw[hc.val];simp[RL.c7]⟩) h
end
theorem lM:∀ ys:List Str,Str.join ⟨#[]⟩ ys=⟨(ys.flatMap fun s=>s.cps.toList).toArray⟩
 | []=>rfl
 | [x]=>by simp[Str.join]
 | x::y::r=>by
  have ih:=lM (y::r)
  show x++(⟨#[]⟩:Str)++Str.join ⟨#[]⟩ (y::r)=_
  rw[ih]
  show(⟨(x.cps ++ #[])++(List.flatMap (fun s=>s.cps.toList) (y::r)).toArray⟩:Str)=_
  simp
theorem qH:∀ {ys:List Str} {us:List Value},Vals (ys.map V.str) us->StrsAre us ys
 | [],_,r=>by cases r;exact .nil
 | y::ys,_,r=>by
  cases r with
  |cons a b=>
   obtain⟨t,rfl⟩:=a
   exact .cons y t (qH b)
theorem oE{P:Addr->Prop}{K:PySem.W.Frag}{H:Hp}:∀ {ds:List RL.D} {ss:List Str} {xs:List V},RL.strs? ds=some ss->af P K H ds xs->xs=ss.map V.str
 | [],ss,xs,h,r=>by
  rw[RL.strs?]at h
  cases h
  rw[af]at r
  exact r
 | d::ds,ss,xs,h,r=>by
  rw[af]at r
  obtain⟨x,t,rfl,r1,r2⟩:=r
  cases d with
  |str y=>
   rw[RL.strs?]at h
   obtain⟨q,h1,h2⟩:=map_some h
   subst h2
   rw[aH r1,oE h1 r2]
   rfl
  | _=>cases h
section
variable{X:Cx}{cl:RL.Cl}{a:Expr}{a':RL.E}{p apos pos:Pos}{j:Nat}
theorem ya:MtR X "str.join" (fun x xs H Q=>∃ b ys,x=.str ⟨#[]⟩/\xs=[.ref b]/\H b=some (.lst (ys.map V.str))/\(ys.map (·.length)).sum<=16777216/\Q (.str (Str.join ⟨#[]⟩ ys)) H):=by
 intro pins s σ H x xs v us Q I rx r h
 obtain⟨b,ys,rfl,rfl,hb,hz,q⟩:=h
 obtain⟨t,rfl⟩:=rx
 obtain⟨u,rfl,ru⟩:=vals1 r
 cases ru
 obtain⟨its,rv,ht,_⟩:=I.list (SqL.of hb)
 refine join_list (items:=its.toArray) ht.isList (by simpa using qH rv) (by show _+_*0<=_;rw[Nat.mul_zero];exact hz) fun t' k=>⟨.str (Str.join ⟨#[]⟩ ys),H,I.tok _,⟨t',?_⟩,q⟩
 show Value.str (Builtin.Str.glued ⟨#[]⟩ ys) t'=_
 rw[PySem.StrLaws.glued_eq_join]
theorem t7:∀ {ss:List Str},ss.all (fun s=>decide (s.length<=100))=true->(ss.map (·.length)).sum<=100*ss.length
 | [],_=>Nat.le_refl _
 | x::r,h=>by
  rw[List.all_cons,Bool.and_eq_true,decide_eq_true_eq]at h
  have:=t7 h.2
  rw[List.map_cons,List.sum_cons,List.length_cons]
  omega
theorem yw(ha:SE X cl a a')(hn:noStar a=true)(hline:(apos.endLine == pos.line)=true):SE X cl (.Call (.Attribute (.Constant (.str ⟨#[]⟩) j p) "join" apos) [a] [] pos) (.join a'):=by
 refine PE.weak (wX PySem.F.plainAttrs_str PySem.F.slot_str_join PySem.F.type_str_join ya nI (bu ha cW (az [] hn)) rfl ?_ hline (az [] hn) rfl) fun σ H Q h=>?_
 ·rw[az [] hn]
  rfl
 obtain⟨σD,d,rv,e,k⟩:=h
 rw[RL.ev]at e
 obtain⟨x,ea,e⟩:=bind_some e
 cases x with
 |lst ds=>
  obtain⟨ss,e1,e2⟩:=bind_some e
  split at e2
  ·rename_i hz
   cases e2
   refine⟨rfl,σD,_,rv,ea,fun v H1 r1=>?_⟩
   obtain⟨b,xs,rfl,_,f2,f3⟩:=aD r1.rep
   rw[oE e1 f3]at f2
   have hs:=t7 hz.2
   have hm:RL.most=100000:=rfl
   refine⟨b,ss,rfl,rfl,f2,by omega,?_⟩
   rw[lM]
   exact k _ _ (d6 r1.same f7 rfl)
  ·cases e2
 | _=>cases e
end
end RS
namespace L2
open PySem PySem.Spec PyProof.Rows
structure gZ(k:Nat)(A:Around):Prop where
 dp:A.depth+3*k+5<recursionLimit
 un:A.units+16*k+200<cLine
theorem bV.h{k:Nat}{A:Around}(r:bV k A):gZ k A:=⟨r.dp,r.un⟩
noncomputable def HXH(A:Around)(H:Hp):Prop:=A.handled=none\/∃ h o u vs,A.handled=some (.ref h)/\H h=some (.frz o u)/\o.data=.fields vs/\vs[2]?=some .none
structure kd(P:Program)(w:World)(K:PySem.W.Frag)(mg:Str->Option Value)(base:Heap)(k:Nat)(f:Addr)(fd:FuncData)(ps:List Str)(sp:Sp):Prop where
 len:∀ vs H Q,sp vs H Q E0->vs.length=ps.length
 run:∀ (A:Around) (outer:List Env) (s:Shared) (H:Hp) (us:List Value) (vs:List V) (Q:VK),gZ k A->HXH A H->oZ P w K mg base A outer s H->BindsTo s fd ⟨us,[]⟩ (ps.zip us)->Vals vs us->sp vs H Q E0->codeAny (model P w) A (.call (.ref f) ⟨us,[]⟩) (CR CX0 outer P w H s Q E0) s
abbrev cxH(P:Program)(w:World)(K:PySem.W.Frag)(mg:Str->Option Value)(base:Heap)(N:List Str)(qual:Str)(scope:Scope)(f:Addr)(cd:Value)(A:Around)(outer:List Env)(s:Shared)(H:Hp):Cx:={ (fN CX0 P w K mg base N qual scope f cd A outer s H E0).nox with calm:=false }
section
variable{P:Program}{w:World}{K:PySem.W.Frag}{mg:Str->Option Value}{base:Heap}{x qual:Str}{st:Stmt}{f:Addr}{fd:FuncData}{N ps:List Str}{k:Nat}{sp:Sp}
theorem Fun.okH(F:Fun K x qual st f fd)(S:eC N ps (aJ st))(len:∀ vs H Q,sp vs H Q E0->vs.length=ps.length)
 (hbody:∀ (cdv:Value) (A:Around) (outer:List Env) (s:Shared) (H:Hp) (vs:List V) (Q:VK),gZ k (A.deeper (envOfC qual (aJ st) s.heap.objs.size f cdv))->sp vs H Q E0->∃ t,PSs (cxH P w K mg base N qual (aJ st) f cdv A outer s H) (bX st) t/\t { nx:=fun _ H'=>Q .non H',rt:=Q } (start N vs) H):kd P w K mg base (k+1) f fd ps sp:=by
 obtain⟨oc,od,kV,doc,pm,an,cdv,ct,osl,rfl,lk,hcd⟩:=F.ex
 refine⟨len,fun A outer s H us vs Q hr hx e0 hb r hsp=>?_⟩
 have hl:=len _ _ _ hsp
 have KX:K.In s.heap:=e0.mod.kin.keeps fun b o e=>(e0.bs b o e).1
 have kinds:∀ y∈ps.zip us,(aJ st).names.lookup y.1=some .local\/((aJ st).names.lookup y.1=some .cell/\((cellsFrom (s.heap.objs.size+1) (aJ st).names []).lookup y.1).isSome=true):=fun⟨n,v⟩ hy=>(S.par n (List.of_mem_zip hy).1).imp (fun q=>q) fun q=>⟨q,PySem.W.cellsFrom_some _ _ _ (.inl q)⟩
 refine codeAny_call_function (by have:=hr.dp;omega) (KX _ _ lk) rfl S.co S.gen rfl (PySem.W.codeRec_of KX hcd) (hb _ _ _ _ ?_)
 refine wpAny_newFunctionEnv_cells S.kind kinds fun env he s1 y=>?_
 subst he
 refine⟨(e0.mod.nolimit.keeps fun b o e=>(e0.bs b o e).1).keeps y.toInCall.keep,codeAny_func ?_⟩
 have hr':gZ k (A.deeper (envOfC qual (aJ st) s.heap.objs.size f cdv)):=⟨by have:=hr.dp;show A.depth+1+3*k+5<_;omega,by have:=hr.un;show A.units+3+16*k+200<_;omega⟩
 obtain⟨t,ht,hq⟩:=hbody cdv A outer s H vs Q hr' hsp
 have I0:Inv (fN CX0 P w K mg base N qual (aJ st) f cdv { A with handled:=none } outer s H E0) [] (start N vs) H s1:=lW (A:={ A with handled:=none }) S rfl ⟨e0.frames,e0.mod,e0.bs,e0.bsz,e0.cV,e0.frf,e0.hok,e0.bare⟩ hl r y
 have I:Inv (cxH P w K mg base N qual (aJ st) f cdv A outer s H) [] (start N vs) H s1:=⟨⟨I0.ok.mod,I0.ok.kind,I0.ok.glob,I0.ok.blt,I0.ok.above,I0.ok.inj,I0.ok.has,I0.ok.cab,⟨fun z=>(nomatch z),hx⟩,Around.frames_deeper e0.frames,I0.ok.stk,I0.ok.exf,I0.ok.bs,I0.ok.bsz,I0.ok.iy,I0.ok.gY,I0.ok.cV,I0.ok.frf⟩,I0.os,I0.bare,I0.base,I0.loc,I0.cell,I0.free,I0.bZ,I0.pin,I0.hok,I0.len⟩
 refine wpAny_mono (ht [] s1 (start N vs) H _ I hq) (fun fl s' hs=>?_) fun e s' hs=>hs.elim
 cases fl with
 |ret u=>
  obtain⟨v,σ',H',J,rv,q⟩:=hs
  exact⟨v,H',J.os,J.bare,J.base,J.hok,rv,q⟩
 |next=>
  obtain⟨σ',H',J,q⟩:=hs
  exact⟨.non,H',J.os,J.bare,J.base,J.hok,rfl,q⟩
 |brk=>
  obtain⟨_,_,_,q⟩:=hs
  exact q.elim
 |cont=>
  obtain⟨_,_,_,q⟩:=hs
  exact q.elim
theorem Fun.okX(F:Fun K x qual st f fd)(S:eC N ps (aJ st))(len:∀ vs H Q E,sp vs H Q E->vs.length=ps.length)
 (hbody:∀ (cdv:Value) (A:Around) (outer:List Env) (s:Shared) (H:Hp) (vs:List V) (Q:VK) (E:XK),bV k (A.deeper (envOfC qual (aJ st) s.heap.objs.size f cdv))->sp vs H Q E->∃ t,PSs (fN (CXE P w) P w K mg base N qual (aJ st) f cdv A outer s H E) (bX st) t/\t { nx:=fun _ H'=>Q .non H',rt:=Q } (start N vs) H):d5 P w K mg base (CXE P w) (k+1) f fd ps sp:=by
 obtain⟨oc,od,kV,doc,pm,an,cdv,ct,osl,rfl,lk,hcd⟩:=F.ex
 exact wY lk hcd S len fun A outer s H vs Q E hr hsp=>hbody cdv A outer s H vs Q E hr hsp
end
theorem vy{X:Cx}{k:Nat}{f:Addr}{fd:FuncData}{ps:List Str}{sp:Sp}{x:Str}{p pos:Pos}{e:Expr}{es:List Expr}{t:TA}(F:kd X.prog X.w X.K X.mg X.base k f fd ps sp)(hr:gZ k X.A)(hg:Gl X x)(hm:X.mg x=some (.ref f))(hk:PySem.W.keepIn X.K (.ref f)=true)
 (hb:Binds X.K fd ps [])(ha:PA X (e::es) t)(hdb:(x == ("__debug__" : Str))=false)(he:starEach (e::es) X.env=(false,eval e X.env)::starEach es X.env)(hpl:(backTo pos (starEach es X.env)).any (·.1)=false) :
  PE X (.Call (.Name x p) (e::es) [] pos) (fun σ H Q=>t σ H fun vs H1=>sp vs H1 Q E0):=by
 intro pins s σ H Q I h
 refine wpAny_Call_Name_kw (fD I hg hm ?_ hdb)
 refine PySem.W.callWith_K (h₀:=X.base) I.ok.mod.kin hk (thn (ha pos pins s σ H _ I h) fun us s1 ⟨vs,H1,I1,r,q⟩=>⟨I1.kIn,?_⟩) he hpl
 have hl:us.length=ps.length:=by rw[<-r.length];exact F.len _ _ _ q
 have hbb:=hb s1 us I1.kIn (by rw[List.append_nil];exact hl)
 rw[List.append_nil]at hbb
 have hx:HXH X.A H1:=by
  rcases I1.ok.hd.2 with z | ⟨h,o,u,vs,h1,h2,h3⟩
  ·exact .inl z
  ·exact .inr ⟨h,o,u,vs,h1,I1.base.cC _ _ _ h2,h3⟩
 refine wpAny_call (codeAny_mono (F.run X.A X.stack s1 H1 us vs Q hr hx I1.wJ hbb r q) fun r s' hq=>?_)
 cases r with
 | error e=>exact hq.elim
 |ok fl=>
  cases fl with
  | ret u=>exact I1.after hq
  | next=>exact False.elim hq
  | brk=>exact False.elim hq
  | cont=>exact False.elim hq
end L2
namespace RS
open PySem PySem.Spec PyProof.Rows L2
noncomputable def xv:Expr->Option (List Expr)
 | .JoinedStr vs _=>some vs
 | _=>none
theorem v9{e:Expr}{vs:List Expr}(h:xv e=some vs):∃ p,e=.JoinedStr vs p:=by
 cases e
 case JoinedStr=>cases h;exact⟨_,rfl⟩
 all_goals exact nos h
noncomputable def Ce:Expr->Option (Expr × Int × Option Expr)
 | .FormattedValue e c s _=>some (e,c,s)
 | _=>none
theorem yD{e x:Expr}{c:Int}{s:Option Expr}(h:Ce e=some (x,c,s)):∃ p,e=.FormattedValue x c s p:=by
 cases e
 case FormattedValue=>cases h;exact⟨_,rfl⟩
 all_goals exact nos h
noncomputable def uY:Stmt->Option (Option Expr × Option Expr)
 | .Raise e c _=>some (e,c)
 | _=>none
theorem ui{st:Stmt}{e c:Option Expr}(h:uY st=some (e,c)):∃ p,st=.Raise e c p:=by
 cases st
 case Raise=>cases h;exact⟨_,rfl⟩
 all_goals exact nos h
noncomputable def zu:Stmt->Option (List Stmt × List ExceptHandler × List Stmt × List Stmt)
 | .Try b h o f _=>some (b,h,o,f)
 | _=>none
theorem yo{st:Stmt}{b o f:List Stmt}{h:List ExceptHandler}(z:zu st=some (b,h,o,f)):∃ p,st=.Try b h o f p:=by
 cases st
 case Try=>cases z;exact⟨_,rfl⟩
 all_goals exact nos z
noncomputable def mB:ExceptHandler->Option Expr × Option Str × List Stmt
 | .ExceptHandler t n b _=>(t,n,b)
structure CC where
 N:List Str
 sc:Scope
 B:List Str
 G:List (Str × Int)
 F:List (Str × List Nat)
 calm:Bool
 hf:List Nat
 Xr:List Str
 Xs:List Str
noncomputable def BP(scope sc:Scope):Scope:={ scope with names:=scope.names.map fun(n,k)=>if(k == NameKind.free&&sc.kind == .function&&sc.names.lookup n == some .cell)then(n,NameKind.cell)else(n,k) }
noncomputable def CC.inner(C:CC)(scope:Scope):CC:={ C with sc:=BP scope C.sc }
noncomputable def gC(x:Str):Bool:=!(x == ("__debug__" : Str)) && !(x == ("__classdict__" : Str))
noncomputable def wx(C:CC)(x:Str):Bool:=C.sc.names.lookup x == some .local || C.sc.names.lookup x == some .cell
noncomputable def vO(C:CC)(x:Str):Bool:=C.sc.names.lookup x == some .local || C.sc.names.lookup x == some .cell || C.sc.names.lookup x == some .free
noncomputable def glB(C:CC)(x:Str):Bool:=C.sc.names.lookup x == some .globalImplicit&&gC x
noncomputable def oy(C:CC)(x:Str):Bool:=glB C x&&C.B.contains x
noncomputable def nmB(C:CC)(i:Nat)(x:Str):Bool:=C.N[i]? == some x&&gC x
structure XOk(C:CC)(X:Cx)(cl:RL.Cl):Prop where
 scope:X.env.scope=C.sc
 names:X.N=C.N
 nd:C.N.Nodup
 calm:C.calm=true->X.calm=true
 xe:X.xe=fun _ _=>False
 hu:X.A.units+100<cLine
 blt:∀ x∈C.B,X.mg x=none
 glb:∀ x i,C.G.lookup x=some i->∃ u,X.mg x=some u/\RelV (.int i) u
 fns:∀ (f:Nat) (x:Str) (mp:List Nat),C.calm=true->C.F[f]?=some (x,mp)->∃ k fa fd ps,d5 X.prog X.w X.K X.mg X.base CX0 k fa fd ps (if mp=[]then spF X.K cl f else spM X.K cl mp f)/\bV k X.A/\X.mg x=some (.ref fa)/\PySem.W.keepIn X.K (.ref fa)=true/\Binds X.K fd ps []
 hfn:∀ (f:Nat) (x:Str),C.hf.contains f=true->C.F[f]?=some (x,[])->∃ k fa fd ps,kd X.prog X.w X.K X.mg X.base k fa fd ps (spF X.K cl f)/\gZ k X.A/\X.mg x=some (.ref fa)/\PySem.W.keepIn X.K (.ref fa)=true/\Binds X.K fd ps []
 cls:∀ c,C.Xr.contains c=true->∃ D,X.mg c=some (.ref D)/\Cls X.K c D
 ref:∀ c,C.Xs.contains c=true->∃ D,X.mg c=some (.ref D)/\PySem.W.nsIn X.K mainGlobals c=some (some (.ref D))
section
variable{C:CC}{X:Cx}{cl:RL.Cl}{e:Expr}
theorem XOk.vis(h:XOk C X cl){x:Str}(v:vO C x=true):Vis X.env.scope x:=by
 unfold vO at v
 rw[<-h.scope,Bool.or_eq_true,Bool.or_eq_true,beq_iff_eq,beq_iff_eq,beq_iff_eq]at v
 rcases v with(v | v) | v
 ·exact .inl v
 ·exact .inr (.inl v)
 ·exact .inr (.inr v)
theorem XOk.loc(h:XOk C X cl){x:Str}(v:wx C x=true):Loc X.env.scope x:=by
 unfold wx at v
 rw[<-h.scope,Bool.or_eq_true,beq_iff_eq,beq_iff_eq]at v
 exact v
theorem bI{x:Str}(h:gC x=true):(x == ("__debug__" : Str))=false/\(x == ("__classdict__" : Str))=false:=by
 unfold gC at h
 rw[Bool.and_eq_true,Bool.not_eq_true',Bool.not_eq_true']at h
 exact h
theorem XOk.gl(h:XOk C X cl){x:Str}(v:glB C x=true):Gl X x/\gC x=true:=by
 unfold glB at v
 rw[<-h.scope,Bool.and_eq_true,beq_iff_eq]at v
 exact v
theorem XOk.bl(h:XOk C X cl){x:Str}(v:oy C x=true):Gl X x/\X.mg x=none:=by
 unfold oy at v
 rw[Bool.and_eq_true]at v
 exact⟨(h.gl v.1).1,h.blt x (by simpa using v.2)⟩
theorem XOk.nm(h:XOk C X cl){i:Nat}{x:Str}(v:nmB C i x=true):X.N[i]?=some x/\gC x=true:=by
 unfold nmB at v
 rw[<-h.names,Bool.and_eq_true,beq_iff_eq]at v
 exact v
theorem XOk.ndX(h:XOk C X cl):X.N.Nodup:=by rw[h.names];exact h.nd
theorem XOk.blk(h:XOk C X cl){scope:Scope}(cls:List (Str × Addr))(Ca:Addr)(fp:List Addr)(s:Shared)(H:Hp):XOk (C.inner scope) (L2.blk X scope cls Ca fp s H) cl where
 scope:=by
  show relabel scope X.env=BP scope C.sc
  rw[<-h.scope]
  rfl
 names:=h.names
 nd:=h.nd
 calm:=h.calm
 xe:=rfl
 hu:=h.hu
 blt:=h.blt
 glb:=h.glb
 fns:=h.fns
 hfn:=h.hfn
 cls:=h.cls
 ref:=h.ref
noncomputable def fY:RL.D->Const->Bool
 | .int i,.int j=>i == j
 | .bl i,.bool j=>i == j
 | .non,.none=>true
 | .str x,.str y=>x == y
 | _,_=>false
noncomputable def plainT:Expr->Bool
 | .UnaryOp .Not _ _=>false
 | .BoolOp _ _ _=>false
 | .IfExp _ _ _ _=>false
 | .Compare _ _ _ _=>false
 | _=>true
noncomputable def oi:Expr->Bool
 | .BoolOp _ _ _=>true
 | _=>false
noncomputable def kB:Expr->Bool
 | .Set _ _ _=>false
 | _=>true
noncomputable def rB:RL.Bi->Option Str
 | .len=>some "len"
 | .list=>some "list"
 | .tuple=>some "tuple"
 | .all=>some "all"
 | _=>none
noncomputable def rR:RL.Ty->Str
 | .int => "int"
 | .bool => "bool"
 | .list => "list"
 | .tuple => "tuple"
 | .str => "str"
noncomputable def Eh(neg:Bool):CmpOp:=if neg then .IsNot else .Is
noncomputable def Dq(neg:Bool):CmpOp:=if neg then .NotIn else .In
noncomputable def m7(C:CC)(i:Nat)(e:Expr):Bool:=(ee e).any fun x=>nmB C i x&&vO C x
noncomputable def ff(C:CC)(i:Nat)(e:Expr):Bool:=(ee e).any fun x=>nmB C i x&&wx C x
noncomputable def iT(C:CC):List Nat->List Expr->Bool
 | [],es=>es.isEmpty
 | i::is,es=>match es with
  | e::es=>ff C i e&&iT C is es
  | []=>false
noncomputable def lp(C:CC)(tg:List Nat)(e:Expr):Bool :=
 match tg with
 | [i]=>ff C i e
 | tg=>(lg e).any fun es=>iT C tg es
noncomputable def kz(C:CC)(scope:Scope)(tg:List Nat):Bool:=tg.all fun i=>match C.N[i]? with
 | some x=>scope.names.lookup x == some .local || scope.names.lookup x == some .cell
 | none=>false
noncomputable def jX(C:CC)(scope:Scope)(tg:List Nat):Bool:=(List.range C.N.length).all fun i=>match C.N[i]? with
 | some x=>!(scope.names.lookup x == some .local || scope.names.lookup x == some .cell) || tg.contains i
 | none=>true
noncomputable def scB(scope sc:Scope):Bool:=scope.kind == .function&&scope.names.all (fun x=>(!(x.2 == .cell) || scope.names.lookup x.1 == some .cell)&&(!(x.2 == .local) || scope.names.lookup x.1 == some .local)&&(!(x.2 == .free) || sc.names.lookup x.1 == some .cell || sc.names.lookup x.1 == some .free))
noncomputable def cN(C:CC)(e:Expr)(nm:Str)(f:List Expr->Bool):Bool:=(hV e).any fun q=>(ee q.1).any (fun x=>x == nm&&oy C x)&&q.2.2.1.isEmpty&&q.2.1.all noStar&&f q.2.1
theorem bO{nm:Str}{f:List Expr->Bool}(h:XOk C X cl)(z:cN C e nm f=true):∃ p as pos,e=.Call (.Name nm p) as [] pos/\Gl X nm/\X.mg nm=none/\as.all noStar=true/\f as=true:=by
 unfold cN at z
 obtain⟨⟨g,as,ks,pos⟩,z0,z⟩:=aj z
 have e0:=dF z0
 subst e0
 obtain⟨z,z4⟩:=ae z
 obtain⟨z,z3⟩:=ae z
 obtain⟨z1,z2⟩:=ae z
 obtain⟨x,y0,z1⟩:=aj z1
 obtain⟨p,rfl⟩:=bU y0
 obtain⟨y1,y2⟩:=ae z1
 rw[beq_iff_eq]at y1
 subst y1
 obtain⟨b1,b2⟩:=h.bl y2
 rw[List.isEmpty_iff]at z2
 subst z2
 exact⟨p,as,pos,rfl,b1,b2,z3,z4⟩
theorem all1{a:Expr}(h:[a].all noStar=true):noStar a=true:=by simpa using h
theorem all2{a b:Expr}(h:[a,b].all noStar=true):noStar a=true/\noStar b=true:=by simpa using h
end
noncomputable def rJ:RL.It->Bool
 | .zip _ _=>true
 | _=>false
mutual
noncomputable def chk(C:CC)(t:Bool):RL.E->Expr->Bool
 | .var i=>fun e=>m7 C i e
 | .cst d=>fun e=>(ly e).any fun k=>fY d k
 | .glb y i=>fun e=>(ee e).any fun x=>x == y&&glB C x&&C.G.lookup x == some i
 | .bin o a b=>fun e=>(Bm e).any fun q=>q.2.1 == oP o&&chk C false a q.1&&chk C false b q.2.2
 | .neg a=>fun e=>(vUn e).any fun q=>q.1 == .USub&&chk C false a q.2
 | .cmp c a b=>fun e=>(kZ e).any fun q=>of1 q.2.1 fun op=>of1 q.2.2 fun r=>op == cM c&&chk C false a q.1&&chk C false b r
 | .chain c c' a b d=>fun e=>(kZ e).any fun q=>of2 q.2.1 fun op op'=>of2 q.2.2 fun r s=>op == cM c&&op' == cM c'&&chk C false a q.1&&chk C false b r&&chk C false d s
 | .isB _ _ _=>fun _=>false
 | .isN neg a=>fun e=>(kZ e).any fun q=>of1 q.2.1 fun op=>of1 q.2.2 fun r=>op == Eh neg&&(ly r).any (fun k=>fY .non k)&&chk C false a q.1
 | .inn neg a b=>fun e=>(kZ e).any fun q=>of1 q.2.1 fun op=>of1 q.2.2 fun r=>op == Dq neg&&rZ r&&chk C false a q.1&&chk C false b r
 | .inD _ _ _=>fun _=>false
 | .and a b=>fun e=>(vBool e).any fun q=>ofM q.2.1 fun l r rest=>q.1 == .And&&chk C t a l&&(if rest.isEmpty then chk C t b r else chk C t b (.BoolOp .And (r::rest) q.2.2))
 | .or a b=>fun e=>(vBool e).any fun q=>ofM q.2.1 fun l r rest=>q.1 == .Or&&chk C t a l&&(if rest.isEmpty then chk C t b r else chk C t b (.BoolOp .Or (r::rest) q.2.2))
 | .not a=>fun e=>(vUn e).any fun q=>q.1 == .Not&&chk C t a q.2
 | .ifx c a b=>fun e=>(zS e).any fun q=>!t&&chk C true c q.1&&chk C false a q.2.1&&chk C false b q.2.2
 | .tup es=>fun e=>(lg e).any fun xs=>ja C es xs&&decide (dD es<=1000)
 | .lst es=>fun e=>(A2 e).any fun xs=>ja C es xs&&decide (dD es<=1000)
 | .ix a b=>fun e=>(sv e).any fun q=>oD q.2&&chk C false a q.1&&chk C false b q.2
 | .ixD _ _=>fun _=>false
 | .slT a b=>fun e=>(sv e).any fun q=>chk C false a q.1&&(vSl q.2).any fun s=>s.1.isNone&&s.2.2.isNone&&s.2.1.any fun r=>chk C false b r
 | .slF _ _=>fun _=>false
 | .rev _=>fun _=>false
 | .call f es=>fun e=>(C.calm || C.hf.contains f)&&(hV e).any fun q=>(ee q.1).any (fun x=>glB C x&&C.F[f]? == some (x,[]))&&q.2.2.1.isEmpty && !q.2.1.isEmpty&&ja C es q.2.1
 | .bi b a=>fun e=>C.calm&&match b with
  | .lenSet=>false
  | b=>(rB b).any fun x=>cN C e x fun ys=>of1 ys fun y=>chk C false a y
 | .max _ _=>fun _=>false
 | .min _ _=>fun _=>false
 | .dvm _ _=>fun _=>false
 | .isi a ty=>fun e=>cN C e "isinstance" fun ys=>of2 ys fun y z=>(ee z).any (fun x=>x == rR ty&&oy C x)&&chk C false a y
 | .rng1 a=>fun e=>C.calm&&cN C e "list" fun ys=>of1 ys fun y=>cN C y "range" fun zs=>of1 zs fun z=>chk C false a z
 | .rng2 a b=>fun e=>C.calm&&cN C e "list" fun ys=>of1 ys fun y=>cN C y "range" fun zs=>of2 zs fun z u=>chk C false a z&&chk C false b u
 | .rng3 _ _ _=>fun _=>false
 | .comp d tg it c=>fun e=>(qU e).any fun q=>of1 q.2.1 fun g=>of1 g.ifs fun w=>g.is_async == 0&&scB q.2.2.1 C.sc&&jX C q.2.2.1 tg&&kB g.iter&&lp (C.inner q.2.2.1) tg g.target&&kz C q.2.2.1 tg&&gh C it g.target g.iter&&chk (C.inner q.2.2.1) false d q.1&&chk (C.inner q.2.2.1) true c w&&(C.calm || rJ it)
 | .compA d tg it=>fun e=>(qU e).any fun q=>of1 q.2.1 fun g=>g.ifs.isEmpty&&g.is_async == 0&&scB q.2.2.1 C.sc&&jX C q.2.2.1 tg&&kB g.iter&&lp (C.inner q.2.2.1) tg g.target&&kz C q.2.2.1 tg&&gh C it g.target g.iter&&chk (C.inner q.2.2.1) false d q.1&&C.calm
 | .compL _ _ _=>fun _=>false
 | .dk0=>fun _=>false
 | .dt0=>fun _=>false
 | .chain3 _ _ _ _ _ _ _=>fun _=>false
 | .slB _ _ _=>fun _=>false
 | .get _ _ _=>fun _=>false
 | .index _ _=>fun _=>false
 | .join a=>fun e=>(hV e).any fun q=>(rA q.1).any (fun u=>u.2.1 == ("join" : Str)&&u.2.2.endLine == q.2.2.2.line&&(ly u.1).any fun k=>fY (.str ⟨#[]⟩) k)&&q.2.2.1.isEmpty&&of1 q.2.1 fun y=>noStar y&&chk C false a y
 | .isx a c=>fun e=>cN C e "isinstance" fun ys=>of2 ys fun y z=>(ee z).any (fun x=>x == c&&(if c == ("ValueError" : Str)then oy C x else glB C x&&C.Xs.contains x&&cU.contains x))&&chk C false a y
noncomputable def ja(C:CC):RL.Es->List Expr->Bool
 | .nil=>fun xs=>xs.isEmpty
 | .cons e es=>fun xs=>match xs with
  | x::xs=>noStar x&&chk C false e x&&ja C es xs
  | []=>false
noncomputable def gh(C:CC):RL.It->Expr->Expr->Bool
 | .seq a=>fun _ e=>chk C false a e
 | .rng1 a=>fun _ e=>cN C e "range" fun ys=>of1 ys fun y=>chk C false a y
 | .rng2 a b=>fun _ e=>cN C e "range" fun ys=>of2 ys fun y z=>chk C false a y&&chk C false b z
 | .rng3 _ _ _=>fun _ _=>false
 | .chr _=>fun _ _=>false
 | .enm a=>fun tg e=>(lg tg).isSome&&cN C e "enumerate" fun ys=>of1 ys fun y=>chk C false a y
 | .zip a b=>fun tg e=>(lg tg).isSome&&cN C e "zip" fun ys=>of2 ys fun y z=>chk C false a y&&chk C false b z
 | .nope=>fun _ _=>false
end
noncomputable def mU(X:Cx)(cl:RL.Cl)(e:Expr)(e':RL.E)(b b':Bool):Prop:=(b=true->SE X cl e e')/\(b'=true->ST X cl e e'/\(oi e=true->SW X cl e e'))
section
variable{C:CC}{X:Cx}{cl:RL.Cl}{e:Expr}{e':RL.E}{b:Bool}
theorem si{env:Env}(h:plainT e=true)(whole:Sem Value):isTrue e env whole=(do let v <- whole;standAt e.pos;holding [v] (truthy v)):=by
 cases e<;>first
  | rfl
  | (cases h;done)
  | (rename_i op _ _;cases op<;>first | rfl | (cases h;done))
theorem aR(h:b=true->SE X cl e e'/\plainT e=true):mU X cl e e' b b :=
 ⟨fun z=>(h z).1,fun z=>⟨wo (h z).1 (si (h z).2),fun q=>by
  have:=(h z).2
  cases e<;>first | (cases q;done) | (cases this;done)⟩⟩
theorem ib(h:b=true->SE X cl e e'/\ST X cl e e'/\oi e=false):mU X cl e e' b b :=
 ⟨fun z=>(h z).1,fun z=>⟨(h z).2.1,fun q=>by rw[(h z).2.2]at q;cases q⟩⟩
theorem cj(h:b=false){b':Bool}(h':b'=false):mU X cl e e' b b':=⟨fun z=>(by rw[h]at z;cases z),fun z=>(by rw[h']at z;cases z)⟩
theorem AF{d:RL.D}{k:Const}{j:Nat}{pos:Pos}(h:fY d k=true):SE X cl (.Constant k j pos) (.cst d):=by
 cases d<;>cases k<;>simp only[fY]at h<;>first | (cases h;done) | skip
 case non.none=>exact jR oY (fun P H=>by rw[Rep]) rfl
 case bl.bool i j=>rw[beq_iff_eq]at h;subst h;exact jR CK (fun P H=>ng) rfl
 case int.int i j=>rw[beq_iff_eq]at h;subst h;exact jR Bs (fun P H=>bp) rfl
 case str.str i j=>rw[beq_iff_eq]at h;subst h;exact jR nI (fun P H=>f7) rfl
theorem yb{k:Const}(h:fY .non k=true):k=.none:=by
 cases k<;>simp only[fY]at h<;>first | (cases h;done) | rfl
theorem tL(t:RL.Ty):bootBuiltins (rR t)=some (.type (tyN t))/\rR t ≠ "__name__" /\ (rR t == ("__debug__" : Str))=false:=by
 cases t<;>exact⟨by decide +kernel,by decide +kernel,by decide +kernel⟩
theorem cX(h:kB e=true)(env:Env)(x:Value):foldedSetIterable e env x=pure x:=by
 cases e<;>first | rfl | (cases h;done)
theorem Ci(hcalm:X.calm=true){o:RL.Bi}{x:Str}{p pos:Pos}{y:Expr}{a':RL.E}(hx:rB o=some x)(hb:Gl X x)(hb2:X.mg x=none)(ha:SE X cl y a')(hn:noStar y=true):SE X cl (.Call (.Name x p) [y] [] pos) (.bi o a'):=by
 cases o<;>simp only[rB]at hx<;>first | (cases hx;done) | skip
 case len=>cases hx;exact zV hb hb2 ha hn
 case list=>cases hx;exact xX hb hb2 ha hn
 case tuple=>cases hx;exact wQ hb hb2 ha hn
 case all=>cases hx;exact B7 hcalm hb hb2 ha hn
theorem gK{i:Nat}(h:XOk C X cl)(z:m7 C i e=true):∃ x p,e=.Name x p/\X.N[i]?=some x/\Vis X.env.scope x/\(x == ("__debug__" : Str))=false/\(x == ("__classdict__" : Str))=false:=by
 obtain⟨x,z0,z⟩:=aj z
 obtain⟨p,rfl⟩:=bU z0
 obtain⟨z1,z2⟩:=ae z
 obtain⟨g1,g2⟩:=h.nm z1
 exact⟨x,p,rfl,g1,h.vis z2,(bI g2).1,(bI g2).2⟩
theorem eF{i:Nat}(h:XOk C X cl)(z:ff C i e=true):∃ x p,e=.Name x p/\X.N[i]?=some x/\Loc X.env.scope x:=by
 obtain⟨x,z0,z⟩:=aj z
 obtain⟨p,rfl⟩:=bU z0
 obtain⟨z1,z2⟩:=ae z
 exact⟨x,p,rfl,(h.nm z1).1,h.loc z2⟩
theorem iQ(h:XOk C X cl){T:List Nat}(hf:∀ i x,i∈T->X.N[i]?=some x->X.fn x=true\/X.env.scope.names.lookup x=some .local):∀ {is:List Nat} {es:List Expr},(∀ i∈is,i∈T)->iT C is es=true->PGs X es (gs is)/\(assignEach es X.env).length=is.length/\(assignEach es X.env).findIdx? (·.1)=none
 | [],es,_,z=>by
  rw[iT,List.isEmpty_iff]at z
  subst z
  exact⟨xS,rfl,rfl⟩
 | i::is,[],_,z=>by cases z
 | i::is,e::es,hs,z=>by
  rw[iT]at z
  obtain⟨z1,z2⟩:=ae z
  obtain⟨x,p,rfl,g1,g2⟩:=eF h z1
  obtain⟨h1,h2,h3⟩:=iQ h hf (fun j hj=>hs j (List.mem_cons_of_mem _ hj)) z2
  refine⟨vE (qL h.ndX g1 g2 (hf i x (hs i List.mem_cons_self) g1)) h1,?_,?_⟩
  ·show(assignEach es X.env).length+1=is.length+1
   rw[h2]
  ·show List.findIdx? (·.1) ((false,assign (.Name x p) X.env)::assignEach es X.env)=none
   rw[List.findIdx?_cons]
   simp only[Bool.false_eq_true,if_false,h3,Option.map_none]
theorem p7{tg:List Nat}{tgE:Expr}(h:XOk C X cl)(hf:∀ i x,i∈tg->X.N[i]?=some x->X.fn x=true\/X.env.scope.names.lookup x=some .local)(hc:lp C tg tgE=true):PG X tgE (gT X.K tg):=by
 unfold lp at hc
 split at hc
 ·obtain⟨x,p,rfl,g1,g2⟩:=eF h hc
  exact qL h.ndX g1 g2 (hf _ x (by simp) g1)
 ·rename_i hne
  obtain⟨es,z0,z⟩:=aj hc
  obtain⟨k,p,rfl⟩:=eA z0
  obtain⟨h1,h2,h3⟩:=iQ h hf (fun i hi=>hi) z
  have e:gT X.K tg=fun v σ H Q=>kE X.K tg.length (gs tg) v σ H Q\/lb X.K tg.length (gs tg) v σ H Q:=by
   unfold gT
   split
   ·rename_i i
    exact absurd rfl (hne i)
   ·rfl
  rw[e]
  exact om (kL h1 h2 h3) (l5 h1 h2 h3)
section rulesH
variable{pos:Pos}
theorem vU{es:List Expr}{e:Expr}{es':RL.Es}{e':RL.E}{f:Nat}{x:Str}{p:Pos}{k:Nat}{fa:Addr}{fd:FuncData}{ps:List Str}(F:kd X.prog X.w X.K X.mg X.base k fa fd ps (spF X.K cl f))(hr:gZ k X.A)(hg:Gl X x)
 (hm:X.mg x=some (.ref fa))(hk:PySem.W.keepIn X.K (.ref fa)=true)(hb:Binds X.K fd ps [])(he:SEs X cl (e::es) (.cons e' es'))(hdb:(x == ("__debug__" : Str))=false)(hn:noStar e=true)(hns:es.all noStar=true) :
  SE X cl (.Call (.Name x p) (e::es) [] pos) (.call f (.cons e' es')):=by
 refine PE.weak (vy F hr hg hm hk hb he hdb (az es hn) (dJ hns)) fun σ H Q h=>?_
 obtain⟨σD,d,rv,ev,q⟩:=h
 rw[RL.ev]at ev
 obtain⟨ds,e1,e2⟩:=bind_some ev
 refine⟨σD,ds,rv,e1,fun vs H1 s1 r1=>?_⟩
 refine⟨ds,d,r1,e2,fun v H2 s2 r2=>q v H2 ⟨s1.trans s2,r2.none,fun _ m a z=>?_,fun M _ P hP _=>?_⟩⟩
 ·subst z
  have hh:H1 a=none:=by
   cases d with
   | lst ds=>obtain⟨p,xs,e1,e2,_⟩:=aD r2;cases e1;exact Classical.byContradiction e2
   | dK ks ds=>rw[Rep]at r2;obtain⟨p,xs,e1,e2,_⟩:=r2;cases e1;exact Classical.byContradiction e2
   | dT ks ds=>rw[Rep]at r2;obtain⟨p,xs,e1,e2,_⟩:=r2;cases e1;exact Classical.byContradiction e2
   | _=>cases m
  exact s1.free hh
 ·refine r2.weak fun a z=>?_
  obtain⟨o,ho⟩:=Option.ne_none_iff_exists'.mp (hP a z)
  rw[s1 _ _ ho]
  exact fun q=>nomatch q
end rulesH
theorem zo{x:Str}{i:Int}{pos:Pos}(h:XOk C X cl)(hg:glB C x=true)(hl:C.G.lookup x=some i):SE X cl (.Name x pos) (.glb x i):=by
 obtain⟨u,h1,h2⟩:=h.glb x i hl
 obtain⟨g1,g2⟩:=h.gl hg
 exact BJ (u:=u) (qA g1 h1 h2 (bI g2).1)
theorem yY{x:Str}{f:Nat}(hcal:(C.calm || C.hf.contains f)=true){p pos:Pos}{y:Expr}{ys:List Expr}{es:RL.Es}(h:XOk C X cl)(hg:glB C x=true)(hf:C.F[f]?=some (x,[]))(he:SEs X cl (y::ys) es)(hl:dD es=ys.length+1)(hn:noStar y=true)(hns:ys.all noStar=true) :
  SE X cl (.Call (.Name x p) (y::ys) [] pos) (.call f es):=by
 obtain⟨g1,g2⟩:=h.gl hg
 by_cases hc:C.calm=true
 ·obtain⟨k,fa,fd,ps,F,hr,hm,hk,hb⟩:=h.fns f x [] hc hf
  rw[if_pos rfl]at F
  cases es with
  | nil=>simp[dD]at hl
  | cons e' es'=>exact yt F hr g1 hm hk hb he (bI g2).1 hn hns
 ·have hh:C.hf.contains f=true:=by simpa[hc]using hcal
  obtain⟨k,fa,fd,ps,F,hr,hm,hk,hb⟩:=h.hfn f x hh hf
  cases es with
  | nil=>simp[dD]at hl
  | cons e' es'=>exact vU F hr g1 hm hk hb he (bI g2).1 hn hns
theorem k7{scope sc:Scope}(h:scB scope sc=true):lu scope sc:=by
 unfold scB at h
 obtain⟨h1,h2⟩:=ae h
 rw[List.all_eq_true]at h2
 refine⟨by simpa using h1,fun x hx z=>?_,fun x hx z=>?_,fun x hx z=>?_⟩
 ·have:=h2 x hx
  rw[z]at this
  simpa using this
 ·have:=h2 x hx
  rw[z]at this
  simpa using this
 ·have:=h2 x hx
  rw[z]at this
  simpa using this
theorem gQ{scope:Scope}{tg:List Nat}(h:jX C scope tg=true)(i:Nat)(x:Str)(hx:C.N[i]?=some x)(hl:scope.names.lookup x=some .local\/scope.names.lookup x=some .cell):tg.contains i=true:=by
 unfold jX at h
 rw[List.all_eq_true]at h
 have:=h i (List.mem_range.mpr (List.getElem?_eq_some_iff.mp hx).1)
 rw[hx]at this
 rcases hl with hl | hl
 ·simp only[hl,beq_self_eq_true,Bool.true_or,Bool.not_true,Bool.false_or]at this
  exact this
 ·simp only[hl,beq_self_eq_true,Bool.or_true,Bool.not_true,Bool.false_or]at this
  exact this
theorem lC{X:Cx}{cls:List (Str × Addr)}{scope:Scope}{Ca:Addr}{fp:List Addr}{s:Shared}{H:Hp}{pins:List (Addr × Obj)}{s':Shared}{σ:L2.St}{H':Hp}{Q:Bool->Hp->Prop}(I:Inv (L2.blk X scope cls Ca fp s H) pins σ H' s')(q:jV σ H' Q) :
  wpAny (model X.prog X.w) X.A (fL [] (compEnvC scope cls Ca X.env)) (TP (L2.blk X scope cls Ca fp s H) pins σ Q) (fun _ _=>False) s':=by
 unfold fL
 exact wpAny_pure ⟨H',I,q⟩
theorem lR{X:Cx}{cls:List (Str × Addr)}{scope:Scope}{Ca:Addr}{fp:List Addr}{s:Shared}{H:Hp}{pins:List (Addr × Obj)}{s':Shared}{σ:L2.St}{H':Hp}{Q:Bool->Hp->Prop}{c:Expr}{t:TT}(hc:PT (L2.blk X scope cls Ca fp s H) c t)(I:Inv (L2.blk X scope cls Ca fp s H) pins σ H' s')(q:t σ H' Q) :
  wpAny (model X.prog X.w) X.A (fL [c] (compEnvC scope cls Ca X.env)) (TP (L2.blk X scope cls Ca fp s H) pins σ Q) (fun _ _=>False) s':=by
 have h:=hc pins s' σ H' Q I q
 unfold fL
 simp only[List.forIn_cons,List.forIn_nil,if_true]
 refine wpAny_bind (wpAny_bind (thn h fun b s1 hb=>wpAny_pure ?_))
 exact wpAny_pure hb
theorem kq(h:XOk C X cl){scope:Scope}{cls:List (Str × Addr)}{Ca:Addr}{fp:List Addr}{s:Shared}{H:Hp}{tg:List Nat}(ha:kz C scope tg=true){tgE:Expr}(hc:lp (C.inner scope) tg tgE=true):PG (L2.blk X scope cls Ca fp s H) tgE (gT X.K tg):=by
 have hb:=h.blk (scope:=scope) cls Ca fp s H
 unfold kz at ha
 rw[List.all_eq_true]at ha
 refine p7 hb (fun i x hi hx=>?_) hc
 have:=ha i hi
 have hx:X.N[i]?=some x:=hx
 rw[h.names]at hx
 rw[hx]at this
 simp only[Bool.or_eq_true,beq_iff_eq]at this
 rcases this with z | z
 ·exact .inr (lookup_relabel_local z)
 ·exact .inl (by show(scope.names.lookup x == some .cell)=true;rw[z];rfl)
theorem jo{α:Type}{o:Option α}(h:o.isNone=true):o=none:=by
 cases o with
 | none=>rfl
 | some _=>cases h
end
mutual
theorem ak{cl:RL.Cl}:∀ (e':RL.E) {C:CC} {X:Cx} (h:XOk C X cl) (e:Expr),mU X cl e e' (chk C false e' e) (chk C true e' e)
 | .var i,C,X,h,e=>aR (b:=chk C false (.var i) e) fun z=>by
  obtain⟨x,p,rfl,g1,g2,g3,g4⟩:=gK h z
  exact⟨Bw g1 g2 g3 g4,rfl⟩
 | .cst d,C,X,h,e=>aR (b:=chk C false (.cst d) e) fun z=>by
  obtain⟨k,z0,z⟩:=aj z
  obtain⟨j,p,rfl⟩:=gD z0
  exact⟨AF z,rfl⟩
 | .glb y i,C,X,h,e=>aR (b:=chk C false (.glb y i) e) fun z=>by
  obtain⟨x,z0,z⟩:=aj z
  obtain⟨p,rfl⟩:=bU z0
  obtain⟨z,z3⟩:=ae z
  obtain⟨z1,z2⟩:=ae z
  rw[beq_iff_eq]at z1 z3
  subst z1
  exact⟨zo h z2 z3,rfl⟩
 | .bin o a b,C,X,h,e=>aR (b:=chk C false (.bin o a b) e) fun z=>by
  obtain⟨⟨l,op,r⟩,z0,z⟩:=aj z
  obtain⟨p,rfl⟩:=yW z0
  obtain⟨z,z3⟩:=ae z
  obtain⟨z1,z2⟩:=ae z
  rw[beq_iff_eq]at z1
  have z1:op=oP o:=z1
  subst z1
  exact⟨BW ((ak a h l).1 z2) ((ak b h r).1 z3),rfl⟩
 | .neg a,C,X,h,e=>aR (b:=chk C false (.neg a) e) fun z=>by
  obtain⟨⟨op,x⟩,z0,z⟩:=aj z
  obtain⟨p,rfl⟩:=oG z0
  obtain⟨z1,z2⟩:=ae z
  rw[beq_iff_eq]at z1
  have z1:op=.USub:=z1
  subst z1
  exact⟨zQ ((ak a h x).1 z2),rfl⟩
 | .cmp c a b,C,X,h,e=>ib (b:=chk C false (.cmp c a b) e) fun z=>by
  obtain⟨⟨l,os,rs⟩,z0,z⟩:=aj z
  obtain⟨p,rfl⟩:=gF z0
  obtain⟨op,y1,z⟩:=aQ z
  obtain⟨r,y2,z⟩:=aQ z
  have y1:os=[op]:=y1
  have y2:rs=[r]:=y2
  subst y1 y2
  obtain⟨z,z3⟩:=ae z
  obtain⟨z1,z2⟩:=ae z
  rw[beq_iff_eq]at z1
  subst z1
  exact⟨zx h.hu ((ak a h l).1 z2) ((ak b h r).1 z3),B3 h.hu ((ak a h l).1 z2) ((ak b h r).1 z3),rfl⟩
 | .chain c c' a b d,C,X,h,e=>ib (b:=chk C false (.chain c c' a b d) e) fun z=>by
  obtain⟨⟨l,os,rs⟩,z0,z⟩:=aj z
  obtain⟨p,rfl⟩:=gF z0
  obtain⟨op,op',y1,z⟩:=eM z
  obtain⟨r,s,y2,z⟩:=eM z
  have y1:os=[op,op']:=y1
  have y2:rs=[r,s]:=y2
  subst y1 y2
  obtain⟨z,z5⟩:=ae z
  obtain⟨z,z4⟩:=ae z
  obtain⟨z,z3⟩:=ae z
  obtain⟨z1,z2⟩:=ae z
  rw[beq_iff_eq]at z1 z2
  subst z1 z2
  exact⟨v7 h.hu ((ak a h l).1 z3) ((ak b h r).1 z4) ((ak d h s).1 z5),vt h.hu ((ak a h l).1 z3) ((ak b h r).1 z4) ((ak d h s).1 z5),rfl⟩
 | .isB _ _ _,C,X,h,e=>cj rfl rfl
 | .isN neg a,C,X,h,e=>ib (b:=chk C false (.isN neg a) e) fun z=>by
  obtain⟨⟨l,os,rs⟩,z0,z⟩:=aj z
  obtain⟨p,rfl⟩:=gF z0
  obtain⟨op,y1,z⟩:=aQ z
  obtain⟨r,y2,z⟩:=aQ z
  have y1:os=[op]:=y1
  have y2:rs=[r]:=y2
  subst y1 y2
  obtain⟨z,z3⟩:=ae z
  obtain⟨z1,z2⟩:=ae z
  rw[beq_iff_eq]at z1
  subst z1
  obtain⟨k,w0,w⟩:=aj z2
  obtain⟨j,q,rfl⟩:=gD w0
  have w:=yb w
  subst w
  exact⟨zI ((ak a h l).1 z3),ze ((ak a h l).1 z3),rfl⟩
 | .inn neg a b,C,X,h,e=>ib (b:=chk C false (.inn neg a b) e) fun z=>by
  obtain⟨⟨l,os,rs⟩,z0,z⟩:=aj z
  obtain⟨p,rfl⟩:=gF z0
  obtain⟨op,y1,z⟩:=aQ z
  obtain⟨r,y2,z⟩:=aQ z
  have y1:os=[op]:=y1
  have y2:rs=[r]:=y2
  subst y1 y2
  obtain⟨z,z4⟩:=ae z
  obtain⟨z,z3⟩:=ae z
  obtain⟨z1,z2⟩:=ae z
  rw[beq_iff_eq]at z1
  subst z1
  exact⟨BE ((ak a h l).1 z3) ((ak b h r).1 z4) z2,Bl ((ak a h l).1 z3) ((ak b h r).1 z4) z2,rfl⟩
 | .inD _ _ _,C,X,h,e=>cj rfl rfl
 | .and a b,C,X,h,e=>⟨(fun z=>by
   obtain⟨⟨op,es,p⟩,z0,z⟩:=aj z
   obtain⟨l,r,rest,y1,z⟩:=jQ z
   have e0:=hX z0
   have y1:es=l::r::rest:=y1
   obtain⟨z,z3⟩:=ae z
   obtain⟨z1,z2⟩:=ae z
   rw[beq_iff_eq]at z1
   have z1:op=.And:=z1
   subst y1 z1 e0
   refine AA ((ak a h l).1 z2) ?_
   split at z3
   ·rename_i hr
    rw[List.isEmpty_iff]at hr
    subst hr
    exact sM ((ak b h r).1 z3)
   ·exact(ak b h _).1 z3),(fun z=>by
   obtain⟨⟨op,es,p⟩,z0,z⟩:=aj z
   obtain⟨l,r,rest,y1,z⟩:=jQ z
   have e0:=hX z0
   have y1:es=l::r::rest:=y1
   obtain⟨z,z3⟩:=ae z
   obtain⟨z1,z2⟩:=ae z
   rw[beq_iff_eq]at z1
   have z1:op=.And:=z1
   subst y1 z1 e0
   have w:SW X cl (.BoolOp .And (l::r::rest) p) (.and a b):=by
    refine A3 ((ak a h l).2 z2).1 ?_
    split at z3
    ·rename_i hr
     rw[List.isEmpty_iff]at hr
     subst hr
     exact uL ((ak b h r).2 z3).1
    ·exact((ak b h _).2 z3).2 rfl
   exact⟨w.pt,fun _=>w⟩)⟩
 | .or a b,C,X,h,e=>⟨(fun z=>by
   obtain⟨⟨op,es,p⟩,z0,z⟩:=aj z
   obtain⟨l,r,rest,y1,z⟩:=jQ z
   have e0:=hX z0
   have y1:es=l::r::rest:=y1
   obtain⟨z,z3⟩:=ae z
   obtain⟨z1,z2⟩:=ae z
   rw[beq_iff_eq]at z1
   have z1:op=.Or:=z1
   subst y1 z1 e0
   refine Cy ((ak a h l).1 z2) ?_
   split at z3
   ·rename_i hr
    rw[List.isEmpty_iff]at hr
    subst hr
    exact sM ((ak b h r).1 z3)
   ·exact(ak b h _).1 z3),(fun z=>by
   obtain⟨⟨op,es,p⟩,z0,z⟩:=aj z
   obtain⟨l,r,rest,y1,z⟩:=jQ z
   have e0:=hX z0
   have y1:es=l::r::rest:=y1
   obtain⟨z,z3⟩:=ae z
   obtain⟨z1,z2⟩:=ae z
   rw[beq_iff_eq]at z1
   have z1:op=.Or:=z1
   subst y1 z1 e0
   have w:SW X cl (.BoolOp .Or (l::r::rest) p) (.or a b):=by
    refine CL ((ak a h l).2 z2).1 ?_
    split at z3
    ·rename_i hr
     rw[List.isEmpty_iff]at hr
     subst hr
     exact uL ((ak b h r).2 z3).1
    ·exact((ak b h _).2 z3).2 rfl
   exact⟨w.pt,fun _=>w⟩)⟩
 | .not a,C,X,h,e=>⟨(fun z=>by
   obtain⟨⟨op,x⟩,z0,z⟩:=aj z
   obtain⟨p,rfl⟩:=oG z0
   obtain⟨z1,z2⟩:=ae z
   rw[beq_iff_eq]at z1
   have z1:op=.Not:=z1
   subst z1
   exact Al ((ak a h x).1 z2)),(fun z=>by
   obtain⟨⟨op,x⟩,z0,z⟩:=aj z
   obtain⟨p,rfl⟩:=oG z0
   obtain⟨z1,z2⟩:=ae z
   rw[beq_iff_eq]at z1
   have z1:op=.Not:=z1
   subst z1
   exact⟨zq ((ak a h x).2 z2).1,fun q=>by cases q⟩)⟩
 | .ifx c a b,C,X,h,e=>⟨(fun z=>by
   obtain⟨⟨q,l,r⟩,z0,z⟩:=aj z
   obtain⟨p,rfl⟩:=yc z0
   obtain⟨z,z4⟩:=ae z
   obtain⟨z,z3⟩:=ae z
   obtain⟨z1,z2⟩:=ae z
   exact AR ((ak c h q).2 z2).1 ((ak a h l).1 z3) ((ak b h r).1 z4)),(fun z=>by
   obtain⟨⟨q,l,r⟩,z0,z⟩:=aj z
   obtain⟨z,z4⟩:=ae z
   obtain⟨z,z3⟩:=ae z
   obtain⟨z1,z2⟩:=ae z
   cases z1)⟩
 | .tup es,C,X,h,e=>aR (b:=chk C false (.tup es) e) fun z=>by
  obtain⟨xs,z0,z⟩:=aj z
  obtain⟨k,p,rfl⟩:=eA z0
  obtain⟨z1,z2⟩:=ae z
  exact⟨B6 (fH es h _ z1).1 (by simpa using z2),rfl⟩
 | .lst es,C,X,h,e=>aR (b:=chk C false (.lst es) e) fun z=>by
  obtain⟨xs,z0,z⟩:=aj z
  obtain⟨p,rfl⟩:=yp z0
  obtain⟨z1,z2⟩:=ae z
  exact⟨B9 (fH es h _ z1).1 (by simpa using z2),rfl⟩
 | .ix a b,C,X,h,e=>aR (b:=chk C false (.ix a b) e) fun z=>by
  obtain⟨⟨l,r⟩,z0,z⟩:=aj z
  obtain⟨p,rfl⟩:=iY z0
  obtain⟨z,z3⟩:=ae z
  obtain⟨z1,z2⟩:=ae z
  exact⟨CB ((ak a h l).1 z2) ((ak b h r).1 z3) z1,rfl⟩
 | .ixD _ _,C,X,h,e=>cj rfl rfl
 | .slT a b,C,X,h,e=>aR (b:=chk C false (.slT a b) e) fun z=>by
  obtain⟨⟨l,s⟩,z0,z⟩:=aj z
  obtain⟨p,rfl⟩:=iY z0
  obtain⟨z1,z⟩:=ae z
  obtain⟨⟨s1,s2,s3⟩,z0,z⟩:=aj z
  obtain⟨q,e0⟩:=AS z0
  have e0:s=.Slice s1 s2 s3 q:=e0
  obtain⟨z,z4⟩:=ae z
  obtain⟨z2,z3⟩:=ae z
  have w2:s1=none:=jo z2
  have w3:s3=none:=jo z3
  obtain⟨r,y0,z4⟩:=aj z4
  have y1:s2=some r:=y0
  rw[w2,w3,y1]at e0
  subst e0
  exact⟨zA ((ak a h l).1 z1) ((ak b h r).1 z4),rfl⟩
 | .slF _ _,C,X,h,e=>cj rfl rfl
 | .rev _,C,X,h,e=>cj rfl rfl
 | .call f es,C,X,h,e=>aR (b:=chk C false (.call f es) e) fun z=>by
  obtain⟨zc,z⟩:=ae z
  obtain⟨⟨g,as,ks,p⟩,z0,z⟩:=aj z
  have z0:=dF z0
  subst z0
  obtain⟨z,z4⟩:=ae z
  obtain⟨z,z3⟩:=ae z
  obtain⟨z1,z2⟩:=ae z
  obtain⟨x,y0,z1⟩:=aj z1
  obtain⟨q,e0⟩:=bU y0
  have e0:g=.Name x q:=e0
  obtain⟨y1,y2⟩:=ae z1
  rw[beq_iff_eq]at y2
  have w2:ks=[]:=by rw[List.isEmpty_iff]at z2;exact z2
  subst e0 w2
  obtain⟨q1,q2,q3⟩:=fH es h _ z4
  dsimp only at z3 q1 q2 q3
  cases as with
  | nil=>cases z3
  |cons y ys=>
   rw[List.all_cons]at q3
   exact⟨yY zc h y1 y2 q1 q2 (ae q3).1 (ae q3).2,rfl⟩
 | .bi o a,C,X,h,e=>by
  have gen:(∀ t,chk C t (.bi o a) e=(C.calm&&(rB o).any fun x=>cN C e x fun ys=>of1 ys fun y=>chk C false a y))->mU X cl e (.bi o a) (chk C false (.bi o a) e) (chk C true (.bi o a) e):=fun heq=>by
   rw[heq,heq]
   refine aR fun z=>?_
   obtain⟨zc,z⟩:=ae z
   obtain⟨x,y0,z⟩:=aj z
   obtain⟨p,as,pos,rfl,b1,b2,z3,z4⟩:=bO h z
   obtain⟨y,rfl,z4⟩:=aQ z4
   exact⟨Ci (h.calm zc) y0 b1 b2 ((ak a h y).1 z4) (all1 z3),rfl⟩
  cases o
  case lenSet=>exact cj (Bool.and_false _) (Bool.and_false _)
  all_goals exact gen fun t=>rfl
 | .max _ _,C,X,h,e=>cj rfl rfl
 | .min _ _,C,X,h,e=>cj rfl rfl
 | .dvm _ _,C,X,h,e=>cj rfl rfl
 | .isi a ty,C,X,h,e=>aR (b:=chk C false (.isi a ty) e) fun z=>by
  rw[chk]at z
  obtain⟨p,as,pos,rfl,b1,b2,z3,z4⟩:=bO h z
  obtain⟨y,u,rfl,z4⟩:=eM z4
  obtain⟨z5,z6⟩:=ae z4
  obtain⟨x,w0,w⟩:=aj z5
  obtain⟨q,rfl⟩:=bU w0
  obtain⟨w1,w2⟩:=ae w
  rw[beq_iff_eq]at w1
  subst w1
  obtain⟨t1,t2,t3⟩:=tL ty
  exact⟨B4 b1 b2 (h.bl w2).1 (h.bl w2).2 t1 t2 t3 ((ak a h y).1 z6) (all2 z3).1,rfl⟩
 | .rng1 a,C,X,h,e=>aR (b:=chk C false (.rng1 a) e) fun z=>by
  rw[chk]at z
  obtain⟨zc,z⟩:=ae z
  obtain⟨p,as,pos,rfl,b1,b2,z3,z4⟩:=bO h z
  obtain⟨y,rfl,z5⟩:=aQ z4
  obtain⟨p',as',pos',rfl,b1',b2',z3',z6⟩:=bO h z5
  obtain⟨y,rfl,z7⟩:=aQ z6
  exact⟨yC (h.calm zc) b1 b2 b1' b2' ((ak a h y).1 z7) (all1 z3'),rfl⟩
 | .rng2 a b,C,X,h,e=>aR (b:=chk C false (.rng2 a b) e) fun z=>by
  rw[chk]at z
  obtain⟨zc,z⟩:=ae z
  obtain⟨p,as,pos,rfl,b1,b2,z3,z4⟩:=bO h z
  obtain⟨y,rfl,z5⟩:=aQ z4
  obtain⟨p',as',pos',rfl,b1',b2',z3',z6⟩:=bO h z5
  obtain⟨y,u,rfl,z7⟩:=eM z6
  exact⟨yk (h.calm zc) b1 b2 b1' b2' ((ak a h y).1 (ae z7).1) ((ak b h u).1 (ae z7).2) (all2 z3').1 (all2 z3').2,rfl⟩
 | .rng3 _ _ _,C,X,h,e=>cj rfl rfl
 | .comp d tg it c,C,X,h,e=>aR (b:=chk C false (.comp d tg it c) e) fun z=>by
  obtain⟨⟨elt,gens,scope,p⟩,z0,z⟩:=aj z
  have z0:=nh z0
  subst z0
  obtain⟨⟨tgE,iter,ifs,asy⟩,y1,z⟩:=aQ z
  have y1:gens=[⟨tgE,iter,ifs,asy⟩]:=y1
  obtain⟨w,y2,z⟩:=aQ z
  have y2:ifs=[w]:=y2
  obtain⟨z,zc⟩:=ae z
  obtain⟨z,z8⟩:=ae z
  obtain⟨z,z7⟩:=ae z
  obtain⟨z,z6⟩:=ae z
  obtain⟨z,z5⟩:=ae z
  obtain⟨z,z4⟩:=ae z
  obtain⟨z,z3⟩:=ae z
  obtain⟨z,z2⟩:=ae z
  obtain⟨z0,z1⟩:=ae z
  rw[beq_iff_eq]at z0
  have w0:asy=0:=z0
  subst y1 w0
  subst y2
  have B:ip X cl scope tgE tg elt d (tT X.K cl c) [w]:=⟨fun cls Ca fp s H=>kq h z5 z4,fun cls Ca fp s H pins s' σ H' Q I q=>lR ((ak c (h.blk cls Ca fp s H) _).2 z8).1 I q,fun cls Ca fp s H=>(ak d (h.blk cls Ca fp s H) _).1 z7,fun i x hx hl=>gQ z2 i x (by rw[<-h.names];exact hx) hl⟩
  by_cases hc:C.calm=true
  ·exact⟨oN (fun _ _ _ _=>h.calm hc) (by rw[h.scope];exact k7 z1) (fB it h _ _ z6) B (cX z3 _),rfl⟩
  ·have hz:rJ it=true:=by simpa[hc]using zc
   exact⟨oN (CM:=fun _=>True) (fun _ _ _ _=>trivial) (by rw[h.scope];exact k7 z1) (xT it h _ _ z6 hz) B (cX z3 _),rfl⟩
 | .compA d tg it,C,X,h,e=>aR (b:=chk C false (.compA d tg it) e) fun z=>by
  obtain⟨⟨elt,gens,scope,p⟩,z0,z⟩:=aj z
  have z0:=nh z0
  subst z0
  obtain⟨⟨tgE,iter,ifs,asy⟩,y1,z⟩:=aQ z
  have y1:gens=[⟨tgE,iter,ifs,asy⟩]:=y1
  obtain⟨z,zc⟩:=ae z
  obtain⟨z,z7⟩:=ae z
  obtain⟨z,z6⟩:=ae z
  obtain⟨z,z5⟩:=ae z
  obtain⟨z,z4⟩:=ae z
  obtain⟨z,z3⟩:=ae z
  obtain⟨z,z2⟩:=ae z
  obtain⟨z,z1⟩:=ae z
  obtain⟨y2,z0⟩:=ae z
  rw[beq_iff_eq]at z0
  have w0:asy=0:=z0
  have w2:ifs=[]:=by rw[List.isEmpty_iff]at y2;exact y2
  subst y1 w0
  subst w2
  refine⟨wI (h.calm zc) (by rw[h.scope];exact k7 z1) (fB it h _ _ z6) ?_ (cX z3 _),rfl⟩
  exact⟨fun cls Ca fp s H=>kq h z5 z4,fun cls Ca fp s H pins s' σ H' Q I q=>lC I q,fun cls Ca fp s H=>(ak d (h.blk cls Ca fp s H) _).1 z7,fun i x hx hl=>gQ z2 i x (by rw[<-h.names];exact hx) hl⟩
 | .compL _ _ _,C,X,h,e=>cj rfl rfl
 | .dk0,C,X,h,e=>cj rfl rfl
 | .dt0,C,X,h,e=>cj rfl rfl
 | .chain3 _ _ _ _ _ _ _,C,X,h,e=>cj rfl rfl
 | .slB _ _ _,C,X,h,e=>cj rfl rfl
 | .get _ _ _,C,X,h,e=>cj rfl rfl
 | .index _ _,C,X,h,e=>cj rfl rfl
 | .join a,C,X,h,e=>aR (b:=chk C false (.join a) e) fun z=>by
  obtain⟨⟨g,as,ks,p⟩,z0,z⟩:=aj z
  have z0:=dF z0
  obtain⟨z,z3⟩:=ae z
  obtain⟨z1,z2⟩:=ae z
  obtain⟨⟨o,nm,apos⟩,y0,z1⟩:=aj z1
  have e1:=oJ y0
  have e1:g=.Attribute o nm apos:=e1
  obtain⟨z1,y3⟩:=ae z1
  obtain⟨y1,y2⟩:=ae z1
  rw[beq_iff_eq]at y1
  have y1:nm = "join" := y1
  obtain⟨kk,w0,w⟩:=aj y3
  obtain⟨j,q,e2⟩:=gD w0
  have e2:o=.Constant kk j q:=e2
  have e4:kk=.str ⟨#[]⟩:=by
   cases kk<;>simp only[fY]at w<;>first | (cases w;done) | skip
   rw[beq_iff_eq]at w
   rw[<-w]
  have w2:ks=[]:=by rw[List.isEmpty_iff]at z2;exact z2
  obtain⟨y,e3,z3⟩:=aQ z3
  have e3:as=[y]:=e3
  obtain⟨z3,z5⟩:=ae z3
  rw[e1,y1,e2,e4,w2,e3]at z0
  subst z0
  exact⟨yw ((ak a h y).1 z5) z3 y2,rfl⟩
 | .isx a c,C,X,h,e=>aR (b:=chk C false (.isx a c) e) fun z=>by
  rw[chk]at z
  obtain⟨p,as,pos,rfl,b1,b2,z3,z4⟩:=bO h z
  obtain⟨y,u,rfl,z4⟩:=eM z4
  obtain⟨z5,z6⟩:=ae z4
  obtain⟨x,w0,w⟩:=aj z5
  obtain⟨q,rfl⟩:=bU w0
  obtain⟨w1,w2⟩:=ae w
  rw[beq_iff_eq]at w1
  subst w1
  split at w2
  ·rename_i hv
   rw[beq_iff_eq]at hv
   subst hv
   exact⟨B8 b1 b2 (h.bl w2).1 (h.bl w2).2 ((ak a h y).1 z6) (all2 z3).1,rfl⟩
  ·obtain⟨w2,w4⟩:=ae w2
   obtain⟨w2,w3⟩:=ae w2
   obtain⟨D,d1,d2⟩:=h.ref x w3
   exact⟨Aq b1 b2 (h.gl w2).1 d1 d2 (by simpa using w4) (bI (h.gl w2).2).1 ((ak a h y).1 z6) (all2 z3).1,rfl⟩
theorem fH{cl:RL.Cl}:∀ (es':RL.Es) {C:CC} {X:Cx} (h:XOk C X cl) (es:List Expr),ja C es' es=true->SEs X cl es es'/\dD es'=es.length/\es.all noStar=true
 | .nil,C,X,h,es,z=>by
  have z:es=[]:=List.isEmpty_iff.mp z
  subst z
  exact⟨dS,rfl,rfl⟩
 | .cons e' es',C,X,h,es,z=>by
  cases es with
  | nil=>cases z
  |cons e es=>
   obtain⟨z,z3⟩:=ae z
   obtain⟨z1,z2⟩:=ae z
   obtain⟨q1,q2,q3⟩:=fH es' h es z3
   exact⟨cy ((ak e' h e).1 z2) q1 z1,by rw[dD,q2,List.length_cons],by rw[List.all_cons,z1,q3];rfl⟩
theorem fB{cl:RL.Cl}:∀ (it:RL.It) {C:CC} {X:Cx} (h:XOk C X cl) (tg e:Expr),gh C it tg e=true->SI X cl tg e it
 | .seq a,C,X,h,tg,e,z=>yn ((ak a h e).1 z)
 | .rng1 a,C,X,h,tg,e,z=>by
  rw[gh]at z
  obtain⟨p,as,pos,rfl,b1,b2,z3,z4⟩:=bO h z
  obtain⟨y,rfl,z4⟩:=aQ z4
  exact xF b1 b2 ((ak a h y).1 z4) (all1 z3)
 | .rng2 a b,C,X,h,tg,e,z=>by
  rw[gh]at z
  obtain⟨p,as,pos,rfl,b1,b2,z3,z4⟩:=bO h z
  obtain⟨y,u,rfl,z4⟩:=eM z4
  exact xY b1 b2 ((ak a h y).1 (ae z4).1) ((ak b h u).1 (ae z4).2) (all2 z3).1 (all2 z3).2
 | .rng3 _ _ _,C,X,h,tg,e,z=>by cases z
 | .chr _,C,X,h,tg,e,z=>by cases z
 | .enm a,C,X,h,tg,e,z=>by
  rw[gh]at z
  obtain⟨z0,zz⟩:=ae z
  obtain⟨ts,z0⟩:=Option.isSome_iff_exists.mp z0
  obtain⟨k,tp,rfl⟩:=eA z0
  obtain⟨p,as,pos,rfl,b1,b2,z3,z4⟩:=bO h zz
  obtain⟨y,rfl,z4⟩:=aQ z4
  exact y6 b1 b2 ((ak a h y).1 z4) (all1 z3)
 | .zip a b,C,X,h,tg,e,z=>by
  rw[gh]at z
  obtain⟨z0,zz⟩:=ae z
  obtain⟨ts,z0⟩:=Option.isSome_iff_exists.mp z0
  obtain⟨k,tp,rfl⟩:=eA z0
  obtain⟨p,as,pos,rfl,b1,b2,z3,z4⟩:=bO h zz
  obtain⟨y,u,rfl,z4⟩:=eM z4
  exact PI'.calm (vc b1 b2 ((ak a h y).1 (ae z4).1) ((ak b h u).1 (ae z4).2) (all2 z3).1 (all2 z3).2)
 | .nope,C,X,h,tg,e,z=>by cases z
theorem xT{cl:RL.Cl}:∀ (it:RL.It) {C:CC} {X:Cx} (h:XOk C X cl) (tg e:Expr),gh C it tg e=true->rJ it=true->PI' (fun _=>True) X tg e (tI X.K cl it)
 | .zip a b,C,X,h,tg,e,z,_=>by
  rw[gh]at z
  obtain⟨z0,zz⟩:=ae z
  obtain⟨ts,z0⟩:=Option.isSome_iff_exists.mp z0
  obtain⟨k,tp,rfl⟩:=eA z0
  obtain⟨p,as,pos,rfl,b1,b2,z3,z4⟩:=bO h zz
  obtain⟨y,u,rfl,z4⟩:=eM z4
  exact vc b1 b2 ((ak a h y).1 (ae z4).1) ((ak b h u).1 (ae z4).2) (all2 z3).1 (all2 z3).2
 | .seq _,C,X,h,tg,e,z,w=>by cases w
 | .rng1 _,C,X,h,tg,e,z,w=>by cases w
 | .rng2 _ _,C,X,h,tg,e,z,w=>by cases w
 | .rng3 _ _ _,C,X,h,tg,e,z,w=>by cases w
 | .chr _,C,X,h,tg,e,z,w=>by cases w
 | .enm _,C,X,h,tg,e,z,w=>by cases w
 | .nope,C,X,h,tg,e,z,w=>by cases w
end
noncomputable def di:Expr->Bool
 | .ListComp _ _ _ _=>false
 | .SetComp _ _ _ _=>false
 | .DictComp _ _ _ _ _=>false
 | _=>true
noncomputable def uH:Expr->Bool
 | .Tuple _ _ _=>false
 | _=>true
noncomputable def rY(e:Expr):Bool:=match e with
 | .SetComp _ _ _ _=>false
 | .DictComp _ _ _ _ _=>false
 | _=>true
noncomputable def qt(M:List Nat):RL.E->Bool
 | .var i=>M.contains i
 | _=>false
noncomputable def rL(C:CC):RL.Es->List Expr->Bool
 | .nil=>fun xs=>xs.isEmpty
 | .cons e es=>fun xs=>match xs with
  | x::xs=>noStar x&&chk C false e x&&rL C es xs
  | []=>false
noncomputable def x4:RL.Bop->Operator->Bool
 | .add,.Add=>true
 | .sub,.Sub=>true
 | _,_=>false
noncomputable def mH(C:CC)(i:Nat)(nm:Str)(e:Expr)(f:List Expr->Bool):Bool:=(hV e).any fun q=>(rA q.1).any (fun a=>m7 C i a.1&&a.2.1 == nm&&a.2.2.endLine == q.2.2.2.line)&&q.2.2.1.isEmpty&&f q.2.1
noncomputable def km(C:CC)(M:List Nat)(f:Nat)(es:RL.Es)(ps ms:List Nat)(e:Expr):Bool:=(hV e).any fun q=>(ee q.1).any (fun x=>glB C x&&C.F[f]? == some (x,ps))&&q.2.2.1.isEmpty && !q.2.1.isEmpty && !ps.isEmpty&&rL C es q.2.1&&bM es ps ms&&ms.all (fun i=>M.contains i)&&decide ms.Nodup&&decide ps.Nodup&&C.calm
noncomputable def pA(C:CC):List Expr->RL.Es->Bool
 | [],ps=>match ps with
  | .nil=>true
  | _=>false
 | v::vs,ps=>match ly v with
  | some (.str y)=>decide (y.length<=3000)&&pA C vs ps
  | some _=>false
  | none=>(Ce v).any fun q=>q.2.1 == -1&&q.2.2.isNone&&match ps with
   | .cons e es=>chk C false e q.1&&pA C vs es
   | .nil=>false
noncomputable def Bq:Const->Bool
 | .str _=>true
 | _=>false
noncomputable def isNil:RL.Es->Bool
 | .nil=>true
 | _=>false
noncomputable def vY(C:CC)(ps:RL.Es)(a:Expr):Bool:=((ly a).any Bq&&isNil ps) || (xv a).any fun vs=>decide (2<=vs.length)&&decide (vs.length<=100)&&pA C vs ps
mutual
noncomputable def vh(C:CC)(M:List Nat):RL.S->Stmt->Bool
 | .asg i e'=>fun st=>(oW st).any fun q=>of1 q.1 fun t=>ff C i t && !M.contains i&&rY q.2&&chk C false e' q.2&&(C.calm || di q.2)
 | .own i e'=>fun st=>(oW st).any fun q=>of1 q.1 fun t=>ff C i t&&M.contains i&&decide (M.count i<2)&&rY q.2&&chk C false e' q.2&&(C.calm || di q.2)
 | .unp is e'=>fun st=>(oW st).any fun q=>of1 q.1 fun t=>(lg t).any fun ts=>iT C is ts&&is.all (fun i=>!M.contains i)&&uH q.2&&chk C false e' q.2
 | .par _ _ _ _=>fun _=>false
 | .parO _ _ _ _=>fun _=>false
 | .app i e'=>fun st=>(rV st).any fun e=>mH C i "append" e fun as=>of1 as fun y=>M.contains i&&noStar y&&chk C false e' y
 | .put i k' e'=>fun st=>(oW st).any fun q=>of1 q.1 fun t=>(sv t).any fun u=>m7 C i u.1&&M.contains i&&oD u.2&&di q.2&&chk C false k' u.2&&chk C false e' q.2
 | .pop _ _=>fun _=>false
 | .clr _=>fun _=>false
 | .aug i o e'=>fun st=>(vZ st).any fun q=>ff C i q.1 && !M.contains i&&x4 o q.2.1&&chk C false e' q.2.2
 | .ife c' a' b'=>fun st=>(wIf st).any fun q=>chk C true c' q.1&&cq C M a' q.2.1&&cq C M b' q.2.2
 | .forr tg it b'=>fun st=>(Aj st).any fun q=>q.2.2.2.isEmpty&&gh C it q.1 q.2.1&&lp C tg q.1&&kB q.2.1&&RL.oj M it&&tg.all (fun i=>!M.contains i)&&cq C M b' q.2.2.1&&C.calm
 | .mexc f es ps ms=>fun st=>(rV st).any fun e=>km C M f es ps ms e
 | .maug i f es ps ms=>fun st=>(vZ st).any fun q=>ff C i q.1 && !M.contains i&&q.2.1 == .Add&&km C M f es ps ms q.2.2
 | .ret e'=>fun st=>(zY st).any fun o=>o.any fun e=>chk C false e' e
 | .exc e'=>fun st=>(rV st).any fun e=>di e&&chk C false e' e
 | .never=>fun _=>false
 | .put2 _ _ _ _ _=>fun _=>false
 | .ifp i e' a' b'=>fun st=>(wIf st).any fun q=>(kZ q.1).any fun u=>of1 u.2.1 fun op=>of1 u.2.2 fun e=>op == .NotEq&&M.contains i&&chk C false e' e&&cq C M a' q.2.1&&cq C M b' q.2.2&&mH C i "pop" u.1 fun as=>as.isEmpty
 | .whil c' b'=>fun st=>(Cf st).any fun q=>q.2.2.isEmpty&&chk C true c' q.1&&cq C M b' q.2.1
 | .rais c ps=>fun st=>(uY st).any fun q=>C.calm&&C.Xr.contains c&&glB C c&&q.2.isNone&&q.1.any fun e=>(hV e).any fun u=>(ee u.1).any (fun x=>x == c)&&u.2.2.1.isEmpty&&of1 u.2.1 fun a=>noStar a&&vY C ps a
 | .tryc b c i hh=>fun st=>(zu st).any fun q=>C.calm&&q.2.2.1.isEmpty&&q.2.2.2.isEmpty&&C.Xr.contains c&&cU.contains c&&glB C c && !M.contains i&&of1 q.2.1 (fun hd=>(mB hd).1.any (fun t=>(ee t).any fun x=>x == c)&&(mB hd).2.1.any (fun n=>nmB C i n&&C.sc.names.lookup n == some .local) && !(mB hd).2.2.isEmpty&&cq { C with calm:=false } M hh (mB hd).2.2)&&cq C M b q.1
noncomputable def cq(C:CC)(M:List Nat):RL.Ss->List Stmt->Bool
 | .nil=>fun xs=>xs.isEmpty
 | .cons s r=>fun xs=>match xs with
  | x::xs=>vh C M s x&&cq C M r xs
  | []=>false
end
structure YOk(C:CC)(X:Cx)(cl:RL.Cl):Prop extends XOk C X cl where
 fn:∀ x,X.fn x=true
 st:X.stack=X.env::X.outer/\X.env.frame=some X.env.locals/\X.ex=[]
 fnx:∀ (f:Nat) (x:Str),C.calm=true->C.F[f]?=some (x,[])->∃ k fa fd ps,d5 X.prog X.w X.K X.mg X.base (CXE X.prog X.w) k fa fd ps (spX X.K cl f)/\bV k X.A/\X.mg x=some (.ref fa)/\PySem.W.keepIn X.K (.ref fa)=true/\Binds X.K fd ps []
structure ROk(C:CC)(X:Cx)(cl:RL.Cl)(EX:L2.St->XK):Prop where
 y:YOk C X.nox cl
 cal:C.calm=true
 pass:∀ pins σ H s e s',Inv X pins σ H s->CXE X.prog X.w X.stack H s (EX σ) e s'->X.xe e s'
 made:∀ pins σ H s h' e C vs,Inv X pins σ H s->Heap.MadeExcOf s.heap h' e (.ref C) vs->EX σ (.ref C) none H->X.xe (.ref e) { s with heap:=h' }
 own:PassesOwn (model X.prog X.w) X.A X.env X.xe
section
variable{C:CC}{X:Cx}{cl:RL.Cl}{M:List Nat}{st:Stmt}{e:Expr}{e' k':RL.E}{i:Nat}
theorem dH{t:Option Expr}{l:Nat}{env:Env}(h:di e=true):swapsWith e t l env=pure false:=by
 cases e<;>first | rfl | (cases h;done)
theorem x6{t:Expr}{spos:Pos}(hcal:(C.calm || di e)=true)(h:YOk C X cl)(hn:ff C i t=true)(ha:rY e=true)(hc:chk C false e' e=true):SA X cl (.Assign [t] e spos) i e':=by
 obtain⟨y,py,rfl,hN,hl⟩:=eF h.toXOk hn
 have plain:swapsWith e (some (.Name y py)) spos.line X.env=pure false->SA X cl (.Assign [.Name y py] e spos) i e':=fun z =>
  ve h.ndX hN hl ((ak e' h.toXOk e).1 hc) (.inl (h.fn y)) z trivial
 by_cases hcomp:di e=true
 ·exact plain (dH hcomp)
 ·have hcm:X.calm=true:=h.calm (by simpa[hcomp]using hcal)
  have:∃ elt gens scope p,e=.ListComp elt gens scope p:=by
   cases e<;>first | exact absurd rfl hcomp | exact Bool.noConfusion ha | exact⟨_,_,_,_,rfl⟩
  obtain⟨elt,gens,scope,p,rfl⟩:=this
  have hsw:swapsWith (.ListComp elt gens scope p) (some (.Name y py)) spos.line X.env=pure (X.env.blockKind == .function&&X.env.kindOf y == some .local&&py.line == p.line && !(scope.names.any fun(n,k)=>n == y&&(k == .local || k == .cell))):=rfl
  by_cases hb:(X.env.blockKind == .function&&X.env.kindOf y == some .local&&py.line == p.line && !(scope.names.any fun(n,k)=>n == y&&(k == .local || k == .cell)))=true
  ·have hy:X.env.scope.names.lookup y=some .local:=by
    obtain⟨q,_⟩:=ae (ae hb).1
    have q2:=(ae q).2
    rw[beq_iff_eq]at q2
    exact q2
   rw[hb]at hsw
   by_cases hk:∃ d tg it c,e'=.comp d tg it c
   ·obtain⟨d,tg,it,c,rfl⟩:=hk
    obtain⟨⟨tgE,iter,ifs,asy⟩,y1,z⟩:=aQ hc
    have y1:gens=[⟨tgE,iter,ifs,asy⟩]:=y1
    obtain⟨w,y2,z⟩:=aQ z
    have y2:ifs=[w]:=y2
    obtain⟨z,zc⟩:=ae z
    obtain⟨z,z8⟩:=ae z
    obtain⟨z,z7⟩:=ae z
    obtain⟨z,z6⟩:=ae z
    obtain⟨z,z5⟩:=ae z
    obtain⟨z,z4⟩:=ae z
    obtain⟨z,z3⟩:=ae z
    obtain⟨z,z2⟩:=ae z
    obtain⟨z0,z1⟩:=ae z
    rw[beq_iff_eq]at z0
    have w0:asy=0:=z0
    subst y1 w0
    subst y2
    refine wA hcm h.ndX hN hy (by rw[h.scope];exact k7 z1) (fB it h.toXOk _ _ z6) ?_ (cX z3 _) hsw
    exact⟨fun cls Ca fp s H=>kq h.toXOk z5 z4,fun cls Ca fp s H pins s' σ H' Q I q=>lR ((ak c (h.toXOk.blk cls Ca fp s H) _).2 z8).1 I q,fun cls Ca fp s H=>(ak d (h.toXOk.blk cls Ca fp s H) _).1 z7,fun i x hx hl=>gQ z2 i x (by rw[<-h.names];exact hx) hl⟩
   ·by_cases hk2:∃ d tg it,e'=.compA d tg it
    ·obtain⟨d,tg,it,rfl⟩:=hk2
     obtain⟨⟨tgE,iter,ifs,asy⟩,y1,z⟩:=aQ hc
     have y1:gens=[⟨tgE,iter,ifs,asy⟩]:=y1
     obtain⟨z,zc⟩:=ae z
     obtain⟨z,z7⟩:=ae z
     obtain⟨z,z6⟩:=ae z
     obtain⟨z,z5⟩:=ae z
     obtain⟨z,z4⟩:=ae z
     obtain⟨z,z3⟩:=ae z
     obtain⟨z,z2⟩:=ae z
     obtain⟨z,z1⟩:=ae z
     obtain⟨y2,z0⟩:=ae z
     rw[beq_iff_eq]at z0
     have w0:asy=0:=z0
     have w2:ifs=[]:=by rw[List.isEmpty_iff]at y2;exact y2
     subst y1 w0
     subst w2
     refine vm hcm h.ndX hN hy (by rw[h.scope];exact k7 z1) (fB it h.toXOk _ _ z6) ?_ (cX z3 _) hsw
     exact⟨fun cls Ca fp s H=>kq h.toXOk z5 z4,fun cls Ca fp s H pins s' σ H' Q I q=>lC I q,fun cls Ca fp s H=>(ak d (h.toXOk.blk cls Ca fp s H) _).1 z7,fun i x hx hl=>gQ z2 i x (by rw[<-h.names];exact hx) hl⟩
    ·cases e'<;>first | exact Bool.noConfusion hc | exact absurd ⟨_,_,_,_,rfl⟩ hk | exact absurd ⟨_,_,_,rfl⟩ hk2 | (obtain⟨_,hc⟩:=ae hc;exact Bool.noConfusion hc) | (rename_i b a;cases b<;>(obtain⟨_,hc⟩:=ae hc;exact Bool.noConfusion hc))
  ·have hb':=Bool.not_eq_true _▸hb
   rw[hb']at hsw
   exact plain hsw
theorem oO(h:XOk C X cl):∀ {es':RL.Es} {es:List Expr},rL C es' es=true->PA X es (fU X.K cl es')/\es.all noStar=true
 | .nil,es,z=>by
  have z:es=[]:=List.isEmpty_iff.mp z
  subst z
  exact⟨cW,rfl⟩
 | .cons _ _,[],z=>by cases z
 | .cons e' es',e::es,z=>by
  obtain⟨z,z3⟩:=ae z
  obtain⟨z1,z2⟩:=ae z
  obtain⟨q1,q2⟩:=oO h z3
  refine⟨?_,by rw[List.all_cons,z1,q2];rfl⟩
  rw[fU]
  refine bu ?_ q1 (az es z1)
  by_cases hv:∃ j,e'=.var j
  ·obtain⟨j,rfl⟩:=hv
   obtain⟨x,p,rfl,g1,g2,g3,g4⟩:=gK h z2
   exact gB g1 g2 g3 g4
  ·have ht:pC X.K cl e'=tE X.K cl e':=by
    cases e'<;>first | rfl | exact absurd ⟨_,rfl⟩ hv
   rw[ht]
   exact(ak _ h e).1 z2
theorem l0{is:List Nat}(h:is.all (fun i=>!M.contains i)=true):∀ i∈is,M.contains i=false:=fun i hi=>by
 rw[List.all_eq_true]at h
 simpa using h i hi
theorem B5{is:List Nat}(h:is.all (fun i=>M.contains i)=true):∀ i∈is,M.contains i=true:=fun i hi=>by
 rw[List.all_eq_true]at h
 exact h i hi
theorem iC{b:Bool}(h:(!b)=true):b=false:=by simpa using h
theorem p9{f:Nat}{ps ms:List Nat}{es:RL.Es}(h:XOk C X cl)(z:km C M f es ps ms e=true):PE X e (k9 (spM X.K cl ps f) [] E0 (fU X.K cl es))/\bM es ps ms=true/\(∀ i∈ms,M.contains i=true)/\ms.Nodup/\ps.Nodup/\di e=true:=by
 unfold km at z
 obtain⟨⟨g,as,ks,pos⟩,z0,z⟩:=aj z
 have e0:=dF z0
 obtain⟨z,zc⟩:=ae z
 obtain⟨z,z9⟩:=ae z
 obtain⟨z,z8⟩:=ae z
 obtain⟨z,z7⟩:=ae z
 obtain⟨z,z6⟩:=ae z
 obtain⟨z,z5⟩:=ae z
 obtain⟨z,z4⟩:=ae z
 obtain⟨z,z3⟩:=ae z
 obtain⟨z1,z2⟩:=ae z
 obtain⟨x,y0,z1⟩:=aj z1
 obtain⟨p,e1⟩:=bU y0
 have e1:g=.Name x p:=e1
 obtain⟨y1,y2⟩:=ae z1
 rw[beq_iff_eq]at y2
 have w2:ks=[]:=by rw[List.isEmpty_iff]at z2;exact z2
 rw[e1,w2]at e0
 subst e0
 refine⟨?_,z6,B5 z7,by simpa using z8,by simpa using z9,rfl⟩
 obtain⟨k,fa,fd,pn,F,hr,hm,hk,hb⟩:=h.fns f x ps zc y2
 rw[if_neg (fun z=>by subst z;cases z4)]at F
 obtain⟨q1,q2⟩:=oO h z5
 obtain⟨g1,g2⟩:=h.gl y1
 cases as with
 | nil=>cases z3
 |cons y ys=>
  rw[List.all_cons]at q2
  exact qu F hr g1 hm hk hb .nil xw q1 (bI g2).1 (az ys (ae q2).1) (dJ (ae q2).2)
theorem qi{nm:Str}{f:List Expr->Bool}(h:XOk C X cl)(z:mH C i nm e f=true):∃ x p apos as pos,e=.Call (.Attribute (.Name x p) nm apos) as [] pos/\X.N[i]?=some x/\Vis X.env.scope x/\(x == ("__debug__" : Str))=false/\(x == ("__classdict__" : Str))=false/\(apos.endLine == pos.line)=true/\f as=true:=by
 unfold mH at z
 obtain⟨⟨g,as,ks,pos⟩,z0,z⟩:=aj z
 have e0:=dF z0
 obtain⟨z,z3⟩:=ae z
 obtain⟨z1,z2⟩:=ae z
 obtain⟨⟨o,a,apos⟩,y0,z1⟩:=aj z1
 have e1:=oJ y0
 have e1:g=.Attribute o a apos:=e1
 obtain⟨z1,y3⟩:=ae z1
 obtain⟨y1,y2⟩:=ae z1
 rw[beq_iff_eq]at y2
 have y2:a=nm:=y2
 have w2:ks=[]:=by rw[List.isEmpty_iff]at z2;exact z2
 obtain⟨x,p,e2,g1,g2,g3,g4⟩:=gK h y1
 have e2:o=.Name x p:=e2
 rw[e1,w2,y2,e2]at e0
 exact⟨x,p,apos,as,pos,e0,g1,g2,g3,g4,y3,z3⟩
theorem y4(h1:PS X st (mY (tE X.K cl e') (vv (i7 i) (tE X.K cl k') rW)))(h2:PS X st (rj (i7 i) (tE X.K cl k') (tE X.K cl e')))(hi:M.contains i=true):SS X cl M st (.put i k' e'):=by
 have a1:=zm h1 hi trivial
 have a2:=xR h2 hi
 intro pins s σ H D I h
 obtain⟨σD,o,σD',rv,e,k⟩:=h
 rw[RL.evS]at e
 obtain⟨d,e1,e⟩:=bind_some e
 obtain⟨kk,e2,e⟩:=bind_some e
 obtain⟨l,e3,e⟩:=bind_some e
 cases l with
 | lst ds=>exact a1 pins s σ H D I ⟨σD,o,σD',rv,by dsimp only;rw[e1];dsimp only[Option.bind_some];rw[e2];dsimp only[Option.bind_some];rw[e3];exact e,k⟩
 | _=>exact a2 pins s σ H D I ⟨σD,o,σD',rv,by dsimp only;rw[e1];dsimp only[Option.bind_some];rw[e2];dsimp only[Option.bind_some];rw[e3];exact e,k⟩
theorem qT{o k:Expr}{pos:Pos}{env:Env}(h:oD k=true)(v:Value):assign (.Subscript o k pos) env v=(do
   let ov <- holding [v] (eval o env)
   let iv <- holding [v,ov] (eval k env)
   standAt pos
   holding [v,ov,iv] (setItem ov iv v)
   release [v,ov,iv] []):=by
 cases k<;>first | rfl | (cases h;done)
theorem lF{us:List Expr}{kk:Nat}{tp:Pos}{env:Env}(h:uH e=true):swappedStores [.Tuple us kk tp] e env=pure none:=by
 cases e<;>first | rfl | (cases h;done)
end
section
variable{cl:RL.Cl}
theorem yE{X:Cx}{C:CC}{EX:L2.St->XK}{x:Str}{f:Nat}{p pos:Pos}{y:Expr}{ys:List Expr}{es:RL.Es}(h:ROk C X cl EX)(hg:glB C x=true)(hf:C.F[f]?=some (x,[]))(he:SEs X.nox cl (y::ys) es)(ha:RA X EX cl (y::ys) es)(hn:noStar y=true)(hns:ys.all noStar=true) :
  RE X EX cl (.Call (.Name x p) (y::ys) [] pos) (.call f es):=by
 obtain⟨k,fa,fd,ps,F,hr,hm,hk,hb⟩:=h.y.fnx f x h.cal hf
 obtain⟨g1,g2⟩:=h.y.gl hg
 exact yJ F hr g1 hm hk hb h.pass (PA.nox he) ha (bI g2).1 hn hns
mutual
theorem fA:∀ (e':RL.E) {X:Cx} {C:CC} {EX:L2.St->XK} (h:ROk C X cl EX) (e:Expr),chk C false e' e=true->RE X EX cl e e'
 | .call f es,X,C,EX,h,e,z=>by
  obtain⟨zc,z⟩:=ae z
  obtain⟨⟨g,as,ks,p⟩,z0,z⟩:=aj z
  have z0:=dF z0
  subst z0
  obtain⟨z,z4⟩:=ae z
  obtain⟨z,z3⟩:=ae z
  obtain⟨z1,z2⟩:=ae z
  obtain⟨x,y0,z1⟩:=aj z1
  obtain⟨q,e0⟩:=bU y0
  have e0:g=.Name x q:=e0
  obtain⟨y1,y2⟩:=ae z1
  rw[beq_iff_eq]at y2
  have w2:ks=[]:=by rw[List.isEmpty_iff]at z2;exact z2
  subst e0 w2
  obtain⟨q1,q2,q3⟩:=fH es h.y.toXOk _ z4
  have ha:=ma es h _ z4
  dsimp only at z3 q1 q2 q3 ha
  cases as with
  | nil=>cases z3
  |cons y ys=>
   rw[List.all_cons]at q3
   exact yE h y1 y2 q1 ha (ae q3).1 (ae q3).2
 | .ix a b,X,C,EX,h,e,z=>by
  obtain⟨⟨l,r⟩,z0,z⟩:=aj z
  obtain⟨p,rfl⟩:=iY z0
  obtain⟨z,z3⟩:=ae z
  obtain⟨z1,z2⟩:=ae z
  exact PE.weak (xm sS (fA a h l z2) (PE.nox ((ak b h.y.toXOk r).1 z3)) (pR z1)) fun σ H Q q=>q
 | .var _,X,C,EX,h,e,z=>aL fun _=>rfl
 | .cst _,X,C,EX,h,e,z=>aL fun _=>rfl
 | .glb _ _,X,C,EX,h,e,z=>aL fun _=>rfl
 | .bin _ _ _,X,C,EX,h,e,z=>aL fun _=>rfl
 | .cmp _ _ _,X,C,EX,h,e,z=>aL fun _=>rfl
 | .chain _ _ _ _ _,X,C,EX,h,e,z=>aL fun _=>rfl
 | .isB _ _ _,X,C,EX,h,e,z=>aL fun _=>rfl
 | .isN _ _,X,C,EX,h,e,z=>aL fun _=>rfl
 | .inn _ _ _,X,C,EX,h,e,z=>aL fun _=>rfl
 | .inD _ _ _,X,C,EX,h,e,z=>aL fun _=>rfl
 | .and _ _,X,C,EX,h,e,z=>aL fun _=>rfl
 | .or _ _,X,C,EX,h,e,z=>aL fun _=>rfl
 | .not _,X,C,EX,h,e,z=>aL fun _=>rfl
 | .ifx _ _ _,X,C,EX,h,e,z=>aL fun _=>rfl
 | .tup _,X,C,EX,h,e,z=>aL fun _=>rfl
 | .lst _,X,C,EX,h,e,z=>aL fun _=>rfl
 | .ixD _ _,X,C,EX,h,e,z=>aL fun _=>rfl
 | .slT _ _,X,C,EX,h,e,z=>aL fun _=>rfl
 | .slF _ _,X,C,EX,h,e,z=>aL fun _=>rfl
 | .rev _,X,C,EX,h,e,z=>aL fun _=>rfl
 | .bi _ _,X,C,EX,h,e,z=>aL fun _=>rfl
 | .max _ _,X,C,EX,h,e,z=>aL fun _=>rfl
 | .min _ _,X,C,EX,h,e,z=>aL fun _=>rfl
 | .dvm _ _,X,C,EX,h,e,z=>aL fun _=>rfl
 | .get _ _ _,X,C,EX,h,e,z=>aL fun _=>rfl
 | .isi _ _,X,C,EX,h,e,z=>aL fun _=>rfl
 | .rng1 _,X,C,EX,h,e,z=>aL fun _=>rfl
 | .rng2 _ _,X,C,EX,h,e,z=>aL fun _=>rfl
 | .rng3 _ _ _,X,C,EX,h,e,z=>aL fun _=>rfl
 | .neg _,X,C,EX,h,e,z=>aL fun _=>rfl
 | .comp _ _ _ _,X,C,EX,h,e,z=>aL fun _=>rfl
 | .compA _ _ _,X,C,EX,h,e,z=>aL fun _=>rfl
 | .compL _ _ _,X,C,EX,h,e,z=>aL fun _=>rfl
 | .index _ _,X,C,EX,h,e,z=>aL fun _=>rfl
 | .chain3 _ _ _ _ _ _ _,X,C,EX,h,e,z=>aL fun _=>rfl
 | .slB _ _ _,X,C,EX,h,e,z=>aL fun _=>rfl
 | .join _,X,C,EX,h,e,z=>aL fun _=>rfl
 | .isx _ _,X,C,EX,h,e,z=>aL fun _=>rfl
 | .dk0,X,C,EX,h,e,z=>aL fun _=>rfl
 | .dt0,X,C,EX,h,e,z=>aL fun _=>rfl
theorem ma:∀ (es':RL.Es) {X:Cx} {C:CC} {EX:L2.St->XK} (h:ROk C X cl EX) (es:List Expr),ja C es' es=true->RA X EX cl es es'
 | .nil,X,C,EX,h,es,z=>zM
 | .cons e' es',X,C,EX,h,es,z=>by
  cases es with
  | nil=>cases z
  |cons e es=>
   obtain⟨z,z3⟩:=ae z
   obtain⟨z1,z2⟩:=ae z
   exact yZ (PE.nox ((ak e' h.y.toXOk e).1 z2)) (fA e' h e z2) (ma es' h es z3) (az es z1)
end
section
variable{X:Cx}{C:CC}{EX:L2.St->XK}{M:List Nat}
theorem yO{X:Cx}{st:Stmt}{c:Str}{ps:RL.Es}:SS X cl M st (.rais c ps):=fun pins s σ H D I ⟨σD,r,σD',_,e,_⟩=>by
 rw[RL.evS]at e
 cases e
theorem tw{t e:Expr}{spos:Pos}{i:Nat}{e':RL.E}{s:RL.S}(h:ROk C X cl EX)(hn:ff C i t=true)(ha:rY e=true)(hc:chk C false e' e=true)(he:∀ σD,RL.dP cl M s σD=(RL.evX cl σD e').map fun x=>(x,σD)):RZ X EX cl M (.Assign [t] e spos) s:=by
 obtain⟨y,py,rfl,hN,hl⟩:=eF h.y.toXOk hn
 by_cases hcomp:di e=true
 ·exact m6 (u7 (X:=X) h.y.ndX hN hl (fA e' h e hc) (dH hcomp) (.inl (h.y.fn y))) he
 ·refine fk fun σD=>?_
  rw[he]
  have:∃ elt gens scope p,e=.ListComp elt gens scope p:=by
   cases e<;>first | exact absurd rfl hcomp | exact Bool.noConfusion ha | exact⟨_,_,_,_,rfl⟩
  obtain⟨elt,gens,scope,p,rfl⟩:=this
  cases e' with
  |call f es=>
   obtain⟨_,z⟩:=ae hc
   exact Bool.noConfusion z
  | ix a b=>exact Bool.noConfusion hc
  | _=>rfl
noncomputable def tW(K:PySem.W.Frag)(cl:RL.Cl):RL.Es->TA
 | .nil=>iL
 | .cons e es=>uB (tE K cl e) (tW K cl es)
theorem xB{K:PySem.W.Frag}{σD:RL.St}{σ:L2.St}:∀ {ps:RL.Es} {ds:List RL.D} {H:Hp} {Q:List V->Hp->Prop},RV0 K σD σ H->RL.evs cl σD ps=some ds->ds.all RL.written=true->(∀ vs H1,au H H1->Q vs H1)->tW K cl ps σ H Q
 | .nil,ds,H,Q,rv,e,w,k=>k [] H (au.refl _)
 | .cons p ps,ds,H,Q,rv,e,w,k=>by
  rw[RL.evs]at e
  obtain⟨d,e1,e⟩:=bind_some e
  obtain⟨ds',e2,e3⟩:=map_some e
  subst e3
  rw[List.all_cons,Bool.and_eq_true]at w
  cases d with
  |int i=>
   refine⟨σD,.int i,rv,e1,fun v H1 r1=>⟨i,ah r1.rep,by simpa[RL.written]using w.1,xB (rv.same r1.same) e2 w.2 fun vs H2 sm=>k vs H2 (r1.same.trans sm)⟩⟩
  | _=>cases w.1
theorem lr{X:Cx}(h:XOk C X cl):∀ {vs:List Expr} {ps:RL.Es},pA C vs ps=true->PJ X vs (tW X.K cl ps)
 | [],.nil,z=>Ac
 | [],.cons _ _,z=>by cases z
 | v::vs,ps,z=>by
  rw[pA]at z
  split at z
  ·rename_i y hv
   obtain⟨j,p,rfl⟩:=gD hv
   obtain⟨z1,z2⟩:=ae z
   exact xJ (lr h z2) (by simpa using z1)
  ·cases z
  ·obtain⟨⟨e,cv,sp⟩,z0,z⟩:=aj z
   obtain⟨p,rfl⟩:=yD z0
   obtain⟨z,z3⟩:=ae z
   obtain⟨z1,z2⟩:=ae z
   rw[beq_iff_eq]at z1
   have y1:cv=-1:=z1
   have y2:sp=none:=jo z2
   clear z1 z2 z z0
   subst y1 y2
   cases ps with
   | nil=>cases z3
   |cons q qs=>
    obtain⟨z4,z5⟩:=ae z3
    exact Bp ((ak q h e).1 z4) (lr h z5)
theorem vG{c:Str}{ps:RL.Es}{a:Expr}{np cpos pos:Pos}(h:ROk C X cl EX)(z1:C.calm=true)(z2:C.Xr.contains c=true)(z3:glB C c=true)(hn:noStar a=true)(z4:vY C ps a=true):RZ X EX cl M (.Raise (some (.Call (.Name c np) [a] [] cpos)) none pos) (.rais c ps):=by
 obtain⟨D,d1,d2⟩:=h.y.cls c z2
 obtain⟨g1,g2⟩:=h.y.gl z3
 have key:∀ {ta:TE},PE X a ta->(∀ σD σ H ds (Q:VK),RV0 X.K σD σ H->RL.evs cl σD ps=some ds->ds.all RL.written=true->(∀ v H1,au H H1->Q v H1)->ta σ H Q)->RZ X EX cl M (.Raise (some (.Call (.Name c np) [a] [] cpos)) none pos) (.rais c ps):=fun {ta} pe rd=>by
  intro pins s σ H Dn I q
  refine PS.weak (wG (np:=np) (cpos:=cpos) (pos:=pos) (I.ok.hd.1 (h.y.calm z1)) g1 d1 (bI g2).1 d2.exc (fun pins σ H s h' e vs I m q=>h.made pins σ H s h' e D vs I m q) (bu pe cW (az [] hn)) (az [] hn)) (fun Dn σ H q=>?_) pins s σ H Dn I q
  obtain⟨σD,x,σD',rv,e,k⟩:=q
  rw[RL.dP]at e
  obtain⟨ds,e1,e2⟩:=bind_some e
  obtain⟨hw,e2⟩:=cw e2
  cases e2
  exact rd σD σ H ds _ rv.rv0 e1 hw fun v H1 sm=>⟨by show 1<=sizeLine;decide,k σ H1 D d2 (rv.same sm) (Fr'.same sm)⟩
 unfold vY at z4
 rcases Bool.or_eq_true_iff.mp z4 with z | z
 ·obtain⟨w1,w2⟩:=ae z
  obtain⟨kk,q0,q⟩:=aj w1
  obtain⟨j,p,rfl⟩:=gD q0
  cases kk with
  | str y=>exact key nI fun σD σ H ds Q rv e w k=>k _ H (au.refl _)
  | _=>cases q
 ·obtain⟨vs,q0,z⟩:=aj z
  obtain⟨p,rfl⟩:=v9 q0
  obtain⟨z,w3⟩:=ae z
  obtain⟨w1,w2⟩:=ae z
  rw[decide_eq_true_eq]at w1 w2
  match vs,w1,w2,w3 with
  |v::v2::vs,_,w2,w3=>
   exact key (PE.nox (sZ (lr h.y.toXOk w3) (by simp at w2;omega))) fun σD σ H ds Q rv e w k=>xB rv e w fun vs H1 sm x=>k _ H1 sm
end
theorem YOk.rok{C:CC}{X:Cx}(h:YOk C X cl)(pn:List (Addr × Obj))(E:Value->Shared->Prop)(EX:L2.St->XK)(hc:C.calm=true)(ps:∀ pins σ H s e s',Inv (CxX X pn E) pins σ H s->CXE X.prog X.w X.stack H s (EX σ) e s'->E e s')(md:∀ pins σ H s h' e C vs,Inv (CxX X pn E) pins σ H s->Heap.MadeExcOf s.heap h' e (.ref C) vs->EX σ (.ref C) none H->E (.ref e) { s with heap:=h' })(ow:PassesOwn (model X.prog X.w) X.A X.env E):ROk C (CxX X pn E) cl EX where
 y:={ scope:=h.scope,names:=h.names,nd:=h.nd,calm:=h.calm,xe:=rfl,hu:=h.hu,blt:=h.blt,glb:=h.glb,fns:=h.fns,hfn:=h.hfn,cls:=h.cls,ref:=h.ref,fn:=h.fn,st:=h.st,fnx:=h.fnx }
 cal:=hc
 pass:=ps
 made:=md
 own:=ow
theorem YOk.bB{C:CC}{X:Cx}(h:YOk C X cl)(e:Addr)(oe:Obj):YOk { C with calm:=false } (X.bB e oe) cl where
 scope:=h.scope
 names:=h.names
 nd:=h.nd
 calm:=fun z=>nomatch z
 xe:=h.xe
 hu:=h.hu
 blt:=h.blt
 glb:=h.glb
 fns:=fun _ _ _ z=>nomatch z
 hfn:=fun f x a b=>by
  obtain⟨k,fa,fd,ps,F,hr,r⟩:=h.hfn f x a b
  exact⟨k,fa,fd,ps,F,⟨hr.dp,hr.un⟩,r⟩
 cls:=h.cls
 ref:=h.ref
 fn:=h.fn
 st:=h.st
 fnx:=fun _ _ z=>nomatch z
end
section
variable{cl:RL.Cl}
mutual
theorem qc:∀ (s:RL.S) {X:Cx} {C:CC} {M:List Nat} (h:YOk C X cl) (st:Stmt),vh C M s st=true->SS X cl M st s
 | .asg i e',X,C,M,h,st,z=>by
  obtain⟨⟨ts,e⟩,z0,z⟩:=aj z
  obtain⟨p,rfl⟩:=et z0
  obtain⟨t,y1,z⟩:=aQ z
  have y1:ts=[t]:=y1
  obtain⟨z,zc⟩:=ae z
  obtain⟨z,z4⟩:=ae z
  obtain⟨z,z3⟩:=ae z
  obtain⟨z1,z2⟩:=ae z
  subst y1
  exact Af (x6 zc h z1 z3 z4) (iC z2)
 | .own i e',X,C,M,h,st,z=>by
  obtain⟨⟨ts,e⟩,z0,z⟩:=aj z
  obtain⟨p,rfl⟩:=et z0
  obtain⟨t,y1,z⟩:=aQ z
  have y1:ts=[t]:=y1
  obtain⟨z,zc⟩:=ae z
  obtain⟨z,z5⟩:=ae z
  obtain⟨z,z4⟩:=ae z
  obtain⟨z,z3⟩:=ae z
  obtain⟨z1,z2⟩:=ae z
  subst y1
  exact A5 (x6 zc h z1 z4 z5) z2 (by simpa using z3)
 | .unp is e',X,C,M,h,st,z=>by
  obtain⟨⟨ts,e⟩,z0,z⟩:=aj z
  obtain⟨p,rfl⟩:=et z0
  obtain⟨t,y1,z⟩:=aQ z
  have y1:ts=[t]:=y1
  obtain⟨us,y2,z⟩:=aj z
  obtain⟨k,tp,rfl⟩:=eA y2
  obtain⟨z,z4⟩:=ae z
  obtain⟨z,z3⟩:=ae z
  obtain⟨z1,z2⟩:=ae z
  subst y1
  obtain⟨g1,g2,g3⟩:=iQ h.toXOk (T:=is) (fun i x _ _=>.inl (h.fn x)) (fun _ h=>h) z1
  refine yM (nW ((ak e' h.toXOk e).1 z4) (om (kL g1 g2 g3) (l5 g1 g2 g3)) ?_ (lF z3)) (l0 z2)
  cases e<;>rfl
 | .par _ _ _ _,X,C,M,h,st,z=>by cases z
 | .parO _ _ _ _,X,C,M,h,st,z=>by cases z
 | .app i e',X,C,M,h,st,z=>by
  obtain⟨e,z0,z8⟩:=aj z
  obtain⟨p0,rfl⟩:=ji z0
  obtain⟨x,p,apos,as,pos,rfl,g1,g2,g3,g4,z6,z7⟩:=qi h.toXOk z8
  obtain⟨y,rfl,z9⟩:=aQ z7
  obtain⟨z9,z7⟩:=ae z9
  obtain⟨z4,z5⟩:=ae z9
  refine zg (jl (wX PySem.F.plainAttrs_list PySem.F.slot_list_append PySem.F.type_list_append l9 (gB g1 g2 g3 g4) (cy (cl:=cl) ((ak e' h.toXOk y).1 z7) dS z5) rfl ?_ z6 (az [] z5) rfl)) z4
  rw[az [] z5]
  rfl
 | .put i k' e',X,C,M,h,st,z=>by
  obtain⟨⟨ts,e⟩,z0,z⟩:=aj z
  obtain⟨p,rfl⟩:=et z0
  obtain⟨t,y1,z⟩:=aQ z
  have y1:ts=[t]:=y1
  obtain⟨⟨o,k⟩,y2,z⟩:=aj z
  obtain⟨sp,e2⟩:=iY y2
  obtain⟨z,z7⟩:=ae z
  obtain⟨z,z6⟩:=ae z
  obtain⟨z,z5⟩:=ae z
  obtain⟨z,z4⟩:=ae z
  obtain⟨z1,z3⟩:=ae z
  obtain⟨x,px,e3,g1,g2,g3,g4⟩:=gK h.toXOk z1
  have e3:o=.Name x px:=e3
  rw[e3]at e2
  rw[e2]at y1
  subst y1
  have pv:=fun pos=>gB (X:=X) (pos:=pos) g1 g2 g3 g4
  refine y4 (nW ((ak e' h.toXOk e).1 z7) (zC (pv _) ((ak k' h.toXOk k).1 z6) set_list (qT z4)) ?_ ?_) (xU (Nat.lt_of_le_of_lt (by lia) h.hu) (pv _) ((ak k' h.toXOk k).1 z6) ((ak e' h.toXOk e).1 z7) (dH z5)) z3
  ·unfold swapsWithSole
   exact dH z5
  ·rfl
 | .pop _ _,X,C,M,h,st,z=>by cases z
 | .clr _,X,C,M,h,st,z=>by cases z
 | .aug i o e',X,C,M,h,st,z=>by
  obtain⟨⟨t,op,e⟩,z0,z⟩:=aj z
  obtain⟨p,rfl⟩:=pY z0
  obtain⟨z,z4⟩:=ae z
  obtain⟨z,z3⟩:=ae z
  obtain⟨z1,z2⟩:=ae z
  obtain⟨x,px,e1,l1,l2⟩:=eF h.toXOk z1
  have e1:t=.Name x px:=e1
  subst e1
  have z3:x4 o op=true:=z3
  have z4:chk C false e' e=true:=z4
  clear z0 z1 z
  cases o<;>cases op<;>first | (cases z3;done) | skip
  ·exact u6 (f:=fun a b=>a+b) (fun a b=>rfl) (mM h.ndX l1 l2 ((ak e' h.toXOk e).1 z4) tG (.inl (h.fn x))) (iC z2)
  ·exact u6 (f:=fun a b=>a-b) (fun a b=>rfl) (mM h.ndX l1 l2 ((ak e' h.toXOk e).1 z4) zi (.inl (h.fn x))) (iC z2)
 | .ife c' a' b',X,C,M,h,st,z=>by
  obtain⟨⟨c,a,b⟩,z0,z⟩:=aj z
  obtain⟨p,rfl⟩:=nB z0
  obtain⟨z,z3⟩:=ae z
  obtain⟨z1,z2⟩:=ae z
  exact CT ((ak c' h.toXOk c).2 z1).1 (bP a' h a z2) (bP b' h b z3)
 | .forr tg it b',X,C,M,h,st,z=>by
  obtain⟨⟨t,it',b,o⟩,z0,z⟩:=aj z
  obtain⟨p,rfl⟩:=qm z0
  obtain⟨z,zc⟩:=ae z
  obtain⟨z,z7⟩:=ae z
  obtain⟨z,z6⟩:=ae z
  obtain⟨z,z5⟩:=ae z
  obtain⟨z,z4⟩:=ae z
  obtain⟨z,z3⟩:=ae z
  obtain⟨z1,z2⟩:=ae z
  have z1:o=[]:=List.isEmpty_iff.mp z1
  subst z1
  exact zF h.xe (h.calm zc) (fB it h.toXOk t it' z2) (p7 h.toXOk (fun i x _ _=>.inl (h.fn x)) z3) (bP b' h b z7) (cX z4 _) z5 (l0 z6)
 | .mexc f es ps ms,X,C,M,h,st,z=>by
  obtain⟨e,z0,z⟩:=aj z
  obtain⟨p0,rfl⟩:=ji z0
  obtain⟨g1,g2,g3,g4,g5,g6⟩:=p9 h.toXOk z
  exact yA (jl g1 (dH g6)) g2 g3 g4 g5
 | .maug i f es ps ms,X,C,M,h,st,z=>by
  obtain⟨⟨t,op,e⟩,z0,z⟩:=aj z
  obtain⟨p,rfl⟩:=pY z0
  obtain⟨z,z4⟩:=ae z
  obtain⟨z,z3⟩:=ae z
  obtain⟨z1,z2⟩:=ae z
  obtain⟨x,px,e1,l1,l2⟩:=eF h.toXOk z1
  have e1:t=.Name x px:=e1
  rw[beq_iff_eq]at z3
  have z3:op=.Add:=z3
  subst e1 z3
  obtain⟨g1,g2,g3,g4,g5,g6⟩:=p9 h.toXOk z4
  exact y8 (mM h.ndX l1 l2 g1 tG (.inl (h.fn _))) (iC z2) g2 g3 g4 g5
 | .ret e',X,C,M,h,st,z=>by
  obtain⟨o,z0,z⟩:=aj z
  obtain⟨p,rfl⟩:=pS z0
  obtain⟨e,rfl,zz⟩:=aj z
  by_cases hv:qt M e'=true
  ·have:∃ i,e'=.var i:=by
    cases e'<;>first | exact⟨_,rfl⟩ | exact Bool.noConfusion hv
   obtain⟨i,rfl⟩:=this
   obtain⟨x,q,rfl,g1,g2,g3,g4⟩:=gK h.toXOk zz
   exact xV g1 g2 g3 g4 hv
  ·exact AU ((ak e' h.toXOk e).1 zz) fun i hi=>by
    subst hi
    simpa[qt]using hv
 | .exc e',X,C,M,h,st,z=>by
  obtain⟨e,z0,z⟩:=aj z
  obtain⟨p0,rfl⟩:=ji z0
  obtain⟨z1,z2⟩:=ae z
  exact BM (jl ((ak e' h.toXOk e).1 z2) (dH z1))
 | .never,X,C,M,h,st,z=>by cases z
 | .put2 _ _ _ _ _,X,C,M,h,st,z=>by cases z
 | .ifp i e' a' b',X,C,M,h,st,z=>by
  obtain⟨⟨c,a,b⟩,z0,z⟩:=aj z
  obtain⟨p,rfl⟩:=nB z0
  obtain⟨⟨l,os,rs⟩,z0,z⟩:=aj z
  obtain⟨cp,ec⟩:=gF z0
  have ec:c=.Compare l os rs cp:=ec
  obtain⟨op,y1,z⟩:=aQ z
  obtain⟨e,y2,z⟩:=aQ z
  have y1:os=[op]:=y1
  have y2:rs=[e]:=y2
  obtain⟨z,z6⟩:=ae z
  obtain⟨z,z5⟩:=ae z
  obtain⟨z,z4⟩:=ae z
  obtain⟨z,z3⟩:=ae z
  obtain⟨z1,z2⟩:=ae z
  rw[beq_iff_eq]at z1
  obtain⟨x,px,apos,as,pos,e2,g1,g2,g3,g4,z7,z8⟩:=qi h.toXOk z6
  have e2:l=.Call (.Attribute (.Name x px) "pop" apos) as [] pos:=e2
  have z8:as=[]:=List.isEmpty_iff.mp z8
  rw[z8]at e2
  rw[y1,y2,z1,e2]at ec
  subst ec
  exact Ai (BC PySem.F.plainAttrs_list PySem.F.slot_list_pop PySem.F.type_list_pop AG (gB g1 g2 g3 g4) rfl z7) ((ak e' h.toXOk e).1 z3) (bP a' h a z4) (bP b' h b z5) z2
 | .whil c' b',X,C,M,h,st,z=>by
  obtain⟨⟨c,b,o⟩,z0,z⟩:=aj z
  obtain⟨p,rfl⟩:=yK z0
  obtain⟨z,z3⟩:=ae z
  obtain⟨z1,z2⟩:=ae z
  have z1:o=[]:=List.isEmpty_iff.mp z1
  subst z1
  exact vV h.xe ((ak c' h.toXOk c).2 z2).1 (bP b' h b z3)
 | .rais _ _,X,C,M,h,st,z=>yO
 | .tryc b c i hh,X,C,M,h,st,z=>by
  obtain⟨⟨bd,hs,oe,fi⟩,z0,z⟩:=aj z
  obtain⟨p,rfl⟩:=yo z0
  obtain⟨z,z9⟩:=ae z
  obtain⟨z,z8⟩:=ae z
  obtain⟨z,z7⟩:=ae z
  obtain⟨z,z6⟩:=ae z
  obtain⟨z,z5⟩:=ae z
  obtain⟨z,z4⟩:=ae z
  obtain⟨z,z3⟩:=ae z
  obtain⟨z1,z2⟩:=ae z
  have v2:oe=[]:=List.isEmpty_iff.mp z2
  have v3:fi=[]:=List.isEmpty_iff.mp z3
  obtain⟨hd,y1,z8⟩:=aQ z8
  have v1:hs=[hd]:=y1
  obtain⟨ht,hn,hb,hp⟩:=hd
  obtain⟨w,w4⟩:=ae z8
  obtain⟨w,w3⟩:=ae w
  obtain⟨w1,w2⟩:=ae w
  obtain⟨te,q1,w5⟩:=aj w1
  have u1:ht=some te:=q1
  obtain⟨x,q2,w6⟩:=aj w5
  obtain⟨np,q4⟩:=bU q2
  rw[beq_iff_eq]at w6
  clear w1 w5 q2
  subst q4 w6
  obtain⟨n,q3,w7⟩:=aj w2
  have u3:hn=some n:=q3
  obtain⟨n1,n2⟩:=ae w7
  rw[beq_iff_eq]at n2
  have z9:cq C M b bd=true:=z9
  have w4:cq { C with calm:=false } M hh hb=true:=w4
  have w3:(!hb.isEmpty)=true:=w3
  clear z2 z3 y1 q1 q3 z0 z
  subst v2 v3 u1 u3
  cases hb with
  | nil=>cases w3
  |cons b0 bB=>
   subst v1
   obtain⟨R,r1,r2⟩:=h.cls x z4
   refine AM h.xe h.st.1 h.st.2.1 h.st.2.2 (bP b h bd z9) (fun pn E EX ps md ow=>dU b (h.rok pn E EX z1 ps md ow) bd z9) (fun e oe=>bP hh (h.bB e oe) (b0::bB) w4) r2 (by simpa using z5) (h.gl z6).1 r1 (bI (h.gl z6).2).1 h.ndX (h.nm n1).1 (by rw[h.scope];exact n2) (iC z7)
theorem bP:∀ (s:RL.Ss) {X:Cx} {C:CC} {M:List Nat} (h:YOk C X cl) (st:List Stmt),cq C M s st=true->SSs X cl M st s
 | .nil,X,C,M,h,st,z=>by
  have z:st=[]:=List.isEmpty_iff.mp z
  subst z
  exact yh
 | .cons s r,X,C,M,h,st,z=>by
  cases st with
  | nil=>cases z
  |cons x xs=>
   obtain⟨z1,z2⟩:=ae z
   exact vL (qc s h x z1) (bP r h xs z2)
theorem wW:∀ (s:RL.S) {X:Cx} {C:CC} {M:List Nat} {EX:L2.St->XK} (h:ROk C X cl EX) (st:Stmt),vh C M s st=true->RZ X EX cl M st s
 | .asg i e',X,C,M,EX,h,st,z=>by
  obtain⟨⟨ts,e⟩,z0,z⟩:=aj z
  obtain⟨p,rfl⟩:=et z0
  obtain⟨t,y1,z⟩:=aQ z
  have y1:ts=[t]:=y1
  obtain⟨z,zc⟩:=ae z
  obtain⟨z,z4⟩:=ae z
  obtain⟨z,z3⟩:=ae z
  obtain⟨z1,z2⟩:=ae z
  subst y1
  exact tw h z1 z3 z4 (fun _=>rfl)
 | .own i e',X,C,M,EX,h,st,z=>by
  obtain⟨⟨ts,e⟩,z0,z⟩:=aj z
  obtain⟨p,rfl⟩:=et z0
  obtain⟨t,y1,z⟩:=aQ z
  have y1:ts=[t]:=y1
  obtain⟨z,zc⟩:=ae z
  obtain⟨z,z5⟩:=ae z
  obtain⟨z,z4⟩:=ae z
  obtain⟨z,z3⟩:=ae z
  obtain⟨z1,z2⟩:=ae z
  subst y1
  exact tw h z1 z4 z5 (fun _=>rfl)
 | .unp is e',X,C,M,EX,h,st,z=>by
  obtain⟨⟨ts,e⟩,z0,z⟩:=aj z
  obtain⟨p,rfl⟩:=et z0
  obtain⟨t,y1,z⟩:=aQ z
  have y1:ts=[t]:=y1
  obtain⟨us,y2,z⟩:=aj z
  obtain⟨k,tp,rfl⟩:=eA y2
  obtain⟨z,z4⟩:=ae z
  obtain⟨z,z3⟩:=ae z
  obtain⟨z1,z2⟩:=ae z
  subst y1
  obtain⟨g1,g2,g3⟩:=iQ h.y.toXOk (T:=is) (fun i x _ _=>.inl (h.y.fn x)) (fun _ h=>h) z1
  refine m6 (nW (fA e' h e z4) (PG.nox (om (kL g1 g2 g3) (l5 g1 g2 g3))) ?_ (lF z3)) fun _=>rfl
  cases e<;>rfl
 | .exc e',X,C,M,EX,h,st,z=>by
  obtain⟨e,z0,z⟩:=aj z
  obtain⟨p0,rfl⟩:=ji z0
  obtain⟨z1,z2⟩:=ae z
  exact m6 (jl (fA e' h e z2) (dH z1)) fun _=>rfl
 | .ret e',X,C,M,EX,h,st,z=>by
  obtain⟨o,z0,z⟩:=aj z
  obtain⟨p,rfl⟩:=pS z0
  obtain⟨e,rfl,zz⟩:=aj z
  exact m6 (g:=fun D _=>D.rt) (nj (fA e' h e zz)) fun _=>rfl
 | .ife c' a' b',X,C,M,EX,h,st,z=>by
  obtain⟨⟨c,a,b⟩,z0,z⟩:=aj z
  obtain⟨p,rfl⟩:=nB z0
  obtain⟨z,z3⟩:=ae z
  obtain⟨z1,z2⟩:=ae z
  exact Dc (PT.nox ((ak c' h.y.toXOk c).2 z1).1) (dU a' h a z2) (dU b' h b z3)
 | .forr tg it b',X,C,M,EX,h,st,z=>by
  obtain⟨⟨t,it',b,o⟩,z0,z⟩:=aj z
  obtain⟨p,rfl⟩:=qm z0
  obtain⟨z,zc⟩:=ae z
  obtain⟨z,z7⟩:=ae z
  obtain⟨z,z6⟩:=ae z
  obtain⟨z,z5⟩:=ae z
  obtain⟨z,z4⟩:=ae z
  obtain⟨z,z3⟩:=ae z
  obtain⟨z1,z2⟩:=ae z
  have z1:o=[]:=List.isEmpty_iff.mp z1
  subst z1
  exact BZ h.own (h.y.calm zc) (PI.nox (fB it h.y.toXOk t it' z2)) (PG.nox (p7 h.y.toXOk (fun i x _ _=>.inl (h.y.fn x)) z3)) (PSs.nox (bP b' h.y b z7)) (dU b' h b z7) (cX z4 _) z5 (l0 z6)
 | .rais c ps,X,C,M,EX,h,st,z=>by
  obtain⟨⟨eo,co⟩,z0,z⟩:=aj z
  obtain⟨p,rfl⟩:=ui z0
  obtain⟨z,z5⟩:=ae z
  obtain⟨z,z4⟩:=ae z
  obtain⟨z,z3⟩:=ae z
  obtain⟨z1,z2⟩:=ae z
  have z4:co=none:=jo z4
  obtain⟨e,q1,z5⟩:=aj z5
  have q1:eo=some e:=q1
  obtain⟨⟨g,as,ks,cp⟩,w0,w⟩:=aj z5
  have w0:=dF w0
  obtain⟨w,w3⟩:=ae w
  obtain⟨w1,w2⟩:=ae w
  obtain⟨x,q2,w1⟩:=aj w1
  obtain⟨np,q3⟩:=bU q2
  have q3:g=.Name x np:=q3
  rw[beq_iff_eq]at w1
  subst w1
  have w2:ks=[]:=List.isEmpty_iff.mp w2
  obtain⟨a,q4,w3⟩:=aQ w3
  have q4:as=[a]:=q4
  obtain⟨w3,w4⟩:=ae w3
  rw[q3,w2,q4]at w0
  subst w0 z4 q1
  exact vG h z1 z2 z3 w3 w4
 | .par _ _ _ _,X,C,M,EX,h,st,z=>by cases z
 | .parO _ _ _ _,X,C,M,EX,h,st,z=>by cases z
 | .app _ _,X,C,M,EX,h,st,z=>fk fun _=>rfl
 | .put _ _ _,X,C,M,EX,h,st,z=>fk fun _=>rfl
 | .put2 _ _ _ _ _,X,C,M,EX,h,st,z=>by cases z
 | .pop _ _,X,C,M,EX,h,st,z=>by cases z
 | .clr _,X,C,M,EX,h,st,z=>by cases z
 | .aug _ _ _,X,C,M,EX,h,st,z=>fk fun _=>rfl
 | .ifp _ _ _ _,X,C,M,EX,h,st,z=>fk fun _=>rfl
 | .whil _ _,X,C,M,EX,h,st,z=>fk fun _=>rfl
 | .mexc _ _ _ _,X,C,M,EX,h,st,z=>fk fun _=>rfl
 | .maug _ _ _ _ _,X,C,M,EX,h,st,z=>fk fun _=>rfl
 | .never,X,C,M,EX,h,st,z=>by cases z
 | .tryc _ _ _ _,X,C,M,EX,h,st,z=>fk fun _=>rfl
theorem dU:∀ (s:RL.Ss) {X:Cx} {C:CC} {M:List Nat} {EX:L2.St->XK} (h:ROk C X cl EX) (st:List Stmt),cq C M s st=true->RZs X EX cl M st s
 | .nil,X,C,M,EX,h,st,z=>yu
 | .cons s r,X,C,M,EX,h,st,z=>by
  cases st with
  | nil=>cases z
  |cons x xs=>
   obtain⟨z1,z2⟩:=ae z
   exact wg (PS.nox (qc s h.y x z1)) (wW s h x z1) (dU r h xs z2)
end
end
structure eR where
 name:Str
 st:Stmt
 ps:List Str
 N:List Str
 h:Bool
structure PT' where
 B:List Str
 G:List (Str × Int)
 Ds:List eR
 T:List RL.Fn
 Xr:List Str
 Xs:List Str
noncomputable def PT'.F(p:PT'):List (Str × List Nat):=(p.Ds.zip p.T).map fun q=>(q.1.name,q.2.mp)
noncomputable def PT'.hf(p:PT'):List Nat:=(List.range p.Ds.length).filter fun f=>(p.Ds[f]?).any (·.h)
noncomputable def PT'.cc(p:PT')(d:eR):CC:=⟨d.N,aJ d.st,p.B,p.G,p.F,true,p.hf,p.Xr,p.Xs⟩
noncomputable def nv(N ps:List Str)(sc:Scope):Bool :=
 sc.kind == .function && !sc.isCoroutine && !sc.isGenerator&&decide N.Nodup&&N.take ps.length == ps&&ps.all (fun x=>sc.names.lookup x == some .local || sc.names.lookup x == some .cell)&&sc.names.all (fun y=>!(y.2 == .free))
noncomputable def fnB(p:PT')(d:eR)(fn:RL.Fn):Bool :=
 nv d.N d.ps (aJ d.st)&&fn.ps == d.ps.length&&fn.nn == d.N.length&&decide (d.ps.length<=d.N.length)&&(List.range fn.ps).all (fun i=>!fn.M.contains i || fn.mp.contains i)&&fn.mp.all (fun i=>decide (i<fn.ps)&&decide (2<=fn.M.count i))&&cq (p.cc d) fn.M fn.body (bX d.st)&&(!d.h || cq { p.cc d with calm:=false } fn.M fn.body (bX d.st))
noncomputable def PT'.ok(p:PT'):Bool:=decide (p.T.length<=1000)&&p.Ds.length == p.T.length&&(p.Ds.zip p.T).all fun q=>fnB p q.1 q.2
theorem vp{N ps:List Str}{sc:Scope}(h:nv N ps sc=true):eC N ps sc:=by
 unfold nv at h
 obtain⟨h,h7⟩:=ae h
 obtain⟨h,h6⟩:=ae h
 obtain⟨h,h5⟩:=ae h
 obtain⟨h,h4⟩:=ae h
 obtain⟨h,h3⟩:=ae h
 obtain⟨h1,h2⟩:=ae h
 refine⟨by simpa using h1,by simpa using h2,by simpa using h3,by simpa using h4,by simpa using h5,fun x hx=>?_,fun y hy=>?_⟩
 ·rw[List.all_eq_true]at h6
  have:=h6 x hx
  rw[Bool.or_eq_true,beq_iff_eq,beq_iff_eq]at this
  exact this
 ·rw[List.all_eq_true]at h7
  have:=h7 y hy
  intro z
  rw[z]at this
  simp at this
structure qX(p:PT')(K:PySem.W.Frag)(mg:Str->Option Value):Prop where
 defs:∀ (f:Nat) (d:eR),p.Ds[f]?=some d->∃ fa fd,mg d.name=some (.ref fa)/\Fun K d.name d.name d.st fa fd/\PySem.W.keepIn K (.ref fa)=true/\Binds K fd d.ps []
 blt:∀ x∈p.B,mg x=none
 glb:∀ x i,p.G.lookup x=some i->∃ u,mg x=some u/\RelV (.int i) u
 cls:∀ c,p.Xr.contains c=true->∃ D,mg c=some (.ref D)/\Cls K c D
 ref:∀ c,p.Xs.contains c=true->∃ D,mg c=some (.ref D)/\PySem.W.nsIn K mainGlobals c=some (some (.ref D))
section
variable{p:PT'}{K:PySem.W.Frag}{mg:Str->Option Value}{base:Heap}{P:Program}{w:World}
noncomputable def kG(K:PySem.W.Frag)(cl:RL.Cl)(mp:List Nat)(f:Nat):Sp:=if mp=[]then spF K cl f else spM K cl mp f
theorem aX{α:Type}(vs:List α)(k:Nat)(i:Nat)(v:α):(vs.map some++List.replicate k none)[i]?=some (some v)↔vs[i]?=some v:=by
 by_cases h:i<vs.length
 ·rw[List.getElem?_append_left (by simpa using h)]
  simp[h]
 ·rw[List.getElem?_append_right (by simpa using h)]
  constructor
  ·intro e
   rw[List.getElem?_replicate]at e
   split at e<;>cases e
  ·intro e
   have:=(List.getElem?_eq_some_iff.mp e).1
   lia
theorem qg{ds:List RL.D}{vs:List V}{H:Hp}{M:List Nat}{k n:Nat}(r:af nP K H ds vs)(hM:∀ i,i<n->M.contains i=false)(hn:ds.length=n):RVm K M (ds.map some++List.replicate k none) (vs.map some++List.replicate k none) H:=by
 have nA:∀ a,¬ aV M (vs.map some++List.replicate k none) a:=fun a ⟨i,hi,e⟩=>by
  rw[aX]at e
  have:=(List.getElem?_eq_some_iff.mp e).1
  rw[hM i (by rw[<-hn,r.length];exact this)]at hi
  cases hi
 refine⟨by simp[r.length],fun i d e=>?_,fun i v e=>?_,fun i j a hi hj e1 e2=>(nA a ⟨i,hi,e1⟩).elim⟩
 ·rw[aX]at e
  obtain⟨v,h1,h2⟩:=r.get e
  have hl:=(List.getElem?_eq_some_iff.mp e).1
  refine⟨v,(aX _ _ _ _).mpr h1,?_⟩
  rw[if_neg (by rw[hM i (by lia)];decide)]
  exact h2.weak fun a ha=>nA a ha
 ·rw[aX]at e
  have hl:=(List.getElem?_eq_some_iff.mp e).1
  exact⟨ds[i]'(by rw[r.length];exact hl),(aX _ _ _ _).mpr (by simp)⟩
theorem xN{ds:List RL.D}{vs:List V}{H:Hp}{M mp:List Nat}{k n:Nat}(a:AX K mp ds vs H)(hM:∀ i,i<n->M.contains i=true->i∈mp)(hp:∀ i∈mp,M.contains i=true)(hn:ds.length=n):RVm K M (ds.map some++List.replicate k none) (vs.map some++List.replicate k none) H:=by
 have r:=a.l6
 have inM:∀ i v,(vs.map some++List.replicate k none)[i]?=some (some v)->M.contains i=true->i∈mp/\vs[i]?=some v:=fun i v e hi=>by
  rw[aX]at e
  have:=(List.getElem?_eq_some_iff.mp e).1
  exact⟨hM i (by rw[<-hn,r.length];exact this) hi,e⟩
 refine⟨by simp[r.length],fun i d e=>?_,fun i v e=>?_,fun i j b hi hj e1 e2=>?_⟩
 ·rw[aX]at e
  obtain⟨v,h1,h2⟩:=r.get e
  have hl:=(List.getElem?_eq_some_iff.mp e).1
  refine⟨v,(aX _ _ _ _).mpr h1,?_⟩
  by_cases hm:M.contains i=true
  ·rw[if_pos hm]
   obtain⟨d',b,g1,g2,g3⟩:=a.own i (hM i (by lia) hm)
   rw[e]at g1
   cases g1
   rw[h1]at g2
   cases g2
   exact g3
  ·rw[if_neg hm]
   refine(a.oth i d v (fun z=>hm (hp i z)) e h1).weak fun b ⟨j,hj,ej⟩=>?_
   obtain⟨q1,q2⟩:=inM j _ ej hj
   exact⟨j,q1,q2⟩
 ·rw[aX]at e
  have hl:=(List.getElem?_eq_some_iff.mp e).1
  exact⟨ds[i]'(by rw[r.length];exact hl),(aX _ _ _ _).mpr (by simp)⟩
 ·obtain⟨q1,q2⟩:=inM i _ e1 hi
  obtain⟨q3,q4⟩:=inM j _ e2 hj
  exact a.sep i q1 j q3 b q2 q4
theorem o9{σ:RL.St}:∀ {mp:List Nat} {outs:List RL.D},RL.cY σ mp=some outs->outs.length=mp.length/\∀ (k i:Nat) o,mp[k]?=some i->outs[k]?=some o->σ[i]?=some (some o)
 | [],outs,h=>by
  rw[RL.cY]at h
  cases h
  exact⟨rfl,fun k i o e=>by simp at e⟩
 | m::mp,outs,h=>by
  rw[RL.cY]at h
  obtain⟨d,h1,h⟩:=bind_some h
  obtain⟨os,h2,h3⟩:=map_some h
  subst h3
  obtain⟨g1,g2⟩:=o9 h2
  refine⟨by simp[g1],fun k i o e1 e2=>?_⟩
  cases k with
  |zero=>
   simp at e1 e2
   subst e1 e2
   exact slot_get h1
  | succ k=>exact g2 k i o (by simpa using e1) (by simpa using e2)
theorem tJ{fn:RL.Fn}{d r:RL.D}{σ:RL.St}(h:RL.aP fn d σ=some r)(hm:fn.mp=[]):r=d:=by
 unfold RL.aP at h
 rw[hm]at h
 simpa using h.symm
theorem BN{fn:RL.Fn}{d r:RL.D}{σ:RL.St}(h:RL.aP fn d σ=some r)(hm:fn.mp≠[]):d.imm=true/\∃ outs,RL.cY σ fn.mp=some outs/\r=.tup (d::outs):=by
 unfold RL.aP at h
 rw[if_neg (by simpa using hm)]at h
 split at h
 ·rename_i im
  obtain⟨os,h1,h2⟩:=map_some h
  exact⟨im,os,h1,h2.symm⟩
 ·cases h
structure FnB(p:PT')(d:eR)(fn:RL.Fn):Prop where
 sc:eC d.N d.ps (aJ d.st)
 ps:fn.ps=d.ps.length
 nn:fn.nn=d.N.length
 hM:∀ i,i<fn.ps->fn.M.contains i=true->i∈fn.mp
 mp:∀ i∈fn.mp,i<fn.ps/\2<=fn.M.count i
 body:cq (p.cc d) fn.M fn.body (bX d.st)=true
 hb:d.h=true->cq { p.cc d with calm:=false } fn.M fn.body (bX d.st)=true
theorem Bc{d:eR}{fn:RL.Fn}(hB:fnB p d fn=true):FnB p d fn:=by
 unfold fnB at hB
 obtain⟨hB,b8⟩:=ae hB
 obtain⟨hB,b7⟩:=ae hB
 obtain⟨hB,b6⟩:=ae hB
 obtain⟨hB,b5⟩:=ae hB
 obtain⟨hB,b4⟩:=ae hB
 obtain⟨hB,b3⟩:=ae hB
 obtain⟨b1,b2⟩:=ae hB
 rw[beq_iff_eq]at b2 b3
 rw[List.all_eq_true]at b5 b6
 refine⟨vp b1,b2,b3,fun i hi hm=>?_,fun i hi=>by simpa using b6 i hi,b7,fun hh=>by simpa[hh]using b8⟩
 have:=b5 i (List.mem_range.mpr hi)
 rw[hm]at this
 simpa using this
theorem tH{f:Nat}(h:p.hf.contains f=true):∃ d,p.Ds[f]?=some d/\d.h=true:=by
 unfold PT'.hf at h
 rw[List.contains_iff_mem,List.mem_filter]at h
 exact aj h.2
theorem uf{cl:RL.Cl}{f:Nat}{d:eR}{fn:RL.Fn}{vs:List V}{H:Hp}{Q:VK}{ds:List RL.D}{r:RL.D}{o:RL.Out}{σ':RL.St}(B:FnB p d fn)(hmp:fn.mp=[])(r1:af nP K H ds vs)(hlen:ds.length=fn.ps)(e2:(match o with | .nx=>RL.aP fn .non σ' | .rt d=>RL.aP fn d σ')=some r)(e1:RL.ag cl fn.M fn.body (ds.map some++List.replicate (fn.nn-fn.ps) none)=some (o,σ'))
 (k:∀ v H',au H H'->Rep (fun p=>H p≠none) K H' r v->Q v H'):tS K fn.M (RL.ag cl fn.M fn.body) { nx:=fun _ H'=>Q .non H',rt:=Q } (start d.N vs) H:=by
 have hst:start d.N vs=vs.map some++List.replicate (d.N.length-vs.length) none:=rfl
 have hvl:vs.length=fn.ps:=by rw[<-r1.length];exact hlen
 refine⟨_,o,σ',?_,e1,?_⟩
 ·rw[hst,hvl,<-B.nn]
  exact qg r1 (fun i hi=>by
   cases hc:fn.M.contains i with
   | false=>rfl
   |true=>
    have:=B.hM i hi hc
    rw[hmp]at this
    cases this) hlen
 ·have noA:∀ a,¬ aV fn.M (start d.N vs) a:=fun a ⟨i,hi,ei⟩=>by
   rw[hst,aX]at ei
   have h3:=(List.getElem?_eq_some_iff.mp ei).1
   have:=B.hM i (by lia) hi
   rw[hmp]at this
   cases this
  cases o with
  |nx=>
   have hr':=tJ (d:=.non) e2 hmp
   subst hr'
   intro σ1 H1 rv1 fr1
   refine k .non H1 (fun b u eb=>(fr1.1 b u eb (noA b)).1) (by rw[Rep])
  |rt d0=>
   have hr':=tJ (d:=d0) e2 hmp
   subst hr'
   intro σ1 H1 v H' rv1 fr1 sm rp
   refine k v H' (fun b u eb=>sm _ _ (fr1.1 b u eb (noA b)).1) (rp _ fun q hq=>?_)
   obtain⟨u,hu⟩:=Option.ne_none_iff_exists'.mp hq
   have:=fr1.1 q u hu (noA q)
   exact⟨(by rw[this.1];exact fun z=>nomatch z),this.2⟩
theorem BU{cl:RL.Cl}{d:eR}{fn:RL.Fn}{vs:List V}{H:Hp}{E:XK}{ds:List RL.D}{x:Str}{σ':RL.St}{D:Ends}(B:FnB p d fn)(hmp:fn.mp=[])(r1:af nP K H ds vs)(hlen:ds.length=fn.ps)(e1:RL.bG cl fn.M fn.body (ds.map some++List.replicate (fn.nn-fn.ps) none)=some (x,σ'))
 (k:∀ C H',Cls K x C->au H H'->E (.ref C) none H'):tXS K fn.M (fun _=>E) (RL.bG cl fn.M fn.body) D (start d.N vs) H:=by
 have hst:start d.N vs=vs.map some++List.replicate (d.N.length-vs.length) none:=rfl
 have hvl:vs.length=fn.ps:=by rw[<-r1.length];exact hlen
 refine⟨_,x,σ',?_,e1,fun σ1 H1 C hc rv1 fr1=>k C H1 hc fun b u eb=>(fr1.1 b u eb fun⟨i,hi,ei⟩=>?_).1⟩
 ·rw[hst,hvl,<-B.nn]
  exact qg r1 (fun i hi=>by
   cases hc:fn.M.contains i with
   | false=>rfl
   |true=>
    have:=B.hM i hi hc
    rw[hmp]at this
    cases this) hlen
 ·rw[hst,aX]at ei
  have h3:=(List.getElem?_eq_some_iff.mp ei).1
  have:=B.hM i (by lia) hi
  rw[hmp]at this
  cases this
structure DE(P:Program)(w:World)(K:PySem.W.Frag)(mg:Str->Option Value)(base:Heap)(p:PT')(n f:Nat)(d:eR)(fn:RL.Fn)(fa:Addr)(fd:FuncData):Prop where
 nor:d5 P w K mg base CX0 n fa fd d.ps (kG K (RL.aw p.T n) fn.mp f)
 ref:fn.mp=[]->d5 P w K mg base (CXE P w) n fa fd d.ps (spX K (RL.aw p.T n) f)
 sui:d.h=true->fn.mp=[]->kd P w K mg base n fa fd d.ps (spF K (RL.aw p.T n) f)
theorem gL(hok:p.ok=true)(tp:qX p K mg):∀ (n f:Nat) (d:eR) (fn:RL.Fn),p.Ds[f]?=some d->p.T[f]?=some fn->∀ fa fd,Fun K d.name d.name d.st fa fd->DE P w K mg base p n f d fn fa fd
 | 0,f,d,fn,hd,hf,fa,fd,F=>by
  have no:∀ vs H Q E,¬ kG K (RL.aw p.T 0) fn.mp f vs H Q E:=fun vs H Q E h=>by
   unfold kG at h
   split at h
   ·obtain⟨ds,r,_,e,_⟩:=h
    cases e
   ·obtain⟨ds,r,o,e,_⟩:=h
    cases e
  have noF:∀ vs H Q E,¬ spF K (RL.aw p.T 0) f vs H Q E:=fun vs H Q E h=>by
   obtain⟨ds,r,_,e,_⟩:=h
   cases e
  have noX:∀ vs H Q E,¬ spX K (RL.aw p.T 0) f vs H Q E:=fun vs H Q E h=>by
   obtain⟨ds,r,_,e,_⟩:=h
   cases e
  exact⟨⟨fun vs H Q E h=>(no vs H Q E h).elim,fun A outer s H args us vs Q E _ _ _ _ h=>(no vs H Q E h).elim⟩,fun _=>⟨fun vs H Q E h=>(noX vs H Q E h).elim,fun A outer s H args us vs Q E _ _ _ _ h=>(noX vs H Q E h).elim⟩,fun _ _=>⟨fun vs H Q h=>(noF vs H Q E0 h).elim,fun A outer s H us vs Q _ _ _ _ _ h=>(noF vs H Q E0 h).elim⟩⟩
 | n+1,f,d,fn,hd,hf,fa,fd,F=>by
  have hok':=hok
  unfold PT'.ok at hok'
  obtain⟨hok',hall⟩:=ae hok'
  obtain⟨hT,hl⟩:=ae hok'
  rw[beq_iff_eq]at hl
  rw[decide_eq_true_eq]at hT
  rw[List.all_eq_true]at hall
  have hz:(p.Ds.zip p.T)[f]?=some (d,fn):=by
   rw[List.getElem?_zip_eq_some]
   exact⟨hd,hf⟩
  have B:=Bc (hall (d,fn) (List.mem_of_getElem? hz))
  have unf:∀ ds r,RL.aw p.T (n+1) f ds=some r->ds.length=fn.ps/\∃ o σ',RL.ag (RL.aw p.T n) fn.M fn.body (ds.map some++List.replicate (fn.nn-fn.ps) none)=some (o,σ')/\(match o with | .nx=>RL.aP fn .non σ' | .rt d=>RL.aP fn d σ')=some r:=by
   intro ds r h
   rw[RL.aw,hf]at h
   dsimp only at h
   split at h
   ·rename_i hlen
    obtain⟨⟨o,σ'⟩,h1,h2⟩:=bind_some h
    exact⟨hlen,o,σ',h1,h2⟩
   ·cases h
  have unx:∀ ds x,RL.clX (RL.aw p.T (n+1)) f ds=some x->ds.length=fn.ps/\fn.mp=[]/\∃ σ',RL.bG (RL.aw p.T n) fn.M fn.body (ds.map some++List.replicate (fn.nn-fn.ps) none)=some (x,σ'):=by
   intro ds x h
   unfold RL.clX at h
   obtain⟨r,h1,h2⟩:=bind_some h
   have hT2:p.T[f+1000]?=none:=List.getElem?_eq_none_iff.mpr (by lia)
   rw[RL.aw,hT2]at h1
   dsimp only at h1
   rw[Nat.add_sub_cancel,hf]at h1
   dsimp only[Option.bind_some]at h1
   split at h1
   ·rename_i hlen
    obtain⟨⟨y,σ'⟩,h3,h4⟩:=map_some h1
    subst h4
    cases h2
    exact⟨hlen.1,hlen.2,σ',h3⟩
   ·cases h1
  have look:∀ {g:Nat} {x:Str} {mp:List Nat},p.F[g]?=some (x,mp)->∃ d' fn',p.Ds[g]?=some d'/\p.T[g]?=some fn'/\d'.name=x/\fn'.mp=mp:=fun {g x mp} hg=>by
   unfold PT'.F at hg
   rw[List.getElem?_map]at hg
   obtain⟨⟨d',fn'⟩,q1,q2⟩:=map_some hg
   cases q2
   rw[List.getElem?_zip_eq_some]at q1
   exact⟨d',fn',q1.1,q1.2,rfl,rfl⟩
  have Y:∀ (CX:CXT) (E:XK) (cdv:Value) (A:Around) (outer:List Env) (s:Shared) (H:Hp),bV n (A.deeper (envOfC d.name (aJ d.st) s.heap.objs.size fa cdv))->YOk (p.cc d) (fN CX P w K mg base d.N d.name (aJ d.st) fa cdv A outer s H E).nox (RL.aw p.T n):=fun CX E cdv A outer s H hr=>{
   scope:=rfl
   names:=rfl
   nd:=B.sc.nd
   calm:=fun _=>rfl
   xe:=rfl
   hu:=by
    have:=hr.un
    show(A.deeper _).units+100<cLine
    lia
   blt:=tp.blt
   glb:=tp.glb
   fns:=fun g x mp _ hg=>by
    obtain⟨d',fn',q1,q2,rfl,rfl⟩:=look hg
    obtain⟨fa',fd',t1,t2,t3,t4⟩:=tp.defs g d' q1
    exact⟨n,fa',fd',d'.ps,(gL hok tp n g d' fn' q1 q2 fa' fd' t2).nor,hr,t1,t3,t4⟩
   hfn:=fun g x hh hg=>by
    obtain⟨d',fn',q1,q2,rfl,q3⟩:=look hg
    obtain⟨d2,q4,q5⟩:=tH hh
    rw[q1]at q4
    cases q4
    obtain⟨fa',fd',t1,t2,t3,t4⟩:=tp.defs g d' q1
    exact⟨n,fa',fd',d'.ps,(gL hok tp n g d' fn' q1 q2 fa' fd' t2).sui q5 q3,hr.h,t1,t3,t4⟩
   cls:=tp.cls
   ref:=tp.ref
   fn:=fun _=>rfl
   st:=⟨rfl,rfl,rfl⟩
   fnx:=fun g x _ hg=>by
    obtain⟨d',fn',q1,q2,rfl,q3⟩:=look hg
    obtain⟨fa',fd',t1,t2,t3,t4⟩:=tp.defs g d' q1
    exact⟨n,fa',fd',d'.ps,(gL hok tp n g d' fn' q1 q2 fa' fd' t2).ref q3,hr,t1,t3,t4⟩ }
  refine⟨?_,fun hmp=>?_,fun hh hmp=>?_⟩
  ·refine Fun.ok F B.sc (fun vs H Q E h=>?_) fun cdv A outer s H vs Q E hr h=>?_
   ·unfold kG at h
    split at h
    ·obtain⟨ds,r,r1,e,_⟩:=h
     rw[<-r1.length,(unf ds r e).1,B.ps]
    ·obtain⟨ds,r,o,e,a,_⟩:=h
     rw[<-a.l6.length,(unf ds _ e).1,B.ps]
   ·refine⟨_,bP fn.body (Y CX0 E cdv A outer s H hr) (M:=fn.M) _ B.body,?_⟩
    have hst:start d.N vs=vs.map some++List.replicate (d.N.length-vs.length) none:=rfl
    unfold kG at h
    split at h
    ·rename_i hmp
     obtain⟨ds,r,r1,e,k⟩:=h
     obtain⟨hlen,o,σ',e1,e2⟩:=unf ds r e
     exact uf (f:=f) B hmp r1 hlen e2 e1 k
    ·rename_i hmp
     obtain⟨ds,r,outs,e,a,k⟩:=h
     obtain⟨hlen,o,σ',e1,e2⟩:=unf ds _ e
     have hvl:vs.length=fn.ps:=by rw[<-a.l6.length];exact hlen
     refine⟨_,o,σ',?_,e1,?_⟩
     ·rw[hst,hvl,<-B.nn]
      exact xN a B.hM (fun i hi=>gA (B.mp i hi).2) hlen
     ·-- the lists behind it
      have fin:∀ (d0:RL.D) (σ1:L2.St) (H1 H':Hp) (v:V),RL.aP fn d0 σ'=some (.tup (r::outs))->RVm K fn.M σ' σ1 H1->Fr' fn.M (start d.N vs) H σ1 H1->au H1 H'->(d0.imm=true->Rep nP K H' d0 v)->Q v H':=by
       intro d0 σ1 H1 H' v ht rv1 fr1 sm rp
       obtain⟨im,os,g1,g2⟩:=BN ht hmp
       cases g2
       obtain⟨l1,l2⟩:=o9 g1
       refine k v H' (fun b u nb eb=>sm _ _ (fr1.1 b u eb fun⟨i,hi,ei⟩=>?_).1) (rp im) im ⟨l1,fun kk pp oo hk ho=>?_⟩
       ·rw[hst,aX]at ei
        have h3:=(List.getElem?_eq_some_iff.mp ei).1
        exact nb ⟨i,B.hM i (by lia) hi,ei⟩
       ·have hpm:=List.mem_of_getElem? hk
        obtain⟨dp,ap,g3,g4,g5⟩:=a.own pp hpm
        have g6:=fr1.2 pp (B.mp pp hpm).2
        have g7:(start d.N vs)[pp]?=some (some (.ref ap)):=by rw[hst,aX];exact g4
        rw[g7]at g6
        obtain⟨v',g8,g9⟩:=rv1.val pp oo (l2 kk pp oo hk ho)
        rw[g6]at g8
        cases g8
        rw[if_pos (gA (B.mp pp hpm).2)]at g9
        exact⟨ap,g4,g9.same sm⟩
      cases o with
      |nx=>
       intro σ1 H1 rv1 fr1
       exact fin .non σ1 H1 H1 .non e2 rv1 fr1 (au.refl _) fun _=>by rw[Rep]
      |rt d0=>
       intro σ1 H1 v H' rv1 fr1 sm rp
       exact fin d0 σ1 H1 H' v e2 rv1 fr1 sm fun im=>rp nP fun _ z=>z.elim
  ·refine Fun.okX F B.sc (fun vs H Q E h=>?_) fun cdv A outer s H vs Q E hr h=>?_
   ·obtain⟨ds,x,r1,e,_⟩:=h
    rw[<-r1.length,(unx ds x e).1,B.ps]
   ·have R:ROk (p.cc d) (fN (CXE P w) P w K mg base d.N d.name (aJ d.st) fa cdv A outer s H E) (RL.aw p.T n) (fun _=>E):={
     y:=Y (CXE P w) E cdv A outer s H hr
     cal:=rfl
     pass:=fun pins σ H1 s1 e s' I z=>by
      obtain⟨x,C,H',rfl,hE,I',ex,_⟩:=I.refused rfl z
      exact o8 I' rfl rfl rfl ex hE I'.ok.frames
     made:=fun pins σ H1 s1 h' e C vs I m z=>by
      obtain⟨I',ex⟩:=I.newExc rfl m
      exact o8 I' rfl rfl rfl ex z I'.ok.frames
     own:=PassesOwn.leaving }
    obtain⟨ds,x,r1,e,k⟩:=h
    obtain⟨hlen,_,σ',e1⟩:=unx ds x e
    exact⟨_,dU fn.body R (M:=fn.M) _ B.body,BU B hmp r1 hlen e1 k⟩
  ·refine Fun.okH F B.sc (fun vs H Q h=>?_) fun cdv A outer s H vs Q hr h=>?_
   ·obtain⟨ds,r,r1,e,_⟩:=h
    rw[<-r1.length,(unf ds r e).1,B.ps]
   ·have Z:YOk { p.cc d with calm:=false } (cxH P w K mg base d.N d.name (aJ d.st) fa cdv A outer s H) (RL.aw p.T n):={
     scope:=rfl
     names:=rfl
     nd:=B.sc.nd
     calm:=fun z=>(nomatch z)
     xe:=rfl
     hu:=by
      have:=hr.un
      show(A.deeper _).units+100<cLine
      lia
     blt:=tp.blt
     glb:=tp.glb
     fns:=fun _ _ _ z=>(nomatch z)
     hfn:=fun g x hh hg=>by
      obtain⟨d',fn',q1,q2,rfl,q3⟩:=look hg
      obtain⟨d2,q4,q5⟩:=tH hh
      rw[q1]at q4
      cases q4
      obtain⟨fa',fd',t1,t2,t3,t4⟩:=tp.defs g d' q1
      exact⟨n,fa',fd',d'.ps,(gL hok tp n g d' fn' q1 q2 fa' fd' t2).sui q5 q3,hr,t1,t3,t4⟩
     cls:=tp.cls
     ref:=tp.ref
     fn:=fun _=>rfl
     st:=⟨rfl,rfl,rfl⟩
     fnx:=fun _ _ z=>(nomatch z) }
    obtain⟨ds,r,r1,e,k⟩:=h
    obtain⟨hlen,o,σ',e1,e2⟩:=unf ds r e
    exact⟨_,bP fn.body Z (M:=fn.M) _ (B.hb hh),uf (f:=f) B hmp r1 hlen e2 e1 k⟩
theorem Ar(hok:p.ok=true)(tp:qX p K mg):∀ (n f:Nat) (d:eR) (fn:RL.Fn),p.Ds[f]?=some d->p.T[f]?=some fn->∀ fa fd,Fun K d.name d.name d.st fa fd->d5 P w K mg base CX0 n fa fd d.ps (kG K (RL.aw p.T n) fn.mp f):=fun n f d fn a b fa fd F=>(gL hok tp n f d fn a b fa fd F).nor
end
noncomputable def spL(n:Nat)(p:PT')(f:Nat)(K:PySem.W.Frag):Sp:=spF K (RL.aw p.T n) f
theorem AY{n:Nat}{p:PT'}{f:Nat}{K:PySem.W.Frag}{H:Hp}{a:Addr}{ns:List Int}(hO:mZ H)(hS:SqL K H a (ns.map V.int))(h:RL.aw p.T n f [.scr (ns.map RL.D.int)]=some (.bl true)):spL n p f K [.ref a] H (fun v _=>v=.bl true) fun _ _ _=>False:=by
 refine⟨_,_,?_,h,fun v H' _ r=>aY r⟩
 refine af.cons ?_ af.nil
 rw[Rep]
 refine⟨a,ns.map V.int,rfl,?_,?_⟩
 ·rcases hS with(z | ⟨o,z⟩) | z
  ·rcases hO a with q | ⟨o,xs,q⟩
   ·rw[q]at z
    cases z
   ·rw[q]at z
    cases z
  ·exact .inl ⟨o,z⟩
  ·exact .inr (.inr z)
 ·clear hS h
  induction ns with
  | nil=>exact af.nil
  | cons i r ih=>exact af.cons bp ih
end RS
namespace K21
open PySem PySem.Spec PyProof.Rows L2
noncomputable def top(i:Nat):Stmt:=PySem.Challenge.pw_ribbonloft_k21_single_hooks.main.body.getD i (.Pass ⟨0,0,0,0⟩)
noncomputable def Ds:List RS.eR:=[
 ⟨"is_number",top 19,["value"],["value"],false⟩,
 ⟨"is_peg_count",top 20,["value"],["value"],false⟩,
 ⟨"check_pegs",top 21,["pegs"],["pegs"],false⟩,
 ⟨"is_pairing",top 23,["row"],["row", "place"],false⟩,
 ⟨"names_back",top 24,["row", "place"],["row", "place", "other"],false⟩,
 ⟨"is_uncrossed",top 25,["row"],["row", "waiting", "place", "other"],false⟩,
 ⟨"tie",top 26,["row", "one", "other"],["row", "one", "other"],false⟩,
 ⟨"run",top 27,["one", "other", "start"],["one", "other", "start", "places", "onward", "side"],false⟩,
 ⟨"rings_of",top 28,["one", "other"],["one", "other", "seen", "start", "many"],false⟩,
 ⟨"mark",top 29,["seen", "places"],["seen", "places", "place"],false⟩,
 ⟨"is_frame",top 31,["frame"],["frame", "pegs", "alone", "peg", "other"],false⟩,
 ⟨"check_frame",top 32,["frame"],["frame"],false⟩,
 ⟨"check_two_frames",top 33,["one", "other"],["one", "other"],false⟩,
 ⟨"pegs_of",top 34,["frame"],["frame"],false⟩,
 ⟨"plain",top 35,["pegs"],["pegs"],false⟩,
 ⟨"round_place",top 36,["pegs", "peg"],["pegs", "peg"],false⟩,
 ⟨"in_round",top 37,["frame"],["frame", "pegs", "peg"],false⟩,
 ⟨"moved",top 38,["frame", "to"],["frame", "to", "ends", "peg", "other"],false⟩,
 ⟨"hook",top 40,["pegs", "number"],["pegs", "number"],false⟩,
 ⟨"made",top 41,["pegs", "row"],["pegs", "row", "frame", "rings", "number"],false⟩,
 ⟨"hang_hook",top 42,["frame", "number"],["frame", "number", "left", "right"],false⟩,
 ⟨"is_hook",top 43,["pegs", "number"],["pegs", "number"],false⟩,
 ⟨"check_row",top 44,["pegs", "row"],["pegs", "row", "number"],false⟩,
 ⟨"hung",top 46,["upper", "lower"],["upper", "lower"],false⟩,
 ⟨"put_under",top 47,["upper", "lower"],["upper", "lower", "pegs", "ribbons", "joints", "outer", "ends", "frame", "peg", "end"],false⟩,
 ⟨"joints_between",top 48,["pegs"],["pegs", "top", "above", "beneath", "bottom"],false⟩,
 ⟨"_law_kin",top 50,["_law_e"],["_law_e", "_law_found", "_law_words", "_law_word_here", "_law_kin_here"],true⟩,
 ⟨"_law_mix",top 51,["_law_seed"],["_law_seed", "_law_one", "_law_two"],false⟩,
 ⟨"_law_raw",top 52,["_law_script", "_law_k"],["_law_script", "_law_k", "_law_cell", "_law_found", "_law_turn"],false⟩,
 ⟨"_law_digits",top 53,["_law_script", "_law_k", "_law_sizes"],["_law_script", "_law_k", "_law_sizes", "_law_rest", "_law_found", "_law_size"],false⟩,
 ⟨"_law_plain",top 54,["_law_pegs"],["_law_pegs", "_law_peg"],false⟩,
 ⟨"_law_hook",top 55,["_law_pegs", "_law_number"],["_law_pegs", "_law_number", "_law_found", "_law_start"],false⟩,
 ⟨"_law_same",top 56,["_law_told", "_law_due"],["_law_told", "_law_due", "_law_one", "_law_other"],false⟩,
 ⟨"_law_word",top 57,["_law_pegs", "_law_number"],["_law_pegs", "_law_number", "_law_found", "_law_e"],false⟩,
 ⟨"law",top 58,["_law_script"],["_law_script", "_law_k", "_law_pegs", "_law_number", "_law_due", "_law_way", "_law_far"],false⟩]
noncomputable def p:RS.PT':=⟨["ValueError", "all", "bool", "enumerate", "int", "isinstance", "len", "list", "range", "str", "tuple", "zip"],[("MOST_PEGS",10)],Ds,T,["BadFrame", "BadHook", "BadPegs", "RibbonError"],["BadFrame", "BadHalf", "BadHook", "BadName", "BadPage", "BadPegs", "BadTrade", "Full", "Hangs", "NoFrame", "NoNumber", "NoPlace", "NoStack", "NothingThere", "Taken"]⟩
theorem DZ:p.ok=true:=by decide +kernel
theorem all1{P:List Value->Prop}(h:∀ a0,P [a0]):∀ us:List Value,us.length=1->P us
 | [a0],_=>h a0
theorem all2{P:List Value->Prop}(h:∀ a0 a1,P [a0,a1]):∀ us:List Value,us.length=2->P us
 | [a0,a1],_=>h a0 a1
theorem vn{P:List Value->Prop}(h:∀ a0 a1 a2,P [a0,a1,a2]):∀ us:List Value,us.length=3->P us
 | [a0,a1,a2],_=>h a0 a1 a2
structure aU(K:PySem.W.Frag)(mg:Str->Option Value)(x:Str)(st:Stmt):Prop where
 ex:∃ f fd,mg x=some (.ref f)/\Fun K x x st f fd/\PySem.W.keepIn K (.ref f)=true
theorem zt{K:PySem.W.Frag}{h:Heap}{mg:Str->Option Value}{x:Str}{st:Stmt}{f:Addr}{oc kV dc pm cd ct:Value}{od an:Option Addr}{sl:Array (Option Value)}(X:K.In h)(G:h.Ns mainGlobals mg)(a:PySem.W.nsIn K mainGlobals x=some (some (.ref f)))
 (l:K.lookup f=some ⟨oc,od,.func (PySem.W.fnOf x x (gz st) (bX st) (aJ st) .none kV dc pm an cd ct),sl⟩)(c:PySem.W.codeIn K cd x=true)(k:PySem.W.keepIn K (.ref f)=true):aU K mg x st :=
 ⟨f,_,PySem.W.mg_of X G a,zE (st:=st) l c k,k⟩
structure qB(K:PySem.W.Frag)(mg:Str->Option Value):Prop where
 d19:aU K mg "is_number" (top 19)
 d20:aU K mg "is_peg_count" (top 20)
 d21:aU K mg "check_pegs" (top 21)
 d23:aU K mg "is_pairing" (top 23)
 d24:aU K mg "names_back" (top 24)
 d25:aU K mg "is_uncrossed" (top 25)
 d26:aU K mg "tie" (top 26)
 d27:aU K mg "run" (top 27)
 d28:aU K mg "rings_of" (top 28)
 d29:aU K mg "mark" (top 29)
 d31:aU K mg "is_frame" (top 31)
 d32:aU K mg "check_frame" (top 32)
 d33:aU K mg "check_two_frames" (top 33)
 d34:aU K mg "pegs_of" (top 34)
 d35:aU K mg "plain" (top 35)
 d36:aU K mg "round_place" (top 36)
 d37:aU K mg "in_round" (top 37)
 d38:aU K mg "moved" (top 38)
 d40:aU K mg "hook" (top 40)
 d41:aU K mg "made" (top 41)
 d42:aU K mg "hang_hook" (top 42)
 d43:aU K mg "is_hook" (top 43)
 d44:aU K mg "check_row" (top 44)
 d46:aU K mg "hung" (top 46)
 d47:aU K mg "put_under" (top 47)
 d48:aU K mg "joints_between" (top 48)
 d50:aU K mg "_law_kin" (top 50)
 d51:aU K mg "_law_mix" (top 51)
 d52:aU K mg "_law_raw" (top 52)
 d53:aU K mg "_law_digits" (top 53)
 d54:aU K mg "_law_plain" (top 54)
 d55:aU K mg "_law_hook" (top 55)
 d56:aU K mg "_law_same" (top 56)
 d57:aU K mg "_law_word" (top 57)
 d58:aU K mg "law" (top 58)
 nH:PySem.W.nsIn K mainGlobals "ValueError" = some none
 Dd:PySem.W.nsIn K mainGlobals "all" = some none
 zB:PySem.W.nsIn K mainGlobals "bool" = some none
 pG:PySem.W.nsIn K mainGlobals "enumerate" = some none
 CF:PySem.W.nsIn K mainGlobals "int" = some none
 p8:PySem.W.nsIn K mainGlobals "isinstance" = some none
 CQ:PySem.W.nsIn K mainGlobals "len" = some none
 BQ:PySem.W.nsIn K mainGlobals "list" = some none
 y9:PySem.W.nsIn K mainGlobals "range" = some none
 C2:PySem.W.nsIn K mainGlobals "str" = some none
 yT:PySem.W.nsIn K mainGlobals "tuple" = some none
 Cq:PySem.W.nsIn K mainGlobals "zip" = some none
 pO:∃ t,PySem.W.nsIn K mainGlobals "MOST_PEGS" = some (some (.int 10 t))
 r9:∃ D,PySem.W.nsIn K mainGlobals "BadFrame" = some (some (.ref D))/\RS.er K "BadFrame" D=true
 uk:∃ D,PySem.W.nsIn K mainGlobals "BadHook" = some (some (.ref D))/\RS.er K "BadHook" D=true
 sT:∃ D,PySem.W.nsIn K mainGlobals "BadPegs" = some (some (.ref D))/\RS.er K "BadPegs" D=true
 mw:∃ D,PySem.W.nsIn K mainGlobals "RibbonError" = some (some (.ref D))/\RS.er K "RibbonError" D=true
 sy:∃ D,PySem.W.nsIn K mainGlobals "BadFrame" = some (some (.ref D))
 um:∃ D,PySem.W.nsIn K mainGlobals "BadHalf" = some (some (.ref D))
 tj:∃ D,PySem.W.nsIn K mainGlobals "BadHook" = some (some (.ref D))
 sE:∃ D,PySem.W.nsIn K mainGlobals "BadName" = some (some (.ref D))
 uT:∃ D,PySem.W.nsIn K mainGlobals "BadPage" = some (some (.ref D))
 uj:∃ D,PySem.W.nsIn K mainGlobals "BadPegs" = some (some (.ref D))
 rX:∃ D,PySem.W.nsIn K mainGlobals "BadTrade" = some (some (.ref D))
 AZ:∃ D,PySem.W.nsIn K mainGlobals "Full" = some (some (.ref D))
 yL:∃ D,PySem.W.nsIn K mainGlobals "Hangs" = some (some (.ref D))
 uK:∃ D,PySem.W.nsIn K mainGlobals "NoFrame" = some (some (.ref D))
 rF:∃ D,PySem.W.nsIn K mainGlobals "NoNumber" = some (some (.ref D))
 tK:∃ D,PySem.W.nsIn K mainGlobals "NoPlace" = some (some (.ref D))
 t8:∃ D,PySem.W.nsIn K mainGlobals "NoStack" = some (some (.ref D))
 kW:∃ D,PySem.W.nsIn K mainGlobals "NothingThere" = some (some (.ref D))
 yP:∃ D,PySem.W.nsIn K mainGlobals "Taken" = some (some (.ref D))
theorem Ax{K:PySem.W.Frag}{h:Heap}{mg:Str->Option Value}(X:K.In h)(G:h.Ns mainGlobals mg)(A:qB K mg):RS.qX p K mg where
 defs:=by
  intro f d hf
  match f,hf with
  | 0,hf=>cases hf;obtain⟨fa,fd,h1,h2,h3⟩:=A.d19.ex;exact⟨fa,fd,h1,h2,h3,h2.binds (ps:=["value"]) (fun _ _ _ _ _ _=>all1 (fun _=>rfl))⟩
  | 1,hf=>cases hf;obtain⟨fa,fd,h1,h2,h3⟩:=A.d20.ex;exact⟨fa,fd,h1,h2,h3,h2.binds (ps:=["value"]) (fun _ _ _ _ _ _=>all1 (fun _=>rfl))⟩
  | 2,hf=>cases hf;obtain⟨fa,fd,h1,h2,h3⟩:=A.d21.ex;exact⟨fa,fd,h1,h2,h3,h2.binds (ps:=["pegs"]) (fun _ _ _ _ _ _=>all1 (fun _=>rfl))⟩
  | 3,hf=>cases hf;obtain⟨fa,fd,h1,h2,h3⟩:=A.d23.ex;exact⟨fa,fd,h1,h2,h3,h2.binds (ps:=["row"]) (fun _ _ _ _ _ _=>all1 (fun _=>rfl))⟩
  | 4,hf=>cases hf;obtain⟨fa,fd,h1,h2,h3⟩:=A.d24.ex;exact⟨fa,fd,h1,h2,h3,h2.binds (ps:=["row", "place"]) (fun _ _ _ _ _ _=>all2 (fun _ _=>rfl))⟩
  | 5,hf=>cases hf;obtain⟨fa,fd,h1,h2,h3⟩:=A.d25.ex;exact⟨fa,fd,h1,h2,h3,h2.binds (ps:=["row"]) (fun _ _ _ _ _ _=>all1 (fun _=>rfl))⟩
  | 6,hf=>cases hf;obtain⟨fa,fd,h1,h2,h3⟩:=A.d26.ex;exact⟨fa,fd,h1,h2,h3,h2.binds (ps:=["row", "one", "other"]) (fun _ _ _ _ _ _=>vn (fun _ _ _=>rfl))⟩
  | 7,hf=>cases hf;obtain⟨fa,fd,h1,h2,h3⟩:=A.d27.ex;exact⟨fa,fd,h1,h2,h3,h2.binds (ps:=["one", "other", "start"]) (fun _ _ _ _ _ _=>vn (fun _ _ _=>rfl))⟩
  | 8,hf=>cases hf;obtain⟨fa,fd,h1,h2,h3⟩:=A.d28.ex;exact⟨fa,fd,h1,h2,h3,h2.binds (ps:=["one", "other"]) (fun _ _ _ _ _ _=>all2 (fun _ _=>rfl))⟩
  | 9,hf=>cases hf;obtain⟨fa,fd,h1,h2,h3⟩:=A.d29.ex;exact⟨fa,fd,h1,h2,h3,h2.binds (ps:=["seen", "places"]) (fun _ _ _ _ _ _=>all2 (fun _ _=>rfl))⟩
  | 10,hf=>cases hf;obtain⟨fa,fd,h1,h2,h3⟩:=A.d31.ex;exact⟨fa,fd,h1,h2,h3,h2.binds (ps:=["frame"]) (fun _ _ _ _ _ _=>all1 (fun _=>rfl))⟩
  | 11,hf=>cases hf;obtain⟨fa,fd,h1,h2,h3⟩:=A.d32.ex;exact⟨fa,fd,h1,h2,h3,h2.binds (ps:=["frame"]) (fun _ _ _ _ _ _=>all1 (fun _=>rfl))⟩
  | 12,hf=>cases hf;obtain⟨fa,fd,h1,h2,h3⟩:=A.d33.ex;exact⟨fa,fd,h1,h2,h3,h2.binds (ps:=["one", "other"]) (fun _ _ _ _ _ _=>all2 (fun _ _=>rfl))⟩
  | 13,hf=>cases hf;obtain⟨fa,fd,h1,h2,h3⟩:=A.d34.ex;exact⟨fa,fd,h1,h2,h3,h2.binds (ps:=["frame"]) (fun _ _ _ _ _ _=>all1 (fun _=>rfl))⟩
  | 14,hf=>cases hf;obtain⟨fa,fd,h1,h2,h3⟩:=A.d35.ex;exact⟨fa,fd,h1,h2,h3,h2.binds (ps:=["pegs"]) (fun _ _ _ _ _ _=>all1 (fun _=>rfl))⟩
  | 15,hf=>cases hf;obtain⟨fa,fd,h1,h2,h3⟩:=A.d36.ex;exact⟨fa,fd,h1,h2,h3,h2.binds (ps:=["pegs", "peg"]) (fun _ _ _ _ _ _=>all2 (fun _ _=>rfl))⟩
  | 16,hf=>cases hf;obtain⟨fa,fd,h1,h2,h3⟩:=A.d37.ex;exact⟨fa,fd,h1,h2,h3,h2.binds (ps:=["frame"]) (fun _ _ _ _ _ _=>all1 (fun _=>rfl))⟩
  | 17,hf=>cases hf;obtain⟨fa,fd,h1,h2,h3⟩:=A.d38.ex;exact⟨fa,fd,h1,h2,h3,h2.binds (ps:=["frame", "to"]) (fun _ _ _ _ _ _=>all2 (fun _ _=>rfl))⟩
  | 18,hf=>cases hf;obtain⟨fa,fd,h1,h2,h3⟩:=A.d40.ex;exact⟨fa,fd,h1,h2,h3,h2.binds (ps:=["pegs", "number"]) (fun _ _ _ _ _ _=>all2 (fun _ _=>rfl))⟩
  | 19,hf=>cases hf;obtain⟨fa,fd,h1,h2,h3⟩:=A.d41.ex;exact⟨fa,fd,h1,h2,h3,h2.binds (ps:=["pegs", "row"]) (fun _ _ _ _ _ _=>all2 (fun _ _=>rfl))⟩
  | 20,hf=>cases hf;obtain⟨fa,fd,h1,h2,h3⟩:=A.d42.ex;exact⟨fa,fd,h1,h2,h3,h2.binds (ps:=["frame", "number"]) (fun _ _ _ _ _ _=>all2 (fun _ _=>rfl))⟩
  | 21,hf=>cases hf;obtain⟨fa,fd,h1,h2,h3⟩:=A.d43.ex;exact⟨fa,fd,h1,h2,h3,h2.binds (ps:=["pegs", "number"]) (fun _ _ _ _ _ _=>all2 (fun _ _=>rfl))⟩
  | 22,hf=>cases hf;obtain⟨fa,fd,h1,h2,h3⟩:=A.d44.ex;exact⟨fa,fd,h1,h2,h3,h2.binds (ps:=["pegs", "row"]) (fun _ _ _ _ _ _=>all2 (fun _ _=>rfl))⟩
  | 23,hf=>cases hf;obtain⟨fa,fd,h1,h2,h3⟩:=A.d46.ex;exact⟨fa,fd,h1,h2,h3,h2.binds (ps:=["upper", "lower"]) (fun _ _ _ _ _ _=>all2 (fun _ _=>rfl))⟩
  | 24,hf=>cases hf;obtain⟨fa,fd,h1,h2,h3⟩:=A.d47.ex;exact⟨fa,fd,h1,h2,h3,h2.binds (ps:=["upper", "lower"]) (fun _ _ _ _ _ _=>all2 (fun _ _=>rfl))⟩
  | 25,hf=>cases hf;obtain⟨fa,fd,h1,h2,h3⟩:=A.d48.ex;exact⟨fa,fd,h1,h2,h3,h2.binds (ps:=["pegs"]) (fun _ _ _ _ _ _=>all1 (fun _=>rfl))⟩
  | 26,hf=>cases hf;obtain⟨fa,fd,h1,h2,h3⟩:=A.d50.ex;exact⟨fa,fd,h1,h2,h3,h2.binds (ps:=["_law_e"]) (fun _ _ _ _ _ _=>all1 (fun _=>rfl))⟩
  | 27,hf=>cases hf;obtain⟨fa,fd,h1,h2,h3⟩:=A.d51.ex;exact⟨fa,fd,h1,h2,h3,h2.binds (ps:=["_law_seed"]) (fun _ _ _ _ _ _=>all1 (fun _=>rfl))⟩
  | 28,hf=>cases hf;obtain⟨fa,fd,h1,h2,h3⟩:=A.d52.ex;exact⟨fa,fd,h1,h2,h3,h2.binds (ps:=["_law_script", "_law_k"]) (fun _ _ _ _ _ _=>all2 (fun _ _=>rfl))⟩
  | 29,hf=>cases hf;obtain⟨fa,fd,h1,h2,h3⟩:=A.d53.ex;exact⟨fa,fd,h1,h2,h3,h2.binds (ps:=["_law_script", "_law_k", "_law_sizes"]) (fun _ _ _ _ _ _=>vn (fun _ _ _=>rfl))⟩
  | 30,hf=>cases hf;obtain⟨fa,fd,h1,h2,h3⟩:=A.d54.ex;exact⟨fa,fd,h1,h2,h3,h2.binds (ps:=["_law_pegs"]) (fun _ _ _ _ _ _=>all1 (fun _=>rfl))⟩
  | 31,hf=>cases hf;obtain⟨fa,fd,h1,h2,h3⟩:=A.d55.ex;exact⟨fa,fd,h1,h2,h3,h2.binds (ps:=["_law_pegs", "_law_number"]) (fun _ _ _ _ _ _=>all2 (fun _ _=>rfl))⟩
  | 32,hf=>cases hf;obtain⟨fa,fd,h1,h2,h3⟩:=A.d56.ex;exact⟨fa,fd,h1,h2,h3,h2.binds (ps:=["_law_told", "_law_due"]) (fun _ _ _ _ _ _=>all2 (fun _ _=>rfl))⟩
  | 33,hf=>cases hf;obtain⟨fa,fd,h1,h2,h3⟩:=A.d57.ex;exact⟨fa,fd,h1,h2,h3,h2.binds (ps:=["_law_pegs", "_law_number"]) (fun _ _ _ _ _ _=>all2 (fun _ _=>rfl))⟩
  | 34,hf=>cases hf;obtain⟨fa,fd,h1,h2,h3⟩:=A.d58.ex;exact⟨fa,fd,h1,h2,h3,h2.binds (ps:=["_law_script"]) (fun _ _ _ _ _ _=>all1 (fun _=>rfl))⟩
  | f+35,hf=>cases hf
 blt:=by
  intro x hx
  simp only[p,List.mem_cons,List.mem_nil_iff,or_false]at hx
  rcases hx with rfl | rfl | rfl | rfl | rfl | rfl | rfl | rfl | rfl | rfl | rfl | rfl
  ·exact PySem.W.mg_none_of X G A.nH
  ·exact PySem.W.mg_none_of X G A.Dd
  ·exact PySem.W.mg_none_of X G A.zB
  ·exact PySem.W.mg_none_of X G A.pG
  ·exact PySem.W.mg_none_of X G A.CF
  ·exact PySem.W.mg_none_of X G A.p8
  ·exact PySem.W.mg_none_of X G A.CQ
  ·exact PySem.W.mg_none_of X G A.BQ
  ·exact PySem.W.mg_none_of X G A.y9
  ·exact PySem.W.mg_none_of X G A.C2
  ·exact PySem.W.mg_none_of X G A.yT
  ·exact PySem.W.mg_none_of X G A.Cq
 glb:=by
  intro x i hx
  obtain⟨t,ht⟩:=A.pO
  have e:x = "MOST_PEGS" /\ i=10:=by
   simp only[p,List.lookup]at hx
   split at hx
   ·rename_i he
    cases hx
    exact⟨by simpa using he,rfl⟩
   ·cases hx
  obtain⟨rfl,rfl⟩:=e
  exact⟨_,PySem.W.mg_of X G ht,t,rfl⟩
 cls:=by
  intro c hc
  have hc:c∈p.Xr:=by simpa using hc
  simp only[p,List.mem_cons,List.mem_nil_iff,or_false]at hc
  rcases hc with rfl | rfl | rfl | rfl
  ·obtain⟨D,a,b⟩:=A.r9;exact⟨D,PySem.W.mg_of X G a,⟨a,b⟩⟩
  ·obtain⟨D,a,b⟩:=A.uk;exact⟨D,PySem.W.mg_of X G a,⟨a,b⟩⟩
  ·obtain⟨D,a,b⟩:=A.sT;exact⟨D,PySem.W.mg_of X G a,⟨a,b⟩⟩
  ·obtain⟨D,a,b⟩:=A.mw;exact⟨D,PySem.W.mg_of X G a,⟨a,b⟩⟩
 ref:=by
  intro c hc
  have hc:c∈p.Xs:=by simpa using hc
  simp only[p,List.mem_cons,List.mem_nil_iff,or_false]at hc
  rcases hc with rfl | rfl | rfl | rfl | rfl | rfl | rfl | rfl | rfl | rfl | rfl | rfl | rfl | rfl | rfl
  ·obtain⟨D,a⟩:=A.sy;exact⟨D,PySem.W.mg_of X G a,a⟩
  ·obtain⟨D,a⟩:=A.um;exact⟨D,PySem.W.mg_of X G a,a⟩
  ·obtain⟨D,a⟩:=A.tj;exact⟨D,PySem.W.mg_of X G a,a⟩
  ·obtain⟨D,a⟩:=A.sE;exact⟨D,PySem.W.mg_of X G a,a⟩
  ·obtain⟨D,a⟩:=A.uT;exact⟨D,PySem.W.mg_of X G a,a⟩
  ·obtain⟨D,a⟩:=A.uj;exact⟨D,PySem.W.mg_of X G a,a⟩
  ·obtain⟨D,a⟩:=A.rX;exact⟨D,PySem.W.mg_of X G a,a⟩
  ·obtain⟨D,a⟩:=A.AZ;exact⟨D,PySem.W.mg_of X G a,a⟩
  ·obtain⟨D,a⟩:=A.yL;exact⟨D,PySem.W.mg_of X G a,a⟩
  ·obtain⟨D,a⟩:=A.uK;exact⟨D,PySem.W.mg_of X G a,a⟩
  ·obtain⟨D,a⟩:=A.rF;exact⟨D,PySem.W.mg_of X G a,a⟩
  ·obtain⟨D,a⟩:=A.tK;exact⟨D,PySem.W.mg_of X G a,a⟩
  ·obtain⟨D,a⟩:=A.t8;exact⟨D,PySem.W.mg_of X G a,a⟩
  ·obtain⟨D,a⟩:=A.kW;exact⟨D,PySem.W.mg_of X G a,a⟩
  ·obtain⟨D,a⟩:=A.yP;exact⟨D,PySem.W.mg_of X G a,a⟩
end K21
namespace PySem.W.Fast
theorem tw10761026322848902144:True:=trivial
theorem tw5635640183749421120:True:=trivial
theorem tw16385944112963774560:True:=trivial
theorem tw14645886125829728416:True:=trivial
theorem tw4622517141509571808:True:=trivial
theorem tw17278408799713273056:True:=trivial
theorem tw1810046251761127680:True:=trivial
theorem tw13130827713548514560:True:=trivial
theorem tw16834460501060342112:True:=trivial
theorem tw14471833848252124544:True:=trivial
theorem tw14108069983774261664:True:=trivial
theorem tw5974170550461312480:True:=trivial
theorem tw13551236869215501824:True:=trivial
theorem tw9682367211625557728:True:=trivial
theorem tw12295091044524177120:True:=trivial
theorem tw12652641468900850560:True:=trivial
theorem tw6566076183950399392:True:=trivial
theorem tw8783014438484717536:True:=trivial
theorem tw12669736813137199072:True:=trivial
theorem tw14404620087316879361:True:=trivial
theorem tw10768242473244676129:True:=trivial
theorem tw16448027696423610433:True:=trivial
theorem tw1207662085029982305:True:=trivial
theorem tw8380343469421241505:True:=trivial
theorem tw8937844771513191585:True:=trivial
theorem tw2862469309086779745:True:=trivial
theorem tw1423509298141366689:True:=trivial
theorem tw15340965889527220673:True:=trivial
theorem tw713091005749993921:True:=trivial
theorem tw5803158903131988417:True:=trivial
theorem tw4783386965545946625:True:=trivial
theorem tw8756853365129764449:True:=trivial
theorem tw3570659780953237089:True:=trivial
theorem tw18230835052009218689:True:=trivial
theorem tw4103647127081462433:True:=trivial
theorem tw16749837029793247969:True:=trivial
theorem tw14456438213293634273:True:=trivial
theorem tw5590164101985931105:True:=trivial
theorem tw6973039165401738177:True:=trivial
theorem tw11070188763021852641:True:=trivial
theorem tw10770145027173158914:True:=trivial
theorem tw10604959674244874242:True:=trivial
theorem tw6583797591390394530:True:=trivial
theorem tw11929407586260870370:True:=trivial
theorem tw18236154749625363682:True:=trivial
theorem tw9284968479656342754:True:=trivial
theorem tw5596466359612213538:True:=trivial
theorem tw8551411645663615298:True:=trivial
theorem tw13176002995775098178:True:=trivial
theorem tw2684273479181171074:True:=trivial
theorem tw1517289454957861378:True:=trivial
theorem tw10083103403333649986:True:=trivial
theorem tw15582610992660683490:True:=trivial
theorem tw1695346802195097346:True:=trivial
theorem tw6581192541166217154:True:=trivial
theorem tw9094352828059735043:True:=trivial
theorem tw14670556900104255619:True:=trivial
theorem tw2446907984123284707:True:=trivial
theorem tw653323777511520579:True:=trivial
theorem tw4304176084964545955:True:=trivial
theorem tw4287410116110853539:True:=trivial
theorem tw8353902028930173475:True:=trivial
theorem tw14105327400791307843:True:=trivial
theorem tw7798468011769145091:True:=trivial
theorem tw4928926477743770531:True:=trivial
theorem tw3321227133223163843:True:=trivial
theorem tw13064640464129938468:True:=trivial
theorem tw3257056471424016548:True:=trivial
theorem tw4740983727046649028:True:=trivial
theorem tw16638076616651402532:True:=trivial
theorem tw4043622100782457156:True:=trivial
theorem tw16812452562118357508:True:=trivial
theorem tw14214776485168071236:True:=trivial
theorem tw16673634073481678436:True:=trivial
theorem tw7853382517462962788:True:=trivial
theorem tw11067925996346627812:True:=trivial
theorem tw826509564177683268:True:=trivial
theorem tw17875458294471967556:True:=trivial
theorem tw16413148521510618948:True:=trivial
theorem tw6658219341170878308:True:=trivial
theorem tw2106202143967458180:True:=trivial
theorem tw9162036889702923140:True:=trivial
theorem tw12268493533353052068:True:=trivial
theorem tw16684150727387122596:True:=trivial
theorem tw12016845247919111076:True:=trivial
theorem tw4248924846885346244:True:=trivial
theorem tw9367428109931481189:True:=trivial
theorem tw880496390414225509:True:=trivial
theorem tw14402433083959012517:True:=trivial
theorem tw9877383302128806501:True:=trivial
theorem tw17003725848950481669:True:=trivial
theorem tw9798459078375599973:True:=trivial
theorem tw11774604610223141733:True:=trivial
theorem tw13393597332349586373:True:=trivial
theorem tw4562527472111430629:True:=trivial
theorem tw9067870068078479366:True:=trivial
theorem tw523396806766792838:True:=trivial
theorem tw18344493714545980550:True:=trivial
theorem tw332940093992171654:True:=trivial
theorem tw3269893570067082470:True:=trivial
theorem tw12379742945159214406:True:=trivial
theorem tw8054210753248433542:True:=trivial
theorem tw12849234000695275910:True:=trivial
theorem tw15048596835785987462:True:=trivial
theorem tw16730530351422866918:True:=trivial
theorem tw10284088782828524006:True:=trivial
theorem tw6898585672710445574:True:=trivial
theorem tw10829938931331884550:True:=trivial
theorem tw10938073565701635942:True:=trivial
theorem tw14228354447429673862:True:=trivial
theorem tw16400024606124585926:True:=trivial
theorem tw4449511911064591334:True:=trivial
theorem tw10352640598186583047:True:=trivial
theorem tw5711236238020666375:True:=trivial
theorem tw11453603819135348775:True:=trivial
theorem tw15961732718814610471:True:=trivial
theorem tw13779286809049398343:True:=trivial
theorem tw9674586424301283495:True:=trivial
theorem tw8186616995439545863:True:=trivial
theorem tw2219440747481261671:True:=trivial
theorem tw2265575947483878119:True:=trivial
theorem tw9777518981282859783:True:=trivial
theorem tw4561369231349168935:True:=trivial
theorem tw2540665488097649479:True:=trivial
theorem tw12657575356319943591:True:=trivial
theorem tw10936926986052308935:True:=trivial
theorem tw6431603311639981128:True:=trivial
theorem tw12702055723401629800:True:=trivial
theorem tw7879043517765802120:True:=trivial
theorem tw6698944111946277064:True:=trivial
theorem tw3748532490143755464:True:=trivial
theorem tw16416424021837865192:True:=trivial
theorem tw17672125075965737256:True:=trivial
theorem tw10025020325745117512:True:=trivial
theorem tw10538675539016601960:True:=trivial
theorem tw12623196818894664072:True:=trivial
theorem tw9471774842076534248:True:=trivial
theorem tw5400632365783137832:True:=trivial
theorem tw6923805370070727208:True:=trivial
theorem tw4437965008899859112:True:=trivial
theorem tw2688646016573838056:True:=trivial
theorem tw10826888238661378824:True:=trivial
theorem tw17826998577686612808:True:=trivial
theorem tw14888785744265697192:True:=trivial
theorem tw9913049071395657672:True:=trivial
theorem tw3799613700060492776:True:=trivial
theorem tw11482243142956262409:True:=trivial
theorem tw6799997492180501513:True:=trivial
theorem tw2020750013325556809:True:=trivial
theorem tw10161463342859694185:True:=trivial
theorem tw5976620066711478473:True:=trivial
theorem tw2525906945212900585:True:=trivial
theorem tw17469148642123375849:True:=trivial
theorem tw7584900333451180265:True:=trivial
theorem tw2972625571064290601:True:=trivial
theorem tw229751735040487721:True:=trivial
theorem tw12183927477305457961:True:=trivial
theorem tw17689757006303174985:True:=trivial
theorem tw15520627667762523465:True:=trivial
theorem tw15966889461337503049:True:=trivial
theorem tw17401068444295216489:True:=trivial
theorem tw13922638584718280041:True:=trivial
theorem tw13664629331595348329:True:=trivial
theorem tw4711547602852985225:True:=trivial
theorem tw10047212249645020553:True:=trivial
theorem tw885528266494407081:True:=trivial
theorem tw10183059035703871977:True:=trivial
theorem tw7297170188716836457:True:=trivial
theorem tw8892447570217709161:True:=trivial
theorem tw11505557371020898025:True:=trivial
theorem tw8233187287509835529:True:=trivial
theorem tw9054796632634238729:True:=trivial
theorem tw7800204826186991433:True:=trivial
theorem tw18044276941939107721:True:=trivial
theorem tw1471729469126353930:True:=trivial
theorem tw12842210618041543690:True:=trivial
theorem tw11495811716690971690:True:=trivial
theorem tw7660337133326080138:True:=trivial
theorem tw4775626738839809194:True:=trivial
theorem tw17317257222612174026:True:=trivial
theorem tw16367447397175905546:True:=trivial
theorem tw8200234323947793770:True:=trivial
theorem tw12979864073369955722:True:=trivial
theorem tw3177490422121913802:True:=trivial
theorem tw9833912089778121194:True:=trivial
theorem tw14204715359629419082:True:=trivial
theorem tw2267226322677292714:True:=trivial
theorem tw2019564252656965354:True:=trivial
theorem tw16713202712212323082:True:=trivial
theorem tw7693854865423447850:True:=trivial
theorem tw1087837365952762666:True:=trivial
theorem tw1141255921020283754:True:=trivial
theorem tw9671009728872330090:True:=trivial
theorem tw16431043140517354378:True:=trivial
theorem tw16074399442220985322:True:=trivial
theorem tw11282769197218862091:True:=trivial
theorem tw11356509640384576555:True:=trivial
theorem tw15986805858103028811:True:=trivial
theorem tw15950720366129084523:True:=trivial
theorem tw7820121724101792939:True:=trivial
theorem tw2962759510509283499:True:=trivial
theorem tw11573124384046703819:True:=trivial
theorem tw10826557209803519179:True:=trivial
theorem tw2240973624669700331:True:=trivial
theorem tw8423747046124326123:True:=trivial
theorem tw7190903031147155787:True:=trivial
theorem tw11159260772194011531:True:=trivial
theorem tw17830033342483451307:True:=trivial
theorem tw10002040189675899499:True:=trivial
theorem tw54974995517943531:True:=trivial
theorem tw12047184170299928363:True:=trivial
theorem tw15450874442183892811:True:=trivial
theorem tw3054219188865517515:True:=trivial
theorem tw2261596939851412556:True:=trivial
theorem tw4881842108056215692:True:=trivial
theorem tw15725388427927325004:True:=trivial
theorem tw17018851955506388332:True:=trivial
theorem tw15203229423545153932:True:=trivial
theorem tw2282900894548780524:True:=trivial
theorem tw18319912829396234892:True:=trivial
theorem tw5038895198119887532:True:=trivial
theorem tw3773652006194042604:True:=trivial
theorem tw2860386342744919788:True:=trivial
theorem tw9260420114000641804:True:=trivial
theorem tw16223960754763584332:True:=trivial
theorem tw10396260501018101580:True:=trivial
theorem tw7003824806103959436:True:=trivial
theorem tw3021638440627885996:True:=trivial
theorem tw13573169109301417005:True:=trivial
theorem tw1760323762238490765:True:=trivial
theorem tw5677055742212253837:True:=trivial
theorem tw12887551857320498349:True:=trivial
theorem tw15370684291395125581:True:=trivial
theorem tw6786093971234569677:True:=trivial
theorem tw5268861929602835917:True:=trivial
theorem tw9456051079895636525:True:=trivial
theorem tw6979100520586070733:True:=trivial
theorem tw14322773690036571885:True:=trivial
theorem tw12841006096283833101:True:=trivial
theorem tw4901102951157809933:True:=trivial
theorem tw17142353284410792014:True:=trivial
theorem tw7803379804951372878:True:=trivial
theorem tw7652127101333595246:True:=trivial
theorem tw13280855285412621454:True:=trivial
theorem tw9440988388547415438:True:=trivial
theorem tw8023220751268598158:True:=trivial
theorem tw5988926097814153678:True:=trivial
theorem tw11331345826448205390:True:=trivial
theorem tw8609825420532094638:True:=trivial
theorem tw1857520839149397710:True:=trivial
theorem tw12425700318424728302:True:=trivial
theorem tw4232949508971664142:True:=trivial
theorem tw12999689452396461870:True:=trivial
theorem tw13740258002835059534:True:=trivial
theorem tw10112037537731980142:True:=trivial
theorem tw5305970376539462510:True:=trivial
theorem tw16176496568918941614:True:=trivial
theorem tw5472929328291891118:True:=trivial
theorem tw7230635946706482191:True:=trivial
theorem tw2277175935868230735:True:=trivial
theorem tw5670984827145984143:True:=trivial
theorem tw3274206060666963087:True:=trivial
theorem tw14491738508410540175:True:=trivial
theorem tw13229573549540361423:True:=trivial
theorem tw3440921232160912591:True:=trivial
theorem tw1624099865343722735:True:=trivial
theorem tw9219950347232014575:True:=trivial
theorem tw77298214576475407:True:=trivial
theorem tw1858668548790440271:True:=trivial
theorem tw3481534424762891663:True:=trivial
theorem tw6570460728485380495:True:=trivial
theorem tw12557496153620300207:True:=trivial
theorem tw18359095443091694031:True:=trivial
theorem tw3333759067543181839:True:=trivial
theorem tw1467296315213252175:True:=trivial
theorem tw6259063867909482095:True:=trivial
theorem tw6797766601256304239:True:=trivial
theorem tw16381665185976332943:True:=trivial
theorem tw4019949953519308495:True:=trivial
theorem tw3449184074836150031:True:=trivial
theorem tw4779813938949299023:True:=trivial
theorem tw3707069421379665775:True:=trivial
theorem tw5290507916558444527:True:=trivial
theorem tw1237219186760769584:True:=trivial
theorem tw7938928603692296240:True:=trivial
theorem tw15729827575819116624:True:=trivial
theorem tw5168342141892973648:True:=trivial
theorem tw12627509722284527792:True:=trivial
theorem tw11716846685813881008:True:=trivial
theorem tw15283412392166181104:True:=trivial
theorem tw16081249062542507280:True:=trivial
theorem tw12100209896626451792:True:=trivial
theorem tw16498407534875937136:True:=trivial
theorem tw3693698859477031344:True:=trivial
theorem tw10407185734832056784:True:=trivial
theorem tw315340816534159888:True:=trivial
theorem tw6101075267573597744:True:=trivial
theorem tw8895752901325886160:True:=trivial
theorem tw18413266157606224624:True:=trivial
theorem tw3403656272451965776:True:=trivial
theorem tw13017871998089139088:True:=trivial
theorem tw2827352671475616656:True:=trivial
theorem tw10988208800434675793:True:=trivial
theorem tw581460853098487953:True:=trivial
theorem tw2725382286625727633:True:=trivial
theorem tw5703269098763765041:True:=trivial
theorem tw17562597261908383089:True:=trivial
theorem tw1563535767232950673:True:=trivial
theorem tw1687276265381789105:True:=trivial
theorem tw15732355301995222481:True:=trivial
theorem tw17127483224441517649:True:=trivial
theorem tw11641618211801314929:True:=trivial
theorem tw17519036180409209489:True:=trivial
theorem tw10598288930689999537:True:=trivial
theorem tw786983959398154993:True:=trivial
theorem tw2459809962682705649:True:=trivial
theorem tw4106740980754757393:True:=trivial
theorem tw14959412560953090929:True:=trivial
theorem tw2620228413836955601:True:=trivial
theorem tw14028783583064596433:True:=trivial
theorem tw109778373764495345:True:=trivial
theorem tw2948125598178015282:True:=trivial
theorem tw12812104434255284306:True:=trivial
theorem tw4844820747356448978:True:=trivial
theorem tw5996156497230122578:True:=trivial
theorem tw4523353765316400786:True:=trivial
theorem tw13816044621259602674:True:=trivial
theorem tw2477727058821086962:True:=trivial
theorem tw11215172034222357266:True:=trivial
theorem tw528313192004071282:True:=trivial
theorem tw8836337916782103410:True:=trivial
theorem tw14041836931504390034:True:=trivial
theorem tw9113641192472342418:True:=trivial
theorem tw8068440840131700658:True:=trivial
theorem tw7708875826898599091:True:=trivial
theorem tw3916393684836562259:True:=trivial
theorem tw448193938583567731:True:=trivial
theorem tw10039125737904634227:True:=trivial
theorem tw9201639445948526995:True:=trivial
theorem tw4136356699953119859:True:=trivial
theorem tw8288647818667573907:True:=trivial
theorem tw8465131610234024659:True:=trivial
theorem tw6324098632725177107:True:=trivial
theorem tw8401619517286401875:True:=trivial
theorem tw1015047306052756403:True:=trivial
theorem tw4513891219989703635:True:=trivial
theorem tw5127340159946661875:True:=trivial
theorem tw3870590027797180436:True:=trivial
theorem tw2312132547254219828:True:=trivial
theorem tw18272167259039725652:True:=trivial
theorem tw4891353689738515572:True:=trivial
theorem tw6698904539338553492:True:=trivial
theorem tw7760137767883791636:True:=trivial
theorem tw14578887230241090900:True:=trivial
theorem tw1525408524157992308:True:=trivial
theorem tw6909938822641421748:True:=trivial
theorem tw8617110380462438836:True:=trivial
theorem tw2266493650742189524:True:=trivial
theorem tw3536303948282576372:True:=trivial
theorem tw12221697555825576500:True:=trivial
theorem tw12527661789780599380:True:=trivial
theorem tw18392906525602132596:True:=trivial
theorem tw3064928273718593332:True:=trivial
theorem tw1330712776451447636:True:=trivial
theorem tw11607661482475972436:True:=trivial
theorem tw8524121658044671892:True:=trivial
theorem tw7769696428268565428:True:=trivial
theorem tw6865384774964634548:True:=trivial
theorem tw15379881310114299860:True:=trivial
theorem tw2458513166874203092:True:=trivial
theorem tw8948607419867740181:True:=trivial
theorem tw15491423397945491477:True:=trivial
theorem tw6802901588980075605:True:=trivial
theorem tw3402021069513505909:True:=trivial
theorem tw8890615189992835221:True:=trivial
theorem tw17691312023877813:True:=trivial
theorem tw2376006238674748597:True:=trivial
theorem tw7444211257369120981:True:=trivial
theorem tw1223785425613316309:True:=trivial
theorem tw9357742400670104789:True:=trivial
theorem tw3168841605522873589:True:=trivial
theorem tw8972032572439101781:True:=trivial
theorem tw16368449196106981717:True:=trivial
theorem tw12383538358990111093:True:=trivial
theorem tw10911932659797894741:True:=trivial
theorem tw4443239693362507413:True:=trivial
theorem tw1170747172264114869:True:=trivial
theorem tw5531716250437572341:True:=trivial
theorem tw5361310159810320149:True:=trivial
theorem tw14352625397572991797:True:=trivial
theorem tw9579838932127473493:True:=trivial
theorem tw323458749411551061:True:=trivial
theorem tw12128565772105085781:True:=trivial
theorem tw230170378381133685:True:=trivial
theorem tw14813123522401418262:True:=trivial
theorem tw13407999564645018710:True:=trivial
theorem tw16463155218494034070:True:=trivial
theorem tw13321397505609432214:True:=trivial
theorem tw18120520586783915190:True:=trivial
theorem tw7909477221757176150:True:=trivial
theorem tw12975569872328800630:True:=trivial
theorem tw11080467287726233110:True:=trivial
theorem tw7635993794587720246:True:=trivial
theorem tw4014281704692139606:True:=trivial
theorem tw4657445183271529046:True:=trivial
theorem tw14334830359080579734:True:=trivial
theorem tw9912431000765228694:True:=trivial
theorem tw13476364523895635734:True:=trivial
theorem tw6376139228901459766:True:=trivial
theorem tw2835198871710685014:True:=trivial
theorem tw2916047842690350998:True:=trivial
theorem tw7288364311970926486:True:=trivial
theorem tw16375486174326503447:True:=trivial
theorem tw17455788643098735671:True:=trivial
theorem tw2871728921419839575:True:=trivial
theorem tw5543113172262767959:True:=trivial
theorem tw8427037567167191415:True:=trivial
theorem tw7835691851272928663:True:=trivial
theorem tw7868502361721041335:True:=trivial
theorem tw2692762730470855159:True:=trivial
theorem tw13275984088485676599:True:=trivial
theorem tw15955417260402333239:True:=trivial
theorem tw13125778522479187543:True:=trivial
theorem tw2777532503176574679:True:=trivial
theorem tw1536785386486343543:True:=trivial
theorem tw14775643049865007991:True:=trivial
theorem tw3723198437256978359:True:=trivial
theorem tw14134992804252628951:True:=trivial
theorem tw16624548096741527800:True:=trivial
theorem tw3068792514158934296:True:=trivial
theorem tw4866739493059309848:True:=trivial
theorem tw15904377989854994840:True:=trivial
theorem tw3801158398571543960:True:=trivial
theorem tw7757046971499027960:True:=trivial
theorem tw10144712929621291544:True:=trivial
theorem tw7390695491388831288:True:=trivial
theorem tw7793354595293692568:True:=trivial
theorem tw5883267658521179800:True:=trivial
theorem tw2478938824391431960:True:=trivial
theorem tw12728508928551969592:True:=trivial
theorem tw6054830335735768952:True:=trivial
theorem tw5896458533669035928:True:=trivial
theorem tw4449047369955661720:True:=trivial
theorem tw9788535202960187320:True:=trivial
theorem tw802964986475740088:True:=trivial
theorem tw837846086681356248:True:=trivial
theorem tw16282189144247901273:True:=trivial
theorem tw2120736355080632409:True:=trivial
theorem tw18387012913245583449:True:=trivial
theorem tw3002678674278625401:True:=trivial
theorem tw8564158445951733945:True:=trivial
theorem tw8207299946019165465:True:=trivial
theorem tw6724669028803258713:True:=trivial
theorem tw11311570677143615833:True:=trivial
theorem tw6090110952637437305:True:=trivial
theorem tw3306813761603008953:True:=trivial
theorem tw7636173542418896409:True:=trivial
theorem tw13663995465540040249:True:=trivial
theorem tw13825470854596483673:True:=trivial
theorem tw10090823841828601465:True:=trivial
theorem tw17335187637803884409:True:=trivial
theorem tw15057188404688342905:True:=trivial
theorem tw8812681173385317434:True:=trivial
theorem tw3164672745288787130:True:=trivial
theorem tw8049889241468855514:True:=trivial
theorem tw14435939493438467354:True:=trivial
theorem tw1246766335163968794:True:=trivial
theorem tw18172229762118877626:True:=trivial
theorem tw3403458030669080122:True:=trivial
theorem tw3636629887640876602:True:=trivial
theorem tw2530911038060377690:True:=trivial
theorem tw15525778054759117402:True:=trivial
theorem tw16563954839807815290:True:=trivial
theorem tw10779342064182057754:True:=trivial
theorem tw13836943875843379002:True:=trivial
theorem tw15984591754938223450:True:=trivial
theorem tw8647545363798759258:True:=trivial
theorem tw9786902338600185690:True:=trivial
theorem tw7884916901477575610:True:=trivial
theorem tw17529553210975665179:True:=trivial
theorem tw17168697552248861883:True:=trivial
theorem tw17542998417987470555:True:=trivial
theorem tw11282836444283354651:True:=trivial
theorem tw13933452692453075515:True:=trivial
theorem tw15250208984169958971:True:=trivial
theorem tw16622390903349108283:True:=trivial
theorem tw5237629672927817339:True:=trivial
theorem tw15263238807544955547:True:=trivial
theorem tw18661763220866715:True:=trivial
theorem tw8013525891583167195:True:=trivial
theorem tw12225518589710323515:True:=trivial
theorem tw2258008170047449019:True:=trivial
theorem tw14752077130143032380:True:=trivial
theorem tw9840973050884286524:True:=trivial
theorem tw194640524414894236:True:=trivial
theorem tw17033661563011986620:True:=trivial
theorem tw9188390727903488284:True:=trivial
theorem tw2459459379541401884:True:=trivial
theorem tw5086996437322265276:True:=trivial
theorem tw4852763839026576092:True:=trivial
theorem tw5840409109573072668:True:=trivial
theorem tw4655237137940977436:True:=trivial
theorem tw8403137186255163196:True:=trivial
theorem tw3968473346632442716:True:=trivial
theorem tw1441360495275900796:True:=trivial
theorem tw3719643850511791004:True:=trivial
theorem tw14220969123499599901:True:=trivial
theorem tw1581687258936991933:True:=trivial
theorem tw15199648169478964701:True:=trivial
theorem tw2055895531724275325:True:=trivial
theorem tw15085147915266866845:True:=trivial
theorem tw1587671732381395645:True:=trivial
theorem tw12723571977041194813:True:=trivial
theorem tw2971434014365024189:True:=trivial
theorem tw16056649466961546205:True:=trivial
theorem tw6844463948269070333:True:=trivial
theorem tw15400426780934904862:True:=trivial
theorem tw14434313408539491390:True:=trivial
theorem tw8628181167621440798:True:=trivial
theorem tw14335038198709135678:True:=trivial
theorem tw11707484771790243198:True:=trivial
theorem tw4309202309263663550:True:=trivial
theorem tw11791751598123967070:True:=trivial
theorem tw8343516332282992318:True:=trivial
theorem tw6583434197337817886:True:=trivial
theorem tw1026763732925678462:True:=trivial
theorem tw2448504298957780990:True:=trivial
theorem tw7691937152293189695:True:=trivial
theorem tw6908451436368009311:True:=trivial
theorem tw15046164783128084607:True:=trivial
theorem tw9323261087740555455:True:=trivial
theorem tw16879342337721830623:True:=trivial
theorem tw614163618351478015:True:=trivial
theorem tw16506427474128944415:True:=trivial
theorem tw11551758824086628767:True:=trivial
theorem tw15322949380802270655:True:=trivial
theorem tw8810587042484934079:True:=trivial
theorem tw11690137342029527583:True:=trivial
theorem tw2002814057164411487:True:=trivial
theorem tw2547350434154185343:True:=trivial
theorem tw12784230769014765247:True:=trivial
theorem tw7969517268731919039:True:=trivial
theorem tw12074274679756138303:True:=trivial
theorem tw2999391138293541791:True:=trivial
theorem tw11202685258079773663:True:=trivial
theorem tw14110247126733400031:True:=trivial
theorem tw8993678223547848971:True:=trivial
end PySem.W.Fast
open PySem PySem.W PyProof.Rows
set_option maxRecDepth 100000 in
set_option maxHeartbeats 0 in
theorem PySem.Challenge.cw_ribbonloft_k21_single_hooks_holds : PySem.Challenge.rw_ribbonloft_k21_single_hooks.Holds := by
 w_on;o_law;k_head;(case hw=>w_witness2)
 k_fill
 refine L2.vP (l:=PySem.Challenge.rw_ribbonloft_k21_single_hooks) (n:=63) (k:=30) (x := "_law_script") (CX:=L2.CX0) (sp:=RS.spL 30 K21.p 34) rfl (by decide) rfl ⟨rfl,by decide,by decide⟩ (fun w h Y=>PySem.W.kIn_of Y) ?F ?S ?C
 case F =>
  intro w mg fa h KX G hmg
  have T:K21.qB (L2.KOf KX) mg:=by
   dsimp only[L2.KOf]
   constructor
   iterate 35 (refine' K21.zt KX G ?a ?l ?c ?k;(case a=>k_is);(case l=>k_is);(case c=>k_is);(case k=>k_is))
   iterate 12 k_is
   exact⟨_,by k_is⟩
   refine' ⟨_,?n,RS.jZ ?c⟩;(case n=>k_is);(case c=>constructor;k_exc;(iterate 7 k_is);kit_is;(iterate 16 (refine' RS.kA ?n ?k ?s ?e;(case n=>k_is);(case k=>kit_is);(case s=>k_is);(case e=>decide +kernel))))
   refine' ⟨_,?n,RS.jZ ?c⟩;(case n=>k_is);(case c=>constructor;k_exc;(iterate 7 k_is);kit_is;(iterate 16 (refine' RS.kA ?n ?k ?s ?e;(case n=>k_is);(case k=>kit_is);(case s=>k_is);(case e=>decide +kernel))))
   refine' ⟨_,?n,RS.jZ ?c⟩;(case n=>k_is);(case c=>constructor;k_exc;(iterate 7 k_is);kit_is;(iterate 16 (refine' RS.kA ?n ?k ?s ?e;(case n=>k_is);(case k=>kit_is);(case s=>k_is);(case e=>decide +kernel))))
   refine' ⟨_,?n,RS.jZ ?c⟩;(case n=>k_is);(case c=>constructor;k_exc;(iterate 7 k_is);kit_is;(iterate 16 (refine' RS.kA ?n ?k ?s ?e;(case n=>k_is);(case k=>kit_is);(case s=>k_is);(case e=>decide +kernel))))
   exact⟨_,by k_is⟩
   exact⟨_,by k_is⟩
   exact⟨_,by k_is⟩
   exact⟨_,by k_is⟩
   exact⟨_,by k_is⟩
   exact⟨_,by k_is⟩
   exact⟨_,by k_is⟩
   exact⟨_,by k_is⟩
   exact⟨_,by k_is⟩
   exact⟨_,by k_is⟩
   exact⟨_,by k_is⟩
   exact⟨_,by k_is⟩
   exact⟨_,by k_is⟩
   exact⟨_,by k_is⟩
   exact⟨_,by k_is⟩
  have tp:=K21.Ax KX G T
  obtain⟨fa',fd,h1,h2,h3,h4⟩:=tp.defs 34 _ rfl
  have e0:=hmg.symm.trans h1
  cases e0
  refine⟨fd,fun s u=>?_,fun base kb nb=>RS.Ar K21.DZ tp 30 34 _ _ rfl rfl _ _ h2⟩
  obtain⟨oc,od,kV,doc,pm,an,cdv,ct,osl,e9,_,_⟩:=h2.ex
  subst e9
  exact .of_eq rfl
 case S=>exact fun K H a ns hl hO hS=>RS.AY hO hS (K21.main ns hl)
 case C=>exact fun _ _ _ _ h=>h
