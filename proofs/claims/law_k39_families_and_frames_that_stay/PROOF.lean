import PyProof.Rows.All
import Wide.All
import OpenK.AllK
import Wide.FinOn
import PyProof.EqAt
import PyProof.EqKinds
import PyProof.TupleCall
import PySem.Str
import PyProof.NeKinds
import PyProof.CompMap
import PyProof.CompFree
import PyProof.EnumMake
import PyProof.Draws
import PyProof.ListRange
import PyProof.ConsumeWalk
import PyProof.Rows.SetFrom
import PyProof.SetRoads
import PyProof.ZipIter
import PyProof.Rows.SumAny
import PyProof.Rows.SortWalk
import PyProof.Rows.SeqMore2
import PySem.Challenge.RW_ribbonloft_k39_families_and_frames_that
set_option Elab.async false
set_option linter.all false
set_option maxRecDepth 100000
set_option maxHeartbeats 4000000
set_option genSizeOf false
set_option genSizeOfSpec false
namespace RL
open PySem (Str)
abbrev Ky:=Sum Int Str
inductive D where
 | non
 | bl (b:Bool)
 | int (i:Int)
 | str (x:Str)
 | tup (xs:List D)
 | lst (xs:List D)
 | dK (ks:List Ky) (vs:List D)
 | dT (ks:List (List Ky)) (vs:List D)
 | scr (xs:List D)
 deriving Inhabited
mutual
noncomputable def D.imm:D->Bool
 | .tup xs=>au xs
 | .lst _=>false
 | .dK _ _=>false
 | .dT _ _=>false
 | .scr xs=>au xs
 | _=>true
noncomputable def au:List D->Bool
 | []=>true
 | d::r=>d.imm&&au r
end
inductive Bop where | add | sub | mul | fdiv | mod | pow
 deriving DecidableEq
inductive Cop where | lt | le | gt | ge | eq | ne
 deriving DecidableEq
inductive Bi where | len | list | tuple | int | all | any | lenSet | sorted | sortedSet | abs | sum
 deriving DecidableEq
inductive Ty where | int | bool | list | tuple | str
 deriving DecidableEq
mutual
inductive E where
 | var (i:Nat)
 | cst (d:D)
 | glb (x:Str) (i:Int)
 | bin (o:Bop) (a b:E)
 | cmp (c:Cop) (a b:E)
 | chain (c c':Cop) (a b e:E)
 | isB (neg:Bool) (a:E) (b:Bool)
 | isN (neg:Bool) (a:E)
 | inn (neg:Bool) (a b:E)
 | inD (neg:Bool) (a b:E)
 | and (a b:E)
 | or (a b:E)
 | not (a:E)
 | ifx (t a b:E)
 | tup (es:Es)
 | lst (es:Es)
 | ix (a b:E)
 | ixD (a b:E)
 | slT (a b:E)
 | slF (a b:E)
 | rev (a:E)
 | call (f:Nat) (es:Es)
 | bi (b:Bi) (a:E)
 | max (a b:E)
 | min (a b:E)
 | dvm (a b:E)
 | isi (a:E) (t:Ty)
 | rng1 (a:E)
 | rng2 (a b:E)
 | rng3 (c:Int) (a b:E)
 | neg (a:E)
 | comp (e:E) (tg:List Nat) (it:It) (c:E)
 | compA (e:E) (tg:List Nat) (it:It)
 | compL (e:E) (tg:List Nat) (it:It)
 | index (a b:E)
 | chain3 (c c' c'':Cop) (a b e g:E)
 | slB (a b c:E)
 | join (a:E)
 | dk0
 | dt0
inductive Es where
 | nil
 | cons (e:E) (es:Es)
inductive It where
 | seq (e:E)
 | rng1 (a:E)
 | rng2 (a b:E)
 | rng3 (c:Int) (a b:E)
 | chr (e:E)
 | enm (e:E)
 | zip (a b:E)
 | nope
end
mutual
inductive S where
 | asg (i:Nat) (e:E)
 | own (i:Nat) (e:E)
 | unp (is:List Nat) (e:E)
 | par (i j:Nat) (a b:E)
 | parO (i j:Nat) (a b:E)
 | app (i:Nat) (e:E)
 | put (i:Nat) (k e:E)
 | put2 (i:Nat) (k l a b:E)
 | pop (i j:Nat)
 | clr (i:Nat)
 | aug (i:Nat) (o:Bop) (e:E)
 | ife (t:E) (a b:Ss)
 | ifp (i:Nat) (e:E) (a b:Ss)
 | forr (tg:List Nat) (it:It) (b:Ss)
 | whil (t:E) (b:Ss)
 | mexc (f:Nat) (es:Es) (ps ms:List Nat)
 | maug (i f:Nat) (es:Es) (ps ms:List Nat)
 | ret (e:E)
 | exc (e:E)
 | never
inductive Ss where
 | nil
 | cons (s:S) (r:Ss)
end
abbrev St:=List (Option D)
abbrev Cl:=Nat->List D->Option D
noncomputable def most:Nat:=100000
noncomputable def cj{α:Type}(xs:List α)(i:Int):Option α :=
 if 0<=i then xs[i.toNat]? else if -(xs.length:Int)<=i then xs[(i+xs.length).toNat]? else none
noncomputable def oh(n:Nat)(i:Int):Option Nat :=
 if 0<=i then(if i<n then some i.toNat else none)else if -(n:Int)<=i then some (i+n).toNat else none
noncomputable def cutAt(n:Nat)(i:Int):Nat:=if 0<=i then min i.toNat n else(i+n).toNat
noncomputable def a8:Bop->D->D->Option D
 | .add,.int a,.int b=>some (.int (a+b))
 | .add,.str a,.str b=>if a.length+b.length<=most then some (.str (a++b))else none
 | .add,.lst a,.lst b=>if a.length+b.length<=most then some (.lst (a++b))else none
 | .add,.tup a,.tup b=>if a.length+b.length<=most/\0<a.length then some (.tup (a++b))else none
 | .sub,.int a,.int b=>some (.int (a-b))
 | .mul,.int a,.int b=>if(-(2 ^ 64)<a/\a<2 ^ 64)\/(-(2 ^ 64)<b/\b<2 ^ 64)then some (.int (a*b))else none
 | .mul,.lst a,.int b=>if 0<=b/\b<=most/\a.length*b.toNat<=most then some (.lst (List.replicate b.toNat a).flatten)else none
 | .fdiv,.int a,.int b=>if 0<b/\b<2 ^ 200 then some (.int (a / b))else none
 | .mod,.int a,.int b=>if 0<b then some (.int (a%b))else none
 | .pow,.int a,.int b=>if 0<=b/\b<=1000/\a.natAbs<2 ^ 64 then some (.int (a ^ b.toNat))else none
 | _,_,_=>none
noncomputable def eqs(f:D->D->Option Bool):List D->List D->Option Bool
 | a::r,b::s=>(f a b).bind fun e=>(eqs f r s).map fun k=>e&&k
 | _,_=>some true
noncomputable def eqD:Nat->D->D->Option Bool
 | _,.int a,.int b=>some (a == b)
 | _,.str a,.str b=>some (a == b)
 | _,.bl a,.bl b=>some (a == b)
 | n+1,.tup a,.tup b=>(eqs (eqD n) a b).map fun k=>k&&a.length == b.length
 | n+1,.lst a,.lst b=>(eqs (eqD n) a b).map fun k=>k&&a.length == b.length
 | _,_,_=>none
noncomputable def bc:Cop->D->D->Option Bool
 | .lt,.int a,.int b=>some (decide (a<b))
 | .le,.int a,.int b=>some (decide (a<=b))
 | .gt,.int a,.int b=>some (decide (b<a))
 | .ge,.int a,.int b=>some (decide (b<=a))
 | .eq,a,b=>eqD 8 a b
 | .ne,a,b=>(eqD 8 a b).map not
 | _,_,_=>none
noncomputable def truth:D->Option Bool
 | .bl b=>some b
 | .lst xs=>some (!xs.isEmpty)
 | .tup xs=>some (!xs.isEmpty)
 | .int i=>some (i != 0)
 | _=>none
noncomputable def eG:List D->Option (List Int)
 | []=>some []
 | .int i::r=>(eG r).map (i :: ·)
 | _=>none
noncomputable def eu:List D->Option (List Bool)
 | []=>some []
 | .bl i::r=>(eu r).map (i :: ·)
 | _=>none
noncomputable def strs?:List D->Option (List Str)
 | []=>some []
 | .str i::r=>(strs? r).map (i :: ·)
 | _=>none
noncomputable def tw(a:Int):List Int->List Int
 | []=>[a]
 | b::r=>if a<=b then a::b::r else b::tw a r
noncomputable def sortI:List Int->List Int
 | []=>[]
 | a::r=>tw a (sortI r)
noncomputable def iI(xs:List Int):List Int:=xs.foldl (fun m k=>if m.any (· == k)then m else m++[k]) []
noncomputable def items:D->Option (List D)
 | .lst xs=>some xs
 | .tup xs=>some xs
 | _=>none
noncomputable def eB:D->Option (List D)
 | .lst xs=>some xs
 | .tup xs=>some xs
 | .str x=>some (x.cps.toList.map fun c=>.str ⟨#[c]⟩)
 | _=>none
noncomputable def biV:Bi->D->Option D
 | .len,.str x=>if x.length<=most then some (.int x.length)else none
 | .len,.dK ks _=>some (.int ks.length)
 | .len,d=>(items d).map fun xs=>.int xs.length
 | .list,d=>(items d).map .lst
 | .tuple,d=>(items d).map .tup
 | .int,.bl b=>some (.int (if b then 1 else 0))
 | .int,.int i=>some (.int i)
 | .int,_=>none
 | .all,.lst xs=>(eu xs).map fun bs=>.bl (bs.all id)
 | .any,.lst xs=>(eu xs).map fun bs=>.bl (bs.any id)
 | .all,_=>none
 | .any,_=>none
 | .lenSet,.lst xs=>if xs.length<=1000 then(eG xs).map fun is=>.int (iI is).length else none
 | .lenSet,_=>none
 | .sorted,.lst xs=>if xs.length<64 then(eG xs).map fun is=>.lst ((sortI is).map .int)else none
 | .sorted,_=>none
 | .sortedSet,.lst xs=>(eG xs).map fun is=>.lst ((sortI (iI is)).map .int)
 | .sortedSet,_=>none
 | .abs,.int i=>some (.int (if i<0 then -i else i))
 | .abs,_=>none
 | .sum,.lst xs=>(eG xs).map fun is=>.int is.sum
 | .sum,_=>none
noncomputable def cV:Ty->D->Option Bool
 | .int,.int _=>some true
 | .int,.bl _=>some true
 | .bool,.bl _=>some true
 | .list,.lst _=>some true
 | .tuple,.tup _=>some true
 | .str,.str _=>some true
 | _,.non=>some false
 | _,.bl _=>some false
 | _,.int _=>some false
 | _,.str _=>some false
 | _,.tup _=>some false
 | _,.lst _=>some false
 | _,_=>none
noncomputable def keyOf:D->Option Ky
 | .int i=>some (.inl i)
 | .str x=>some (.inr x)
 | _=>none
noncomputable def keysOf:List D->Option (List Ky)
 | []=>some []
 | d::r=>(keyOf d).bind fun k=>(keysOf r).map (k :: ·)
noncomputable def aK{κ:Type} [DecidableEq κ]:List κ->List D->κ->Option D
 | k::ks,v::vs,x=>if k=x then some v else aK ks vs x
 | _,_,_=>none
noncomputable def putD{κ:Type} [DecidableEq κ](ks:List κ)(vs:List D)(x:κ)(d:D):List κ × List D :=
 if x∈ks then(ks,List.zipWith (fun k v=>if k=x then d else v) ks vs)else(ks++[x],vs++[d])
noncomputable def ixV:D->D->Option D
 | .lst xs,.int i=>cj xs i
 | .tup xs,.int i=>cj xs i
 | .str x,.int i=>if x.length<=most then(cj x.cps.toList i).map fun c=>.str ⟨#[c]⟩else none
 | _,_=>none
noncomputable def nt:D->D->Option D
 | .dK ks vs,k=>(keyOf k).bind (aK ks vs)
 | .dT ks vs,.tup k=>(keysOf k).bind (aK ks vs)
 | _,_=>none
noncomputable def x3:D->D->Option Bool
 | .dK ks vs,k=>(keyOf k).map fun k=>(aK ks vs k).isSome
 | .dT ks vs,.tup k=>(keysOf k).map fun k=>(aK ks vs k).isSome
 | _,_=>none
noncomputable def flat:D->Bool
 | .int _=>true
 | .str _=>true
 | _=>false
noncomputable def eqF:D->D->Bool
 | .int a,.int b=>a == b
 | .str a,.str b=>a == b
 | _,_=>false
noncomputable def inV(a b:D):Option Bool :=
 (items b).bind fun xs=>if flat a&&xs.all flat then some (xs.any fun x=>eqF x a)else none
noncomputable def nG:D->D->Option D
 | .scr xs,.int k=>some (.lst (xs.take (cutAt xs.length k)))
 | .lst xs,.int k=>some (.lst (xs.take (cutAt xs.length k)))
 | .tup xs,.int k=>if cutAt xs.length k<xs.length then some (.tup (xs.take (cutAt xs.length k)))else none
 | _,_=>none
noncomputable def Gf:D->D->Option D
 | .lst xs,.int k=>some (.lst (xs.drop (cutAt xs.length k)))
 | .tup xs,.int k=>if 0<cutAt xs.length k then some (.tup (xs.drop (cutAt xs.length k)))else none
 | _,_=>none
noncomputable def Gu:D->D->D->Option D
 | .lst xs,.int i,.int k=>some (.lst ((xs.take (cutAt xs.length k)).drop (cutAt xs.length i)))
 | .tup xs,.int i,.int k=>if 0<cutAt xs.length i\/cutAt xs.length k<xs.length then some (.tup ((xs.take (cutAt xs.length k)).drop (cutAt xs.length i)))else none
 | _,_,_=>none
noncomputable def cB(lo:Int):Nat->List D
 | 0=>[]
 | n+1=>.int lo::cB (lo+1) n
noncomputable def bK(c lo:Int):Nat->List D
 | 0=>[]
 | n+1=>.int lo::bK c (lo+c) n
noncomputable def b8(c a b:Int):Nat:=(if c > 0 then(if a<b then(b-a-1) / c+1 else 0)else(if a > b then(a-b-1) / (-c)+1 else 0)).toNat
noncomputable def dt:D->D->Option (List D)
 | .int a,.int b=>if(b-a).toNat<=most/\-(2 ^ 60)<=a/\a<2 ^ 60/\-(2 ^ 60)<=b/\b<2 ^ 60 then some (cB a (b-a).toNat)else none
 | _,_=>none
noncomputable def eC(c:Int):D->D->Option (List D)
 | .int a,.int b=>if c≠0/\-(2 ^ 60)<c/\c<2 ^ 60/\b8 c a b<=most/\-(2 ^ 60)<=a/\a<2 ^ 60/\-(2 ^ 60)<=b/\b<2 ^ 60 then some (bK c a (b8 c a b))else none
 | _,_=>none
noncomputable def cG(i:Int):List D->List D
 | []=>[]
 | d::r=>.tup [.int i,d]::cG (i+1) r
noncomputable def hZ:List D->List D->List D
 | a::r,b::s=>.tup [a,b]::hZ r s
 | _,_=>[]
noncomputable def bH:List Nat->List D->St->Option St
 | [],[],σ=>some σ
 | i::is,d::ds,σ=>bH is ds (σ.set i (some d))
 | _,_,_=>none
noncomputable def aM(tg:List Nat)(d:D)(σ:St):Option St :=
 match tg with
 | [i]=>some (σ.set i (some d))
 | tg=>match d with
  | .tup ds=>bH tg ds σ
  | .lst ds=>bH tg ds σ
  | _=>none
noncomputable def jY(y:Option D)(ys:List D):Option (List D) :=
 match y with
 | some e=>if e.imm then some (e::ys)else none
 | none=>some ys
noncomputable def bX(f:St->Option (Option D))(tg:List Nat)(σ:St):List D->Option (List D)
 | []=>some []
 | d::r=>(aM tg d σ).bind fun σ1=>(f σ1).bind fun y=>(bX f tg σ r).bind (jY y)
noncomputable def aJ:D->Bool
 | .lst xs=>au xs
 | .dK _ vs=>au vs
 | .dT _ vs=>au vs
 | _=>false
noncomputable def Dh(f:St->Option D)(fr:Bool)(tg:List Nat)(σ:St):List D->Option (List D)
 | []=>some []
 | d::r=>(aM tg d σ).bind fun σ1=>(f σ1).bind fun y=>if aJ y&&fr then(Dh f fr tg σ r).map (y :: ·)else none
noncomputable def fits(xs:List D):Option (List D):=if xs.length<=most then some xs else none
noncomputable def aF:E->Bool
 | .lst _=>true
 | .tup _=>true
 | .comp _ _ _ _=>true
 | .compA _ _ _=>true
 | .compL _ _ _=>true
 | .bin _ _ _=>true
 | .slT _ _=>true
 | .slF _ _=>true
 | .slB _ _ _=>true
 | .rev _=>true
 | .call _ _=>true
 | .bi _ _=>true
 | .rng1 _=>true
 | .rng2 _ _=>true
 | .rng3 _ _ _=>true
 | .dk0=>true
 | .dt0=>true
 | _=>false
mutual
noncomputable def ev(cl:Cl)(σ:St):E->Option D
 | .var i=>(σ[i]?).bind id
 | .cst d=>some d
 | .glb _ i=>some (.int i)
 | .bin o a b=>(ev cl σ a).bind fun x=>(ev cl σ b).bind fun y=>a8 o x y
 | .cmp c a b=>(ev cl σ a).bind fun x=>(ev cl σ b).bind fun y=>(bc c x y).map .bl
 | .chain c c' a b e=>(ev cl σ a).bind fun x=>(ev cl σ b).bind fun y=>(bc c x y).bind fun k=>if k then(ev cl σ e).bind fun z=>(bc c' y z).map .bl else some (.bl false)
 | .isB neg a b=>(ev cl σ a).bind fun x=>match x with
  | .bl k=>some (.bl (if neg then !decide (k=b)else decide (k=b)))
  | _=>none
 | .isN neg a=>(ev cl σ a).bind fun x=>match x with
  | .non=>some (.bl (!neg))
  | .dK _ _=>none
  | .dT _ _=>none
  | _=>some (.bl neg)
 | .inn neg a b=>(ev cl σ a).bind fun x=>(ev cl σ b).bind fun y=>(inV x y).map fun k=>.bl (if neg then !k else k)
 | .inD neg a b=>(ev cl σ a).bind fun x=>(ev cl σ b).bind fun y=>(x3 y x).map fun k=>.bl (if neg then !k else k)
 | .and a b=>(ev cl σ a).bind fun x=>match x with
  | .bl true=>ev cl σ b
  | .bl false=>some (.bl false)
  | _=>none
 | .or a b=>(ev cl σ a).bind fun x=>match x with
  | .bl false=>ev cl σ b
  | .bl true=>some (.bl true)
  | _=>none
 | .not a=>((ev cl σ a).bind truth).map fun k=>.bl (!k)
 | .ifx t a b=>((ev cl σ t).bind truth).bind fun k=>if k then ev cl σ a else ev cl σ b
 | .tup es=>(evs cl σ es).map .tup
 | .lst es=>(evs cl σ es).map .lst
 | .ix a b=>(ev cl σ a).bind fun x=>(ev cl σ b).bind fun y=>ixV x y
 | .ixD a b=>(ev cl σ a).bind fun x=>(ev cl σ b).bind fun y=>nt x y
 | .slT a b=>(ev cl σ a).bind fun x=>(ev cl σ b).bind fun y=>nG x y
 | .slF a b=>(ev cl σ a).bind fun x=>(ev cl σ b).bind fun y=>Gf x y
 | .rev a=>(ev cl σ a).bind fun x=>match x with
  | .lst xs=>some (.lst xs.reverse)
  | .tup xs=>some (.tup xs.reverse)
  | _=>none
 | .call f es=>(evs cl σ es).bind fun ds=>cl f ds
 | .bi b a=>(ev cl σ a).bind fun x=>biV b x
 | .max a b=>(ev cl σ a).bind fun x=>(ev cl σ b).bind fun y=>match x,y with
  | .int i,.int j=>some (.int (if j > i then j else i))
  | _,_=>none
 | .min a b=>(ev cl σ a).bind fun x=>(ev cl σ b).bind fun y=>match x,y with
  | .int i,.int j=>some (.int (if j<i then j else i))
  | _,_=>none
 | .dvm a b=>(ev cl σ a).bind fun x=>(ev cl σ b).bind fun y=>match x,y with
  | .int i,.int j=>if 0<j/\j<1073741824 then some (.tup [.int (i / j),.int (i%j)])else none
  | _,_=>none
 | .isi a t=>(ev cl σ a).bind fun x=>(cV t x).map .bl
 | .rng1 a=>(ev cl σ a).bind fun x=>(dt (.int 0) x).map .lst
 | .rng2 a b=>(ev cl σ a).bind fun x=>(ev cl σ b).bind fun y=>(dt x y).map .lst
 | .rng3 c a b=>(ev cl σ a).bind fun x=>(ev cl σ b).bind fun y=>(eC c x y).map .lst
 | .neg a=>(ev cl σ a).bind fun x=>match x with
  | .int i=>some (.int (-i))
  | _=>none
 | .comp e tg it c=>(bA cl σ it).bind fun ds=>(fits ds).bind fun ds=>(bX (fun σ1=>((ev cl σ1 c).bind truth).bind fun k=>if k then(ev cl σ1 e).map some else some none) tg σ ds).map .lst
 | .compA e tg it=>(bA cl σ it).bind fun ds=>(fits ds).bind fun ds=>(bX (fun σ1=>(ev cl σ1 e).map some) tg σ ds).map .lst
 | .compL e tg it=>(bA cl σ it).bind fun ds=>(fits ds).bind fun ds=>(Dh (fun σ1=>ev cl σ1 e) (aF e) tg σ ds).map .lst
 | .index a b=>(ev cl σ a).bind fun x=>(ev cl σ b).bind fun y=>match x,y with
  | .lst xs,.int i=>(eG xs).bind fun is=>if i∈is then some (.int (is.idxOf i))else none
  | _,_=>none
 | .join a=>(ev cl σ a).bind fun x=>match x with
  | .lst xs=>(strs? xs).bind fun ss=>if ss.length<=most/\ss.all (fun s=>s.length<=10)then some (.str ⟨(ss.flatMap fun s=>s.cps.toList).toArray⟩)else none
  | _=>none
 | .chain3 c c' c'' a b e g=>(ev cl σ a).bind fun x=>(ev cl σ b).bind fun y=>(bc c x y).bind fun k=>if k then(ev cl σ e).bind fun z=>(bc c' y z).bind fun k'=>if k' then(ev cl σ g).bind fun w=>(bc c'' z w).map .bl else some (.bl false)else some (.bl false)
 | .slB a b c=>(ev cl σ a).bind fun x=>(ev cl σ b).bind fun y=>(ev cl σ c).bind fun z=>Gu x y z
 | .dk0=>some (.dK [] [])
 | .dt0=>some (.dT [] [])
noncomputable def evs(cl:Cl)(σ:St):Es->Option (List D)
 | .nil=>some []
 | .cons e es=>(ev cl σ e).bind fun d=>(evs cl σ es).map (d :: ·)
noncomputable def bA(cl:Cl)(σ:St):It->Option (List D)
 | .seq e=>(ev cl σ e).bind items
 | .rng1 a=>(ev cl σ a).bind fun x=>dt (.int 0) x
 | .rng2 a b=>(ev cl σ a).bind fun x=>(ev cl σ b).bind fun y=>dt x y
 | .rng3 c a b=>(ev cl σ a).bind fun x=>(ev cl σ b).bind fun y=>eC c x y
 | .chr e=>(ev cl σ e).bind fun x=>match x with
  | .str x=>eB (.str x)
  | _=>none
 | .enm e=>(ev cl σ e).bind fun x=>(eB x).map (cG 0)
 | .zip a b=>(ev cl σ a).bind fun x=>(ev cl σ b).bind fun y=>(items x).bind fun xs=>(items y).bind fun ys=>if xs.length=ys.length then some (hZ xs ys)else none
 | .nope=>none
end
inductive Out where
 | nx
 | rt (d:D)
noncomputable def avE(M:List Nat):E->Bool
 | .var j=>!M.contains j
 | .ix a _=>avE M a
 | .call _ _=>true
 | .compL _ _ _=>true
 | .ifx _ a b=>avE M a&&avE M b
 | _=>false
noncomputable def uI(M:List Nat):It->Bool
 | .seq e=>avE M e || aF e
 | .enm e=>avE M e || aF e
 | .zip a b=>(avE M a || aF a)&&(avE M b || aF b)
 | _=>true
noncomputable def aV(M:List Nat)(e:E)(d:D):Bool :=
 d.imm || (aJ d&&(aF e || match e with | .var i=>M.contains i | _=>false))
noncomputable def aU(M:List Nat)(e:E)(d:D):Bool:=d.imm || (aJ d&&aF e) || avE M e
noncomputable def isVar:E->Bool
 | .var _=>true
 | _=>false
noncomputable def dI(M ps:List Nat):Nat->Es->List D->Bool
 | _,.nil,[]=>true
 | q,.cons e es,d::ds=>(if ps.contains q then isVar e else aU M e d)&&dI M ps (q+1) es ds
 | _,_,_=>false
noncomputable def du:D->D->D->Option D
 | .lst xs,.int k,d=>(oh xs.length k).map fun j=>.lst (xs.set j d)
 | .dK ks vs,k,d=>(keyOf k).bind fun k=>if ks.length<most then some (.dK (putD ks vs k d).1 (putD ks vs k d).2)else none
 | .dT ks vs,.tup k,d=>(keysOf k).bind fun k=>if ks.length<most then some (.dT (putD ks vs k d).1 (putD ks vs k d).2)else none
 | _,_,_=>none
noncomputable def aZ(f:St->Option (Out × St))(tg:List Nat):List D->St->Option (Out × St)
 | [],σ=>some (.nx,σ)
 | d::r,σ=>if d.imm then(aM tg d σ).bind fun σ1=>(f σ1).bind fun p=>match p.1 with
   | .nx=>aZ f tg r p.2
   | .rt d=>some (.rt d,p.2)
  else none
noncomputable def whF(t:St->Option Bool)(f:St->Option (Out × St)):Nat->St->Option (Out × St)
 | 0,_=>none
 | n+1,σ=>(t σ).bind fun k=>if k then(f σ).bind fun p=>match p.1 with
   | .nx=>whF t f n p.2
   | .rt d=>some (.rt d,p.2)
  else some (.nx,σ)
mutual
noncomputable def evS(cl:Cl)(M:List Nat):S->St->Option (Out × St)
 | .asg i e,σ=>(ev cl σ e).bind fun d=>if aU M e d then some (.nx,σ.set i (some d))else none
 | .own i e,σ=>(ev cl σ e).bind fun d=>if aJ d&&aF e then some (.nx,σ.set i (some d))else none
 | .unp is e,σ=>(ev cl σ e).bind fun d=>(items d).bind fun ds=>if au ds then(bH is ds σ).map fun σ1=>(.nx,σ1)else none
 | .par i j a b,σ=>(ev cl σ a).bind fun x=>(ev cl σ b).bind fun y=>if x.imm&&y.imm then some (.nx,(σ.set i (some x)).set j (some y))else none
 | .parO i j a b,σ=>(ev cl σ a).bind fun x=>(ev cl σ b).bind fun y=>if(aJ x&&aF a)&&(aJ y&&aF b)then some (.nx,(σ.set i (some x)).set j (some y))else none
 | .app i e,σ=>(ev cl σ e).bind fun d=>((σ[i]?).bind id).bind fun l=>match l with
  | .lst xs=>if d.imm&&decide (xs.length<most)then some (.nx,σ.set i (some (.lst (xs++[d]))))else none
  | _=>none
 | .put i k e,σ=>(ev cl σ e).bind fun d=>(ev cl σ k).bind fun kk=>((σ[i]?).bind id).bind fun l=>if d.imm then(du l kk d).map fun l'=>(.nx,σ.set i (some l'))else none
 | .put2 i k l a b,σ=>(ev cl σ a).bind fun x=>(ev cl σ b).bind fun y=>if x.imm&&y.imm then
   (ev cl σ k).bind fun kk=>((σ[i]?).bind id).bind fun c=>match c with
   | .lst _=>(du c kk x).bind fun c1=>(ev cl (σ.set i (some c1)) l).bind fun ll=>(du c1 ll y).map fun c2=>(.nx,(σ.set i (some c1)).set i (some c2))
   | _=>none
  else none
 | .pop i j,σ=>((σ[i]?).bind id).bind fun l=>match l with
  | .lst xs=>(xs[xs.length-1]?).map fun d=>(.nx,(σ.set i (some (.lst xs.dropLast))).set j (some d))
  | _=>none
 | .clr i,σ=>((σ[i]?).bind id).bind fun l=>match l with
  | .lst _=>some (.nx,σ.set i (some (.lst [])))
  | _=>none
 | .aug i o e,σ=>((σ[i]?).bind id).bind fun x=>(ev cl σ e).bind fun y=>match x,y with
  | .int a,.int b=>(a8 o (.int a) (.int b)).map fun z=>(.nx,σ.set i (some z))
  | _,_=>none
 | .ife t a b,σ=>((ev cl σ t).bind truth).bind fun k=>if k then ah cl M a σ else ah cl M b σ
 | .ifp i e a b,σ=>((σ[i]?).bind id).bind fun l=>match l with
  | .lst xs=>(xs[xs.length-1]?).bind fun d=>(ev cl (σ.set i (some (.lst xs.dropLast))) e).bind fun y=>match d,y with
   | .int p,.int q=>if decide (p=q)then ah cl M b (σ.set i (some (.lst xs.dropLast)))else ah cl M a (σ.set i (some (.lst xs.dropLast)))
   | _,_=>none
  | _=>none
 | .forr tg it b,σ=>(bA cl σ it).bind fun ds=>aZ (ah cl M b) tg ds σ
 | .whil t b,σ=>whF (fun σ=>(ev cl σ t).bind truth) (ah cl M b) most σ
 | .mexc f es ps ms,σ=>(evs cl σ es).bind fun ds=>if dI M ps 0 es ds then(cl f ds).bind fun r=>match r with
  | .tup (_::outs)=>(bH ms outs σ).map fun σ1=>(.nx,σ1)
  | _=>none
  else none
 | .maug i f es ps ms,σ=>((σ[i]?).bind id).bind fun x=>(evs cl σ es).bind fun ds=>if dI M ps 0 es ds then(cl f ds).bind fun r=>match r with
  | .tup (y::outs)=>match x,y with
   | .int a,.int b=>(bH ms outs σ).map fun σ1=>(.nx,σ1.set i (some (.int (a+b))))
   | _,_=>none
  | _=>none
  else none
 | .ret e,σ=>(ev cl σ e).bind fun d=>if aV M e d then some (.rt d,σ)else none
 | .exc e,σ=>(ev cl σ e).map fun _=>(.nx,σ)
 | .never,_=>none
noncomputable def ah(cl:Cl)(M:List Nat):Ss->St->Option (Out × St)
 | .nil,σ=>some (.nx,σ)
 | .cons s r,σ=>(evS cl M s σ).bind fun p=>match p.1 with
  | .nx=>ah cl M r p.2
  | .rt d=>some (.rt d,p.2)
end
structure Fn where
 ps:Nat
 nn:Nat
 M:List Nat
 mp:List Nat
 body:Ss
noncomputable def fC(σ:St):List Nat->Option (List D)
 | []=>some []
 | i::is=>((σ[i]?).bind id).bind fun d=>(fC σ is).map (d :: ·)
noncomputable def aT(fn:Fn)(d:D)(σ:St):Option D :=
 if fn.mp.isEmpty then some d else if d.imm then(fC σ fn.mp).map fun os=>.tup (d::os)else none
noncomputable def aq(T:List Fn):Nat->Cl
 | 0,_,_=>none
 | n+1,f,ds=>(T[f]?).bind fun fn=>if ds.length=fn.ps then(ah (aq T n) fn.M fn.body (ds.map some++List.replicate (fn.nn-fn.ps) none)).bind fun p=>match p.1 with
  | .nx=>aT fn .non p.2
  | .rt d=>aT fn d p.2
  else none
end RL
namespace RT
open RL
noncomputable def ib:Fn :=
 ⟨1,1,[],[],(.cons (.ret (.and (.isi (.var 0) .int) (.not (.isi (.var 0) .bool)))) .nil)⟩
noncomputable def dB(f_is_number:Nat):Fn :=
 ⟨1,1,[],[],(.cons (.ret (.and (.call f_is_number (.cons (.var 0) .nil)) (.chain .le .le (.cst (.int 1)) (.var 0) (.glb "MOST_PEGS" 10)))) .nil)⟩
noncomputable def bV(f_is_peg_count:Nat):Fn :=
 ⟨1,1,[],[],(.cons (.ife (.not (.call f_is_peg_count (.cons (.var 0) .nil))) (.cons .never .nil) .nil) .nil)⟩
noncomputable def jH:Fn :=
 ⟨1,1,[],[],(.cons (.ret (.bin .fdiv (.bi .len (.var 0)) (.cst (.int 2)))) .nil)⟩
noncomputable def gm(f_check_pegs:Nat):Fn :=
 ⟨1,1,[],[],(.cons (.exc (.call f_check_pegs (.cons (.var 0) .nil))) (.cons (.ret (.bi .tuple (.bin .add (.rng2 (.var 0) (.bin .mul (.cst (.int 2)) (.var 0))) (.rng1 (.var 0))))) .nil))⟩
noncomputable def jU:Fn :=
 ⟨1,3,[],[],(.cons (.asg 1 (.bin .mod (.bin .add (.bin .mul (.var 0) (.cst (.int 48271))) (.cst (.int 11))) (.cst (.int 2147483647)))) (.cons (.asg 2 (.bin .mod (.bin .add (.bin .add (.bin .mul (.var 1) (.var 1)) (.bin .mul (.cst (.int 40692)) (.var 1))) (.var 0)) (.cst (.int 2147483399)))) (.cons (.ret (.bin .mod (.bin .add (.bin .add (.bin .mul (.var 2) (.var 2)) (.bin .mul (.cst (.int 69621)) (.var 2))) (.var 1)) (.cst (.int 2147483563)))) .nil)))⟩
noncomputable def iR(f_law_mix:Nat):Ss :=
 (.cons (.asg 3 (.bin .add (.bin .mul (.var 3) (.cst (.int 2147483563))) (.call f_law_mix (.cons (.bin .add (.bin .add (.var 2) (.bin .mul (.cst (.int 1009)) (.var 1))) (.bin .mul (.cst (.int 7919)) (.var 4))) .nil)))) .nil)
noncomputable def ky(f_law_mix:Nat):Fn :=
 ⟨2,5,[],[],(.cons (.asg 2 (.bin .add (.bin .mul (.cst (.int 7)) (.var 1)) (.cst (.int 3)))) (.cons (.ife (.cmp .gt (.bi .len (.var 0)) (.cst (.int 0))) (.cons (.asg 2 (.bin .add (.ix (.var 0) (.bin .mod (.var 1) (.bi .len (.var 0)))) (.bin .mul (.cst (.int 9973)) (.bin .fdiv (.var 1) (.bi .len (.var 0)))))) .nil) .nil) (.cons (.ife (.and (.cmp .lt (.var 1) (.bi .len (.var 0))) (.cmp .ge (.var 2) (.bin .pow (.cst (.int 10)) (.cst (.int 18))))) (.cons (.ret (.bin .sub (.var 2) (.bin .pow (.cst (.int 10)) (.cst (.int 18))))) .nil) .nil) (.cons (.asg 3 (.cst (.int 0))) (.cons (.forr [4] (.rng1 (.cst (.int 40))) (iR f_law_mix)) (.cons (.ret (.var 3)) .nil))))))⟩
noncomputable def fO(f_law_raw:Nat):Ss :=
 (.cons (.app 4 (.bin .mod (.var 3) (.var 5))) (.cons (.asg 3 (.bin .fdiv (.var 3) (.var 5))) .nil))
noncomputable def eA(f_law_raw:Nat):Fn :=
 ⟨3,6,[4],[],(.cons (.asg 3 (.call f_law_raw (.cons (.var 0) (.cons (.var 1) .nil)))) (.cons (.own 4 (.lst .nil)) (.cons (.forr [5] (.seq (.var 2)) (fO f_law_raw)) (.cons (.ret (.var 4)) .nil))))⟩
noncomputable def gE(f_names_back:Nat):Fn :=
 ⟨1,2,[],[],(.cons (.ret (.and (.isi (.var 0) .tuple) (.bi .all (.compA (.call f_names_back (.cons (.var 0) (.cons (.var 1) .nil))) [1] (.rng1 (.bi .len (.var 0))))))) .nil)⟩
noncomputable def gI(f_is_number:Nat):Fn :=
 ⟨2,3,[],[],(.cons (.asg 2 (.ix (.var 0) (.var 1))) (.cons (.ret (.and (.call f_is_number (.cons (.var 2) .nil)) (.and (.chain .le .lt (.cst (.int 0)) (.var 2) (.bi .len (.var 0))) (.cmp .eq (.ix (.var 0) (.var 2)) (.var 1))))) .nil))⟩
noncomputable def bL:Ss :=
 (.cons (.ife (.cmp .gt (.var 3) (.var 2)) (.cons (.app 1 (.var 2)) .nil) (.cons (.ife (.cmp .eq (.var 3) (.var 2)) (.cons (.ife (.var 1) (.cons (.ret (.cst (.bl false))) .nil) .nil) .nil) (.cons (.ifp 1 (.var 3) (.cons (.ret (.cst (.bl false))) .nil) .nil) .nil)) .nil)) .nil)
noncomputable def eW:Fn :=
 ⟨1,4,[1],[],(.cons (.own 1 (.lst .nil)) (.cons (.forr [2,3] (.enm (.var 0)) (bL)) (.cons (.ret (.cst (.bl true))) .nil)))⟩
noncomputable def gd(f_is_uncrossed f_in_round f_is_pairing f_is_peg_count f_pegs_of:Nat):Fn :=
 ⟨1,5,[],[],(.cons (.asg 1 (.call f_pegs_of (.cons (.var 0) .nil))) (.cons (.ife (.or (.cmp .ne (.bi .len (.var 0)) (.bin .mul (.cst (.int 2)) (.var 1))) (.or (.not (.call f_is_peg_count (.cons (.var 1) .nil))) (.not (.call f_is_pairing (.cons (.var 0) .nil))))) (.cons (.ret (.cst (.bl false))) .nil) .nil) (.cons (.asg 2 (.comp (.var 3) [3,4] (.enm (.var 0)) (.cmp .eq (.var 3) (.var 4)))) (.cons (.ret (.and (.not (.var 2)) (.call f_is_uncrossed (.cons (.call f_in_round (.cons (.var 0) .nil)) .nil)))) .nil))))⟩
noncomputable def dQ(f_is_frame:Nat):Fn :=
 ⟨1,1,[],[],(.cons (.ife (.not (.call f_is_frame (.cons (.var 0) .nil))) (.cons .never .nil) .nil) .nil)⟩
noncomputable def cW:Fn :=
 ⟨2,2,[],[],(.cons (.ret (.ifx (.cmp .lt (.var 1) (.var 0)) (.var 1) (.bin .sub (.bin .sub (.bin .mul (.cst (.int 3)) (.var 0)) (.cst (.int 1))) (.var 1)))) .nil)⟩
noncomputable def fU(f_moved f_round_place f_pegs_of:Nat):Fn :=
 ⟨1,3,[],[],(.cons (.asg 1 (.call f_pegs_of (.cons (.var 0) .nil))) (.cons (.ret (.call f_moved (.cons (.var 0) (.cons (.compA (.call f_round_place (.cons (.var 1) (.cons (.var 2) .nil))) [2] (.rng1 (.bin .mul (.cst (.int 2)) (.var 1)))) .nil)))) .nil))⟩
noncomputable def lX:Ss :=
 (.cons (.put 2 (.ix (.var 1) (.var 3)) (.ix (.var 1) (.var 4))) .nil)
noncomputable def kT:Fn :=
 ⟨2,5,[2],[],(.cons (.own 2 (.bin .mul (.lst (.cons (.cst (.int 0)) .nil)) (.bi .len (.var 0)))) (.cons (.forr [3,4] (.enm (.var 0)) (lX)) (.cons (.ret (.bi .tuple (.var 2))) .nil)))⟩
noncomputable def dJ:Fn :=
 ⟨1,2,[],[],(.cons (.ret (.bi .tuple (.bin .add (.compA (.bin .add (.var 0) (.var 1)) [1] (.rng1 (.var 0))) (.rng1 (.var 0))))) .nil)⟩
noncomputable def lu(f_law_plain:Nat):Ss :=
 (.cons (.put 2 (.var 3) (.bin .add (.var 3) (.cst (.int 1)))) (.cons (.put 2 (.bin .add (.var 3) (.cst (.int 1))) (.var 3)) .nil))
noncomputable def fX(f_law_plain:Nat):Fn :=
 ⟨2,4,[2],[],(.cons (.own 2 (.bi .list (.call f_law_plain (.cons (.var 0) .nil)))) (.cons (.forr [3] (.seq (.tup (.cons (.var 1) (.cons (.bin .add (.var 0) (.var 1)) .nil)))) (lu f_law_plain)) (.cons (.ret (.bi .tuple (.var 2))) .nil)))⟩
noncomputable def eP:Fn :=
 ⟨1,1,[],[],(.cons (.ret (.bin .add (.rng1 (.var 0)) (.rng3 (-1) (.bin .sub (.bin .mul (.cst (.int 2)) (.var 0)) (.cst (.int 1))) (.bin .sub (.var 0) (.cst (.int 1)))))) .nil)⟩
noncomputable def cR(f_law_circle:Nat):Ss :=
 (.cons (.ife (.cmp .eq (.var 6) (.cst (.str "("))) (.cons (.app 4 (.ix (.var 2) (.var 5))) .nil) (.cons (.pop 4 8) (.cons (.put 3 (.var 8) (.ix (.var 2) (.var 5))) (.cons (.put 3 (.ix (.var 2) (.var 5)) (.var 8)) .nil)))) .nil)
noncomputable def eg(f_law_circle:Nat):Fn :=
 ⟨1,9,[3,4],[],(.cons (.asg 1 (.bin .fdiv (.bi .len (.var 0)) (.cst (.int 2)))) (.cons (.asg 2 (.call f_law_circle (.cons (.var 1) .nil))) (.cons (.own 3 (.compA (.cst (.int 0)) [7] (.seq (.var 2)))) (.cons (.own 4 (.lst .nil)) (.cons (.forr [5,6] (.enm (.var 0)) (cR f_law_circle)) (.cons (.ret (.bi .tuple (.var 3))) .nil))))))⟩
noncomputable def fq:Ss :=
 (.cons (.par 0 6 (.bin .fdiv (.var 0) (.cst (.int 2))) (.bin .mod (.var 0) (.cst (.int 2)))) (.cons (.asg 5 (.or (.cmp .eq (.var 3) (.cst (.int 0))) (.and (.cmp .lt (.var 3) (.var 4)) (.cmp .eq (.var 6) (.cst (.int 1)))))) (.cons (.asg 2 (.bin .add (.var 2) (.ix (.lst (.cons (.cst (.str ")")) (.cons (.cst (.str "(")) .nil))) (.bi .int (.var 5))))) (.cons (.asg 3 (.bin .add (.var 3) (.ix (.lst (.cons (.neg (.cst (.int 1))) (.cons (.cst (.int 1)) .nil))) (.bi .int (.var 5))))) .nil))))
noncomputable def jg:Fn :=
 ⟨2,7,[],[],(.cons (.asg 2 (.cst (.str ""))) (.cons (.asg 3 (.cst (.int 0))) (.cons (.forr [4] (.rng3 (-1) (.bin .mul (.cst (.int 2)) (.var 1)) (.cst (.int 0))) (fq)) (.cons (.ret (.var 2)) .nil))))⟩
noncomputable def di:Ss :=
 (.cons (.ife (.cmp .eq (.ixD (.var 4) (.var 7)) (.var 9)) (.cons (.put 4 (.var 7) (.var 8)) .nil) .nil) .nil)
noncomputable def e8:Ss :=
 (.cons (.par 8 9 (.ixD (.var 4) (.var 5)) (.ixD (.var 4) (.var 6))) (.cons (.forr [7] (.seq (.var 2)) (di)) .nil))
noncomputable def gY:Ss :=
 (.cons (.forr [6] (.seq (.tup (.cons (.ix (.var 1) (.var 5)) (.cons (.bin .sub (.ix (.var 0) (.bin .add (.var 3) (.var 5))) (.var 3)) .nil)))) (e8)) .nil)
noncomputable def hG:Ss :=
 (.cons (.put 4 (.var 5) (.var 5)) .nil)
noncomputable def eS:Fn :=
 ⟨3,10,[4],[],(.cons (.asg 3 (.bin .fdiv (.bi .len (.var 0)) (.cst (.int 2)))) (.cons (.own 4 .dk0) (.cons (.forr [5] (.seq (.var 2)) (hG)) (.cons (.forr [5] (.seq (.var 2)) (gY)) (.cons (.ret (.bi .lenSet (.compA (.ixD (.var 4) (.var 5)) [5] (.seq (.var 2))))) .nil)))))⟩
noncomputable def cX(f_law_rings_by:Nat):Ss :=
 (.cons (.ife (.cmp .eq (.cmp .eq (.ix (.var 7) (.cst (.int 0))) (.cst (.str "high"))) (.cmp .ge (.ix (.var 7) (.cst (.int 1))) (.var 2))) (.cons (.put 6 (.bin .mod (.ix (.var 7) (.cst (.int 1))) (.var 2)) (.cst (.bl true))) (.cons (.asg 7 (.ixD (.var 3) (.tup (.cons (.ix (.lst (.cons (.cst (.str "high")) (.cons (.cst (.str "low")) .nil))) (.bi .int (.cmp .eq (.ix (.var 7) (.cst (.int 0))) (.cst (.str "high"))))) (.cons (.bin .mod (.bin .add (.ix (.var 7) (.cst (.int 1))) (.var 2)) (.bin .mul (.cst (.int 2)) (.var 2))) .nil))))) .nil)) .nil) .nil)
noncomputable def fw(f_law_rings_by:Nat):Ss :=
 (.cons (.asg 7 (.ixD (.var 3) (.tup (.cons (.ix (.lst (.cons (.cst (.str "high")) (.cons (.cst (.str "low")) .nil))) (.bi .int (.cmp .ge (.var 4) (.var 2)))) (.cons (.var 4) .nil))))) (.cons (.forr [8] (.rng1 (.bin .mul (.cst (.int 4)) (.var 2))) (cX f_law_rings_by)) (.cons (.app 5 (.ix (.var 7) (.cst (.int 1)))) .nil)))
noncomputable def fv(f_law_rings_by:Nat):Ss :=
 (.cons (.put 3 (.tup (.cons (.cst (.str "high")) (.cons (.var 4) .nil))) (.tup (.cons (.cst (.str "high")) (.cons (.ix (.var 0) (.var 4)) .nil)))) (.cons (.put 3 (.tup (.cons (.cst (.str "low")) (.cons (.var 4) .nil))) (.tup (.cons (.cst (.str "low")) (.cons (.ix (.var 1) (.var 4)) .nil)))) .nil))
noncomputable def gf(f_law_rings_by:Nat):Fn :=
 ⟨2,9,[3,5,6],[],(.cons (.asg 2 (.bin .fdiv (.bi .len (.var 0)) (.cst (.int 2)))) (.cons (.own 3 .dt0) (.cons (.forr [4] (.rng1 (.bin .mul (.cst (.int 2)) (.var 2))) (fv f_law_rings_by)) (.cons (.own 5 (.lst .nil)) (.cons (.own 6 .dk0) (.cons (.forr [4] (.rng1 (.bin .mul (.cst (.int 2)) (.var 2))) (fw f_law_rings_by)) (.cons (.ret (.tup (.cons (.bi .tuple (.var 5)) (.cons (.call f_law_rings_by (.cons (.var 0) (.cons (.var 1) (.cons (.comp (.var 4) [4] (.rng1 (.var 2)) (.inD true (.var 4) (.var 6))) .nil)))) .nil)))) .nil)))))))⟩
noncomputable def gg:Fn :=
 ⟨1,3,[],[],(.cons (.asg 1 (.bin .fdiv (.bi .len (.var 0)) (.cst (.int 2)))) (.cons (.ret (.bi .tuple (.compA (.bin .mod (.bin .add (.ix (.var 0) (.bin .mod (.bin .add (.var 2) (.var 1)) (.bin .mul (.cst (.int 2)) (.var 1)))) (.var 1)) (.bin .mul (.cst (.int 2)) (.var 1))) [2] (.rng1 (.bin .mul (.cst (.int 2)) (.var 1)))))) .nil))⟩
noncomputable def il(f_law_hung f_law_over f_law_from_text f_law_text f_law_hook f_law_plain f_law_digits:Nat):Fn :=
 ⟨3,7,[],[],(.cons (.unp [4,5,6] (.call f_law_digits (.cons (.var 0) (.cons (.var 1) (.cons (.lst (.cons (.cst (.int 8)) (.cons (.bin .pow (.cst (.int 10)) (.cst (.int 12))) (.cons (.max (.cst (.int 1)) (.bin .sub (.var 2) (.cst (.int 1)))) .nil)))) .nil))))) (.cons (.ife (.cmp .eq (.var 4) (.cst (.int 0))) (.cons (.ret (.call f_law_plain (.cons (.var 2) .nil))) .nil) .nil) (.cons (.ife (.and (.cmp .eq (.var 4) (.cst (.int 1))) (.cmp .gt (.var 2) (.cst (.int 1)))) (.cons (.ret (.call f_law_hook (.cons (.var 2) (.cons (.var 6) .nil)))) .nil) .nil) (.cons (.asg 3 (.call f_law_from_text (.cons (.call f_law_text (.cons (.var 5) (.cons (.var 2) .nil))) .nil))) (.cons (.ife (.cmp .eq (.var 4) (.cst (.int 2))) (.cons (.ret (.ix (.call f_law_hung (.cons (.var 3) (.cons (.call f_law_over (.cons (.var 3) .nil)) .nil))) (.cst (.int 0)))) .nil) .nil) (.cons (.ret (.var 3)) .nil))))))⟩
noncomputable def gb(f_law_same:Nat):Fn :=
 ⟨2,4,[],[],(.cons (.ife (.isN false (.var 1)) (.cons (.ret (.isN false (.var 0))) .nil) .nil) (.cons (.ife (.or (.cmp .ne (.isi (.var 0) .bool) (.isi (.var 1) .bool)) (.cmp .ne (.isi (.var 0) .int) (.isi (.var 1) .int))) (.cons (.ret (.cst (.bl false))) .nil) .nil) (.cons (.ife (.or (.cmp .ne (.isi (.var 0) .list) (.isi (.var 1) .list)) (.cmp .ne (.isi (.var 0) .tuple) (.isi (.var 1) .tuple))) (.cons (.ret (.cst (.bl false))) .nil) .nil) (.cons (.ife (.and (.not (.isi (.var 1) .list)) (.not (.isi (.var 1) .tuple))) (.cons (.ret (.and (.cmp .eq (.isi (.var 0) .str) (.isi (.var 1) .str)) (.cmp .eq (.var 0) (.var 1)))) .nil) .nil) (.cons (.ret (.and (.cmp .eq (.bi .len (.var 0)) (.bi .len (.var 1))) (.bi .all (.compA (.call f_law_same (.cons (.var 2) (.cons (.var 3) .nil))) [2,3] (.zip (.var 0) (.var 1)))))) .nil)))))⟩
noncomputable def jX(f_moved f_plain f_pegs_of f_check_frame:Nat):Fn :=
 ⟨1,1,[],[],(.cons (.exc (.call f_check_frame (.cons (.var 0) .nil))) (.cons (.ret (.call f_moved (.cons (.var 0) (.cons (.call f_plain (.cons (.call f_pegs_of (.cons (.var 0) .nil)) .nil)) .nil)))) .nil))⟩
noncomputable def uY:Ss :=
 (.cons (.app 3 (.var 4)) (.cons (.asg 5 (.ifx (.cmp .eq (.bin .mod (.bi .len (.var 3)) (.cst (.int 2))) (.cst (.int 0))) (.var 0) (.var 1))) (.cons (.asg 4 (.ix (.var 5) (.var 4))) .nil)))
noncomputable def pL:Fn :=
 ⟨3,6,[3],[],(.cons (.own 3 (.lst (.cons (.var 2) .nil))) (.cons (.asg 4 (.ix (.var 1) (.var 2))) (.cons (.whil (.inn true (.var 4) (.tup (.cons (.ix (.var 3) (.neg (.cst (.int 1)))) (.cons (.var 2) .nil)))) (uY)) (.cons (.ret (.var 3)) .nil))))⟩
noncomputable def ig(f_mark f_run:Nat):Ss :=
 (.cons (.ife (.not (.ix (.var 2) (.var 3))) (.cons (.aug 4 .add (.cst (.int 1))) (.cons (.mexc f_mark (.cons (.var 2) (.cons (.call f_run (.cons (.var 0) (.cons (.var 1) (.cons (.var 3) .nil)))) .nil)) [0] [2]) .nil)) .nil) .nil)
noncomputable def ip(f_mark f_run:Nat):Ss :=
 (.cons (.ife (.cmp .eq (.ix (.var 0) (.var 3)) (.var 3)) (.cons (.mexc f_mark (.cons (.var 2) (.cons (.call f_run (.cons (.var 0) (.cons (.var 1) (.cons (.var 3) .nil)))) .nil)) [0] [2]) .nil) .nil) (.cons (.ife (.cmp .eq (.ix (.var 1) (.var 3)) (.var 3)) (.cons (.mexc f_mark (.cons (.var 2) (.cons (.call f_run (.cons (.var 1) (.cons (.var 0) (.cons (.var 3) .nil)))) .nil)) [0] [2]) .nil) .nil) .nil))
noncomputable def ju(f_mark f_run:Nat):Fn :=
 ⟨2,5,[2],[],(.cons (.own 2 (.bin .mul (.lst (.cons (.cst (.bl false)) .nil)) (.bi .len (.var 0)))) (.cons (.forr [3] (.rng1 (.bi .len (.var 0))) (ip f_mark f_run)) (.cons (.asg 4 (.cst (.int 0))) (.cons (.forr [3] (.rng1 (.bi .len (.var 0))) (ig f_mark f_run)) (.cons (.ret (.var 4)) .nil)))))⟩
noncomputable def tH:Ss :=
 (.cons (.put 0 (.var 2) (.cst (.bl true))) .nil)
noncomputable def qH:Fn :=
 ⟨2,3,[0,0],[0],(.cons (.forr [2] (.seq (.var 1)) (tH)) .nil)⟩
noncomputable def fL(f_check_frame:Nat):Fn :=
 ⟨2,2,[],[],(.cons (.exc (.call f_check_frame (.cons (.var 0) .nil))) (.cons (.exc (.call f_check_frame (.cons (.var 1) .nil))) (.cons (.ife (.cmp .ne (.bi .len (.var 0)) (.bi .len (.var 1))) (.cons .never .nil) .nil) .nil)))⟩
noncomputable def wj(f_put_under f_check_two_frames:Nat):Fn :=
 ⟨2,2,[],[],(.cons (.exc (.call f_check_two_frames (.cons (.var 0) (.cons (.var 1) .nil)))) (.cons (.ret (.call f_put_under (.cons (.var 0) (.cons (.var 1) .nil)))) .nil))⟩
noncomputable def hX(f_rings_of f_run f_joints_between f_pegs_of:Nat):Fn :=
 ⟨2,10,[],[],(.cons (.asg 2 (.call f_pegs_of (.cons (.var 0) .nil))) (.cons (.asg 3 (.bin .add (.bi .list (.var 0)) (.compA (.bin .add (.bin .mul (.cst (.int 2)) (.var 2)) (.var 8)) [8] (.seq (.var 1))))) (.cons (.asg 4 (.call f_joints_between (.cons (.var 2) .nil))) (.cons (.asg 5 (.bin .add (.rng1 (.var 2)) (.rng2 (.bin .mul (.cst (.int 3)) (.var 2)) (.bin .mul (.cst (.int 4)) (.var 2))))) (.cons (.asg 6 (.compA (.ix (.call f_run (.cons (.var 4) (.cons (.var 3) (.cons (.var 8) .nil)))) (.neg (.cst (.int 1)))) [8] (.seq (.var 5)))) (.cons (.asg 7 (.bi .tuple (.compA (.ifx (.cmp .lt (.var 9) (.var 2)) (.var 9) (.bin .sub (.var 9) (.bin .mul (.cst (.int 2)) (.var 2)))) [9] (.seq (.var 6))))) (.cons (.ret (.tup (.cons (.var 7) (.cons (.call f_rings_of (.cons (.var 4) (.cons (.var 3) .nil))) .nil)))) .nil)))))))⟩
noncomputable def dY:Fn :=
 ⟨1,5,[],[],(.cons (.asg 1 (.rng1 (.var 0))) (.cons (.asg 2 (.rng2 (.var 0) (.bin .mul (.cst (.int 2)) (.var 0)))) (.cons (.asg 3 (.rng2 (.bin .mul (.cst (.int 2)) (.var 0)) (.bin .mul (.cst (.int 3)) (.var 0)))) (.cons (.asg 4 (.rng2 (.bin .mul (.cst (.int 3)) (.var 0)) (.bin .mul (.cst (.int 4)) (.var 0)))) (.cons (.ret (.bin .add (.bin .add (.bin .add (.var 1) (.var 3)) (.var 2)) (.var 4))) .nil)))))⟩
noncomputable def kq(f_is_uncrossed f_is_pairing f_is_peg_count:Nat):Fn :=
 ⟨1,1,[],[],(.cons (.ret (.and (.call f_is_peg_count (.cons (.bi .len (.var 0)) .nil)) (.and (.call f_is_pairing (.cons (.var 0) .nil)) (.call f_is_uncrossed (.cons (.var 0) .nil))))) .nil)⟩
noncomputable def fB:Fn :=
 ⟨1,3,[],[],(.cons (.asg 1 (.bin .fdiv (.bi .len (.var 0)) (.cst (.int 2)))) (.cons (.ret (.bi .tuple (.compA (.ix (.lst (.cons (.ix (.var 0) (.var 2)) (.cons (.var 2) .nil))) (.bi .int (.cmp .ge (.ix (.var 0) (.var 2)) (.var 1)))) [2] (.rng1 (.var 1))))) .nil))⟩
noncomputable def lr(f_law_upper f_law_over:Nat):Fn :=
 ⟨1,1,[],[],(.cons (.ret (.call f_law_upper (.cons (.call f_law_over (.cons (.var 0) .nil)) .nil))) .nil)⟩
end RT
namespace M
noncomputable def hg(l r:Nat)(g:Nat->Nat):Nat->Nat:=fun x=>if g l=r then g x else if x=r then l else if x=l then r else if x=g r then g l else if x=g l then g r else g x
section
variable{l r s p q:Nat}{g:Nat->Nat}
theorem D7(e:g l=r):hg l r g=g:=by funext x;unfold hg;rw[if_pos e]
theorem Cc(hlr:l≠r)(h:∀ x,g (g x)=x)(n1:g l≠l)(n2:g r≠r)(x:Nat):hg l r g (hg l r g x)=x:=by
 by_cases e:g l=r
 ·rw[D7 e];exact h x
 ·have k:∀ y,hg l r g y=if y=r then l else if y=l then r else if y=g r then g l else if y=g l then g r else g y:=fun y=>by unfold hg;rw[if_neg e]
  rw[k x,k]
  grind
theorem xH(hlr:l≠r)(h:∀ x,g (g x)=x)(n1:g l≠l)(n2:g r≠r){x:Nat}(nx:g x≠x):hg l r g x≠x:=by
 unfold hg;grind
end
end M
namespace RL
noncomputable def evF(cl:Cl)(fn:Fn)(ds:List D):Option D:=if ds.length=fn.ps then(ah cl fn.M fn.body (ds.map some++List.replicate (fn.nn-fn.ps) none)).bind fun p=>match p.1 with
  | .nx=>aT fn .non p.2
  | .rt d=>aT fn d p.2
  else none
theorem ao{T:List Fn}{n f:Nat}{fn:Fn}{ds:List D}(h:T[f]?=some fn):aq T (n+1) f ds=evF (aq T n) fn ds:=by
 rw[aq,h];rfl
noncomputable def L(xs:List Nat):List D:=xs.map fun(i:Nat)=>.int (i:Int)
theorem sW{f:St->Option (Out × St)}{tg:List Nat}(I:List D->St->Prop):∀ (ds done:List D) (σ:St),(∀ pre d post σ,done++ds=pre++d::post->I pre σ->d.imm=true/\∃ σ2,(aM tg d σ).bind f=some (.nx,σ2)/\I (pre++[d]) σ2)->I done σ->∃ σ',aZ f tg ds σ=some (.nx,σ')/\I (done++ds) σ'
 | [],done,σ,_,h=>⟨σ,rfl,by simpa using h⟩
 | d::ds,done,σ,hs,h=>by
  obtain⟨im,σ2,h1,h3⟩:=hs done d ds σ rfl h
  obtain⟨σ',h4,h5⟩:=sW I ds (done++[d]) σ2 (fun pre e post σ he=>hs pre e post σ (by simpa using he)) h3
  refine⟨σ',?_,by simpa using h5⟩
  rw[aZ,if_pos im]
  cases hb:aM tg d σ with
  | none=>rw[hb]at h1;cases h1
  |some σ1=>
   rw[hb]at h1
   simp only[Option.bind_some]at h1 ⊢
   rw[h1]
   exact h4
theorem A2{f:St->Option (Out × St)}{tg:List Nat}{ds:List D}{σ:St}(I:List D->St->Prop)(h0:I [] σ)(hs:∀ pre d post σ,ds=pre++d::post->I pre σ->d.imm=true/\∃ σ2,(aM tg d σ).bind f=some (.nx,σ2)/\I (pre++[d]) σ2):∃ σ',aZ f tg ds σ=some (.nx,σ')/\I ds σ' :=
 sW I ds [] σ (by simpa using hs) h0
@[simp] theorem tf_lst {a:Es}:aF (.lst a)=true:=rfl
@[simp] theorem tf_tup {a:Es}:aF (.tup a)=true:=rfl
@[simp] theorem tf_comp {a:E} {b:List Nat} {c:It} {d:E}:aF (.comp a b c d)=true:=rfl
@[simp] theorem tf_compA {a:E} {b:List Nat} {c:It}:aF (.compA a b c)=true:=rfl
@[simp] theorem tf_bin {a:Bop} {b:E} {c:E}:aF (.bin a b c)=true:=rfl
@[simp] theorem tf_slT {a:E} {b:E}:aF (.slT a b)=true:=rfl
@[simp] theorem tf_slF {a:E} {b:E}:aF (.slF a b)=true:=rfl
@[simp] theorem tf_slB {a:E} {b:E} {c:E}:aF (.slB a b c)=true:=rfl
@[simp] theorem tf_rev {a:E}:aF (.rev a)=true:=rfl
@[simp] theorem tf_call {a:Nat} {b:Es}:aF (.call a b)=true:=rfl
@[simp] theorem tf_bi {a:Bi} {b:E}:aF (.bi a b)=true:=rfl
@[simp] theorem tf_rng1 {a:E}:aF (.rng1 a)=true:=rfl
@[simp] theorem tf_rng2 {a:E} {b:E}:aF (.rng2 a b)=true:=rfl
@[simp] theorem tf_rng3 {a:Int} {b:E} {c:E}:aF (.rng3 a b c)=true:=rfl
@[simp] theorem tf_dk0:aF .dk0=true:=rfl
@[simp] theorem tf_dt0:aF .dt0=true:=rfl
end RL
namespace RM
open RL RT
section basics
variable{a b:Int}
theorem cS:bc .lt (.int a) (.int b)=some (decide (a<b)):=rfl
theorem ur:bc .le (.int a) (.int b)=some (decide (a<=b)):=rfl
theorem jJ:bc .gt (.int a) (.int b)=some (decide (b<a)):=rfl
theorem jN:bc .ge (.int a) (.int b)=some (decide (b<=a)):=rfl
theorem bW:bc .eq (.int a) (.int b)=some (a == b):=rfl
theorem CF:bc .ne (.int a) (.int b)=some (!(a == b)):=rfl
theorem aW:a8 .add (.int a) (.int b)=some (.int (a+b)):=rfl
theorem br:a8 .sub (.int a) (.int b)=some (.int (a-b)):=rfl
theorem dR(h:0<b):a8 .mod (.int a) (.int b)=some (.int (a%b)):=by dsimp only[a8];rw[if_pos h]
theorem gR(h:0<b)(h':b<2 ^ 200):a8 .fdiv (.int a) (.int b)=some (.int (a / b)):=by dsimp only[a8];rw[if_pos ⟨h,h'⟩]
theorem bG(h1:-(2 ^ 64)<a)(h2:a<2 ^ 64):a8 .mul (.int a) (.int b)=some (.int (a*b)):=by dsimp only[a8];rw[if_pos (.inl ⟨h1,h2⟩)]
theorem rz(h1:-(2 ^ 64)<b)(h2:b<2 ^ 64):a8 .mul (.int a) (.int b)=some (.int (a*b)):=by dsimp only[a8];rw[if_pos (.inr ⟨h1,h2⟩)]
end basics
theorem Bw{xs:List Nat}{pre post:List D}{d:D}(h:L xs=pre++d::post):∃ p x q,xs=p++x::q/\pre=L p/\d=.int (x:Nat)/\post=L q:=by
 unfold L at h
 obtain⟨p,r,rfl,h1,h2⟩:=List.map_eq_append_iff.mp h
 obtain⟨x,q,rfl,h3,h4⟩:=List.map_eq_cons_iff.mp h2
 exact⟨p,x,q,rfl,h1.symm,h3.symm,h4.symm⟩
theorem u5:∀ {a b:List Nat},L a=L b->a=b
 | [],[],_=>rfl
 | [],_::_,h=>by simp[L]at h
 | _::_,[],h=>by simp[L]at h
 | x::a,y::b,h=>by
  unfold L at h
  rw[List.map_cons,List.map_cons,List.cons.injEq]at h
  have h1:(x:Int)=y:=by injection h.1
  rw[u5 (a:=a) (b:=b) h.2,Int.ofNat_inj.mp h1]
theorem cH{f:St->Option (Out × St)}{tg:List Nat}{xs:List Nat}{σ:St}(I:List Nat->St->Prop)(h0:I [] σ)(hs:∀ p x q σ,xs=p++x::q->I p σ->∃ σ2,(aM tg (.int (x:Nat)) σ).bind f=some (.nx,σ2)/\I (p++[x]) σ2):∃ σ',aZ f tg (L xs) σ=some (.nx,σ')/\I xs σ':=by
 obtain⟨σ',e,p,hp,hi⟩:=A2 (f:=f) (tg:=tg) (ds:=L xs) (σ:=σ) (fun pre σ=>∃ p,pre=L p/\I p σ) ⟨[],rfl,h0⟩ (by
  rintro pre d post σ hd ⟨p',hp',hi⟩
  obtain⟨p,x,q,rfl,rfl,rfl,rfl⟩:=Bw hd
  have:=u5 hp'
  subst this
  obtain⟨σ2,h1,h2⟩:=hs p x q σ rfl hi
  exact⟨rfl,σ2,h1,p++[x],by simp[L],h2⟩)
 have:=u5 hp
 subst this
 exact⟨σ',e,hi⟩
theorem aL(xs:List Nat):(L xs).length=xs.length:=by simp[L]
theorem kI(xs:List Nat)(i:Nat):(L xs)[i]?=(xs[i]?).map fun(i:Nat)=>.int (i:Int):=by simp[L]
theorem F6(xs:List Nat)(i j:Nat):(L xs).set i (.int j)=L (xs.set i j):=by simp[L,List.map_set]
theorem aY:∀ xs:List Nat,au (L xs)=true
 | []=>rfl
 | x::xs=>by
  show((D.int x).imm&&au (L xs))=true
  rw[aY xs];rfl
theorem cD(xs ys:List Nat):L (xs++ys)=L xs++L ys:=by simp[L]
theorem dA{α:Type}(xs:List α)(i:Nat):cj xs (i:Int)=xs[i]?:=by
 unfold cj
 rw[if_pos (Int.natCast_nonneg i)]
 rfl
theorem qK{n i:Nat}(h:i<n):oh n (i:Int)=some i:=by
 unfold oh
 rw[if_pos (Int.natCast_nonneg i),if_pos (by lia)]
 rfl
theorem lW(a:Nat):∀ n:Nat,cB (a:Int) n=L (List.range' a n)
 | 0=>rfl
 | n+1=>by
  rw[cB,List.range'_succ]
  have:=lW (a+1) n
  rw[show((a+1:Nat):Int)=(a:Int)+1 by lia]at this
  rw[this]
  rfl
theorem cL{a b:Nat}(h1:a<=1000)(h2:b<=1000):dt (.int a) (.int b)=some (L (List.range' a (b-a))):=by
 dsimp only[dt]
 have:((b:Int)-a).toNat=b-a:=by lia
 rw[if_pos ⟨by unfold most;lia,by lia,by lia,by lia,by lia⟩,this,lW]
section
variable{cl:Cl}
theorem pC(i:Int):evF cl ib [.int i]=some (.bl true):=rfl
theorem lM{f:Nat}(h:∀ i:Int,cl f [.int i]=some (.bl true))(i:Int):evF cl (dB f) [.int i]=some (.bl (decide (1<=i/\i<=10))):=by
 simp[evF,dB,ah,evS,ev,evs,h,bc,aV,D.imm,aT]
 by_cases h1:1<=i<;>simp[h1,aV,D.imm,aT]
theorem nR{f:Nat}{i:Int}(h:cl f [.int i]=some (.bl true)):evF cl (bV f) [.int i]=some .non:=by
 simp[evF,bV,ah,evS,ev,evs,h,truth,aT]
theorem ql(xs:List D):evF cl jH [.tup xs]=some (.int (xs.length / 2)):=rfl
noncomputable def aP(n:Nat):List Nat:=List.range' n n++List.range' 0 n
theorem run_plain{f:Nat}{n:Nat}(hn:n<=10)(h:cl f [.int n]=some .non):evF cl (gm f) [.int n]=some (.tup (L (aP n))):=by
 have e1:=cL (a:=n) (b:=2*n) (by lia) (by lia)
 rw[show 2*n-n=n by lia,show((2*n:Nat):Int)=2*(n:Int) by lia]at e1
 have e2:=cL (a:=0) (b:=n) (by lia) (by lia)
 rw[Nat.sub_zero]at e2
 have e3:a8 .mul (.int 2) (.int n)=some (.int (2*n)):=by
  dsimp only[a8]
  rw[if_pos (by lia)]
 have e4:a8 .add (.lst (L (List.range' n n))) (.lst (L (List.range' 0 n)))=some (.lst (L (aP n))):=by
  dsimp only[a8]
  rw[if_pos (by simp[aL,most];lia),aP,cD]
 simp only[Int.natCast_zero]at e2
 simp[evF,gm,ah,evS,ev,evs,h,e1,e2,e3,e4,biV,items,aV,D.imm,aY,aT]
noncomputable def at'(f:List Nat)(x:Nat):Nat:=(f[x]?).getD x
noncomputable def iW(f:List Nat)(l:Nat):List Nat:=if at' f l=l+1 then f else(((f.set (at' f l) (at' f (l+1))).set (at' f (l+1)) (at' f l)).set l (l+1)).set (l+1) l
structure Frm(n:Nat)(f:List Nat):Prop where
 len:f.length=2*n
 lt:∀ x,x<2*n->at' f x<2*n
 inv:∀ x,at' f (at' f x)=x
 no:∀ x,x<2*n->at' f x≠x
theorem cJ{f:List Nat}{x:Nat}(h:x<f.length):f[x]?=some (at' f x):=by simp[at',h]
theorem dH{f:List Nat}{x:Nat}(h:f.length<=x):at' f x=x:=by simp[at',h]
theorem eM{f:List Nat}{i j x:Nat}(h:i<f.length):at' (f.set i j) x=if x=i then j else at' f x:=by
 unfold at'
 rw[List.getElem?_set]
 by_cases e:i=x
 ·subst e
  simp[h]
 ·simp[e,Ne.symm e]
theorem oa{n:Nat}{f:List Nat}(F:Frm n f){l:Nat}(hl:l+1<2*n):at' (iW f l)=M.hg l (l+1) (at' f):=by
 funext x
 unfold iW M.hg
 have a1:=F.lt l (by lia)
 have a2:=F.lt (l+1) hl
 have hlen:=F.len
 by_cases e:at' f l=l+1
 ·rw[if_pos e,if_pos e]
 ·rw[if_neg e,if_neg e,eM (by simp;lia),eM (by simp;lia),eM (by simp;lia),eM (by lia)]
theorem xN{f:List Nat}{l:Nat}:(iW f l).length=f.length:=by
 unfold iW
 split
 ·rfl
 ·simp
theorem yk{n:Nat}{f:List Nat}(F:Frm n f){l:Nat}(hl:l+1<2*n):Frm n (iW f l):=by
 have n1:=F.no l (by lia)
 have n2:=F.no (l+1) hl
 refine⟨by rw[xN];exact F.len,fun x hx=>?_,fun x=>?_,fun x hx=>?_⟩
 ·rw[oa F hl]
  unfold M.hg
  have a1:=F.lt l (by lia)
  have a2:=F.lt (l+1) hl
  have a3:=F.lt x hx
  repeat' split
  all_goals lia
 ·rw[oa F hl]
  exact M.Cc (by lia) F.inv n1 n2 x
 ·rw[oa F hl]
  exact M.xH (by lia) F.inv n1 n2 (F.no x hx)
theorem vY{n:Nat}{f g:List Nat}(F:f.length=2*n)(G:g.length=2*n)(h:at' f=at' g):f=g:=by
 apply List.ext_getElem?
 intro i
 by_cases hi:i<2*n
 ·rw[cJ (by lia),cJ (by lia),h]
 ·rw[List.getElem?_eq_none (by lia),List.getElem?_eq_none (by lia)]
end
section
variable{cl:Cl}
theorem plain_at(n x:Nat):at' (aP n) x=if x<n then n+x else if x<2*n then x-n else x:=by
 unfold at' aP
 by_cases h1:x<n
 ·rw[List.getElem?_append_left (by simpa using h1),if_pos h1]
  simp[h1]
 ·rw[List.getElem?_append_right (by simpa using h1),if_neg h1]
  by_cases h2:x<2*n
  ·rw[if_pos h2]
   simp[show x-n<n by lia]
  ·rw[if_neg h2]
   simp[show ¬ x-n<n by lia]
theorem kj(n:Nat):Frm n (aP n):=by
 refine⟨by simp[aP];lia,fun x hx=>?_,fun x=>?_,fun x hx=>?_⟩
 ·rw[plain_at];repeat' split
  all_goals lia
 ·rw[plain_at,plain_at];repeat' split
  all_goals lia
 ·rw[plain_at];repeat' split
  all_goals lia
end
end RM
namespace RL
section
variable{cl:Cl}{M:List Nat}{σ σ':St}{e t:E}{d:D}{r a b:Ss}{i j:Nat}{res:Option (Out × St)}
theorem aG:ah cl M .nil σ=some (.nx,σ):=by rw[ah]
theorem dh{s:S}(h:evS cl M s σ=some (.nx,σ'))(k:ah cl M r σ'=res):ah cl M (.cons s r) σ=res:=by
 rw[ah,h];exact k
theorem pN{s:S}(h:evS cl M s σ=some (.rt d,σ')):ah cl M (.cons s r) σ=some (.rt d,σ'):=by
 rw[ah,h];rfl
theorem a7(h:ev cl σ e=some d)(ok:aU M e d=true)(k:ah cl M r (σ.set i (some d))=res):ah cl M (.cons (.asg i e) r) σ=res :=
 dh (by rw[evS,h];show(if aU M e d=true then _ else _)=_;rw[if_pos ok]) k
theorem gC(h:ev cl σ e=some d)(ok:(aJ d&&aF e)=true)(k:ah cl M r (σ.set i (some d))=res):ah cl M (.cons (.own i e) r) σ=res :=
 dh (by rw[evS,h];show(if(aJ d&&aF e)=true then _ else _)=_;rw[if_pos ok]) k
theorem gx(h:ev cl σ e=some d)(k:ah cl M r σ=res):ah cl M (.cons (.exc e) r) σ=res :=
 dh (by rw[evS,h];rfl) k
theorem a9(h:ev cl σ e=some d)(ok:aV M e d=true):ah cl M (.cons (.ret e) r) σ=some (.rt d,σ) :=
 pN (by rw[evS,h];show(if aV M e d=true then _ else _)=_;rw[if_pos ok])
theorem eE(h:(ev cl σ t).bind truth=some true)(h1:ah cl M a σ=some (.nx,σ'))(k:ah cl M r σ'=res):ah cl M (.cons (.ife t a b) r) σ=res :=
 dh (by rw[evS,h];exact h1) k
theorem bN(h:(ev cl σ t).bind truth=some true)(h1:ah cl M a σ=some (.rt d,σ')):ah cl M (.cons (.ife t a b) r) σ=some (.rt d,σ') :=
 pN (by rw[evS,h];exact h1)
theorem jF(h:(ev cl σ t).bind truth=some false)(h1:ah cl M b σ=some (.nx,σ'))(k:ah cl M r σ'=res):ah cl M (.cons (.ife t a b) r) σ=res :=
 dh (by rw[evS,h];exact h1) k
theorem kD(h:(ev cl σ t).bind truth=some false)(h1:ah cl M b σ=some (.rt d,σ')):ah cl M (.cons (.ife t a b) r) σ=some (.rt d,σ') :=
 pN (by rw[evS,h];exact h1)
theorem bf(h:(ev cl σ t).bind truth=some false)(k:ah cl M r σ=res):ah cl M (.cons (.ife t a .nil) r) σ=res:=jF h aG k
theorem vZ{is:List Nat}{ds:List D}(h:ev cl σ e=some d)(hd:items d=some ds)(im:au ds=true)(hs:bH is ds σ=some σ')(k:ah cl M r σ'=res):ah cl M (.cons (.unp is e) r) σ=res :=
 dh (by rw[evS,h,Option.bind_some,hd];show(if au ds=true then _ else _)=_;rw[if_pos im,hs];rfl) k
theorem mm{x y:D}{e':E}(h:ev cl σ e=some x)(h':ev cl σ e'=some y)(im:(x.imm&&y.imm)=true)(k:ah cl M r ((σ.set i (some x)).set j (some y))=res):ah cl M (.cons (.par i j e e') r) σ=res :=
 dh (by rw[evS,h,Option.bind_some,h'];show(if(x.imm&&y.imm)=true then _ else _)=_;rw[if_pos im]) k
theorem qW{xs:List D}(h:ev cl σ e=some d)(hi:(σ[i]?).bind id=some (.lst xs))(im:d.imm=true)(hl:xs.length<most)(k:ah cl M r (σ.set i (some (.lst (xs++[d]))))=res):ah cl M (.cons (.app i e) r) σ=res :=
 dh (by rw[evS,h,Option.bind_some,hi];show(if(d.imm&&decide (xs.length<most))=true then _ else _)=_;rw[if_pos (by rw[im,decide_eq_true hl];rfl)]) k
theorem jT{x kk l l':D}{e':E}(h:ev cl σ e'=some x)(h':ev cl σ e=some kk)(hi:(σ[i]?).bind id=some l)(im:x.imm=true)(hp:du l kk x=some l')(k:ah cl M r (σ.set i (some l'))=res):ah cl M (.cons (.put i e e') r) σ=res :=
 dh (by rw[evS,h,Option.bind_some,h',Option.bind_some,hi,Option.bind_some,if_pos im,hp];rfl) k
theorem ka{x y z:Int}{o:Bop}(hi:(σ[i]?).bind id=some (.int x))(h:ev cl σ e=some (.int y))(hb:a8 o (.int x) (.int y)=some (.int z))(k:ah cl M r (σ.set i (some (.int z)))=res):ah cl M (.cons (.aug i o e) r) σ=res :=
 dh (by rw[evS,hi,Option.bind_some,h];show Option.map _ (a8 o (.int x) (.int y))=_;rw[hb];rfl) k
theorem Eo{xs:List D}(hi:(σ[i]?).bind id=some (.lst (xs++[d])))(k:ah cl M r ((σ.set i (some (.lst xs))).set j (some d))=res):ah cl M (.cons (.pop i j) r) σ=res :=
 dh (by rw[evS,hi];simp) k
theorem cz{tg:List Nat}{it:It}{ds:List D}{b:Ss}(h:bA cl σ it=some ds)(h1:aZ (ah cl M b) tg ds σ=some (.nx,σ'))(k:ah cl M r σ'=res):ah cl M (.cons (.forr tg it b) r) σ=res :=
 dh (by rw[evS,h];exact h1) k
theorem AS{tg:List Nat}{it:It}{ds:List D}{b:Ss}(h:bA cl σ it=some ds)(h1:aZ (ah cl M b) tg ds σ=some (.rt d,σ')):ah cl M (.cons (.forr tg it b) r) σ=some (.rt d,σ') :=
 pN (by rw[evS,h];exact h1)
theorem uZ{b:Ss}(h1:whF (fun σ=>(ev cl σ t).bind truth) (ah cl M b) most σ=some (.nx,σ'))(k:ah cl M r σ'=res):ah cl M (.cons (.whil t b) r) σ=res :=
 dh (by rw[evS];exact h1) k
theorem nS{f:Nat}{es:Es}{ps ms:List Nat}{ds outs:List D}(h:evs cl σ es=some ds)(ok:dI M ps 0 es ds=true)(hc:cl f ds=some (.tup (d::outs)))(hs:bH ms outs σ=some σ')(k:ah cl M r σ'=res):ah cl M (.cons (.mexc f es ps ms) r) σ=res :=
 dh (by rw[evS,h,Option.bind_some,if_pos ok,hc,Option.bind_some];show Option.map _ (bH ms outs σ)=_;rw[hs];rfl) k
theorem aa(h:(σ[i]?).bind id=some d):ev cl σ (.var i)=some d:=by rw[ev];exact h
theorem af:ev cl σ (.cst d)=some d:=by rw[ev]
theorem x_call{f:Nat}{es:Es}{ds:List D}(h:evs cl σ es=some ds)(hc:cl f ds=some d):ev cl σ (.call f es)=some d:=by rw[ev,h];exact hc
theorem b9:evs cl σ .nil=some []:=by rw[evs]
theorem aB{es:Es}{ds:List D}(h:ev cl σ e=some d)(hr:evs cl σ es=some ds):evs cl σ (.cons e es)=some (d::ds):=by rw[evs,h,Option.bind_some,hr];rfl
theorem bj{f:Nat}(h:ev cl σ e=some d){x:D}(hc:cl f [d]=some x):ev cl σ (.call f (.cons e .nil))=some x:=x_call (aB h b9) hc
theorem bQ{f:Nat}{e':E}{d' x:D}(h:ev cl σ e=some d)(h':ev cl σ e'=some d')(hc:cl f [d,d']=some x):ev cl σ (.call f (.cons e (.cons e' .nil)))=some x:=x_call (aB h (aB h' b9)) hc
theorem fR{f:Nat}{e' e'':E}{d' d'' x:D}(h:ev cl σ e=some d)(h':ev cl σ e'=some d')(h'':ev cl σ e''=some d'')(hc:cl f [d,d',d'']=some x):ev cl σ (.call f (.cons e (.cons e' (.cons e'' .nil))))=some x:=x_call (aB h (aB h' (aB h'' b9))) hc
theorem aj{o:Bop}{e':E}{x y:D}(h:ev cl σ e=some x)(h':ev cl σ e'=some y)(hb:a8 o x y=some d):ev cl σ (.bin o e e')=some d:=by rw[ev,h,Option.bind_some,h'];exact hb
theorem a5{o:Cop}{e':E}{x y:D}{k:Bool}(h:ev cl σ e=some x)(h':ev cl σ e'=some y)(hb:bc o x y=some k):ev cl σ (.cmp o e e')=some (.bl k):=by rw[ev,h,Option.bind_some,h',Option.bind_some,hb];rfl
theorem bp{e':E}{x y:D}(h:ev cl σ e=some x)(h':ev cl σ e'=some y)(hb:ixV x y=some d):ev cl σ (.ix e e')=some d:=by rw[ev,h,Option.bind_some,h'];exact hb
theorem bo{o:Bi}{x:D}(h:ev cl σ e=some x)(hb:biV o x=some d):ev cl σ (.bi o e)=some d:=by rw[ev,h];exact hb
theorem ux{e':E}{x y:D}(h:ev cl σ e=some x)(h':ev cl σ e'=some y)(hb:nG x y=some d):ev cl σ (.slT e e')=some d:=by rw[ev,h,Option.bind_some,h'];exact hb
theorem jm{e':E}{x y:D}(h:ev cl σ e=some x)(h':ev cl σ e'=some y)(hb:nt x y=some d):ev cl σ (.ixD e e')=some d:=by rw[ev,h,Option.bind_some,h'];exact hb
theorem Fg{e':E}{x y:D}{n k:Bool}(h:ev cl σ e=some x)(h':ev cl σ e'=some y)(hb:inV x y=some k):ev cl σ (.inn n e e')=some (.bl (if n then !k else k)):=by rw[ev,h,Option.bind_some,h',Option.bind_some,hb];rfl
theorem da{t:Ty}{x:D}{k:Bool}(h:ev cl σ e=some x)(hb:cV t x=some k):ev cl σ (.isi e t)=some (.bl k):=by rw[ev,h,Option.bind_some,hb];rfl
theorem uP{k:Int}(h:ev cl σ e=some (.int k)):ev cl σ (.neg e)=some (.int (-k)):=by rw[ev,h];rfl
theorem FD{e':E}{x y:Int}(h:ev cl σ e=some (.int x))(h':ev cl σ e'=some (.int y)):ev cl σ (.max e e')=some (.int (if y > x then y else x)):=by rw[ev,h,Option.bind_some,h'];rfl
theorem Fx{e':E}{x y:Int}(h:ev cl σ e=some (.int x))(h':ev cl σ e'=some (.int y))(h0:0<y)(h1:y<1073741824):ev cl σ (.dvm e e')=some (.tup [.int (x / y),.int (x%y)]):=by
 rw[ev,h,Option.bind_some,h',Option.bind_some]
 exact if_pos ⟨h0,h1⟩
theorem oq{c c':Cop}{e' e'':E}{x y z:D}{k:Bool}(h:ev cl σ e=some x)(h':ev cl σ e'=some y)(h'':ev cl σ e''=some z)(b1:bc c x y=some true)(b2:bc c' y z=some k):ev cl σ (.chain c c' e e' e'')=some (.bl k):=by rw[ev,h,Option.bind_some,h',Option.bind_some,b1,Option.bind_some,if_pos rfl,h'',Option.bind_some,b2];rfl
theorem yI{c c':Cop}{e' e'':E}{x y:D}(h:ev cl σ e=some x)(h':ev cl σ e'=some y)(b1:bc c x y=some false):ev cl σ (.chain c c' e e' e'')=some (.bl false):=by rw[ev,h,Option.bind_some,h',Option.bind_some,b1];rfl
theorem t6{x:D}{ds:List D}(h:ev cl σ e=some x)(hr:dt (.int 0) x=some ds):ev cl σ (.rng1 e)=some (.lst ds):=by rw[ev,h,Option.bind_some,hr];rfl
theorem kR{e':E}{x y:D}{ds:List D}(h:ev cl σ e=some x)(h':ev cl σ e'=some y)(hr:dt x y=some ds):ev cl σ (.rng2 e e')=some (.lst ds):=by rw[ev,h,Option.bind_some,h',Option.bind_some,hr];rfl
theorem de{es:Es}{ds:List D}(h:evs cl σ es=some ds):ev cl σ (.lst es)=some (.lst ds):=by rw[ev,h];rfl
theorem gU{es:Es}{ds:List D}(h:evs cl σ es=some ds):ev cl σ (.tup es)=some (.tup ds):=by rw[ev,h];rfl
theorem cU{e':E}(h:ev cl σ e=some (.bl true))(h':ev cl σ e'=some d):ev cl σ (.and e e')=some d:=by rw[ev,h];exact h'
theorem i8{e':E}(h:ev cl σ e=some (.bl false)):ev cl σ (.and e e')=some (.bl false):=by rw[ev,h];rfl
theorem fQ{e':E}(h:ev cl σ e=some (.bl false))(h':ev cl σ e'=some d):ev cl σ (.or e e')=some d:=by rw[ev,h];exact h'
theorem uw{e':E}(h:ev cl σ e=some (.bl true)):ev cl σ (.or e e')=some (.bl true):=by rw[ev,h];rfl
theorem EX{k:Bool}(h:(ev cl σ e).bind truth=some k):ev cl σ (.not e)=some (.bl (!k)):=by rw[ev,h];rfl
theorem dM{k:Bool}(h:ev cl σ e=some (.bl k)):ev cl σ (.not e)=some (.bl (!k)):=EX (by rw[h];rfl)
theorem jf{t e':E}{k:Bool}(h:(ev cl σ t).bind truth=some k)(h':ev cl σ (if k then e else e')=some d):ev cl σ (.ifx t e e')=some d:=by
 rw[ev,h];cases k<;>exact h'
theorem aE{k:Bool}(h:ev cl σ e=some (.bl k)):(ev cl σ e).bind truth=some k:=by rw[h];rfl
theorem dE{tg:List Nat}{it:It}{ds ys:List D}(h:bA cl σ it=some ds)(hf:ds.length<=most)(hm:bX (fun σ1=>(ev cl σ1 e).map some) tg σ ds=some ys):ev cl σ (.compA e tg it)=some (.lst ys):=by
 rw[ev,h,Option.bind_some,fits,if_pos hf,Option.bind_some,hm];rfl
theorem w4{tg:List Nat}{it:It}{ds ys:List D}(h:bA cl σ it=some ds)(hf:ds.length<=most)(hm:bX (fun σ1=>((ev cl σ1 t).bind truth).bind fun k=>if k then(ev cl σ1 e).map some else some none) tg σ ds=some ys):ev cl σ (.comp e tg it t)=some (.lst ys):=by
 rw[ev,h,Option.bind_some,fits,if_pos hf,Option.bind_some,hm];rfl
theorem gK{x:D}{ds:List D}(h:ev cl σ e=some x)(hr:dt (.int 0) x=some ds):bA cl σ (.rng1 e)=some ds:=by rw[bA,h];exact hr
theorem vw{c:Int}{e':E}{x y:D}{ds:List D}(h:ev cl σ e=some x)(h':ev cl σ e'=some y)(hr:eC c x y=some ds):bA cl σ (.rng3 c e e')=some ds:=by rw[bA,h,Option.bind_some,h'];exact hr
theorem dC{x:D}{ds:List D}(h:ev cl σ e=some x)(hr:items x=some ds):bA cl σ (.seq e)=some ds:=by rw[bA,h];exact hr
theorem F7{x:D}{n k:Bool}(hk:(match x with | .non=>some (D.bl (!n)) | .dK _ _=>none | .dT _ _=>none | _=>some (.bl n))=some (D.bl k))(h:ev cl σ e=some x):ev cl σ (.isN n e)=some (.bl k):=by rw[ev,h];exact hk
theorem mz{x:D}{ds:List D}(h:ev cl σ e=some x)(hr:eB x=some ds):bA cl σ (.enm e)=some (cG 0 ds):=by rw[bA,h,Option.bind_some,hr];rfl
end
theorem Du{f:St->Option (Out × St)}{tg:List Nat}{σ:St}:aZ f tg [] σ=some (.nx,σ):=rfl
theorem sN{f:St->Option (Out × St)}{tg:List Nat}{d:D}{r:List D}{σ σ1 σ2:St}{res:Option (Out × St)}(im:d.imm=true)(hb:aM tg d σ=some σ1)(h:f σ1=some (.nx,σ2))(k:aZ f tg r σ2=res):aZ f tg (d::r) σ=res:=by
 rw[aZ,if_pos im,hb,Option.bind_some,h];exact k
theorem aC{cl:Cl}{fn:Fn}{ds:List D}{d:D}{σ':St}(hl:ds.length=fn.ps)(hm:fn.mp=[])(h:ah cl fn.M fn.body (ds.map some++List.replicate (fn.nn-fn.ps) none)=some (.rt d,σ')):evF cl fn ds=some d:=by
 unfold evF
 rw[if_pos hl,h]
 show aT fn d σ'=_
 unfold aT
 rw[hm]
 rfl
theorem pV{cl:Cl}{fn:Fn}{ds:List D}{σ':St}(hl:ds.length=fn.ps)(hm:fn.mp=[])(h:ah cl fn.M fn.body (ds.map some++List.replicate (fn.nn-fn.ps) none)=some (.nx,σ')):evF cl fn ds=some .non:=by
 unfold evF
 rw[if_pos hl,h]
 show aT fn .non σ'=_
 unfold aT
 rw[hm]
 rfl
end RL
namespace RM
open RL RT
noncomputable def LI(xs:List Int):List D:=xs.map D.int
theorem wq(xs:List Int):(LI xs).length=xs.length:=by simp[LI]
theorem uX:∀ xs:List Int,au (LI xs)=true
 | []=>rfl
 | x::xs=>by
  show((D.int x).imm&&au (LI xs))=true
  rw[uX xs];rfl
section
variable{cl:Cl}
theorem mod_lt{a b:Int}(h:0<b):0<=a%b/\a%b<b:=⟨Int.emod_nonneg _ (by lia),Int.emod_lt_of_pos _ h⟩
theorem Av(s:Int):∃ m:Int,evF cl jU [.int s]=some (.int m):=by
 have a1:=mod_lt (a:=s*48271+11) (b:=2147483647) (by decide)
 generalize h1:(s*48271+11)%2147483647=one at a1
 have a2:=mod_lt (a:=one*one+40692*one+s) (b:=2147483399) (by decide)
 generalize h2:(one*one+40692*one+s)%2147483399=two at a2
 exact⟨_,aC rfl rfl (a7 (d:=.int one) (aj (aj (aj (aa rfl) af (rz (by decide) (by decide))) af aW) af (by rw[dR (by decide),h1])) rfl
  (a7 (d:=.int two) (aj (aj (aj (aj (aa rfl) (aa rfl) (bG (by lia) (by lia))) (aj af (aa rfl) (bG (by decide) (by decide))) aW) (aa rfl) aW) af (by rw[dR (by decide),h2])) rfl
  (a9 (aj (aj (aj (aj (aa rfl) (aa rfl) (bG (by omega) (by omega))) (aj af (aa rfl) (bG (by decide) (by decide))) aW) (aa rfl) aW) af (dR (by decide))) rfl)))⟩
theorem Be{f:Nat}(h:∀ s:Int,∃ m:Int,cl f [.int s]=some (.int m)){ns:List Int}(hl:ns.length<=63){k:Nat}(hk:k<=1000):∃ r:Int,evF cl (ky f) [.lst (LI ns),.int k]=some (.int r):=by
 have pw:a8 .pow (.int 10) (.int 18)=some (.int 1000000000000000000):=rfl
 have rest:∀ c:Int,∃ r σ',ah cl [] (.cons (.asg 3 (.cst (.int 0))) (.cons (.forr [4] (.rng1 (.cst (.int 40))) (iR f)) (.cons (.ret (.var 3)) .nil))) [some (.lst (LI ns)),some (.int k),some (.int c),none,none]=some (.rt (.int r),σ'):=by
  intro c
  have hr:dt (.int 0) (.int 40)=some (L (List.range' 0 40)):=congrArg some (lW 0 40)
  obtain⟨σ',e,r,o,rfl⟩:=cH (f:=ah cl [] (iR f)) (tg:=[4]) (xs:=List.range' 0 40) (σ:=[some (.lst (LI ns)),some (.int k),some (.int c),some (.int 0),none])
   (fun p σ=>∃ (r:Int) (o:Option D),σ=[some (.lst (LI ns)),some (.int k),some (.int c),some (.int r),o]) ⟨0,none,rfl⟩ (by
    rintro p x q σ hx ⟨r,o,rfl⟩
    obtain⟨m,hm⟩:=h (c+1009*k+7919*x)
    exact⟨_,a7 (aj (aj (aa rfl) af (rz (by decide) (by decide))) (bj (aj (aj (aa rfl) (aj af (aa rfl) (bG (by decide) (by decide))) aW) (aj af (aa rfl) (bG (by decide) (by decide))) aW) hm) aW) rfl aG,_,_,rfl⟩)
  exact⟨r,_,a7 af rfl (cz (gK af hr) e (a9 (aa rfl) rfl))⟩
 have len:biV .len (.lst (LI ns))=some (.int ns.length):=congrArg (fun n:Nat=>some (D.int n)) (wq ns)
 have first:ev cl [some (.lst (LI ns)),some (.int k),none,none,none] (.bin .add (.bin .mul (.cst (.int 7)) (.var 1)) (.cst (.int 3)))=some (.int (7*k+3)):=aj (aj af (aa rfl) (bG (by decide) (by decide))) af aW
 by_cases h0:0<ns.length
 ·have hmod:=mod_lt (a:=(k:Int)) (b:=(ns.length:Int)) (by lia)
  obtain⟨j,hj⟩:=Int.eq_ofNat_of_zero_le hmod.1
  have hjl:j<ns.length:=by lia
  have ix:ixV (.lst (LI ns)) (.int ((k:Int)%ns.length))=some (.int ns[j]):=by
   show cj (LI ns) _=_
   rw[hj,dA]
   simp[LI,hjl]
  obtain⟨r,σ',hr⟩:=rest (ns[j]+9973*((k:Int) / ns.length))
  generalize hc:ns[j]+9973*((k:Int) / ns.length)=cell at hr
  have cel:∀ {r':Ss} {res:Option (Out × St)},ah cl [] r' [some (.lst (LI ns)),some (.int k),some (.int cell),none,none]=res->ah cl [] (.cons (.asg 2 (.bin .add (.bin .mul (.cst (.int 7)) (.var 1)) (.cst (.int 3)))) (.cons (.ife (.cmp .gt (.bi .len (.var 0)) (.cst (.int 0))) (.cons (.asg 2 (.bin .add (.ix (.var 0) (.bin .mod (.var 1) (.bi .len (.var 0)))) (.bin .mul (.cst (.int 9973)) (.bin .fdiv (.var 1) (.bi .len (.var 0)))))) .nil) .nil) r')) [some (.lst (LI ns)),some (.int k),none,none,none]=res:=fun z =>
   a7 first rfl (eE (aE (a5 (bo (aa rfl) len) af (by rw[jJ,decide_eq_true (by lia)]))) (a7 (d:=.int cell) (aj (bp (aa rfl) (aj (aa rfl) (bo (aa rfl) len) (dR (by lia))) ix) (aj af (aj (aa rfl) (bo (aa rfl) len) (gR (by lia) (by lia))) (bG (by decide) (by decide))) (by rw[aW,hc])) rfl aG) z)
  by_cases h1:k<ns.length
  ·have c1:bc .lt (.int (k:Nat)) (.int (ns.length:Nat))=some true:=by rw[cS,decide_eq_true (by lia)]
   by_cases h2:(1000000000000000000:Int)<=cell
   ·exact⟨_,aC rfl rfl (cel (bN (aE (cU (a5 (aa rfl) (bo (aa rfl) len) c1) (a5 (aa rfl) (aj af af pw) (by rw[jN,decide_eq_true h2])))) (a9 (aj (aa rfl) (aj af af pw) br) rfl)))⟩
   ·exact⟨r,aC rfl rfl (cel (bf (aE (cU (a5 (aa rfl) (bo (aa rfl) len) c1) (a5 (aa rfl) (aj af af pw) (by rw[jN,decide_eq_false h2])))) hr))⟩
  ·exact⟨r,aC rfl rfl (cel (bf (aE (i8 (a5 (aa rfl) (bo (aa rfl) len) (by rw[cS,decide_eq_false (by lia)])))) hr))⟩
 ·obtain⟨r,σ',hr⟩:=rest (7*k+3)
  exact⟨r,aC rfl rfl (a7 first rfl (bf (aE (a5 (bo (aa rfl) len) af (by rw[jJ,decide_eq_false (by lia)]))) (bf (aE (i8 (a5 (aa rfl) (bo (aa rfl) len) (by rw[cS,decide_eq_false (by lia)])))) hr)))⟩
end
section
variable{cl:Cl}
noncomputable def jI(ds sizes:List Nat):Prop:=ds.length=sizes.length/\∀ (i d s:Nat),ds[i]?=some d->sizes[i]?=some s->d<s
theorem jI.snoc{ds sizes:List Nat}{d s:Nat}(h:jI ds sizes)(hd:d<s):jI (ds++[d]) (sizes++[s]):=by
 refine⟨by simp[h.1],fun i x y h1 h2=>?_⟩
 by_cases hi:i<ds.length
 ·rw[List.getElem?_append_left hi]at h1
  rw[List.getElem?_append_left (by rw[<-h.1];exact hi)]at h2
  exact h.2 i x y h1 h2
 ·rw[List.getElem?_append_right (by lia)]at h1
  rw[List.getElem?_append_right (by rw[<-h.1];lia)]at h2
  rw[h.1]at h1
  cases hk:i-sizes.length with
  | zero=>rw[hk]at h1 h2;simp at h1 h2;lia
  | succ k=>rw[hk]at h1;simp at h1
theorem uJ{f:Nat}{scr:D}{k:Nat}{sizes:List Nat}{r:Int}(h:cl f [scr,.int k]=some (.int r))(hp:∀ s∈sizes,0<s/\s<2 ^ 200)(hlen:sizes.length<=1000):∃ ds:List Nat,jI ds sizes/\evF cl (eA f) [scr,.int k,.lst (L sizes)]=some (.lst (L ds)):=by
 obtain⟨σ',e,r',ds,o,hds,rfl⟩:=cH (f:=ah cl [4] (fO f)) (tg:=[5]) (xs:=sizes) (σ:=[some scr,some (.int k),some (.lst (L sizes)),some (.int r),some (.lst []),none])
  (fun p σ=>∃ (r:Int) (ds:List Nat) (o:Option D),jI ds p/\σ=[some scr,some (.int k),some (.lst (L sizes)),some (.int r),some (.lst (L ds)),o]) ⟨r,[],none,⟨rfl,by simp⟩,rfl⟩ (by
   rintro p x q σ hx ⟨r,ds,o,hds,rfl⟩
   have hx0:=hp x (by rw[hx];simp)
   have hpl:p.length<1000:=by
    have:=congrArg List.length hx
    simp at this
    lia
   have hx1:(0:Int)<x:=by lia
   have hx2:(x:Int)<2 ^ 200:=by
    have:=hx0.2
    lia
   obtain⟨d,hd⟩:=Int.eq_ofNat_of_zero_le (Int.emod_nonneg r (show(x:Int)≠0 by lia))
   have hdx:d<x:=by
    have:=Int.emod_lt_of_pos r hx1
    lia
   refine⟨[some scr,some (.int k),some (.lst (L sizes)),some (.int (r / x)),some (.lst (L (ds++[d]))),some (.int x)],?_,_,_,_,hds.snoc hdx,rfl⟩
   have hl:(L ds).length<most:=by
    rw[aL,hds.1]
    unfold most
    lia
   simp[aM,fO,ah,evS,ev,dR hx1,gR hx1 hx2,hd,D.imm,hl,aU,cD]
   rfl)
 refine⟨ds,hds,?_⟩
 simp[evF,eA,ah,evS,ev,evs,bA,items,h,aU,D.imm,aJ,au]
 simp[e,ev,aV,aJ,aY,aT]
end
section
variable{cl:Cl}
theorem vX(xs:List Nat)(n:Nat):(L xs).take n=L (xs.take n):=by simp[L]
end
section
variable{n:Nat}{f:List Nat}{l:Nat}
end
noncomputable def dpf:Nat->List Bool->Option Nat
 | d,[]=>some d
 | d,true::r=>dpf (d+1) r
 | 0,false::_=>none
 | d+1,false::r=>dpf d r
theorem eQ(b:Bool):∀ (w:List Bool) (d:Nat),dpf d (w++[b])=(dpf d w).bind fun e=>dpf e [b]
 | [],d=>rfl
 | true::r,d=>by simpa[dpf]using eQ b r (d+1)
 | false::r,0=>rfl
 | false::r,d+1=>by simpa[dpf]using eQ b r d
noncomputable def sg(b:Bool):Nat:=if b then 40 else 41
noncomputable def tx(w:List Bool):PySem.Str:=⟨(w.map sg).toArray⟩
theorem qv(w:List Bool):(tx w).length=w.length:=by simp[tx,PySem.Str.length]
theorem DE(w v:List Bool):tx w++tx v=tx (w++v):=by
 show PySem.Str.mk _=_
 simp[tx]
theorem Eb:(PySem.Str.ofString "")=tx []:=by decide +kernel
theorem um:(PySem.Str.ofString "(")=tx [true]:=by decide +kernel
theorem FC:(PySem.Str.ofString ")")=tx [false]:=by decide +kernel
theorem kg:∀ (k a:Nat),k<=a->bK (-1) (a:Int) k=L ((List.range k).map fun i=>a-i)
 | 0,_,_=>rfl
 | k+1,a,h=>by
  rw[bK,List.range_succ_eq_map]
  have:=kg k (a-1) (by lia)
  have e:(a:Int)+-1=((a-1:Nat):Int):=by lia
  rw[e,this]
  simp[L]
  intro i hi
  lia
theorem cF{k:Nat}{g:Nat->Nat}{p q:List Nat}{x:Nat}(h:(List.range k).map g=p++x::q):p.length<k/\x=g p.length:=by
 have l:((List.range k).map g).length=(p++x::q).length:=by rw[h]
 have e:((List.range k).map g)[p.length]?=(p++x::q)[p.length]?:=by rw[h]
 simp at l e
 obtain⟨y,hy,e⟩:=e
 refine⟨by lia,?_⟩
 rw[List.getElem?_range (by lia)]at hy
 cases hy
 exact e.symm
theorem wX{w v:List Bool}(h:w.length+v.length<=most):a8 .add (.str (tx w)) (.str (tx v))=some (.str (tx (w++v))):=by
 dsimp only[a8]
 rw[qv,qv,if_pos h,DE]
theorem yE{r:Int}{n:Nat}(hn:n<=10):∃ w:List Bool,w.length=2*n/\dpf 0 w=some 0/\evF cl jg [.int r,.int n]=some (.str (tx w)):=by
 have e1:a8 .mul (.int 2) (.int n)=some (.int (2*n)):=bG (by decide) (by decide)
 have e2:eC (-1) (.int (2*(n:Int))) (.int 0)=some (L ((List.range (2*n)).map fun i=>2*n-i)):=by
  have hN:b8 (-1) (2*(n:Int)) 0=2*n:=by
   unfold b8
   rw[show(- -1:Int)=1 from rfl,Int.ediv_one,if_neg (by decide)]
   split<;>lia
  dsimp only[eC]
  rw[hN]
  rw[if_pos ⟨by decide,by decide,by decide,by unfold most;lia,by lia,by lia,by lia,by lia⟩]
  have:=kg (2*n) (2*n) (Nat.le_refl _)
  rw[<-this]
  rfl
 obtain⟨σ',e,I⟩:=cH (f:=ah cl [] fq) (tg:=[4]) (xs:=(List.range (2*n)).map fun i=>2*n-i) (σ:=[some (.int r),some (.int n),some (.str (tx [])),some (.int 0),none,none,none])
  (fun p σ=>∃ (r:Int) (w:List Bool) (d:Nat) (o4 o5 o6:Option D),σ=[some (.int r),some (.int n),some (.str (tx w)),some (.int d),o4,o5,o6]/\w.length=p.length/\dpf 0 w=some d/\d+p.length<=2*n/\(d+p.length)%2=0) ⟨r,[],0,none,none,none,rfl,rfl,rfl,by simp,rfl⟩ (by
   rintro p x q σ hx ⟨r,w,d,o4,o5,o6,rfl,hw,hd,hl,hp⟩
   obtain⟨h1,h2⟩:=cF hx
   have m1:a8 .fdiv (.int r) (.int 2)=some (.int (r / 2)):=gR (by decide) (by decide)
   have m2:a8 .mod (.int r) (.int 2)=some (.int (r%2)):=dR (by decide)
   generalize hr:r%2=st at m2
   have tx1:ixV (.lst [.str (PySem.Str.ofString ")"),.str (PySem.Str.ofString "(")]) (.int 1)=some (.str (tx [true])):=by rw[um];rfl
   have tx0:ixV (.lst [.str (PySem.Str.ofString ")"),.str (PySem.Str.ofString "(")]) (.int 0)=some (.str (tx [false])):=by rw[FC];rfl
   by_cases up:d=0\/(d<x/\st=1)
   ·have ee:ev cl [some (.int (r / 2)),some (.int n),some (.str (tx w)),some (.int d),some (.int x),o5,some (.int st)] (.or (.cmp .eq (.var 3) (.cst (.int 0))) (.and (.cmp .lt (.var 3) (.var 4)) (.cmp .eq (.var 6) (.cst (.int 1)))))=some (.bl true):=by
     by_cases h0:d=0
     ·subst h0
      exact uw (a5 (aa rfl) af rfl)
     ·have g:d<x/\st=1:=by lia
      have hb:((d:Int) == 0)=false:=beq_eq_false_iff_ne.mpr (by lia)
      exact fQ (a5 (aa rfl) af (by rw[bW,hb])) (cU (a5 (aa rfl) (aa rfl) (by rw[cS,decide_eq_true (by lia)])) (a5 (aa rfl) af (by rw[bW,g.2];rfl)))
    exact⟨_,show ah cl [] fq [some (.int r),some (.int n),some (.str (tx w)),some (.int d),some (.int x),o5,o6]=some (.nx,_)from mm (aj (aa rfl) af m1) (aj (aa rfl) af m2) rfl (a7 ee rfl (a7 (aj (aa rfl) (bp (de (aB af (aB af b9))) (bo (aa rfl) rfl) tx1) (wX (by simp[most];lia))) rfl (a7 (d:=.int ((d+1:Nat):Int)) (aj (aa rfl) (bp (de (aB (uP af) (aB af b9))) (bo (aa rfl) rfl) rfl) rfl) rfl aG))),
     r / 2,w++[true],d+1,_,_,_,rfl,by simp[hw],by rw[eQ,hd];rfl,by simp;omega,by simp;lia⟩
   ·have hd0:0<d:=by lia
    have ee:ev cl [some (.int (r / 2)),some (.int n),some (.str (tx w)),some (.int d),some (.int x),o5,some (.int st)] (.or (.cmp .eq (.var 3) (.cst (.int 0))) (.and (.cmp .lt (.var 3) (.var 4)) (.cmp .eq (.var 6) (.cst (.int 1)))))=some (.bl false):=by
     have hb:((d:Int) == 0)=false:=beq_eq_false_iff_ne.mpr (by lia)
     refine fQ (a5 (aa rfl) af (by rw[bW,hb])) ?_
     by_cases hx:d<x
     ·have h1:(st == 1)=false:=beq_eq_false_iff_ne.mpr (by lia)
      exact cU (a5 (aa rfl) (aa rfl) (by rw[cS,decide_eq_true (by lia)])) (a5 (aa rfl) af (by rw[bW,h1]))
     ·exact i8 (a5 (aa rfl) (aa rfl) (by rw[cS,decide_eq_false (by lia)]))
    have es:a8 .add (.int (d:Nat)) (.int (-1))=some (.int ((d-1:Nat):Int)):=by rw[aW];congr 2;lia
    exact⟨_,show ah cl [] fq [some (.int r),some (.int n),some (.str (tx w)),some (.int d),some (.int x),o5,o6]=some (.nx,_)from mm (aj (aa rfl) af m1) (aj (aa rfl) af m2) rfl (a7 ee rfl (a7 (aj (aa rfl) (bp (de (aB af (aB af b9))) (bo (aa rfl) rfl) tx0) (wX (by simp[most];lia))) rfl (a7 (aj (aa rfl) (bp (de (aB (uP af) (aB af b9))) (bo (aa rfl) rfl) rfl) es) rfl aG))),
     r / 2,w++[false],d-1,_,_,_,rfl,by simp[hw],by rw[eQ,hd];obtain⟨e,rfl⟩:∃ e,d=e+1:=⟨d-1,by lia⟩;rfl,by simp;lia,by simp;lia⟩)
 obtain⟨r',w,d,o4,o5,o6,rfl,hw,hd,hl,hp⟩:=I
 simp at hw hl
 have:d=0:=by lia
 subst this
 refine⟨w,hw,hd,?_⟩
 rw[<-Eb]at e
 exact aC rfl rfl (a7 af rfl (a7 af rfl (cz (vw (aj af (aa rfl) e1) af e2) e (a9 (aa rfl) rfl))))
noncomputable def rd(n q:Nat):Nat:=if q<n then q else 3*n-1-q
theorem bg{n q:Nat}(h:q<2*n):rd n q<2*n:=by unfold rd;split<;>omega
theorem bS{n q:Nat}(h:q<2*n):rd n (rd n q)=q:=by
 unfold rd
 by_cases e:q<n
 ·rw[if_pos e,if_pos e]
 ·rw[if_neg e,if_neg (by omega)]
  lia
theorem iG{n p q:Nat}(hp:p<2*n)(hq:q<2*n)(h:rd n p=rd n q):p=q:=by rw[<-bS hp,h,bS hq]
noncomputable def rnd(n:Nat)(f:List Nat)(q:Nat):Nat:=rd n (at' f (rd n q))
structure Val(n:Nat)(f:List Nat):Prop where
 frm:Frm n f
 nox:∀ q q',q<2*n->q'<2*n->¬ (q<q'/\q'<rnd n f q/\rnd n f q<rnd n f q')
structure Mt(n k:Nat)(f S:List Nat):Prop where
 len:f.length=2*n
 kn:k<=2*n
 up:S.Pairwise (·<·)
 lt:∀ s∈S,s<k
 ok:∀ q,q<k->q∉S->rnd n f q<k/\rnd n f q∉S/\rnd n f q≠q/\rnd n f (rnd n f q)=q
 bt:∀ q s,q<k->q∉S->s∈S->¬ (q<s/\s<rnd n f q)
 nox:∀ q q',q<k->q'<k->q∉S->q'∉S->¬ (q<q'/\q'<rnd n f q/\rnd n f q<rnd n f q')
theorem Mt.push{n k:Nat}{f S:List Nat}(m:Mt n k f S)(hk:k<2*n):Mt n (k+1) f (S++[k]):=by
 have nk:∀ q,q<k+1->q∉S++[k]->q<k/\q∉S:=by
  intro q h1 h2
  simp at h2
  exact⟨by lia,h2.1⟩
 refine⟨m.len,by lia,?_,?_,?_,?_,?_⟩
 ·rw[List.pairwise_append]
  exact⟨m.up,by simp,fun a ha b hb=>by simp at hb;have:=m.lt a ha;lia⟩
 ·intro s hs
  simp at hs
  rcases hs with h | h
  ·have:=m.lt s h;lia
  ·lia
 ·intro q h1 h2
  obtain⟨a,b⟩:=nk q h1 h2
  obtain⟨c1,c2,c3,c4⟩:=m.ok q a b
  exact⟨by lia,by simp;exact⟨c2,by lia⟩,c3,c4⟩
 ·intro q s h1 h2 hs
  obtain⟨a,b⟩:=nk q h1 h2
  simp at hs
  rcases hs with h | h
  ·exact m.bt q s a b h
  ·have:=(m.ok q a b).1;lia
 ·intro q q' h1 h2 h3 h4
  obtain⟨a,b⟩:=nk q h1 h3
  obtain⟨a',b'⟩:=nk q' h2 h4
  exact m.nox q q' a a' b b'
theorem Ba{n k m:Nat}{f:List Nat}(hl:f.length=2*n)(hk:k<2*n)(hm:m<2*n){q:Nat}(hq:q<2*n):rnd n ((f.set (rd n m) (rd n k)).set (rd n k) (rd n m)) q=if q=k then m else if q=m then k else rnd n f q:=by
 have l1:=bg hk
 have l2:=bg hm
 unfold rnd
 rw[eM (by simp;lia),eM (by lia)]
 by_cases h1:q=k
 ·subst h1
  rw[if_pos rfl,if_pos rfl,bS hm]
 ·rw[if_neg (fun h=>h1 (iG hq hk h)),if_neg h1]
  by_cases h2:q=m
  ·subst h2
   rw[if_pos rfl,if_pos rfl,bS hk]
  ·rw[if_neg (fun h=>h2 (iG hq hm h)),if_neg h2]
theorem Mt.pop{n k m:Nat}{f S:List Nat}(h:Mt n k f (S++[m]))(hk:k<2*n):Mt n (k+1) ((f.set (rd n m) (rd n k)).set (rd n k) (rd n m)) S:=by
 have hmk:m<k:=h.lt m (by simp)
 have hm:m<2*n:=by lia
 have P:=fun q hq=>Ba (f:=f) h.len hk hm (q:=q) hq
 have up:=List.pairwise_append.mp h.up
 have hmS:∀ s∈S,s<m:=fun s hs=>up.2.2 s hs m (by simp)
 have kS:k∉S:=fun c=>by have:=hmS k c;lia
 have mS:m∉S:=fun c=>by have:=hmS m c;lia
 have cs:∀ q,q<k+1->q∉S->q=k\/q=m\/(q≠k/\q≠m/\q<k/\q∉S++[m]):=by
  intro q h1 h2
  by_cases e1:q=k
  ·exact .inl e1
  ·by_cases e2:q=m
   ·exact .inr (.inl e2)
   ·exact .inr (.inr ⟨e1,e2,by lia,by simp;exact⟨h2,e2⟩⟩)
 have old:∀ q,q<k->q∉S++[m]->rnd n f q<k/\rnd n f q∉S/\rnd n f q≠m/\rnd n f q≠q/\rnd n f (rnd n f q)=q:=by
  intro q h1 h2
  obtain⟨c1,c2,c3,c4⟩:=h.ok q h1 h2
  simp at c2
  exact⟨c1,c2.1,c2.2,c3,c4⟩
 refine⟨by simp[h.len],by lia,up.1,fun s hs=>by have:=hmS s hs;lia,?_,?_,?_⟩
 ·intro q h1 h2
  rcases cs q h1 h2 with rfl | rfl | ⟨e1,e2,e3,e4⟩
  ·rw[P q hk,if_pos rfl,P m hm,if_neg (by lia),if_pos rfl]
   exact⟨by lia,mS,by lia,rfl⟩
  ·rw[P q hm,if_neg (by lia),if_pos rfl,P k hk,if_pos rfl]
   exact⟨by lia,kS,by lia,rfl⟩
  ·obtain⟨c1,c2,c3,c4,c5⟩:=old q e3 e4
   rw[P q (by lia),if_neg e1,if_neg e2,P _ (by lia),if_neg (by lia),if_neg c3]
   exact⟨by lia,c2,c4,c5⟩
 ·intro q s h1 h2 hs
  have:=hmS s hs
  rcases cs q h1 h2 with rfl | rfl | ⟨e1,e2,e3,e4⟩
  ·lia
  ·lia
  ·rw[P q (by lia),if_neg e1,if_neg e2]
   exact h.bt q s e3 e4 (by simp[hs])
 ·intro q q' h1 h2 h3 h4
  rcases cs q h1 h3 with rfl | rfl | ⟨e1,e2,e3,e4⟩
  ·lia
  ·rw[P q hm,if_neg (by lia),if_pos rfl]
   rcases cs q' h2 h4 with rfl | rfl | ⟨d1,d2,d3,d4⟩
   ·lia
   ·lia
   ·rw[P q' (by lia),if_neg d1,if_neg d2]
    have:=(old q' d3 d4).1
    lia
  ·rw[P q (by lia),if_neg e1,if_neg e2]
   have a:=(old q e3 e4).1
   rcases cs q' h2 h4 with rfl | rfl | ⟨d1,d2,d3,d4⟩
   ·lia
   ·have:=h.bt q q' e3 e4 (by simp)
    lia
   ·rw[P q' (by lia),if_neg d1,if_neg d2]
    exact h.nox q q' e3 d3 e4 d4
theorem Mt.val{n:Nat}{f:List Nat}(h:Mt n (2*n) f [])(hlt:∀ x,x<2*n->at' f x<2*n):Val n f:=by
 refine⟨⟨h.len,hlt,?_,?_⟩,fun q q' h1 h2=>h.nox q q' h1 h2 (by simp) (by simp)⟩
 ·intro x
  by_cases hx:x<2*n
  ·have a:=(h.ok (rd n x) (bg hx) (by simp)).2.2.2
   unfold rnd at a
   rw[bS hx,bS (hlt x hx)]at a
   exact iG (hlt _ (hlt x hx)) hx a
  ·have e:at' f x=x:=dH (by rw[h.len];lia)
   rw[e,e]
 ·intro x hx e
  have a:=(h.ok (rd n x) (bg hx) (by simp)).2.2.1
  unfold rnd at a
  rw[bS hx,e]at a
  exact a rfl
theorem vD{β:Type}{f:St->Option (Out × St)}{tg:List Nat}(g:β->D)(im:∀ b,(g b).imm=true)(I:List β->St->Prop):∀ (w done:List β) (σ:St),(∀ u b v σ,done++w=u++b::v->I u σ->∃ σ2,(aM tg (.tup [.int u.length,g b]) σ).bind f=some (.nx,σ2)/\I (u++[b]) σ2)->I done σ->∃ σ',aZ f tg (cG done.length (w.map g)) σ=some (.nx,σ')/\I (done++w) σ'
 | [],done,σ,_,h=>⟨σ,rfl,by simpa using h⟩
 | b::w,done,σ,hs,h=>by
  obtain⟨σ2,h1,h3⟩:=hs done b w σ rfl h
  obtain⟨σ',h4,h5⟩:=vD g im I w (done++[b]) σ2 (fun pre e post σ he=>hs pre e post σ (by simpa using he)) h3
  refine⟨σ',?_,by simpa using h5⟩
  rw[List.map_cons,cG,aZ,if_pos (by simp[D.imm,au,im])]
  rw[show((done++[b]).length:Int)=(done.length:Int)+1 by simp]at h4
  cases hb:aM tg (.tup [.int done.length,g b]) σ with
  | none=>rw[hb]at h1;cases h1
  |some σ1=>
   rw[hb]at h1
   simp only[Option.bind_some]at h1 ⊢
   rw[h1]
   exact h4
noncomputable def c9(n:Nat):List Nat:=(List.range (2*n)).map (rd n)
theorem rL(n:Nat):(c9 n).length=2*n:=by simp[c9]
theorem AL{n:Nat}(h:1<=n):c9 n=List.range' 0 n++(List.range n).map (fun i=>(2*n-1)-i):=by
 unfold c9
 rw[show 2*n=n+n by lia,List.range_add,List.map_append,<-List.range_eq_range',List.map_map]
 congr 1
 ·conv=>rhs;rw[<-List.map_id (List.range n)]
  apply List.map_congr_left
  intro i hi
  simp at hi
  simp[rd,hi]
 ·apply List.map_congr_left
  intro i hi
  simp at hi
  show rd n (n+i)=_
  unfold rd
  rw[if_neg (by lia)]
  lia
theorem A0{a b:Nat}(h:b<=a)(ha:a<=1000):eC (-1) (.int (a:Int)) (.int ((a:Int)-b))=some (L ((List.range b).map fun i=>a-i)):=by
 have hN:b8 (-1) (a:Int) ((a:Int)-b)=b:=by
  unfold b8
  rw[show(- -1:Int)=1 from rfl,Int.ediv_one,if_neg (by decide)]
  split<;>lia
 dsimp only[eC]
 rw[hN]
 rw[if_pos ⟨by decide,by decide,by decide,by unfold most;lia,by lia,by lia,by lia,by lia⟩]
 rw[kg b a h]
theorem ub{n:Nat}(h1:1<=n)(hn:n<=10):evF cl eP [.int n]=some (.lst (L (c9 n))):=by
 have e1:a8 .mul (.int 2) (.int n)=some (.int (2*n)):=bG (by decide) (by decide)
 have e2:=cL (a:=0) (b:=n) (by lia) (by lia)
 rw[Nat.sub_zero]at e2
 simp only[Int.natCast_zero]at e2
 have e3:=A0 (a:=2*n-1) (b:=n) (by lia) (by lia)
 rw[show((2*n-1:Nat):Int)=2*n-1 by lia,show 2*(n:Int)-1-n=n-1 by lia]at e3
 have e4:a8 .add (.lst (L (List.range' 0 n))) (.lst (L ((List.range n).map fun i=>2*n-1-i)))=some (.lst (L (c9 n))):=by
  dsimp only[a8]
  rw[if_pos (by simp[aL,most];lia),AL h1,cD]
 simp[evF,eP,ah,evS,ev,evs,e1,e2,e3,e4,br,aV,D.imm,aJ,aY,aT]
theorem nW{n q:Nat}(h:q<2*n):ixV (.lst (L (c9 n))) (.int (q:Int))=some (.int ((rd n q:Nat):Int)):=by
 show cj _ _=_
 rw[dA,kI]
 simp[c9,h]
theorem gP{f:List Nat}{i j:Nat}(h:i<f.length):du (.lst (L f)) (.int (i:Int)) (.int (j:Int))=some (.lst (L (f.set i j))):=by
 dsimp only[du]
 rw[aL,qK h]
 simp[F6]
theorem iZ(v:List Bool):∀ (w:List Bool) (d:Nat),dpf d (w++v)=(dpf d w).bind fun e=>dpf e v
 | [],d=>rfl
 | true::r,d=>by simpa[dpf]using iZ v r (d+1)
 | false::r,0=>rfl
 | false::r,d+1=>by simpa[dpf]using iZ v r d
theorem pS:∀ (w:List Bool) (d:Nat) {e:Nat},dpf d w=some e->e<=d+w.length
 | [],d,e,h=>by cases h;simp
 | true::r,d,e,h=>by have:=pS r (d+1) h;simp;lia
 | false::r,0,e,h=>nomatch h
 | false::r,d+1,e,h=>by have:=pS r d h;simp;lia
theorem zeros(cl:Cl)(σ:St):∀ xs:List Nat,bX (fun σ1=>(ev cl σ1 (.cst (.int 0))).map some) [7] σ (L xs)=some (L (List.replicate xs.length 0))
 | []=>rfl
 | x::r=>by
  rw[show L (x::r)=.int x::L r from rfl,bX,zeros cl σ r]
  rfl
theorem pA{fc:Nat}{n:Nat}{w:List Bool}(h1:1<=n)(hn:n<=10)(hc:cl fc [.int n]=some (.lst (L (c9 n))))(hw:w.length=2*n)(hd:dpf 0 w=some 0):∃ f:List Nat,Val n f/\evF cl (eg fc) [.str (tx w)]=some (.tup (L f)):=by
 obtain⟨σ',e,I⟩:=vD (f:=ah cl [3,4] (cR fc)) (tg:=[5,6]) (fun b:Bool=>D.str (tx [b])) (fun _=>rfl)
  (fun u σ=>∃ (f S:List Nat) (o5 o6 o8:Option D),σ=[some (.str (tx w)),some (.int n),some (.lst (L (c9 n))),some (.lst (L f)),some (.lst (L (S.map (rd n)))),o5,o6,none,o8]/\dpf 0 u=some S.length/\Mt n u.length f S/\∀ x,x<2*n->at' f x<2*n)
  w [] [some (.str (tx w)),some (.int n),some (.lst (L (c9 n))),some (.lst (L (List.replicate (2*n) 0))),some (.lst (L [])),none,none,none,none] (by
   rintro u b v σ hu ⟨f,S,o5,o6,o8,rfl,hS,m,hlt⟩
   have hk:u.length<2*n:=by
    rw[<-hw]
    have:=congrArg List.length hu
    simp at this
    lia
   have hdb:∃ d,dpf S.length [b]=some d:=by
    have:dpf 0 (u++b::v)=some 0:=by rw[<-hu];exact hd
    rw[iZ,hS]at this
    revert this
    cases b with
    | true=>exact fun _=>⟨_,rfl⟩
    |false=>
     cases S.length with
     | zero=>exact fun h=>nomatch h
     | succ d=>exact fun _=>⟨_,rfl⟩
   cases b with
   |true=>
    refine⟨[some (.str (tx w)),some (.int n),some (.lst (L (c9 n))),some (.lst (L f)),some (.lst (L ((S++[u.length]).map (rd n)))),some (.int u.length),some (.str (tx [true])),none,o8],?_,f,S++[u.length],_,_,_,rfl,?_,by simpa using m.push hk,hlt⟩
    ·have hl:S.length<most:=by have:=pS u 0 hS;unfold most;lia
     have ap:L ((S++[u.length]).map (rd n))=L (S.map (rd n))++[.int ((rd n u.length:Nat):Int)]:=by simp[L]
     rw[ap]
     exact show ah cl [3,4] (cR fc) [some (.str (tx w)),some (.int n),some (.lst (L (c9 n))),some (.lst (L f)),some (.lst (L (S.map (rd n)))),some (.int u.length),some (.str (tx [true])),none,o8]=some (.nx,_)from eE (aE (a5 (k:=true) (aa rfl) af (by rw[um];decide))) (qW (bp (aa rfl) (aa rfl) (nW hk)) rfl rfl (by rw[aL,List.length_map];exact hl) aG) aG
    ·rw[eQ,hS]
     simp[dpf]
   |false=>
    obtain⟨d,hdb⟩:=hdb
    have hS0:S≠[]:=by
     rintro rfl
     simp[dpf]at hdb
    obtain⟨S0,m0,rfl⟩:∃ S0 m0,S=S0++[m0]:=⟨S.dropLast,S.getLast hS0,(List.dropLast_concat_getLast hS0).symm⟩
    have hm0:m0<u.length:=m.lt m0 (by simp)
    have c:=nW hk
    have p1:=gP (f:=f) (i:=rd n m0) (j:=rd n u.length) (by rw[m.len];exact bg (by lia))
    have p2:=gP (f:=f.set (rd n m0) (rd n u.length)) (i:=rd n u.length) (j:=rd n m0) (by rw[List.length_set,m.len];exact bg (by lia))
    refine⟨[some (.str (tx w)),some (.int n),some (.lst (L (c9 n))),some (.lst (L ((f.set (rd n m0) (rd n u.length)).set (rd n u.length) (rd n m0)))),some (.lst (L (S0.map (rd n)))),some (.int u.length),some (.str (tx [false])),none,some (.int ((rd n m0:Nat):Int))],?_,_,S0,_,_,_,rfl,?_,by simpa using m.pop hk,?_⟩
    ·have ap:L ((S0++[m0]).map (rd n))=L (S0.map (rd n))++[.int ((rd n m0:Nat):Int)]:=by simp[L]
     rw[ap]
     exact show ah cl [3,4] (cR fc) [some (.str (tx w)),some (.int n),some (.lst (L (c9 n))),some (.lst (L f)),some (.lst (L (S0.map (rd n))++[.int ((rd n m0:Nat):Int)])),some (.int u.length),some (.str (tx [false])),none,o8]=some (.nx,_)from jF (aE (a5 (k:=false) (aa rfl) af (by rw[um];decide))) (Eo rfl (jT (bp (aa rfl) (aa rfl) c) (aa rfl) rfl rfl p1 (jT (aa rfl) (bp (aa rfl) (aa rfl) c) rfl rfl p2 aG))) aG
    ·rw[eQ,hS]
     simp[dpf]
    ·intro x hx
     rw[eM (by simp[m.len];exact bg (by lia)),eM (by rw[m.len];exact bg (by lia))]
     have:=bg (n:=n) (q:=m0) (by lia)
     have:=bg (n:=n) (q:=u.length) (by lia)
     have:=hlt x hx
     repeat' split
     all_goals lia)
  ⟨List.replicate (2*n) 0,[],none,none,none,rfl,rfl,⟨by simp,by simp,by simp,by simp,by simp,by simp,by simp⟩,fun x hx=>by simp[at',hx];lia⟩
 obtain⟨f,S,o5,o6,o8,rfl,hS,m,hlt⟩:=I
 simp only[List.nil_append]at hS m
 rw[hd]at hS
 have hS0:S=[]:=List.eq_nil_of_length_eq_zero (by simpa using hS.symm)
 subst hS0
 rw[hw]at m
 refine⟨f,m.val hlt,?_⟩
 have len:biV .len (.str (tx w))=some (.int ((2*n:Nat):Int)):=by
  dsimp only[biV]
  rw[qv,hw,if_pos (by unfold most;lia)]
 have dv:a8 .fdiv (.int ((2*n:Nat):Int)) (.int 2)=some (.int (n:Nat)):=by
  rw[gR (by decide) (by decide)]
  congr 2
  lia
 have it:eB (.str (tx w))=some (w.map fun b=>D.str (tx [b])):=by
  simp[eB,tx,Function.comp_def]
 have z:=zeros cl [some (.str (tx w)),some (.int n),some (.lst (L (c9 n))),none,none,none,none,none,none] (c9 n)
 rw[rL]at z
 exact aC rfl rfl (a7 (aj (bo (aa rfl) len) af dv) rfl (a7 (bj (aa rfl) hc) (by unfold aU;rw[show aJ (.lst (L (c9 n)))=true from aY _];rfl) (gC (dE (dC (aa rfl) rfl) (by rw[aL,rL];unfold most;lia) z) (by rw[show aJ (.lst (L (List.replicate (2*n) 0)))=true from aY _];rfl) (gC (de b9) rfl
  (cz (mz (aa rfl) it) e (a9 (bo (aa rfl) rfl) (by unfold aV;rw[show(D.tup (L f)).imm=true from aY _];rfl)))))))
theorem mP{F:St->Option (Option D)}{tg:List Nat}{σ:St}{g:Nat->D}(im:∀ x,(g x).imm=true):∀ xs:List Nat,(∀ x∈xs,(aM tg (.int (x:Nat)) σ).bind F=some (some (g x)))->bX F tg σ (L xs)=some (xs.map g)
 | [],_=>rfl
 | x::r,h=>by
  have a:=h x (by simp)
  have b:=mP im r (fun y hy=>h y (by simp[hy]))
  rw[show L (x::r)=.int x::L r from rfl,bX]
  cases hb:aM tg (.int (x:Nat)) σ with
  | none=>rw[hb]at a;cases a
  |some σ1=>
   rw[hb]at a
   simp only[Option.bind_some]at a ⊢
   rw[a,b]
   simp[jY,im]
theorem wt{F:St->Option (Option D)}{tg:List Nat}{σ:St}{g:Nat->D}{c:Nat->Bool}(im:∀ x,(g x).imm=true):∀ xs:List Nat,(∀ x∈xs,(aM tg (.int (x:Nat)) σ).bind F=some (if c x then some (g x)else none))->bX F tg σ (L xs)=some ((xs.filter c).map g)
 | [],_=>rfl
 | x::r,h=>by
  have a:=h x (by simp)
  have b:=wt im r (fun y hy=>h y (by simp[hy]))
  rw[show L (x::r)=.int x::L r from rfl,bX]
  cases hb:aM tg (.int (x:Nat)) σ with
  | none=>rw[hb]at a;cases a
  |some σ1=>
   rw[hb]at a
   simp only[Option.bind_some]at a ⊢
   rw[a,b]
   cases hc:c x<;>simp[jY,im,hc]
theorem uj(xs:List Nat)(g:Nat->Nat):(xs.map fun x=>D.int (g x:Nat))=L (xs.map g):=by simp[L]
theorem mK{xs:List Nat}(h:xs.length<=1000):fits (L xs)=some (L xs):=by
 unfold fits
 rw[if_pos (by rw[aL];unfold most;lia)]
theorem bR{n:Nat}(h:n<=1000):dt (.int 0) (.int n)=some (L (List.range n)):=by
 have e2:=cL (a:=0) (b:=n) (by lia) h
 rw[Nat.sub_zero,<-List.range_eq_range']at e2
 exact e2
theorem nX{n:Nat}(hn:n<=100):evF cl dJ [.int n]=some (.tup (L (aP n))):=by
 have e2:=bR (n:=n) (by lia)
 have e3:=mP (F:=fun σ1=>(ev cl σ1 (.bin .add (.var 0) (.var 1))).map some) (tg:=[1]) (σ:=[some (.int n),none]) (g:=fun x=>.int ((n+x:Nat):Int)) (fun _=>rfl) (List.range n) (by
  intro x _
  simp[aM,ev,aW])
 rw[uj]at e3
 have e4:a8 .add (.lst (L ((List.range n).map fun x=>n+x))) (.lst (L (List.range n)))=some (.lst (L (aP n))):=by
  dsimp only[a8]
  rw[if_pos (by simp[aL,most];lia),aP,cD]
  congr 3
  ·rw[List.range'_eq_map_range]
  ·rw[List.range_eq_range']
 have e5:=mK (xs:=List.range n) (by simp;lia)
 simp only[evF,dJ,ah,evS,ev,bA]
 simp[ev,e2,e5]
 simp[ev]at e3
 rw[e3]
 simp[e4,biV,items,aV,D.imm,aY,aT]
theorem p9{n:Nat}(hn:n<=10):evF cl dJ [.int n]=some (.tup (L (aP n))):=nX (by lia)
theorem p8{n q:Nat}(h:q<2*n):rnd n (aP n) q=2*n-1-q:=by
 unfold rnd rd
 by_cases c:q<n
 ·rw[if_pos c,plain_at,if_pos c,if_neg (by lia)];lia
 ·have e:at' (aP n) (3*n-1-q)=2*n-1-q:=by rw[plain_at,if_neg (by omega),if_pos (by omega)];lia
  rw[if_neg c,e,if_pos (by omega)]
theorem vI(n:Nat):Val n (aP n):=by
 refine⟨kj n,fun q q' h1 h2=>?_⟩
 rw[p8 h1,p8 h2]
 omega
noncomputable def f7(n i:Nat):List Nat:=iW (aP n) (n+i)
set_option synthInstance.maxSize 10000 in
set_option synthInstance.maxHeartbeats 0 in
theorem yy:∀ n,n<11->∀ i,i<n->i+1<n->∀ q,q<2*n->∀ q',q'<2*n->¬ (q<q'/\q'<rnd n (f7 n i) q/\rnd n (f7 n i) q<rnd n (f7 n i) q'):=by decide +kernel
theorem yY{n i:Nat}(hn:n<=10)(h:i+1<n):Val n (f7 n i):=⟨yk (kj n) (by lia),fun q q' h1 h2=>yy n (by lia) i (by lia) h q h1 q' h2⟩
theorem rG{fp:Nat}{n i:Nat}(hn:n<=10)(hi:i+1<n)(hp:cl fp [.int n]=some (.tup (L (aP n)))):evF cl (fX fp) [.int n,.int i]=some (.tup (L (f7 n i))):=by
 have hl:=(kj n).len
 have e:f7 n i=((((aP n).set i (i+1)).set (i+1) i).set (n+i) (n+i+1)).set (n+i+1) (n+i):=by
  unfold f7 iW
  have a1:at' (aP n) (n+i)=i:=by rw[plain_at,if_neg (by lia),if_pos (by lia)];lia
  have a2:at' (aP n) (n+i+1)=i+1:=by rw[plain_at,if_neg (by lia),if_pos (by lia)];lia
  rw[a1,a2,if_neg (by lia)]
 have p1:=gP (f:=aP n) (i:=i) (j:=i+1) (by lia)
 have p2:=gP (f:=(aP n).set i (i+1)) (i:=i+1) (j:=i) (by simp;lia)
 have p3:=gP (f:=((aP n).set i (i+1)).set (i+1) i) (i:=n+i) (j:=n+i+1) (by simp;lia)
 have p4:=gP (f:=(((aP n).set i (i+1)).set (i+1) i).set (n+i) (n+i+1)) (i:=n+i+1) (j:=n+i) (by simp;lia)
 rw[<-e]at p4
 simp only[Int.natCast_add,Int.natCast_one]at p1 p2 p3 p4
 simp[evF,fX,ah,evS,ev,evs,hp,biV,items,aJ,aY,bA,aW,aZ,D.imm,aM,lu,p1,p2,p3,p4,aV,aT]
noncomputable def bu(n:Nat)(f:List Nat):List Nat:=(List.range (2*n)).map fun p=>(at' f ((p+n)%(2*n))+n)%(2*n)
theorem oG{n:Nat}{f:List Nat}{p:Nat}(h:p<2*n):at' (bu n f) p=(at' f ((p+n)%(2*n))+n)%(2*n):=by
 simp[at',bu,h]
theorem half{xs:List D}{n:Nat}(h:xs.length=2*n):biV .len (.tup xs)=some (.int (2*n)):=by
 simp[biV,items,h]
theorem yM(n:Nat):a8 .fdiv (.int (2*(n:Int))) (.int 2)=some (.int n):=by
 rw[gR (by decide) (by decide)]
 congr 2
 lia
theorem eD{f:List Nat}{x:Nat}(h:x<f.length):ixV (.tup (L f)) (.int (x:Nat))=some (.int (at' f x:Nat)):=by
 show cj _ _=_
 rw[dA,kI,cJ h]
 rfl
theorem qh{n:Nat}{f:List Nat}(h1:1<=n)(hn:n<=10)(hf:f.length=2*n):evF cl gg [.tup (L f)]=some (.tup (L (bu n f))):=by
 have e1:a8 .mul (.int 2) (.int n)=some (.int (2*n)):=bG (by decide) (by decide)
 have e2:=bR (n:=2*n) (by lia)
 rw[show((2*n:Nat):Int)=2*(n:Int) by lia]at e2
 have e3:=mP (F:=fun σ1=>(ev cl σ1 (.bin .mod (.bin .add (.ix (.var 0) (.bin .mod (.bin .add (.var 2) (.var 1)) (.bin .mul (.cst (.int 2)) (.var 1)))) (.var 1)) (.bin .mul (.cst (.int 2)) (.var 1)))).map some) (tg:=[2]) (σ:=[some (.tup (L f)),some (.int n),none]) (g:=fun p=>.int (((at' f ((p+n)%(2*n))+n)%(2*n):Nat):Int)) (fun _=>rfl) (List.range (2*n)) (by
  intro x _
  have m1:a8 .mod (.int ((x:Int)+n)) (.int (2*(n:Int)))=some (.int (((x+n)%(2*n):Nat):Int)):=by
   rw[dR (by lia)]
   simp
  have m2:=eD (f:=f) (x:=(x+n)%(2*n)) (by rw[hf];exact Nat.mod_lt _ (by lia))
  have m3:a8 .mod (.int ((at' f ((x+n)%(2*n)):Nat)+(n:Int))) (.int (2*(n:Int)))=some (.int (((at' f ((x+n)%(2*n))+n)%(2*n):Nat):Int)):=by
   rw[dR (by lia)]
   simp
  simp only[aM,ev,List.set,Option.bind_some,List.getElem?_cons_zero,List.getElem?_cons_succ,id,e1,aW,m1,m2,m3,Option.map_some])
 rw[uj]at e3
 have e5:=mK (xs:=List.range (2*n)) (by simp;lia)
 have e6:=half (xs:=L f) (n:=n) (by rw[aL,hf])
 have e7:=yM n
 simp only[evF,gg,ah,evS,ev,bA]
 simp[ev,e2,e5,e1,e6,e7,aU,D.imm]
 simp[ev]at e3
 rw[e3]
 simp[biV,items,aV,D.imm,aY,aT,bu]
section dicts
variable{κ:Type} [DecidableEq κ]
theorem qG:∀ {ks:List κ} {vs:List D} {x:κ} {d:D} {y:κ},ks.length=vs.length->x∉ks->aK (ks++[x]) (vs++[d]) y=if x=y then some d else aK ks vs y
 | [],[],x,d,y,_,_=>by simp[aK]
 | k::ks,v::vs,x,d,y,h,hn=>by
  simp at h hn
  have:=qG (ks:=ks) (vs:=vs) (x:=x) (d:=d) (y:=y) h hn.2
  simp only[List.cons_append,aK]
  by_cases e:k=y
  ·rw[if_pos e,if_pos e,if_neg (fun c=>hn.1 (c.trans e.symm))]
  ·rw[if_neg e,if_neg e,this]
theorem pX:∀ {ks:List κ} {vs:List D} {x:κ} {d:D} {y:κ},ks.length=vs.length->x∈ks->aK ks (List.zipWith (fun k v=>if k=x then d else v) ks vs) y=if x=y then some d else aK ks vs y
 | k::ks,v::vs,x,d,y,h,hm=>by
  simp at h
  simp only[List.zipWith_cons_cons,aK]
  by_cases e:k=y
  ·rw[if_pos e,if_pos e]
   by_cases e':k=x
   ·rw[if_pos e',if_pos (e'.symm.trans e)]
   ·rw[if_neg e',if_neg (fun c=>e' (e.trans c.symm))]
  ·rw[if_neg e,if_neg e]
   by_cases hx:x∈ks
   ·exact pX h hx
   ·have kx:x=k:=by simpa[hx]using hm
    rw[if_neg (fun c=>e (kx.symm.trans c))]
    have:List.zipWith (fun k v=>if k=x then d else v) ks vs=vs:=by
     clear e hm kx
     induction ks generalizing vs with
     | nil=>cases vs with | nil=>rfl | cons _ _=>simp at h
     | cons a ks ih=>cases vs with
      | nil=>simp at h
      |cons b vs=>
       simp at h hx
       simp only[List.zipWith_cons_cons]
       rw[if_neg (fun c=>hx.1 c.symm),ih (vs:=vs) (h:=h) (hx:=hx.2)]
    rw[this]
theorem eU{ks:List κ}{vs:List D}{x:κ}{d:D}{y:κ}(h:ks.length=vs.length):aK (putD ks vs x d).1 (putD ks vs x d).2 y=if x=y then some d else aK ks vs y:=by
 unfold putD
 split
 ·exact pX h ‹_›
 ·exact qG h ‹_›
theorem gh{ks:List κ}{vs:List D}{x:κ}{d:D}(h:ks.length=vs.length):(putD ks vs x d).1.length=(putD ks vs x d).2.length/\(putD ks vs x d).1.length<=ks.length+1:=by
 unfold putD
 split<;>simp[h]
end dicts
noncomputable def sd(b:Bool):PySem.Str:=if b then PySem.Str.ofString "high" else PySem.Str.ofString "low"
theorem pG(b:Bool):(sd b == PySem.Str.ofString "high")=b:=by cases b<;>decide +kernel
theorem Ep{a b:Bool}(h:sd a=sd b):a=b:=by
 have:=pG a
 rw[h,pG]at this
 exact this.symm
noncomputable def nk(b:Bool)(p:Nat):List Ky:=[.inr (sd b),.inl (p:Int)]
theorem qf{a b:Bool}{p q:Nat}(h:nk a p=nk b q):a=b/\p=q:=by
 unfold nk at h
 injection h with h1 h2
 injection h1 with h1
 injection h2 with h2
 injection h2 with h2
 exact⟨Ep h1,by lia⟩
noncomputable def bh(b:Bool)(x:Nat):D:=.tup [.str (sd b),.int x]
noncomputable def pick(h l:List Nat)(b:Bool):List Nat:=if b then h else l
noncomputable def jD(h l:List Nat)(k:Nat)(ks:List (List Ky))(vs:List D):Prop:=ks.length=vs.length/\ks.length<=2*k/\∀ b p,p<k->aK ks vs (nk b p)=some (bh b (at' (pick h l b) p))
theorem jD.next{h l:List Nat}{k:Nat}{ks:List (List Ky)}{vs:List D}(N:jD h l k ks vs):jD h l (k+1) (putD (putD ks vs (nk true k) (bh true (at' h k))).1 (putD ks vs (nk true k) (bh true (at' h k))).2 (nk false k) (bh false (at' l k))).1 (putD (putD ks vs (nk true k) (bh true (at' h k))).1 (putD ks vs (nk true k) (bh true (at' h k))).2 (nk false k) (bh false (at' l k))).2:=by
 obtain⟨n1,n2,n3⟩:=N
 obtain⟨a1,a2⟩:=gh (x:=nk true k) (d:=bh true (at' h k)) n1
 obtain⟨b1,b2⟩:=gh (x:=nk false k) (d:=bh false (at' l k)) a1
 refine⟨b1,by lia,fun b p hp=>?_⟩
 rw[eU a1,eU n1]
 by_cases e:p=k
 ·subst e
  cases b
  ·rw[if_pos rfl];rfl
  ·rw[if_neg (fun c=>by have:=(qf c).1;cases this),if_pos rfl];rfl
 ·rw[if_neg (fun c=>e (qf c).2.symm),if_neg (fun c=>e (qf c).2.symm)]
  exact n3 b p (by lia)
theorem wc{fr:Nat}{n:Nat}{h l:List Nat}(hn:n<=10)(hh:h.length=2*n)(hl:l.length=2*n):∃ ks vs o,jD h l (2*n) ks vs/\aZ (ah cl [3,5,6] (fv fr)) [4] (L (List.range (2*n))) [some (.tup (L h)),some (.tup (L l)),some (.int n),some (.dT [] []),none,none,none,none,none]=some (.nx,[some (.tup (L h)),some (.tup (L l)),some (.int n),some (.dT ks vs),o,none,none,none,none]):=by
 obtain⟨σ',e,ks,vs,o,rfl,N⟩:=cH (f:=ah cl [3,5,6] (fv fr)) (tg:=[4]) (xs:=List.range (2*n)) (σ:=[some (.tup (L h)),some (.tup (L l)),some (.int n),some (.dT [] []),none,none,none,none,none])
  (fun p σ=>∃ ks vs o,σ=[some (.tup (L h)),some (.tup (L l)),some (.int n),some (.dT ks vs),o,none,none,none,none]/\jD h l p.length ks vs) ⟨[],[],none,rfl,rfl,by simp,by simp⟩ (by
   rintro p x q σ hx ⟨ks,vs,o,rfl,N⟩
   obtain⟨h1,h2⟩:=cF (g:=id) (by simpa using hx)
   simp only[id]at h2
   subst h2
   have i1:=eD (f:=h) (x:=p.length) (by lia)
   have i2:=eD (f:=l) (x:=p.length) (by lia)
   have a:=gh (x:=nk true p.length) (d:=bh true (at' h p.length)) N.1
   have m1:ks.length<most:=by have:=N.2.1;unfold most;lia
   have m2:(putD ks vs (nk true p.length) (bh true (at' h p.length))).1.length<most:=by have:=N.2.1;unfold most;lia
   refine⟨_,?_,_,_,some (.int (p.length:Int)),rfl,by simpa using N.next⟩
   have k1:keysOf [.str (PySem.Str.ofString "high"),.int (p.length:Int)]=some (nk true p.length):=rfl
   have k2:keysOf [.str (PySem.Str.ofString "low"),.int (p.length:Int)]=some (nk false p.length):=rfl
   have u1:du (.dT ks vs) (.tup [.str (PySem.Str.ofString "high"),.int (p.length:Int)]) (.tup [.str (PySem.Str.ofString "high"),.int (at' h p.length:Nat)])=some (.dT (putD ks vs (nk true p.length) (bh true (at' h p.length))).1 (putD ks vs (nk true p.length) (bh true (at' h p.length))).2):=by
    dsimp only[du]
    rw[k1,Option.bind_some,if_pos m1]
    rfl
   have u2:∀ ks vs,ks.length<most->du (.dT ks vs) (.tup [.str (PySem.Str.ofString "low"),.int (p.length:Int)]) (.tup [.str (PySem.Str.ofString "low"),.int (at' l p.length:Nat)])=some (.dT (putD ks vs (nk false p.length) (bh false (at' l p.length))).1 (putD ks vs (nk false p.length) (bh false (at' l p.length))).2):=by
    intro ks vs m
    dsimp only[du]
    rw[k2,Option.bind_some,if_pos m]
    rfl
   simp only[aM,fv,ah,evS,ev,evs,List.set,Option.bind_some,List.getElem?_cons_zero,List.getElem?_cons_succ,id,i1,i2,Option.map_some,D.imm,au,Bool.and_self,if_true,u1,u2 _ _ m2])
 simp only[List.length_range]at N
 exact⟨ks,vs,o,N,e⟩
noncomputable def stp(n:Nat)(h l:List Nat)(s:Bool × Nat):Bool × Nat:=if s.1=decide (n<=s.2)then(!s.1,at' (pick h l (!s.1)) ((s.2+n)%(2*n)))else s
noncomputable def itr(n:Nat)(h l:List Nat):Nat->Bool × Nat->Bool × Nat
 | 0,s=>s
 | i+1,s=>stp n h l (itr n h l i s)
noncomputable def Tr(n:Nat)(s:Bool × Nat)(m:Nat):Prop:=s.1=decide (n<=s.2)/\s.2%n=m
noncomputable def GD(gk:List Ky)(gv:List D)(k:Nat)(P:Nat->Prop):Prop:=gk.length=gv.length/\gk.length<=k/\∀ m:Nat,(aK gk gv (.inl (m:Int))).isSome=true↔P m
theorem GD.put{gk:List Ky}{gv:List D}{k:Nat}{P:Nat->Prop}(G:GD gk gv k P)(m0:Nat)(d:D):GD (putD gk gv (.inl (m0:Int)) d).1 (putD gk gv (.inl (m0:Int)) d).2 (k+1) (fun m=>P m\/m0=m):=by
 obtain⟨g1,g2,g3⟩:=G
 obtain⟨a1,a2⟩:=gh (x:=(.inl (m0:Int):Ky)) (d:=d) g1
 refine⟨a1,by lia,fun m=>?_⟩
 rw[eU g1]
 by_cases e:m0=m
 ·subst e
  simp
 ·rw[if_neg (fun c=>e (by injection c;lia)),g3]
  simp[e]
theorem GD.mono{gk:List Ky}{gv:List D}{k k':Nat}{P Q:Nat->Prop}(G:GD gk gv k P)(hk:k<=k')(h:∀ m,P m↔Q m):GD gk gv k' Q :=
 ⟨G.1,by have:=G.2.1;lia,fun m=>(G.2.2 m).trans (h m)⟩
noncomputable def hst(n:Nat)(h l:List Nat)(ks:List (List Ky))(vs:List D)(o4:Option D)(fnd:List Nat)(gk:List Ky)(gv:List D)(o7 o8:Option D):St :=
 [some (.tup (L h)),some (.tup (L l)),some (.int n),some (.dT ks vs),o4,some (.lst (L fnd)),some (.dK gk gv),o7,o8]
section
variable{fr n:Nat}{h l:List Nat}{ks:List (List Ky)}{vs:List D}{fnd:List Nat}
theorem qu(b:Bool)(x:Nat):ixV (bh b x) (.int 0)=some (.str (sd b)):=rfl
theorem lH(b:Bool)(x:Nat):ixV (bh b x) (.int 1)=some (.int (x:Nat)):=rfl
theorem lL(b:Bool):ixV (.lst [.str (PySem.Str.ofString "high"),.str (PySem.Str.ofString "low")]) (.int (if b=true then 1 else 0))=some (.str (sd !b)):=by cases b<;>rfl
theorem AF(h1:1<=n)(hn:n<=10)(N:jD h l (2*n) ks vs){b:Bool}{x:Nat}(hx:x<2*n){gk:List Ky}{gv:List D}{k:Nat}{P:Nat->Prop}(G:GD gk gv k P)(hk:k<=2000)(o4 o8:Option D)(t:D) :
  ∃ gk' gv',GD gk' gv' (k+1) (fun m=>P m\/Tr n (b,x) m)/\(aM [8] t (hst n h l ks vs o4 fnd gk gv (some (bh b x)) o8)).bind (ah cl [3,5,6] (cX fr))=some (.nx,hst n h l ks vs o4 fnd gk' gv' (some (bh (stp n h l (b,x)).1 (stp n h l (b,x)).2)) (some t)):=by
 have e1:a8 .mul (.int 2) (.int n)=some (.int (2*n)):=bG (by decide) (by decide)
 have cnd:ev cl (hst n h l ks vs o4 fnd gk gv (some (bh b x)) (some t)) (.cmp .eq (.cmp .eq (.ix (.var 7) (.cst (.int 0))) (.cst (.str "high"))) (.cmp .ge (.ix (.var 7) (.cst (.int 1))) (.var 2)))=some (.bl (b == decide (n<=x))):=by
  simp only[hst,ev,Option.bind_some,List.getElem?_cons_zero,List.getElem?_cons_succ,id,qu,lH,bc,eqD,pG,Option.map_some]
  simp
 by_cases e:b=decide (n<=x)
 ·refine⟨_,_,(G.put (x%n) (.bl true)).mono (Nat.le_refl _) (fun m=>by simp[Tr,e]),?_⟩
  have m1:a8 .mod (.int (x:Nat)) (.int n)=some (.int ((x%n:Nat):Int)):=by rw[dR (by lia)];simp
  have m2:a8 .mod (.int ((x:Nat)+(n:Int))) (.int (2*(n:Int)))=some (.int (((x+n)%(2*n):Nat):Int)):=by rw[dR (by lia)];simp
  have u:du (.dK gk gv) (.int ((x%n:Nat):Int)) (.bl true)=some (.dK (putD gk gv (.inl ((x%n:Nat):Int)) (.bl true)).1 (putD gk gv (.inl ((x%n:Nat):Int)) (.bl true)).2):=by
   dsimp only[du,keyOf]
   rw[Option.bind_some,if_pos (by have:=G.2.1;unfold most;lia)]
  have lk:nt (.dT ks vs) (.tup [.str (sd !b),.int (((x+n)%(2*n):Nat):Int)])=some (bh (!b) (at' (pick h l !b) ((x+n)%(2*n)))):=by
   have:=N.2.2 (!b) ((x+n)%(2*n)) (Nat.mod_lt _ (by lia))
   rw[<-this]
   rfl
  have s1:stp n h l (b,x)=(!b,at' (pick h l !b) ((x+n)%(2*n))):=by unfold stp;rw[if_pos e]
  rw[s1]
  have eb:(b == decide (n<=x))=true:=by simp[e]
  rw[eb]at cnd
  simp only[aM,hst,List.set,Option.bind_some,cX,ah,evS]at cnd ⊢
  rw[cnd]
  simp only[Option.bind_some,truth,if_true,ah,evS,ev,evs,List.getElem?_cons_zero,List.getElem?_cons_succ,id,qu,lH,m1,u,D.imm,Option.map_some,List.set,bc,eqD,pG,biV,lL,aW,e1,m2,lk]
  have ok:aU [3,5,6] (.ixD (.var 3) (.tup (.cons (.ix (.lst (.cons (.cst (.str "high")) (.cons (.cst (.str "low")) .nil))) (.bi .int (.cmp .eq (.ix (.var 7) (.cst (.int 0))) (.cst (.str "high"))))) (.cons (.bin .mod (.bin .add (.ix (.var 7) (.cst (.int 1))) (.var 2)) (.bin .mul (.cst (.int 2)) (.var 2))) .nil)))) (bh (!b) (at' (pick h l !b) ((x+n)%(2*n))))=true:=rfl
  rw[if_pos ok]
  rfl
 ·refine⟨gk,gv,G.mono (by lia) (fun m=>by simp[Tr,e]),?_⟩
  have s1:stp n h l (b,x)=(b,x):=by unfold stp;rw[if_neg e]
  rw[s1]
  have eb:(b == decide (n<=x))=false:=by simp[e]
  rw[eb]at cnd
  simp only[aM,hst,List.set,Option.bind_some,cX,ah,evS]at cnd ⊢
  rw[cnd]
  simp[truth,ah]
theorem B3(hh:∀ x,x<2*n->at' h x<2*n)(hl:∀ x,x<2*n->at' l x<2*n){s:Bool × Nat}(hs:s.2<2*n):(stp n h l s).2<2*n:=by
 unfold stp
 split
 ·have m:(s.2+n)%(2*n)<2*n:=Nat.mod_lt _ (by lia)
  cases s.1
  ·exact hh _ m
  ·exact hl _ m
 ·exact hs
theorem gu(hh:∀ x,x<2*n->at' h x<2*n)(hl:∀ x,x<2*n->at' l x<2*n){s:Bool × Nat}(hs:s.2<2*n):∀ i,(itr n h l i s).2<2*n
 | 0=>hs
 | i+1=>B3 hh hl (gu hh hl hs i)
noncomputable def Met(n:Nat)(h l:List Nat)(s:Bool × Nat)(i:Nat)(m:Nat):Prop:=∃ j,j<i/\Tr n (itr n h l j s) m
theorem Ap(h1:1<=n)(hn:n<=10)(N:jD h l (2*n) ks vs)(hh:∀ x,x<2*n->at' h x<2*n)(hl:∀ x,x<2*n->at' l x<2*n){s:Bool × Nat}(hs:s.2<2*n){gk:List Ky}{gv:List D}{k:Nat}{P:Nat->Prop}(G:GD gk gv k P)(hk:k<=1000)(o4 o8:Option D) :
  ∃ gk' gv' o8',GD gk' gv' (k+4*n) (fun m=>P m\/Met n h l s (4*n) m)/\aZ (ah cl [3,5,6] (cX fr)) [8] (L (List.range (4*n))) (hst n h l ks vs o4 fnd gk gv (some (bh s.1 s.2)) o8)=some (.nx,hst n h l ks vs o4 fnd gk' gv' (some (bh (itr n h l (4*n) s).1 (itr n h l (4*n) s).2)) o8'):=by
 obtain⟨σ',e,gk',gv',o8',rfl,G'⟩:=cH (f:=ah cl [3,5,6] (cX fr)) (tg:=[8]) (xs:=List.range (4*n)) (σ:=hst n h l ks vs o4 fnd gk gv (some (bh s.1 s.2)) o8)
  (fun p σ=>∃ gk' gv' o8',σ=hst n h l ks vs o4 fnd gk' gv' (some (bh (itr n h l p.length s).1 (itr n h l p.length s).2)) o8'/\GD gk' gv' (k+p.length) (fun m=>P m\/Met n h l s p.length m))
  ⟨gk,gv,o8,rfl,G.mono (by simp) (fun m=>by simp[Met])⟩ (by
   rintro p x q σ hx ⟨gk',gv',o8',rfl,G'⟩
   obtain⟨a1,a2⟩:=cF (g:=id) (by simpa using hx)
   obtain⟨gk2,gv2,G2,e2⟩:=AF (cl:=cl) (fr:=fr) (fnd:=fnd) h1 hn N (gu hh hl hs p.length) G' (by lia) o4 o8' (.int (x:Nat)) (b:=(itr n h l p.length s).1)
   refine⟨_,e2,gk2,gv2,_,by rw[List.length_append];rfl,G2.mono (by simp;lia) (fun m=>?_)⟩
   simp only[Met,List.length_append,List.length_singleton]
   constructor
   ·rintro((hp | ⟨j,h1,h2⟩) | h2)
    ·exact .inl hp
    ·exact .inr ⟨j,by lia,h2⟩
    ·exact .inr ⟨p.length,by lia,h2⟩
   ·rintro(hp | ⟨j,h1,h2⟩)
    ·exact .inl (.inl hp)
    ·by_cases hj:j=p.length
     ·subst hj
      exact .inr h2
     ·exact .inl (.inr ⟨j,by lia,h2⟩))
 simp only[List.length_range]at G' e
 exact⟨gk',gv',o8',G',e⟩
noncomputable def beg(n:Nat)(h l:List Nat)(p:Nat):Bool × Nat:=(decide (p<n),at' (pick h l (decide (p<n))) p)
noncomputable def az(n:Nat)(h l:List Nat):List Nat:=(List.range (2*n)).map fun p=>(itr n h l (4*n) (beg n h l p)).2
noncomputable def Gn(n:Nat)(h l:List Nat)(k m:Nat):Prop:=∃ p,p<k/\Met n h l (beg n h l p) (4*n) m
theorem FV(b:Bool):ixV (.lst [.str (PySem.Str.ofString "high"),.str (PySem.Str.ofString "low")]) (.int (if b=true then 1 else 0))=some (.str (sd !b)):=lL b
theorem Ar(h1:1<=n)(hn:n<=10)(N:jD h l (2*n) ks vs)(hh:∀ x,x<2*n->at' h x<2*n)(hl:∀ x,x<2*n->at' l x<2*n)(o4 o7 o8:Option D) :
  ∃ gk gv o4' o7' o8',GD gk gv 1000 (Gn n h l (2*n))/\aZ (ah cl [3,5,6] (fw fr)) [4] (L (List.range (2*n))) (hst n h l ks vs o4 [] [] [] o7 o8)=some (.nx,hst n h l ks vs o4' (az n h l) gk gv o7' o8'):=by
 have e4:a8 .mul (.int 4) (.int n)=some (.int (4*n)):=bG (by decide) (by decide)
 have r4:=bR (n:=4*n) (by lia)
 rw[show((4*n:Nat):Int)=4*(n:Int) by lia]at r4
 obtain⟨σ',e,gk,gv,o4',o7',o8',rfl,G⟩:=cH (f:=ah cl [3,5,6] (fw fr)) (tg:=[4]) (xs:=List.range (2*n)) (σ:=hst n h l ks vs o4 [] [] [] o7 o8)
  (fun p σ=>∃ gk gv o4' o7' o8',σ=hst n h l ks vs o4' ((List.range p.length).map fun p=>(itr n h l (4*n) (beg n h l p)).2) gk gv o7' o8'/\GD gk gv (40*p.length) (Gn n h l p.length))
  ⟨[],[],o4,o7,o8,rfl,rfl,by simp,fun m=>by simp[aK,Gn]⟩ (by
   rintro p x q σ hx ⟨gk,gv,o4',o7',o8',rfl,G⟩
   obtain⟨a1,a2⟩:=cF (g:=id) (by simpa using hx)
   simp only[id]at a2
   subst a2
   have hb:(beg n h l p.length).2<2*n:=by
    unfold beg pick
    cases decide (p.length<n)
    ·exact hl _ a1
    ·exact hh _ a1
   obtain⟨gk2,gv2,o82,G2,e2⟩:=Ap (cl:=cl) (fr:=fr) (fnd:=(List.range p.length).map fun p=>(itr n h l (4*n) (beg n h l p)).2) h1 hn N hh hl hb G (by lia) (some (.int (p.length:Nat))) o8'
   have c1:bc .ge (.int (p.length:Nat)) (.int n)=some (!decide (p.length<n)):=by
    rw[jN]
    congr 1
    by_cases c:p.length<n
    ·simp[c]
    ·simp[c];lia
   have lk:nt (.dT ks vs) (.tup [.str (sd (decide (p.length<n))),.int (p.length:Nat)])=some (bh (beg n h l p.length).1 (beg n h l p.length).2):=by
    have:=N.2.2 (decide (p.length<n)) p.length a1
    rw[show bh (beg n h l p.length).1 (beg n h l p.length).2=bh (decide (p.length<n)) (at' (pick h l (decide (p.length<n))) p.length)from rfl,<-this]
    rfl
   have sx:=lL (!decide (p.length<n))
   rw[Bool.not_not]at sx
   refine⟨hst n h l ks vs (some (.int (p.length:Nat))) ((List.range (p++[p.length]).length).map fun p=>(itr n h l (4*n) (beg n h l p)).2) gk2 gv2 (some (bh (itr n h l (4*n) (beg n h l p.length)).1 (itr n h l (4*n) (beg n h l p.length)).2)) o82,?_,gk2,gv2,_,_,_,rfl,G2.mono (by simp;lia) (fun m=>?_)⟩
   ·have ok:aU [3,5,6] (.ixD (.var 3) (.tup (.cons (.ix (.lst (.cons (.cst (.str "high")) (.cons (.cst (.str "low")) .nil))) (.bi .int (.cmp .ge (.var 4) (.var 2)))) (.cons (.var 4) .nil)))) (bh (beg n h l p.length).1 (beg n h l p.length).2)=true:=rfl
    simp only[aM,hst,List.set,Option.bind_some,fw,ah,evS,ev,evs,bA,List.getElem?_cons_zero,List.getElem?_cons_succ,id,c1,Option.map_some,biV,sx,lk,e4,r4]at e2 ⊢
    rw[if_pos ok]
    simp only[Option.bind_some,e4,r4,List.getElem?_cons_zero,List.getElem?_cons_succ,id,e2,lH]
    have ml:((D.int (((itr n h l (4*n) (beg n h l p.length)).2:Nat):Int)).imm&&decide ((L (List.map (fun p=>(itr n h l (4*n) (beg n h l p)).snd) (List.range p.length))).length<most))=true:=by
     simp[D.imm,aL,most]
     lia
    rw[if_pos ml]
    simp[L,List.range_succ]
   ·simp only[Gn,List.length_append,List.length_singleton]
    constructor
    ·rintro(⟨j,h1,h2⟩ | h2)
     ·exact⟨j,by lia,h2⟩
     ·exact⟨p.length,by lia,h2⟩
    ·rintro⟨j,h1,h2⟩
     by_cases hj:j=p.length
     ·subst hj
      exact .inr h2
     ·exact .inl ⟨j,by lia,h2⟩)
 simp only[List.length_range]at G e
 exact⟨gk,gv,o4',o7',o8',G.mono (by lia) (fun _=>Iff.rfl),e⟩
theorem yn(h1:1<=n)(hn:n<=10)(h2:h.length=2*n)(l2:l.length=2*n)(hh:∀ x,x<2*n->at' h x<2*n)(hl:∀ x,x<2*n->at' l x<2*n) :
  ∃ inner:List Nat,(∀ m,m∈inner↔m<n/\¬ Gn n h l (2*n) m)/\inner.length<=n/\∀ r:Int,cl fr [.tup (L h),.tup (L l),.lst (L inner)]=some (.int r)->evF cl (gf fr) [.tup (L h),.tup (L l)]=some (.tup [.tup (L (az n h l)),.int r]):=by
 have e1:a8 .mul (.int 2) (.int n)=some (.int (2*n)):=bG (by decide) (by decide)
 have r2:=bR (n:=2*n) (by lia)
 rw[show((2*n:Nat):Int)=2*(n:Int) by lia]at r2
 have r1:=bR (n:=n) (by lia)
 obtain⟨ks,vs,o,N,en⟩:=wc (cl:=cl) (fr:=fr) hn h2 l2
 obtain⟨gk,gv,o4,o7,o8,G,eb⟩:=Ar (cl:=cl) (fr:=fr) h1 hn N hh hl o none none
 refine⟨(List.range n).filter fun m:Nat=>!(aK gk gv (.inl (m:Int))).isSome,fun m=>?_,?_,?_⟩
 ·have:=G.2.2 m
  simp[<-this]
 ·have:=List.length_filter_le (fun m:Nat=>!(aK gk gv (.inl (m:Int))).isSome) (List.range n)
  simpa using this
 ·intro r hr
  have e6:=half (xs:=L h) (n:=n) (by rw[aL,h2])
  have e7:=yM n
  have ft:=mK (xs:=List.range n) (by simp;lia)
  have mc:=wt (F:=fun σ1=>((ev cl σ1 (.inD true (.var 4) (.var 6))).bind truth).bind fun k=>if k then(ev cl σ1 (.var 4)).map some else some none) (tg:=[4]) (σ:=hst n h l ks vs o4 (az n h l) gk gv o7 o8) (g:=fun m=>.int (m:Nat)) (c:=fun m=>!(aK gk gv (.inl (m:Int))).isSome) (fun _=>rfl) (List.range n) (by
   intro x _
   simp only[aM,hst,List.set,Option.bind_some,ev,List.getElem?_cons_zero,List.getElem?_cons_succ,id,x3,keyOf,Option.map_some,truth,if_true]
   cases(aK gk gv (.inl (x:Int))).isSome<;>rfl)
  simp only[evF,gf,ah,evS,ev,bA]
  simp[ev,e6,e7,aU,D.imm,aJ,au,e1,r2]
  rw[en]
  simp[ah,evS,ev,evs,bA,e1,r2,aJ,au,D.imm]
  simp[hst]at eb
  rw[show L []=[]from rfl]at eb
  rw[eb]
  simp[ah,evS,ev,evs,bA,r1,ft,biV,items]
  simp[ev,hst]at mc
  rw[mc]
  rw[show(List.map (fun m:Nat=>D.int (m:Int)) (List.filter (fun m:Nat=>(aK gk gv (Sum.inl (m:Int))).isNone) (List.range n)))=L (List.filter (fun m:Nat=>(aK gk gv (Sum.inl (m:Int))).isNone) (List.range n))from rfl]
  simp at hr
  simp[hr,aV,D.imm,au,aY,aT]
end
theorem qm{κ:Type} [DecidableEq κ]:∀ {ks:List κ} {vs:List D} {x:κ} {d:D},aK ks vs x=some d->x∈ks
 | k::ks,v::vs,x,d,h=>by
  rw[aK]at h
  by_cases e:k=x
  ·simp[e]
  ·rw[if_neg e]at h
   simp[qm h]
theorem yB{κ:Type} [DecidableEq κ]{ks:List κ}{vs:List D}{x:κ}{d e:D}(h:aK ks vs x=some d):(putD ks vs x e).1=ks:=by
 unfold putD
 rw[if_pos (qm h)]
noncomputable def HI(inner:List Nat)(hk:List Ky)(hv:List D):Prop:=hk.length=hv.length/\hk.length<=10/\∀ m∈inner,∃ v:Int,aK hk hv (.inl (m:Int))=some (.int v)
theorem HI.put{inner:List Nat}{hk:List Ky}{hv:List D}(H:HI inner hk hv){m:Nat}(hm:m∈inner)(v:Int):HI inner (putD hk hv (.inl (m:Int)) (.int v)).1 (putD hk hv (.inl (m:Int)) (.int v)).2:=by
 obtain⟨a,b,c⟩:=H
 obtain⟨v0,h0⟩:=c m hm
 refine⟨(gh a).1,by rw[yB h0];exact b,fun i hi=>?_⟩
 rw[eU a]
 by_cases e:(.inl (m:Int):Ky)=.inl (i:Int)
 ·rw[if_pos e];exact⟨v,rfl⟩
 ·rw[if_neg e];exact c i hi
noncomputable def rst(n:Nat)(h l inner:List Nat)(hk:List Ky)(hv:List D)(o5 o6 o7 o8 o9:Option D):St :=
 [some (.tup (L h)),some (.tup (L l)),some (.lst (L inner)),some (.int n),some (.dK hk hv),o5,o6,o7,o8,o9]
section
variable{n:Nat}{h l inner:List Nat}
theorem kB{hk:List Ky}{hv:List D}{m:Nat}{v:Int}(e:aK hk hv (.inl (m:Int))=some (.int v)):nt (.dK hk hv) (.int (m:Nat))=some (.int v):=e
theorem ints_map(v:Nat->Int):∀ xs:List Nat,eG (xs.map fun m=>.int (v m))=some (xs.map v)
 | []=>rfl
 | x::r=>by simp[eG,ints_map v r]
end
noncomputable def cP(n:Nat)(f:List Nat):List Nat:=(List.range (2*n)).map fun p=>if p<n then(if at' f p<n then at' f p else p+n)else(if at' f (p-n)<n then at' f (p-n)+n else p-n)
theorem me{n:Nat}{f:List Nat}{p:Nat}(h:p<2*n):at' (cP n f) p=if p<n then(if at' f p<n then at' f p else p+n)else(if at' f (p-n)<n then at' f (p-n)+n else p-n):=by
 unfold cP
 rw[at']
 rw[List.getElem?_map,List.getElem?_range h]
 rfl
theorem cM{n:Nat}{h l:List Nat}{s:Bool × Nat}(hs:stp n h l s=s):∀ i,itr n h l i s=s
 | 0=>rfl
 | i+1=>by rw[itr,cM hs i,hs]
theorem eT{n:Nat}{h l:List Nat}{s t:Bool × Nat}(hs:stp n h l s=t)(ht:stp n h l t=t):∀ i,itr n h l (i+1) s=t
 | 0=>hs
 | i+1=>by rw[itr,eT hs ht i,ht]
section
variable{n:Nat}{f:List Nat}
theorem Al(F:Frm n f){p:Nat}(h:p<n):at' (bu n f) p=if at' f (p+n)<n then at' f (p+n)+n else at' f (p+n)-n:=by
 rw[oG (by lia),Nat.mod_eq_of_lt (a:=p+n) (by lia)]
 have:=F.lt (p+n) (by lia)
 split
 ·rw[Nat.mod_eq_of_lt (by lia)]
 ·rw[Nat.mod_eq_sub_mod (by lia),Nat.mod_eq_of_lt (by lia)];lia
theorem A8(F:Frm n f){p:Nat}(h:n<=p)(h2:p<2*n):at' (bu n f) p=if at' f (p-n)<n then at' f (p-n)+n else at' f (p-n)-n:=by
 rw[oG (by lia),show(p+n)%(2*n)=p-n by rw[Nat.mod_eq_sub_mod (by lia),Nat.mod_eq_of_lt (by omega)];lia]
 have:=F.lt (p-n) (by lia)
 split
 ·rw[Nat.mod_eq_of_lt (by lia)]
 ·rw[Nat.mod_eq_sub_mod (by lia),Nat.mod_eq_of_lt (by lia)];lia
theorem Bf(F:Frm n f){p:Nat}(hp:p<2*n):(∀ i,(itr n f (bu n f) (i+1) (beg n f (bu n f) p)).2=at' (cP n f) p)/\∀ i m,m<n->Tr n (itr n f (bu n f) i (beg n f (bu n f) p)) m->at' f (n+m)<n:=by
 rw[me hp]
 by_cases h:p<n
 ·have b0:beg n f (bu n f) p=(true,at' f p):=by simp[beg,h,pick]
  rw[b0,if_pos h]
  have l0:=F.lt p (by lia)
  by_cases c:at' f p<n
  ·have st:stp n f (bu n f) (true,at' f p)=(true,at' f p):=by
    unfold stp
    rw[if_neg (by simp;lia)]
   refine⟨fun i=>by rw[cM st,if_pos c],fun i m hm t=>?_⟩
   rw[cM st]at t
   have:=t.1
   simp at this
   lia
  ·have st:stp n f (bu n f) (true,at' f p)=(false,p+n):=by
    unfold stp
    rw[if_pos (by simp;lia)]
    show(false,at' (bu n f) ((at' f p+n)%(2*n)))=_
    rw[show(at' f p+n)%(2*n)=at' f p-n by rw[Nat.mod_eq_sub_mod (by lia),Nat.mod_eq_of_lt (by lia)];lia,Al F (by lia),show at' f p-n+n=at' f p by lia,F.inv,if_pos h]
   have s2:stp n f (bu n f) (false,p+n)=(false,p+n):=by
    unfold stp
    rw[if_neg (by simp)]
   refine⟨fun i=>by rw[eT st s2,if_neg c],fun i m hm t=>?_⟩
   cases i with
   |zero=>
    have t2:=t.2
    simp only[itr]at t2
    have:n+m=at' f p:=by
     rw[Nat.mod_eq_sub_mod (by lia),Nat.mod_eq_of_lt (by omega)]at t2
     lia
    rw[this,F.inv]
    exact h
   |succ i=>
    rw[eT st s2]at t
    have:=t.1
    simp at this
 ·have b0:beg n f (bu n f) p=(false,at' (bu n f) p):=by simp[beg,h,pick]
  rw[b0,if_neg h,A8 F (by lia) hp]
  have l0:=F.lt (p-n) (by lia)
  by_cases c:at' f (p-n)<n
  ·rw[if_pos c,if_pos c]
   have st:stp n f (bu n f) (false,at' f (p-n)+n)=(false,at' f (p-n)+n):=by
    unfold stp
    rw[if_neg (by simp)]
   refine⟨fun i=>by rw[cM st],fun i m hm t=>?_⟩
   rw[cM st]at t
   have:=t.1
   simp at this
  ·rw[if_neg c,if_neg c]
   have st:stp n f (bu n f) (false,at' f (p-n)-n)=(true,p-n):=by
    unfold stp
    rw[if_pos (by simp;lia)]
    show(true,at' f ((at' f (p-n)-n+n)%(2*n)))=_
    rw[show at' f (p-n)-n+n=at' f (p-n) by lia,Nat.mod_eq_of_lt l0,F.inv]
   have s2:stp n f (bu n f) (true,p-n)=(true,p-n):=by
    unfold stp
    rw[if_neg (by simp;lia)]
   refine⟨fun i=>by rw[eT st s2],fun i m hm t=>?_⟩
   cases i with
   |zero=>
    have t2:=t.2
    simp only[itr]at t2
    rw[Nat.mod_eq_of_lt (by omega)]at t2
    have:n+m=at' f (p-n):=by lia
    rw[this,F.inv]
    lia
   |succ i=>
    rw[eT st s2]at t
    have:=t.1
    simp at this
    lia
theorem pd(h1:1<=n)(F:Frm n f):az n f (bu n f)=cP n f:=by
 apply vY (n:=n) (by simp[az]) (by simp[cP])
 funext p
 by_cases hp:p<2*n
 ·have:=(Bf F hp).1 (4*n-1)
  rw[<-this,show 4*n-1+1=4*n by lia]
  simp[at',az,hp]
 ·rw[dH (by simp[az];lia),dH (by simp[cP];lia)]
theorem vx(F:Frm n f){q:Nat}(h:q<n):rnd n f q=if at' f q<n then at' f q else 3*n-1-at' f q:=by
 unfold rnd
 rw[show rd n q=q by simp[rd,h]]
 rfl
end
theorem wI{fhu fov ffr ftx fho fpl fdi:Nat}{scr:D}{k n:Nat}(h1:1<=n)(hn:n<=10)
 (hd:∃ ds:List Nat,jI ds [8,10 ^ 12,max 1 (n-1)]/\cl fdi [scr,.int k,.lst (L [8,10 ^ 12,max 1 (n-1)])]=some (.lst (L ds)))
 (hpl:cl fpl [.int n]=some (.tup (L (aP n))))
 (hho:∀ i:Nat,i+1<n->cl fho [.int n,.int i]=some (.tup (L (f7 n i))))
 (htx:∀ r:Int,∃ w:List Bool,w.length=2*n/\dpf 0 w=some 0/\cl ftx [.int r,.int n]=some (.str (tx w)))
 (hfr:∀ w:List Bool,w.length=2*n->dpf 0 w=some 0->∃ f:List Nat,Val n f/\cl ffr [.str (tx w)]=some (.tup (L f)))
 (hov:∀ f:List Nat,f.length=2*n->cl fov [.tup (L f)]=some (.tup (L (bu n f))))
 (hhu:∀ f:List Nat,Val n f->∃ (g:List Nat) (r:Int),Val n g/\cl fhu [.tup (L f),.tup (L (bu n f))]=some (.tup [.tup (L g),.int r])) :
  ∃ f:List Nat,Val n f/\evF cl (il fhu fov ffr ftx fho fpl fdi) [scr,.int k,.int n]=some (.tup (L f)):=by
 obtain⟨ds,⟨dl,dd⟩,hd⟩:=hd
 match ds,dl with
 |[a,b,c],_=>
  have hc:c<max 1 (n-1):=dd 2 c _ rfl rfl
  have mx:(if(n:Int)-1 > 1 then(n:Int)-1 else 1)=((max 1 (n-1):Nat):Int):=by
   split<;>lia
  have pw:a8 .pow (.int 10) (.int 12)=some (.int ((10 ^ 12:Nat):Int)):=rfl
  obtain⟨w,w1,w2,w3⟩:=htx b
  obtain⟨f,V,f3⟩:=hfr w w1 w2
  obtain⟨g,r,V',hu⟩:=hhu f V
  have ho:=hov f V.frm.len
  have tl:∀ g:List Nat,aV [] (.cst .non) (.tup (L g))=true/\(D.tup (L g)).imm=true:=fun g=>by simp[aV,D.imm,aY]
  have ret:∀ (e:E) (g:List Nat),aV [] e (.tup (L g))=true:=fun e g=>by unfold aV;rw[(tl g).2];rfl
  have start:∀ {rest:Ss} {d:D},(∃ σ,ah cl [] rest [some scr,some (.int k),some (.int n),none,some (.int (a:Nat)),some (.int (b:Nat)),some (.int (c:Nat))]=some (.rt d,σ))->evF cl ⟨3,7,[],[],.cons (.unp [4,5,6] (.call fdi (.cons (.var 0) (.cons (.var 1) (.cons (.lst (.cons (.cst (.int 8)) (.cons (.bin .pow (.cst (.int 10)) (.cst (.int 12))) (.cons (.max (.cst (.int 1)) (.bin .sub (.var 2) (.cst (.int 1)))) .nil)))) .nil))))) rest⟩ [scr,.int k,.int n]=some d:=fun {rest d} ⟨σ,h⟩ =>
   aC rfl rfl (vZ (fR (aa rfl) (aa rfl) (de (aB af (aB (aj af af pw) (aB ((FD af (aj (aa rfl) af br)).trans (by rw[mx])) b9)))) hd) rfl rfl rfl h)
  have no:∀ {j:Nat},a≠j->∀ o,(ev cl [some scr,some (.int k),some (.int n),o,some (.int (a:Nat)),some (.int (b:Nat)),some (.int (c:Nat))] (.cmp .eq (.var 4) (.cst (.int (j:Nat)))))=some (.bl false):=fun {j} h o=>a5 (aa rfl) af (by rw[bW,beq_eq_false_iff_ne.mpr (by lia)])
  have yes:∀ {j:Nat},a=j->∀ o,(ev cl [some scr,some (.int k),some (.int n),o,some (.int (a:Nat)),some (.int (b:Nat)),some (.int (c:Nat))] (.cmp .eq (.var 4) (.cst (.int (j:Nat)))))=some (.bl true):=fun {j} h o=>a5 (aa rfl) af (by rw[bW,h,beq_self_eq_true])
  by_cases a0:a=0
  ·exact⟨aP n,vI n,start ⟨_,bN (aE (yes a0 _)) (a9 (bj (aa rfl) hpl) (ret ..))⟩⟩
  ·by_cases a1:a=1/\1<n
   ·exact⟨f7 n c,yY hn (by lia),start ⟨_,bf (aE (no a0 _)) (bN (aE (cU (yes a1.1 _) (a5 (aa rfl) af (by rw[jJ,decide_eq_true (by lia)])))) (a9 (bQ (aa rfl) (aa rfl) (hho c (by lia))) (ret ..)))⟩⟩
   ·have cnd:ev cl [some scr,some (.int k),some (.int n),none,some (.int (a:Nat)),some (.int (b:Nat)),some (.int (c:Nat))] (.and (.cmp .eq (.var 4) (.cst (.int 1))) (.cmp .gt (.var 2) (.cst (.int 1))))=some (.bl false):=by
     by_cases e1:a=1
     ·exact cU (yes e1 _) (a5 (aa rfl) af (by rw[jJ,decide_eq_false (by lia)]))
     ·exact i8 (no e1 _)
    have on:∀ {rest:Ss} {d:D},(∃ σ,ah cl [] rest [some scr,some (.int k),some (.int n),some (.tup (L f)),some (.int (a:Nat)),some (.int (b:Nat)),some (.int (c:Nat))]=some (.rt d,σ))->∃ σ,ah cl [] (.cons (.ife (.cmp .eq (.var 4) (.cst (.int 0))) (.cons (.ret (.call fpl (.cons (.var 2) .nil))) .nil) .nil) (.cons (.ife (.and (.cmp .eq (.var 4) (.cst (.int 1))) (.cmp .gt (.var 2) (.cst (.int 1)))) (.cons (.ret (.call fho (.cons (.var 2) (.cons (.var 6) .nil)))) .nil) .nil) (.cons (.asg 3 (.call ffr (.cons (.call ftx (.cons (.var 5) (.cons (.var 2) .nil))) .nil))) rest))) [some scr,some (.int k),some (.int n),none,some (.int (a:Nat)),some (.int (b:Nat)),some (.int (c:Nat))]=some (.rt d,σ):=fun⟨σ,h⟩ =>
     ⟨σ,bf (aE (no a0 _)) (bf (aE cnd) (a7 (bj (bQ (aa rfl) (aa rfl) w3) f3) (by unfold aU;rw[(tl f).2];rfl) h))⟩
    by_cases a2:a=2
    ·exact⟨g,V',start (on ⟨_,bN (aE (yes a2 _)) (a9 (bp (bQ (aa rfl) (bj (aa rfl) ho) hu) af rfl) (ret ..))⟩)⟩
    ·exact⟨f,V,start (on ⟨_,bf (aE (no a2 _)) (a9 (aa rfl) (ret ..))⟩)⟩
theorem m4{F:St->Option (Option D)}{tg:List Nat}{σ:St}{h g:Nat->D}{c:Nat->Bool}(im:∀ x,(g x).imm=true):∀ xs:List Nat,(∀ x∈xs,(aM tg (h x) σ).bind F=some (if c x then some (g x)else none))->bX F tg σ (xs.map h)=some ((xs.filter c).map g)
 | [],_=>rfl
 | x::r,hh=>by
  have a:=hh x (by simp)
  have b:=m4 im r (fun y hy=>hh y (by simp[hy]))
  rw[List.map_cons,bX]
  cases hb:aM tg (h x) σ with
  | none=>rw[hb]at a;cases a
  |some σ1=>
   rw[hb]at a
   simp only[Option.bind_some]at a ⊢
   rw[a,b]
   cases hc:c x<;>simp[jY,im,hc]
noncomputable def pr(f:List Nat)(p:Nat):D:=.tup [.int (p:Nat),.int (at' f p:Nat)]
theorem tN:∀ (f:List Nat) (k:Nat),cG (k:Int) (L f)=(List.range f.length).map fun p=>.tup [.int ((k+p:Nat):Int),.int (at' f p:Nat)]
 | [],k=>rfl
 | x::r,k=>by
  rw[show L (x::r)=.int x::L r from rfl,cG,show(k:Int)+1=((k+1:Nat):Int) by lia,tN r (k+1),List.length_cons,List.range_succ_eq_map,List.map_cons,List.map_map]
  congr 1
  apply List.map_congr_left
  intro p hp
  simp at hp
  have e:at' (x::r) (p+1)=at' r p:=by simp[at',hp]
  simp[e]
  lia
theorem jK{f:List Nat}{m:Nat}(h:f.length=m):cG 0 (L f)=(List.range m).map (pr f):=by
 have:=tN f 0
 rw[h]at this
 simp only[Nat.zero_add]at this
 exact this
theorem mj{β:Type}{f:St->Option (Out × St)}{tg:List Nat}(g:β->D)(im:∀ b,(g b).imm=true)(I:List β->St->Prop):∀ (w done:List β) (σ:St),(∀ u b v σ,done++w=u++b::v->I u σ->∃ σ2,(aM tg (g b) σ).bind f=some (.nx,σ2)/\I (u++[b]) σ2)->I done σ->∃ σ',aZ f tg (w.map g) σ=some (.nx,σ')/\I (done++w) σ'
 | [],done,σ,_,h=>⟨σ,rfl,by simpa using h⟩
 | b::w,done,σ,hs,h=>by
  obtain⟨σ2,h1,h3⟩:=hs done b w σ rfl h
  obtain⟨σ',h4,h5⟩:=mj g im I w (done++[b]) σ2 (fun pre e post σ he=>hs pre e post σ (by simpa using he)) h3
  refine⟨σ',?_,by simpa using h5⟩
  rw[List.map_cons,aZ,if_pos (im b)]
  cases hb:aM tg (g b) σ with
  | none=>rw[hb]at h1;cases h1
  |some σ1=>
   rw[hb]at h1
   simp only[Option.bind_some]at h1 ⊢
   rw[h1]
   exact h4
section
variable{n:Nat}{f:List Nat}
theorem mh{p:Nat}(hp:p<2*n):evF cl cW [.int n,.int (p:Nat)]=some (.int (rd n p:Nat)):=by
 have e1:a8 .mul (.int 3) (.int n)=some (.int (3*n)):=bG (by decide) (by decide)
 by_cases c:p<n
 ·have c1:decide ((p:Int)<n)=true:=by simp;lia
  simp[evF,cW,ah,evS,ev,cS,c1,truth,aV,D.imm,aT,rd,c]
 ·have c1:decide ((p:Int)<n)=false:=by simp;lia
  simp[evF,cW,ah,evS,ev,cS,c1,truth,e1,br,aV,D.imm,aT,rd,c]
  lia
theorem vA{T:D}{to:Nat->Nat}(hn:n<=10)(F:Frm n f)(hT:∀ p:Nat,p<2*n->ixV T (.int (p:Nat))=some (.int (to p:Nat)))(hlt:∀ p,p<2*n->to p<2*n)(inj:∀ p q,p<2*n->q<2*n->to p=to q->p=q) :
  ∃ E:List Nat,E.length=2*n/\(∀ p,p<2*n->at' E (to p)=to (at' f p))/\evF cl kT [.tup (L f),T]=some (.tup (L E)):=by
 have ln:=half (xs:=L f) (n:=n) (by rw[aL,F.len])
 have en:=jK F.len
 have e0:a8 .mul (.lst [.int 0]) (.int (2*(n:Int)))=some (.lst (L (List.replicate (2*n) 0))):=by
  dsimp only[a8]
  rw[if_pos ⟨by lia,by unfold most;lia,by simp[most];lia⟩]
  have:(2*(n:Int)).toNat=2*n:=by lia
  rw[this]
  simp[L]
 obtain⟨σ',e,E,o3,o4,rfl,El,EE⟩:=mj (f:=ah cl [2] lX) (tg:=[3,4]) (pr f) (fun _=>rfl)
  (fun u σ=>∃ (E:List Nat) (o3 o4:Option D),σ=[some (.tup (L f)),some T,some (.lst (L E)),o3,o4]/\E.length=2*n/\∀ p∈u,at' E (to p)=to (at' f p))
  (List.range (2*n)) [] [some (.tup (L f)),some T,some (.lst (L (List.replicate (2*n) 0))),none,none] (by
   rintro u p v σ hu ⟨E,o3,o4,rfl,El,EE⟩
   have hp:p<2*n:=by
    have:p∈List.range (2*n):=by
     simp only[List.nil_append]at hu
     rw[hu];simp
    simpa using this
   have hpu:∀ x∈u,x<2*n/\x≠p:=by
    intro x hx
    simp only[List.nil_append]at hu
    have nd:(List.range (2*n)).Nodup:=List.nodup_range
    have m:x∈List.range (2*n):=by rw[hu];simp[hx]
    rw[hu,List.nodup_append]at nd
    exact⟨by simpa using m,nd.2.2 x hx p (by simp)⟩
   have t1:=hT p hp
   have t2:=hT (at' f p) (F.lt p hp)
   have pt:=gP (f:=E) (i:=to p) (j:=to (at' f p)) (by have:=hlt p hp;lia)
   refine⟨_,?_,E.set (to p) (to (at' f p)),some (.int (p:Nat)),some (.int (at' f p:Nat)),rfl,by simp[El],fun x hx=>?_⟩
   ·simp[aM,bH,pr,lX,ah,evS,ev,t1,t2,D.imm,pt]
   ·rw[eM (by have:=hlt p hp;lia)]
    simp at hx
    rcases hx with hx | rfl
    ·rw[if_neg (fun c=>(hpu x hx).2 (inj x p (hpu x hx).1 hp c))]
     exact EE x hx
    ·rw[if_pos rfl])
  ⟨_,none,none,rfl,by simp,by simp⟩
 refine⟨E,El,fun p hp=>EE p (by simp[hp]),?_⟩
 simp only[evF,kT,ah,evS,ev,evs,bA]
 simp[ev,evs,ln,e0,aJ,aY,eB,en]
 rw[e]
 simp[ah,evS,ev,biV,items,aV,D.imm,aY,aT]
theorem rH{fm frp fpo:Nat}(hn:n<=10)(F:Frm n f)(hpo:∀ xs:List D,cl fpo [.tup xs]=some (.int (xs.length / 2)))(hrp:∀ p:Nat,p<2*n->cl frp [.int n,.int (p:Nat)]=some (.int (rd n p:Nat)))
 (hm:∃ E:List Nat,E.length=2*n/\(∀ p,p<2*n->at' E (rd n p)=rd n (at' f p))/\cl fm [.tup (L f),.lst (L (c9 n))]=some (.tup (L E))) :
  ∃ E:List Nat,E.length=2*n/\(∀ q,q<2*n->at' E q=rnd n f q)/\evF cl (fU fm frp fpo) [.tup (L f)]=some (.tup (L E)):=by
 obtain⟨E,El,EE,hm⟩:=hm
 refine⟨E,El,fun q hq=>?_,?_⟩
 ·have:=EE (rd n q) (bg hq)
  rw[bS hq]at this
  exact this
 ·have e1:a8 .mul (.int 2) (.int n)=some (.int (2*n)):=bG (by decide) (by decide)
  have r2:=bR (n:=2*n) (by lia)
  rw[show((2*n:Nat):Int)=2*(n:Int) by lia]at r2
  have ft:=mK (xs:=List.range (2*n)) (by simp;lia)
  have po:=hpo (L f)
  rw[aL,F.len,show(((2*n:Nat):Int) / 2)=(n:Int) by lia]at po
  have mc:=mP (F:=fun σ1=>(ev cl σ1 (.call frp (.cons (.var 1) (.cons (.var 2) .nil)))).map some) (tg:=[2]) (σ:=[some (.tup (L f)),some (.int n),none]) (g:=fun p=>.int (rd n p:Nat)) (fun _=>rfl) (List.range (2*n)) (by
   intro x hx
   simp at hx
   have:=hrp x hx
   simp[aM,ev,evs,this])
  rw[uj,show(List.range (2*n)).map (fun p=>rd n p)=c9 n from rfl]at mc
  simp only[evF,fU,ah,evS,ev,evs,bA]
  simp[ev,evs,po,aU,D.imm,e1,r2,ft]
  simp[ev,evs]at mc
  rw[mc]
  simp[hm,aV,D.imm,aY,aT]
end
structure Op(r:Nat->Nat)(k:Nat)(W:List Nat):Prop where
 up:W.Pairwise (·<·)
 mem:∀ p,p∈W↔p<k/\k<=r p
section
variable{r:Nat->Nat}{m k:Nat}{W:List Nat}
theorem Op.push(O:Op r k W)(inv:∀ q,q<m->r (r q)=q)(hk:k<m)(h:k<r k):Op r (k+1) (W++[k]):=by
 refine⟨?_,fun p=>?_⟩
 ·rw[List.pairwise_append]
  exact⟨O.up,by simp,fun a ha b hb=>by simp at hb;have:=(O.mem a).mp ha;lia⟩
 ·simp only[List.mem_append,List.mem_singleton,O.mem]
  constructor
  ·rintro(⟨a,b⟩ | rfl)
   ·refine⟨by lia,?_⟩
    by_cases c:r p=k
    ·have:=inv p (by lia)
     rw[c]at this
     lia
    ·lia
   ·lia
  ·rintro⟨a,b⟩
   by_cases c:p=k
   ·exact .inr c
   ·exact .inl ⟨by lia,by lia⟩
end
section
variable{n:Nat}{f:List Nat}
theorem qA{fu fi fp fc fo:Nat}(h1:1<=n)(hn:n<=10)(V:Val n f)(hpo:∀ xs:List D,cl fo [.tup xs]=some (.int (xs.length / 2)))(hc:cl fc [.int n]=some (.bl true))(hp:cl fp [.tup (L f)]=some (.bl true))
 (hi:∃ E:List Nat,E.length=2*n/\(∀ q,q<2*n->at' E q=rnd n f q)/\cl fi [.tup (L f)]=some (.tup (L E)))
 (hu:∀ E:List Nat,E.length=2*n->(∀ q,q<2*n->at' E (at' E q)=q)->(∀ q,q<2*n->at' E q≠q)->(∀ q q',q<2*n->q'<2*n->¬ (q<q'/\q'<at' E q/\at' E q<at' E q'))->(∀ q,q<2*n->at' E q<2*n)->cl fu [.tup (L E)]=some (.bl true)) :
  evF cl (gd fu fi fp fc fo) [.tup (L f)]=some (.bl true):=by
 have F:=V.frm
 obtain⟨E,El,Ea,hi⟩:=hi
 have rl:∀ q,q<2*n->rnd n f q<2*n:=fun q hq=>bg (F.lt _ (bg hq))
 have hu:=hu E El (fun q hq=>by
   rw[Ea q hq,Ea _ (rl q hq)]
   unfold rnd
   rw[bS (F.lt _ (bg hq)),F.inv,bS hq]) (fun q hq e=>by
   rw[Ea q hq]at e
   unfold rnd at e
   have:=congrArg (rd n) e
   rw[bS (F.lt _ (bg hq))]at this
   exact F.no _ (bg hq) this) (fun q q' h h'=>by
   rw[Ea q h,Ea q' h']
   exact V.nox q q' h h') (fun q hq=>by rw[Ea q hq];exact rl q hq)
 have e1:a8 .mul (.int 2) (.int n)=some (.int (2*n)):=bG (by decide) (by decide)
 have ln:=half (xs:=L f) (n:=n) (by rw[aL,F.len])
 have po:=hpo (L f)
 rw[aL,F.len,show(((2*n:Nat):Int) / 2)=(n:Int) by lia]at po
 have en:=jK F.len
 have ft:fits ((List.range (2*n)).map (pr f))=some ((List.range (2*n)).map (pr f)):=by
  unfold fits
  rw[if_pos (by simp[most];lia)]
 have mc:=m4 (F:=fun σ1=>((ev cl σ1 (.cmp .eq (.var 3) (.var 4))).bind truth).bind fun k=>if k then(ev cl σ1 (.var 3)).map some else some none) (tg:=[3,4]) (σ:=[some (.tup (L f)),some (.int n),none,none,none]) (h:=pr f) (g:=fun p=>.int (p:Nat)) (c:=fun _=>false) (fun _=>rfl) (List.range (2*n)) (by
  intro x hx
  simp at hx
  have c2:((x:Int) == (at' f x:Nat))=false:=beq_eq_false_iff_ne.mpr (by have:=F.no x hx;lia)
  simp[aM,bH,pr,ev,bW,c2,truth])
 rw[show(List.range (2*n)).filter (fun _=>false)=[]from List.filter_eq_nil_iff.mpr (by simp),List.map_nil]at mc
 have ne0:bc .ne (.int (2*(n:Int))) (.int (2*(n:Int)))=some false:=by
  rw[CF]
  simp
 simp only[evF,gd,ah,evS,ev,evs,bA]
 simp[ev,evs,po,aU,D.imm,ln,e1,ne0,hc,hp,truth,ah,evS,bA,eB,en,ft]
 simp[ev]at mc
 rw[mc]
 simp[ah,evS,ev,evs,aJ,au,hi,hu,truth,aV,D.imm,aT,avE]
theorem mZ{fi:Nat}{x:D}(h:cl fi [x]=some (.bl true)):evF cl (dQ fi) [x]=some .non:=by
 simp[evF,dQ,ah,evS,ev,evs,h,truth,aT]
noncomputable def thr(n:Nat)(f:List Nat):Nat:=((List.range n).filter fun p=>decide (n<=at' f p)).length
theorem sH(F:Frm n f):f.take n=(List.range n).map (at' f):=by
 have hl:=F.len
 apply List.ext_getElem?
 intro i
 by_cases hi:i<n
 ·rw[List.getElem?_take_of_lt hi,cJ (by lia)]
  simp[hi]
 ·rw[List.getElem?_eq_none (by simp;lia),List.getElem?_eq_none (by simp;lia)]
end
theorem iP{β:Type}{F:St->Option (Option D)}{tg:List Nat}{σ:St}{h g:β->D}(im:∀ x,(g x).imm=true):∀ xs:List β,(∀ x∈xs,(aM tg (h x) σ).bind F=some (some (g x)))->bX F tg σ (xs.map h)=some (xs.map g)
 | [],_=>rfl
 | x::r,hh=>by
  have a:=hh x (by simp)
  have b:=iP im r (fun y hy=>hh y (by simp[hy]))
  rw[List.map_cons,bX]
  cases hb:aM tg (h x) σ with
  | none=>rw[hb]at a;cases a
  |some σ1=>
   rw[hb]at a
   simp only[Option.bind_some]at a ⊢
   rw[a,b]
   simp[jY,im]
theorem pR(x:Bool):bc .ne (.bl x) (.bl x)=some false:=by cases x<;>rfl
theorem zT(x:Bool):bc .eq (.bl x) (.bl x)=some true:=by cases x<;>rfl
section
variable{fs:Nat}{d:D}{kb ki kl kt:Bool}{res:Option (Out × St)}{r:Ss}
theorem Bl(hN:(match d with | .non=>some (D.bl (!false)) | .dK _ _=>none | .dT _ _=>none | _=>some (.bl false))=some (D.bl false))(hb:cV .bool d=some kb)(hi:cV .int d=some ki)(hl:cV .list d=some kl)(ht:cV .tuple d=some kt)
 (k:ah cl [] r [some d,some d,none,none]=res):ah cl [] (.cons (.ife (.isN false (.var 1)) (.cons (.ret (.isN false (.var 0))) .nil) .nil) (.cons (.ife (.or (.cmp .ne (.isi (.var 0) .bool) (.isi (.var 1) .bool)) (.cmp .ne (.isi (.var 0) .int) (.isi (.var 1) .int))) (.cons (.ret (.cst (.bl false))) .nil) .nil) (.cons (.ife (.or (.cmp .ne (.isi (.var 0) .list) (.isi (.var 1) .list)) (.cmp .ne (.isi (.var 0) .tuple) (.isi (.var 1) .tuple))) (.cons (.ret (.cst (.bl false))) .nil) .nil) r))) [some d,some d,none,none]=res :=
 bf (aE (F7 hN (aa rfl))) (bf (aE (fQ (a5 (da (aa rfl) hb) (da (aa rfl) hb) (pR _)) (a5 (da (aa rfl) hi) (da (aa rfl) hi) (pR _)))) (bf (aE (fQ (a5 (da (aa rfl) hl) (da (aa rfl) hl) (pR _)) (a5 (da (aa rfl) ht) (da (aa rfl) ht) (pR _)))) k))
theorem wu{ks:Bool}(hN:(match d with | .non=>some (D.bl (!false)) | .dK _ _=>none | .dT _ _=>none | _=>some (.bl false))=some (D.bl false))(hb:cV .bool d=some kb)(hi:cV .int d=some ki)(hl:cV .list d=some false)(ht:cV .tuple d=some false)(hs:cV .str d=some ks)(he:bc .eq d d=some true):evF cl (gb fs) [d,d]=some (.bl true) :=
 aC rfl rfl (Bl hN hb hi hl ht (bN (aE (cU (dM (da (aa rfl) hl)) (dM (da (aa rfl) ht)))) (a9 (cU (a5 (da (aa rfl) hs) (da (aa rfl) hs) (zT _)) (a5 (aa rfl) (aa rfl) he)) rfl)))
end
end RM
set_option maxHeartbeats 1000000
namespace RM
open RL RT
theorem wR{β:Type}{f:St->Option (Out × St)}{tg:List Nat}{d:D}{B:Prop}(g:β->D)(im:∀ b,(g b).imm=true)(I:List β->St->Prop):∀ (w done:List β) (σ:St),(∀ u b v σ,done++w=u++b::v->I u σ->(∃ σ2,(aM tg (g b) σ).bind f=some (.nx,σ2)/\I (u++[b]) σ2)\/(B/\∃ σ2,(aM tg (g b) σ).bind f=some (.rt d,σ2)))->I done σ->(∃ σ',aZ f tg (w.map g) σ=some (.nx,σ')/\I (done++w) σ')\/(B/\∃ σ',aZ f tg (w.map g) σ=some (.rt d,σ'))
 | [],done,σ,_,h=>.inl ⟨σ,rfl,by simpa using h⟩
 | b::w,done,σ,hs,h=>by
  rcases hs done b w σ rfl h with⟨σ2,h1,h3⟩ | ⟨hB,σ2,h1⟩
  ·have go:∀ {r:Option (Out × St)},aZ f tg (w.map g) σ2=r->aZ f tg ((b::w).map g) σ=r:=fun {r} e=>by
    rw[List.map_cons,aZ,if_pos (im b)]
    cases hb:aM tg (g b) σ with
    | none=>rw[hb]at h1;cases h1
    |some σ1=>
     rw[hb]at h1
     simp only[Option.bind_some]at h1 ⊢
     rw[h1]
     exact e
   rcases wR (d:=d) (B:=B) g im I w (done++[b]) σ2 (fun pre e post σ he=>hs pre e post σ (by simpa using he)) h3 with⟨σ',h4,h5⟩ | ⟨hB,σ',h4⟩
   ·exact .inl ⟨σ',go h4,by simpa using h5⟩
   ·exact .inr ⟨hB,σ',go h4⟩
  ·refine .inr ⟨hB,σ2,?_⟩
   rw[List.map_cons,aZ,if_pos (im b)]
   cases hb:aM tg (g b) σ with
   | none=>rw[hb]at h1;cases h1
   |some σ1=>
    rw[hb]at h1
    simp only[Option.bind_some]at h1 ⊢
    rw[h1]
    rfl
theorem xg{cl:Cl}{M:List Nat}{σ:St}{i:Nat}{e:E}{a b r:Ss}{xs:List D}{p q:Int}{res:Option (Out × St)}(hi:(σ[i]?).bind id=some (.lst (xs++[.int p])))(h:ev cl (σ.set i (some (.lst xs))) e=some (.int q))(k:ah cl M (.cons (.ife (.cst (.bl (decide (p=q)))) b a) r) (σ.set i (some (.lst xs)))=res):ah cl M (.cons (.ifp i e a b) r) σ=res:=by
 have l:evS cl M (.ifp i e a b) σ=if decide (p=q)=true then ah cl M b (σ.set i (some (.lst xs)))else ah cl M a (σ.set i (some (.lst xs))):=by
  rw[evS,hi,Option.bind_some]
  show((xs++[D.int p])[(xs++[D.int p]).length-1]?).bind _=_
  rw[show(xs++[D.int p])[(xs++[D.int p]).length-1]?=some (.int p) by simp,Option.bind_some,List.dropLast_concat,h]
  rfl
 have r':evS cl M (.ife (.cst (.bl (decide (p=q)))) b a) (σ.set i (some (.lst xs)))=if decide (p=q)=true then ah cl M b (σ.set i (some (.lst xs)))else ah cl M a (σ.set i (some (.lst xs))):=by
  rw[evS,af]
  rfl
 rw[ah,r',<-l,<-ah]at k
 exact k
noncomputable def Nx(r:Nat->Nat)(m:Nat):Prop:=∀ q q',q<q'->q'<r q->r q<m->¬ (r q<r q'\/r q'=q')
structure Oq(r:Nat->Nat)(k:Nat)(W:List Nat):Prop extends Op r k W where
 nx:Nx r k
 al:∀ q q',q<q'->q'<k->k<=r q->r q'≠q'
section
variable{r:Nat->Nat}{m k:Nat}{W:List Nat}
theorem Oq.push(O:Oq r k W)(inv:∀ q,q<m->r (r q)=q)(hk:k<m)(h:k<r k):Oq r (k+1) (W++[k]) where
 toOp:=O.toOp.push inv hk h
 nx:=fun q q' h1 h2 h3=>by
  by_cases c:r q=k
  ·exfalso
   have:=inv q (by lia)
   rw[c]at this
   lia
  ·exact O.nx q q' h1 h2 (by lia)
 al:=fun q q' h1 h2 h3=>by
  by_cases c:q'=k
  ·subst c;lia
  ·exact O.al q q' h1 (by lia) (by lia)
theorem Oq.alone(O:Oq r k [])(inv:∀ q,q<m->r (r q)=q)(hk:k<m)(h:r k=k):Oq r (k+1) []:=by
 have no:∀ q,q<k->k<=r q->False:=fun q h1 h2=>by
  have:=(O.mem q).mpr ⟨h1,h2⟩
  cases this
 refine⟨⟨.nil,fun p=>⟨fun h=>(by cases h),fun⟨a,b⟩=>?_⟩⟩,fun q q' h1 h2 h3=>?_,fun q q' h1 h2 h3=>?_⟩
 ·by_cases c:p=k
  ·subst c;lia
  ·exact(no p (by lia) (by lia)).elim
 ·by_cases c:r q=k
  ·exfalso
   have:=inv q (by lia)
   rw[c,h]at this
   lia
  ·exact O.nx q q' h1 h2 (by lia)
 ·exact(no q (by lia) (by lia)).elim
theorem Oq.pop{W0:List Nat}(O:Oq r k (W0++[r k]))(inv:∀ q,q<m->r (r q)=q)(hk:k<m)(h:r k<k):Oq r (k+1) W0:=by
 have up:=O.up
 rw[List.pairwise_append]at up
 refine⟨⟨up.1,fun p=>?_⟩,fun q q' h1 h2 h3=>?_,fun q q' h1 h2 h3=>?_⟩
 ·constructor
  ·intro hp
   have lt:=up.2.2 p hp (r k) (by simp)
   have:=(O.mem p).mp (by simp[hp])
   refine⟨by lia,?_⟩
   by_cases c:r p=k
   ·have i:=inv p (by lia)
    rw[c]at i
    lia
   ·lia
  ·rintro⟨a,b⟩
   have pk:p≠k:=by rintro rfl;lia
   have:=(O.mem p).mpr ⟨by lia,by lia⟩
   simp at this
   rcases this with h | h
   ·exact h
   ·rw[h,inv k hk]at b
    lia
 ·by_cases c:r q=k
  ·have i:=inv q (by lia)
   rw[c]at i
   subst i
   rintro(z | z)
   ·have mq:=(O.mem q').mpr ⟨by lia,by lia⟩
    simp at mq
    rcases mq with mq | mq
    ·have:=up.2.2 q' mq (r k) (by simp)
     lia
    ·lia
   ·exact O.al (r k) q' h1 (by lia) (by lia) z
  ·exact O.nx q q' h1 h2 (by lia)
 ·by_cases c:q'=k
  ·subst c;lia
  ·exact O.al q q' h1 (by lia) (by lia)
end
theorem sC{cl:Cl}{m:Nat}{E:List Nat}(hm:m<=1000)(El:E.length=m)(inv:∀ q,q<m->at' E (at' E q)=q)(lt:∀ q,q<m->at' E q<m):∃ b:Bool,evF cl eW [.tup (L E)]=some (.bl b)/\(b=true->Nx (at' E) m)/\(Nx (at' E) m->b=true):=by
 have en:=jK El
 have st:=wR (B:=¬ Nx (at' E) m) (f:=ah cl [1] bL) (tg:=[2,3]) (d:=.bl false) (pr E) (fun _=>rfl)
  (fun u σ=>∃ (W:List Nat) (o2 o3:Option D),σ=[some (.tup (L E)),some (.lst (L W)),o2,o3]/\Oq (at' E) u.length W/\W.length<=u.length)
  (List.range m) [] [some (.tup (L E)),some (.lst (L [])),none,none] (by
   rintro u p v σ hu ⟨W,o2,o3,rfl,O,Wl⟩
   obtain⟨hk,hp⟩:=cF (g:=id) (by simpa using hu)
   simp only[id]at hp
   subst hp
   have ml:(L W).length<most:=by rw[aL];unfold most;lia
   by_cases c:u.length<at' E u.length
   ·refine .inl ⟨_,show ah cl [1] bL [some (.tup (L E)),some (.lst (L W)),some (.int (u.length:Nat)),some (.int (at' E u.length:Nat))]=some (.nx,_)from eE (aE (a5 (k:=true) (aa rfl) (aa rfl) (by rw[jJ,decide_eq_true (by lia)]))) (qW (aa rfl) rfl rfl ml aG) aG,W++[u.length],some (.int (u.length:Nat)),some (.int (at' E u.length:Nat)),?_,?_,?_⟩
    ·rw[cD];rfl
    ·rw[List.length_append];exact O.push inv hk c
    ·simp;lia
   ·have cg:(ev cl [some (.tup (L E)),some (.lst (L W)),some (.int (u.length:Nat)),some (.int (at' E u.length:Nat))] (.cmp .gt (.var 3) (.var 2))).bind truth=some false:=aE (a5 (k:=false) (aa rfl) (aa rfl) (by rw[jJ,decide_eq_false (by lia)]))
    by_cases c2:at' E u.length=u.length
    ·have ce:(ev cl [some (.tup (L E)),some (.lst (L W)),some (.int (u.length:Nat)),some (.int (at' E u.length:Nat))] (.cmp .eq (.var 3) (.var 2))).bind truth=some true:=aE (a5 (k:=true) (aa rfl) (aa rfl) (by rw[bW,c2,beq_self_eq_true]))
     cases W with
     |nil=>
      exact .inl ⟨_,show ah cl [1] bL [some (.tup (L E)),some (.lst (L [])),some (.int (u.length:Nat)),some (.int (at' E u.length:Nat))]=some (.nx,_)from jF cg (eE ce (bf (by rw[aa rfl];rfl) aG) aG) aG,[],_,_,rfl,by rw[List.length_append];exact O.alone inv hk c2,by simp⟩
     |cons w W=>
      exact .inr ⟨fun N=>by
       obtain⟨w1,w2⟩:=(O.mem w).mp (List.mem_cons_self ..)
       have wk:at' E w≠u.length:=fun z=>by
        have:=inv w (by lia)
        rw[z,c2]at this
        lia
       exact N w u.length w1 (by lia) (lt w (by lia)) (.inr c2),_,show ah cl [1] bL [some (.tup (L E)),some (.lst (L (w::W))),some (.int (u.length:Nat)),some (.int (at' E u.length:Nat))]=some (.rt (.bl false),_)from kD cg (bN ce (bN (by rw[aa rfl];rfl) (a9 af rfl)))⟩
    ·have ce:(ev cl [some (.tup (L E)),some (.lst (L W)),some (.int (u.length:Nat)),some (.int (at' E u.length:Nat))] (.cmp .eq (.var 3) (.var 2))).bind truth=some false:=aE (a5 (k:=false) (aa rfl) (aa rfl) (by rw[bW,beq_eq_false_iff_ne.mpr (by lia)]))
     have m1:at' E u.length∈W:=(O.mem _).mpr ⟨by lia,by rw[inv _ hk];exact Nat.le_refl _⟩
     have ne:W≠[]:=List.ne_nil_of_mem m1
     have dl:=List.dropLast_concat_getLast ne
     generalize W.getLast ne=z at dl
     generalize W.dropLast=W0 at dl
     subst dl
     have hi:(([some (D.tup (L E)),some (.lst (L (W0++[z]))),some (.int (u.length:Nat)),some (.int (at' E u.length:Nat))]:St)[1]?).bind id=some (.lst (L W0++[.int (z:Nat)])):=by rw[cD];rfl
     by_cases c3:z=at' E u.length
     ·refine .inl ⟨_,show ah cl [1] bL [some (.tup (L E)),some (.lst (L (W0++[z]))),some (.int (u.length:Nat)),some (.int (at' E u.length:Nat))]=some (.nx,_)from jF cg (jF ce (xg hi (aa rfl) (eE (by rw[af,decide_eq_true (by lia)];rfl) aG aG)) aG) aG,W0,_,_,rfl,?_,?_⟩
      ·rw[List.length_append]
       subst c3
       exact O.pop inv hk (by lia)
      ·simp at Wl ⊢;lia
     ·exact .inr ⟨fun N=>by
       have up:=O.up
       rw[List.pairwise_append]at up
       have m0:at' E u.length∈W0:=by
        rcases List.mem_append.mp m1 with h | h
        ·exact h
        ·exact absurd (List.mem_singleton.mp h).symm c3
       have lz:=up.2.2 _ m0 z (by simp)
       have zz:=(O.mem z).mp (by simp)
       have zk:at' E z≠u.length:=fun q=>by
        have:=inv z (by lia)
        rw[q]at this
        exact c3 this.symm
       have i:=inv u.length hk
       exact N (at' E u.length) z lz (by rw[i];exact zz.1) (by rw[i];exact hk) (.inl (by rw[i];lia)),_,show ah cl [1] bL [some (.tup (L E)),some (.lst (L (W0++[z]))),some (.int (u.length:Nat)),some (.int (at' E u.length:Nat))]=some (.rt (.bl false),_)from kD cg (kD ce (xg hi (aa rfl) (kD (by rw[af,decide_eq_false (by lia)];rfl) (a9 af rfl))))⟩)
  ⟨[],none,none,rfl,⟨⟨by simp,by simp⟩,fun q q' _ _ h=>absurd h (Nat.not_lt_zero _),fun q q' _ h=>absurd h (Nat.not_lt_zero _)⟩,by simp⟩
 rw[<-en]at st
 rcases st with⟨σ',e,W,o2,o3,rfl,O,_⟩ | ⟨nN,σ',e⟩
 ·refine⟨true,aC rfl rfl (gC (de b9) rfl (cz (mz (aa rfl) rfl) e (a9 af rfl))),fun _=>?_,fun _=>rfl⟩
  have:=O.nx
  rw[List.nil_append,List.length_range]at this
  exact this
 ·exact⟨false,aC rfl rfl (gC (de b9) rfl (AS (mz (aa rfl) rfl) e)),(fun h=>by cases h),fun N=>absurd N nN⟩
end RM
set_option maxHeartbeats 1000000
namespace RM
open RL RT
noncomputable def xi(xs:List Int)(p:Nat):Int:=(xs[p]?).getD 0
noncomputable def nb(xs:List Int)(p:Nat):Bool:=decide (0<=xi xs p/\xi xs p<xs.length)&&decide (xi xs (xi xs p).toNat=p)
theorem zG{xs:List Int}{p:Nat}(h:p<xs.length):ixV (.tup (LI xs)) (.int (p:Nat))=some (.int (xi xs p)):=by
 show cj _ _=_
 rw[dA]
 simp[LI,xi,h]
theorem rh(xs:List Int):biV .len (.tup (LI xs))=some (.int (xs.length:Nat)):=congrArg (fun n:Nat=>some (D.int n)) (wq xs)
theorem bls{β:Type}(g:β->Bool):∀ xs:List β,eu (xs.map fun x=>D.bl (g x))=some (xs.map g)
 | []=>rfl
 | x::r=>by rw[List.map_cons,eu,bls g r];rfl
theorem A3{β:Type}(g:β->Bool)(xs:List β):biV .all (.lst (xs.map fun x=>D.bl (g x)))=some (.bl (xs.all g)):=by
 show(eu (xs.map fun x=>D.bl (g x))).map _=_
 rw[bls,Option.map_some,List.all_map]
 rfl
section
variable{cl:Cl}{xs:List Int}
theorem wL{fn:Nat}(hnum:∀ i:Int,cl fn [.int i]=some (.bl true)){p:Nat}(hp:p<xs.length):evF cl (gI fn) [.tup (LI xs),.int (p:Nat)]=some (.bl (nb xs p)):=by
 unfold nb
 have a1:ev cl [some (.tup (LI xs)),some (.int (p:Nat)),some (.int (xi xs p))] (.call fn (.cons (.var 2) .nil))=some (.bl true):=bj (aa rfl) (hnum _)
 have as:∀ {res:Option (Out × St)} {r:Ss},ah cl [] r [some (.tup (LI xs)),some (.int (p:Nat)),some (.int (xi xs p))]=res->ah cl [] (.cons (.asg 2 (.ix (.var 0) (.var 1))) r) [some (.tup (LI xs)),some (.int (p:Nat)),none]=res:=fun h=>a7 (bp (aa rfl) (aa rfl) (zG hp)) rfl h
 by_cases c:0<=xi xs p/\xi xs p<xs.length
 ·rw[decide_eq_true c,Bool.true_and]
  obtain⟨j,hj⟩:=Int.eq_ofNat_of_zero_le c.1
  rw[hj]at c as a1 ⊢
  have i2:=zG (xs:=xs) (p:=j) (by lia)
  exact aC rfl rfl (as (a9 (cU a1 (cU (oq (k:=true) af (aa rfl) (bo (aa rfl) (rh xs)) (by rw[ur,decide_eq_true c.1]) (by rw[cS,decide_eq_true c.2])) (a5 (bp (aa rfl) (aa rfl) i2) (aa rfl) (by
   rw[bW,Int.toNat_natCast]
   congr 1)))) rfl))
 ·rw[decide_eq_false c,Bool.false_and]
  by_cases c1:0<=xi xs p
  ·exact aC rfl rfl (as (a9 (cU a1 (i8 (oq (k:=false) af (aa rfl) (bo (aa rfl) (rh xs)) (by rw[ur,decide_eq_true c1]) (by rw[cS,decide_eq_false (fun z=>c ⟨c1,z⟩)])))) rfl))
  ·exact aC rfl rfl (as (a9 (cU a1 (i8 (yI af (aa rfl) (by rw[ur,decide_eq_false c1])))) rfl))
theorem l7{fb:Nat}(hm:xs.length<=1000)(hb:∀ p:Nat,p<xs.length->cl fb [.tup (LI xs),.int (p:Nat)]=some (.bl (nb xs p))):evF cl (gE fb) [.tup (LI xs)]=some (.bl ((List.range xs.length).all (nb xs))):=by
 have mc:=iP (F:=fun σ1=>(ev cl σ1 (.call fb (.cons (.var 0) (.cons (.var 1) .nil)))).map some) (tg:=[1]) (σ:=[some (.tup (LI xs)),none]) (h:=fun p=>.int (p:Nat)) (g:=fun p=>.bl (nb xs p)) (fun _=>rfl) (List.range xs.length) (by
  intro p hp
  show(ev cl [some (.tup (LI xs)),some (.int (p:Nat))] (.call fb (.cons (.var 0) (.cons (.var 1) .nil)))).map some=_
  rw[bQ (aa rfl) (aa rfl) (hb p (List.mem_range.mp hp))]
  rfl)
 exact aC rfl rfl (a9 (cU (da (aa rfl) rfl) (bo (dE (gK (bo (aa rfl) (rh xs)) (bR hm)) (by rw[aL,List.length_range];unfold most;lia) mc) (A3 _ _))) rfl)
theorem CV(f:List Nat):L f=LI (f.map Int.ofNat):=by unfold L LI;rw[List.map_map];rfl
theorem m9{m:Nat}{h:List Nat}(len:h.length=m)(lt:∀ q,q<m->at' h q<m)(inv:∀ q,q<m->at' h (at' h q)=q):(List.range (h.map Int.ofNat).length).all (nb (h.map Int.ofNat))=true:=by
 have x1:∀ q,q<m->xi (h.map Int.ofNat) q=(at' h q:Nat):=fun q hq=>by simp[xi,at',show q<h.length by lia]
 rw[List.all_eq_true,List.length_map,len]
 intro q hq
 have hq:=List.mem_range.mp hq
 have l:=lt q hq
 unfold nb
 rw[x1 q hq,Int.toNat_natCast,x1 _ l,inv q hq,List.length_map,len]
 rw[decide_eq_true ⟨by lia,by lia⟩]
 simp
end
structure Dg(T:List Fn)(mx rw dg:Nat):Prop where
 Gx:T[mx]?=some jU
 GI:T[rw]?=some (ky mx)
 G9:T[dg]?=some (eA rw)
theorem Dg.digits{T:List Fn}{mx rw dg:Nat}(h:Dg T mx rw dg){ns:List Int}(hl:ns.length<=63)(n:Nat){k:Nat}{sizes:List Nat}(hk:k<=1000)(hp:∀ s∈sizes,0<s/\s<2 ^ 200)(hz:sizes.length<=1000) :
  ∃ ds:List Nat,jI ds sizes/\aq T (n+3) dg [.lst (LI ns),.int k,.lst (L sizes)]=some (.lst (L ds)):=by
 obtain⟨r,hr⟩:=Be (cl:=aq T (n+1)) (f:=mx) (fun s=>by
  obtain⟨m,hm⟩:=Av (cl:=aq T n) s
  exact⟨m,(ao h.Gx).trans hm⟩) hl hk
 obtain⟨ds,h1,h2⟩:=uJ (cl:=aq T (n+2)) (f:=rw) ((ao h.GI).trans hr) hp hz
 exact⟨ds,h1,(ao h.G9).trans h2⟩
structure Dr(T:List Fn)(mx rw dg pl hk ci ft tx rg hu ov fr:Nat):Prop extends Dg T mx rw dg where
 Gr:T[pl]?=some dJ
 GO:T[hk]?=some (fX pl)
 GB:T[ci]?=some eP
 GR:T[ft]?=some (eg ci)
 GQ:T[tx]?=some jg
 ya:T[rg]?=some eS
 xW:T[hu]?=some (gf rg)
 Gb:T[ov]?=some gg
 GA:T[fr]?=some (il hu ov ft tx hk pl dg)
section
variable{T:List Fn}{mx rw dg pl hk ci ft tx rg hu ov fr:Nat}
theorem Dr.plain(h:Dr T mx rw dg pl hk ci ft tx rg hu ov fr)(n:Nat){k:Nat}(hk:k<=10):aq T (n+1) pl [.int k]=some (.tup (L (aP k))):=(ao h.Gr).trans (p9 hk)
theorem Dr.hook(h:Dr T mx rw dg pl hk ci ft tx rg hu ov fr)(n:Nat){k i:Nat}(hk':k<=10)(hi:i+1<k):aq T (n+2) hk [.int k,.int i]=some (.tup (L (f7 k i))):=(ao h.GO).trans (rG hk' hi (h.plain n hk'))
theorem Dr.BM(h:Dr T mx rw dg pl hk ci ft tx rg hu ov fr)(n:Nat){k:Nat}(h1:1<=k)(hk':k<=10):aq T (n+1) ci [.int k]=some (.lst (L (c9 k))):=(ao h.GB).trans (ub h1 hk')
theorem Dr.over(h:Dr T mx rw dg pl hk ci ft tx rg hu ov fr)(n:Nat){k:Nat}{f:List Nat}(h1:1<=k)(hk':k<=10)(hf:f.length=2*k):aq T (n+1) ov [.tup (L f)]=some (.tup (L (bu k f))):=(ao h.Gb).trans (qh h1 hk' hf)
theorem Dr.CH(h:Dr T mx rw dg pl hk ci ft tx rg hu ov fr){ns:List Int}(hl:ns.length<=63)(n:Nat){k m:Nat}(hk':k<=1000)(h1:1<=m)(hm:m<=10)
 (hh:∀ f:List Nat,Val m f->∃ (g:List Nat) (r:Int),Val m g/\aq T (n+3) hu [.tup (L f),.tup (L (bu m f))]=some (.tup [.tup (L g),.int r])):∃ f:List Nat,Val m f/\aq T (n+4) fr [.lst (LI ns),.int k,.int m]=some (.tup (L f)):=by
 obtain⟨f,V,e⟩:=wI (cl:=aq T (n+3)) (fhu:=hu) (fov:=ov) (ffr:=ft) (ftx:=tx) (fho:=hk) (fpl:=pl) (fdi:=dg) (scr:=.lst (LI ns)) (k:=k) h1 hm
  (h.digits hl n hk' (by
   intro s hs
   simp only[List.mem_cons,List.not_mem_nil,or_false]at hs
   rcases hs with rfl | rfl | rfl
   ·decide
   ·decide
   ·exact⟨by omega,Nat.lt_of_le_of_lt (show max 1 (m-1)<=10 by lia) (by decide)⟩) (by simp))
  (h.plain (n+2) hm) (fun i hi=>h.hook (n+1) hm hi)
  (fun r=>by
   obtain⟨w,h1,h2,h3⟩:=yE (cl:=aq T (n+2)) (r:=r) hm
   exact⟨w,h1,h2,(ao h.GQ).trans h3⟩)
  (fun w a b=>by
   obtain⟨f,V,e⟩:=pA (cl:=aq T (n+2)) (fc:=ci) h1 hm (h.BM (n+1) h1 hm) a b
   exact⟨f,V,(ao h.GR).trans e⟩)
  (fun f hf=>h.over (n+2) h1 hm hf) hh
 exact⟨f,V,(ao h.GA).trans e⟩
end
structure Ck(T:List Fn)(nu pc pa nb un if' cf po rp ir mv:Nat):Prop where
 G4:T[nu]?=some ib
 GC:T[pc]?=some (dB nu)
 DQ:T[pa]?=some (gE nb)
 DV:T[nb]?=some (gI nu)
 CD:T[un]?=some eW
 FU:T[if']?=some (gd un ir pa pc po)
 G3:T[cf]?=some (dQ if')
 GS:T[po]?=some jH
 Gq:T[rp]?=some cW
 Gw:T[ir]?=some (fU mv rp po)
 Gk:T[mv]?=some kT
section
variable{T:List Fn}{nu pc pa nb un if' cf po rp ir mv:Nat}
theorem Ck.num(h:Ck T nu pc pa nb un if' cf po rp ir mv)(n:Nat)(i:Int):aq T (n+1) nu [.int i]=some (.bl true):=(ao h.G4).trans (pC i)
theorem Ck.xU(h:Ck T nu pc pa nb un if' cf po rp ir mv)(n:Nat)(i:Int):aq T (n+2) pc [.int i]=some (.bl (decide (1<=i/\i<=10))):=(ao h.GC).trans (lM (h.num n) i)
theorem Ck.of(h:Ck T nu pc pa nb un if' cf po rp ir mv)(n:Nat)(xs:List D):aq T (n+1) po [.tup xs]=some (.int (xs.length / 2)):=(ao h.GS).trans (ql xs)
theorem Ck.half(h:Ck T nu pc pa nb un if' cf po rp ir mv)(n:Nat){k:Nat}{f:List Nat}(hf:f.length=2*k):aq T (n+1) po [.tup (L f)]=some (.int k):=by
 rw[h.of,aL,hf]
 congr 2
 lia
theorem Ck.place(h:Ck T nu pc pa nb un if' cf po rp ir mv)(n:Nat){k p:Nat}(hp:p<2*k):aq T (n+1) rp [.int k,.int (p:Nat)]=some (.int (rd k p:Nat)):=(ao h.Gq).trans (mh hp)
theorem Ck.move(h:Ck T nu pc pa nb un if' cf po rp ir mv)(n:Nat){k:Nat}{f:List Nat}{U:D}{to:Nat->Nat}(hk:k<=10)(F:Frm k f)(hT:∀ p:Nat,p<2*k->ixV U (.int (p:Nat))=some (.int (to p:Nat)))(hlt:∀ p,p<2*k->to p<2*k)(inj:∀ p q,p<2*k->q<2*k->to p=to q->p=q) :
  ∃ E:List Nat,E.length=2*k/\(∀ p,p<2*k->at' E (to p)=to (at' f p))/\aq T (n+1) mv [.tup (L f),U]=some (.tup (L E)):=by
 obtain⟨E,h1,h2,h3⟩:=vA (cl:=aq T n) (T:=U) (to:=to) hk F hT hlt inj
 exact⟨E,h1,h2,(ao h.Gk).trans h3⟩
theorem Ck.round(h:Ck T nu pc pa nb un if' cf po rp ir mv)(n:Nat){k:Nat}{f:List Nat}(hk:k<=10)(F:Frm k f):∃ E:List Nat,E.length=2*k/\(∀ q,q<2*k->at' E q=rnd k f q)/\aq T (n+2) ir [.tup (L f)]=some (.tup (L E)):=by
 obtain⟨E,h1,h2,h3⟩:=rH (cl:=aq T (n+1)) (fm:=mv) (frp:=rp) (fpo:=po) hk F (h.of n) (fun p hp=>h.place n hp) (h.move n (U:=.lst (L (c9 k))) (to:=rd k) hk F (fun p hp=>nW hp) (fun p hp=>bg hp) (fun p q hp hq h=>iG hp hq h))
 exact⟨E,h1,h2,(ao h.Gw).trans h3⟩
theorem Ck.frame(h:Ck T nu pc pa nb un if' cf po rp ir mv)(n:Nat){k:Nat}{f:List Nat}(h1:1<=k)(hk:k<=10)(V:Val k f):aq T (n+4) if' [.tup (L f)]=some (.bl true) :=
 (ao h.FU).trans (qA h1 hk V (h.of (n+2)) (by rw[h.xU (n+1),decide_eq_true (by lia)])
  (by
   have F:=V.frm
   have p:=(ao (n:=n+2) h.DQ).trans (l7 (xs:=f.map Int.ofNat) (by rw[List.length_map,F.len];lia) fun q hq=>(ao h.DV).trans (wL (h.num n) hq))
   rw[m9 F.len F.lt (fun q _=>F.inv q),<-CV]at p
   exact p)
  (h.round (n+1) hk V.frm) (fun E a b c d l=>(ao h.CD).trans (by
   obtain⟨w,e,_,hb⟩:=sC (cl:=aq T (n+2)) (m:=2*k) (by lia) a b l
   rw[hb fun q q' x y z w=>by
    have:=d q q' (by lia) (by lia)
    have:=c q' (by lia)
    lia]at e
   exact e)))
theorem Ck.check(h:Ck T nu pc pa nb un if' cf po rp ir mv)(n:Nat){k:Nat}{f:List Nat}(h1:1<=k)(hk:k<=10)(V:Val k f):aq T (n+5) cf [.tup (L f)]=some .non:=(ao h.G3).trans (mZ (h.frame n h1 hk V))
theorem Ck.zy(h:Ck T nu pc pa nb un if' cf po rp ir mv){cp:Nat}(hcp:T[cp]?=some (bV pc))(n:Nat){k:Nat}(h1:1<=k)(hk:k<=10):aq T (n+3) cp [.int k]=some .non:=(ao hcp).trans (nR (by rw[h.xU,decide_eq_true (by lia)]))
theorem Ck.plain(h:Ck T nu pc pa nb un if' cf po rp ir mv){cp pl:Nat}(hcp:T[cp]?=some (bV pc))(hpl:T[pl]?=some (gm cp))(n:Nat){k:Nat}(h1:1<=k)(hk:k<=10):aq T (n+4) pl [.int k]=some (.tup (L (aP k))):=(ao hpl).trans (run_plain hk (h.zy hcp n h1 hk))
end
theorem Bc{cl:Cl}{fs:Nat}(a:Bool):evF cl (gb fs) [.bl a,.bl a]=some (.bl true):=wu rfl rfl rfl rfl rfl rfl (zT a)
noncomputable def Cyc(a b c d:Nat):Prop:=(a<b/\b<c/\c<d)\/(b<c/\c<d/\d<a)\/(c<d/\d<a/\a<b)\/(d<a/\a<b/\b<c)
theorem sq{m:Nat}{r:Nat->Nat}(inv:∀ q,q<m->r (r q)=q)(nox:∀ q q',q<m->q'<m->¬ (q<q'/\q'<r q/\r q<r q')){a b c d:Nat}(ha:a<m)(hb:b<m)(hc:c<m)(hd:d<m)(e1:r a=c)(e2:r b=d):¬ Cyc a b c d:=by
 have e3:r c=a:=by rw[<-e1];exact inv a ha
 have e4:r d=b:=by rw[<-e2];exact inv b hb
 rintro(h | h | h | h)
 ·exact nox a b ha hb ⟨h.1,by lia,by lia⟩
 ·exact nox b c hb hc ⟨h.1,by lia,by lia⟩
 ·exact nox c d hc hd ⟨h.1,by lia,by lia⟩
 ·exact nox d a hd ha ⟨h.1,by lia,by lia⟩
theorem iE{n:Nat}{f g:List Nat}(hf:f.length=n)(hg:g.length=n)(h:∀ x,x<n->at' f x=at' g x):f=g:=by
 refine List.ext_getElem? fun x=>?_
 by_cases hx:x<n
 ·rw[cJ (by lia),cJ (by lia),h x hx]
 ·rw[List.getElem?_eq_none (by lia),List.getElem?_eq_none (by lia)]
structure Way(n:Nat)(to ba:Nat->Nat):Prop where
 lt:∀ p,p<2*n->to p<2*n
 blt:∀ p,p<2*n->ba p<2*n
 tb:∀ p,p<2*n->to (ba p)=p
 bt:∀ p,p<2*n->ba (to p)=p
 cyc:∀ a b c d,a<2*n->b<2*n->c<2*n->d<2*n->a<b->b<c->c<d->Cyc (rd n (ba (rd n a))) (rd n (ba (rd n b))) (rd n (ba (rd n c))) (rd n (ba (rd n d)))\/Cyc (rd n (ba (rd n d))) (rd n (ba (rd n c))) (rd n (ba (rd n b))) (rd n (ba (rd n a)))
noncomputable def bI(n:Nat)(to ba:Nat->Nat)(f:List Nat):List Nat:=(List.range (2*n)).map fun p=>to (at' f (ba p))
theorem eY(n:Nat)(to ba:Nat->Nat)(f:List Nat):(bI n to ba f).length=2*n:=by simp[bI]
theorem cu{n:Nat}{to ba:Nat->Nat}{f:List Nat}{p:Nat}(h:p<2*n):at' (bI n to ba f) p=to (at' f (ba p)):=by
 simp[bI,at',h]
theorem Way.inj{n:Nat}{to ba:Nat->Nat}(W:Way n to ba){p q:Nat}(hp:p<2*n)(hq:q<2*n)(h:to p=to q):p=q:=by rw[<-W.bt p hp,h,W.bt q hq]
theorem Way.val{n:Nat}{to ba:Nat->Nat}(W:Way n to ba){f:List Nat}(V:Val n f):Val n (bI n to ba f):=by
 have F:=V.frm
 have hl:=eY n to ba f
 refine⟨⟨hl,fun x hx=>?_,fun x=>?_,fun x hx e=>?_⟩,fun q q' hq hq' h=>?_⟩
 ·rw[cu hx]
  exact W.lt _ (F.lt _ (W.blt _ hx))
 ·by_cases hx:x<2*n
  ·have h1:=F.lt _ (W.blt _ hx)
   rw[cu hx,cu (W.lt _ h1),W.bt _ h1,F.inv,W.tb _ hx]
  ·rw[dH (f:=bI n to ba f) (x:=x) (by lia),dH (by lia)]
 ·rw[cu hx]at e
  have h1:=F.lt _ (W.blt _ hx)
  have:at' f (ba x)=ba x:=by rw[<-W.bt _ h1,e]
  exact F.no _ (W.blt _ hx) this
 ·obtain⟨h1,h2,h3⟩:=h
  have rl:∀ q,q<2*n->rnd n f q<2*n:=fun q hq=>bg (F.lt _ (bg hq))
  have rr:∀ q,q<2*n->rnd n f (rnd n f q)=q:=fun q hq=>by
   unfold rnd
   rw[bS (F.lt _ (bg hq)),F.inv,bS hq]
  have key:∀ q,q<2*n->rnd n (bI n to ba f) q<2*n/\rnd n f (rd n (ba (rd n q)))=rd n (ba (rd n (rnd n (bI n to ba f) q))):=fun q hq=>by
   have a1:=bg hq
   have a2:=W.blt _ a1
   have a3:=F.lt _ a2
   unfold rnd
   rw[cu a1]
   refine⟨bg (W.lt _ a3),?_⟩
   rw[bS a2,bS (W.lt _ a3),W.bt _ a3]
  obtain⟨k1,k2⟩:=key q hq
  obtain⟨k3,k4⟩:=key q' hq'
  have bl:∀ q,q<2*n->rd n (ba (rd n q))<2*n:=fun q hq=>bg (W.blt _ (bg hq))
  rcases W.cyc q q' _ _ hq hq' k1 k3 h1 h2 h3 with c | c
  ·exact sq rr V.nox (bl _ hq) (bl _ hq') (bl _ k1) (bl _ k3) k2 k4 c
  ·refine sq rr V.nox (bl _ k3) (bl _ k1) (bl _ hq') (bl _ hq) ?_ ?_ c
   ·rw[<-k4,rr _ (bl _ hq')]
   ·rw[<-k2,rr _ (bl _ hq)]
noncomputable def ovr(n p:Nat):Nat:=if p<n then p+n else p-n
theorem zV{n q:Nat}(c:q<n):rd n q=q:=by unfold rd;rw[if_pos c]
theorem zI{n q:Nat}(c:¬ q<n):rd n q=3*n-1-q:=by unfold rd;rw[if_neg c]
theorem qc{n q:Nat}(c:q<n):ovr n q=q+n:=by unfold ovr;rw[if_pos c]
theorem qQ{n q:Nat}(c:¬ q<n):ovr n q=q-n:=by unfold ovr;rw[if_neg c]
theorem m8{n p:Nat}(hp:p<2*n):ovr n p<2*n/\ovr n (ovr n p)=p:=by
 by_cases c:p<n
 ·rw[qc c,qQ (by lia)];exact⟨by lia,by lia⟩
 ·rw[qQ c,qc (by omega)];exact⟨by lia,by lia⟩
theorem mC{n q:Nat}(hq:q<2*n):rd n (ovr n (rd n q))=2*n-1-q:=by
 by_cases c:q<n
 ·rw[zV c,qc c,zI (by lia)];lia
 ·rw[zI c,qQ (by omega),zV (by omega)];lia
theorem c7(n:Nat):Way n (ovr n) (ovr n) :=
 ⟨fun p hp=>(m8 hp).1,fun p hp=>(m8 hp).1,fun p hp=>(m8 hp).2,fun p hp=>(m8 hp).2,fun a b c d ha hb hc hd h1 h2 h3=>.inr (.inl (by
  rw[mC ha,mC hb,mC hc,mC hd]
  exact⟨by lia,by lia,by omega⟩))⟩
theorem lY{n:Nat}{f:List Nat}(F:Frm n f):bu n f=bI n (ovr n) (ovr n) f:=by
 refine iE (n:=2*n) (by simp[bu]) (eY ..) fun p hp=>?_
 rw[oG hp,cu hp]
 have e:∀ p,p<2*n->(p+n)%(2*n)=ovr n p:=fun p hp=>by
  unfold ovr
  split
  ·rw[Nat.mod_eq_of_lt (by lia)]
  ·rw[Nat.mod_eq_sub_mod (by lia),Nat.mod_eq_of_lt (by lia)];lia
 rw[e p hp,e _ (F.lt _ ((c7 n).lt p hp))]
theorem Az{n:Nat}{to ba to' ba':Nat->Nat}{f:List Nat}(W:Way n to ba)(W':Way n to' ba'):bI n to' ba' (bI n to ba f)=bI n (fun p=>to' (to p)) (fun p=>ba (ba' p)) f:=by
 refine iE (n:=2*n) (eY ..) (eY ..) fun p hp=>?_
 rw[cu hp,cu (W'.blt _ hp),cu hp]
theorem Cz{n:Nat}{to ba:Nat->Nat}{f:List Nat}(F:Frm n f)(h1:∀ p,p<2*n->to p=p)(h2:∀ p,p<2*n->ba p=p):bI n to ba f=f:=by
 refine iE (n:=2*n) (eY ..) F.len fun p hp=>?_
 rw[cu hp,h2 p hp,h1 _ (F.lt _ hp)]
theorem cT:∀ {a b:List Nat},a.Nodup->(∀ x∈a,x∈b)->a.length<=b.length
 | [],_,_,_=>Nat.zero_le _
 | x::r,b,hn,h=>by
  rw[List.nodup_cons]at hn
  have hx:=h x List.mem_cons_self
  have:=cT (a:=r) (b:=b.erase x) hn.2 fun y hy=>(List.mem_erase_of_ne (fun e=>hn.1 (by rw[<-e];exact hy))).mpr (h y (List.mem_cons_of_mem _ hy))
  rw[List.length_erase_of_mem hx]at this
  have:0<b.length:=List.length_pos_of_mem hx
  simp only[List.length_cons]
  lia
noncomputable def cnt(n:Nat)(P:Nat->Bool):Nat:=((List.range n).filter P).length
theorem vS{n m:Nat}{P Q:Nat->Bool}(g:Nat->Nat)(h:∀ p,p<n->P p=true->g p<m/\Q (g p)=true)(inj:∀ p q,p<n->q<n->P p=true->P q=true->g p=g q->p=q):cnt n P<=cnt m Q:=by
 unfold cnt
 have:((List.range n).filter P).length=(((List.range n).filter P).map g).length:=by simp
 rw[this]
 refine cT ?_ ?_
 ·rw[List.nodup_iff_pairwise_ne,List.pairwise_map]
  refine List.Pairwise.imp_of_mem ?_ ((List.nodup_iff_pairwise_ne.mp (List.nodup_range (n:=n))).filter P)
  intro a b ha hb hne e
  simp only[List.mem_filter,List.mem_range]at ha hb
  exact hne (inj a b ha.1 hb.1 ha.2 hb.2 e)
 ·intro x hx
  obtain⟨p,hp,rfl⟩:=List.mem_map.mp hx
  simp only[List.mem_filter,List.mem_range]at hp ⊢
  exact h p hp.1 hp.2
theorem zd{n:Nat}{f:List Nat}(F:Frm n f):thr n (bI n (ovr n) (ovr n) f)=thr n f:=by
 have W:=c7 n
 refine Nat.le_antisymm (vS (fun p=>at' f (p+n)) (fun p hp h=>?_) fun p q hp hq _ _ e=>?_) (vS (fun p=>at' f p-n) (fun p hp h=>?_) fun p q hp hq h1 h2 e=>?_)
 ·rw[decide_eq_true_eq,cu (by lia)]at h
  have e:ovr n p=p+n:=by unfold ovr;rw[if_pos hp]
  rw[e]at h
  have l:=F.lt (p+n) (by lia)
  have:at' f (p+n)<n:=by
   unfold ovr at h
   split at h<;>lia
  refine⟨this,?_⟩
  rw[decide_eq_true_eq,F.inv]
  lia
 ·have:=congrArg (at' f) e
  rw[F.inv,F.inv]at this
  lia
 ·rw[decide_eq_true_eq]at h
  have l:=F.lt p (by lia)
  have e:ovr n (at' f p-n)=at' f p:=by unfold ovr;rw[if_pos (by lia)];lia
  refine⟨by lia,?_⟩
  rw[decide_eq_true_eq,cu (by lia),e,F.inv]
  unfold ovr
  rw[if_pos hp]
  lia
 ·rw[decide_eq_true_eq]at h1 h2
  have:at' f p=at' f q:=by lia
  have:=congrArg (at' f) this
  rw[F.inv,F.inv]at this
  exact this
theorem Fw{ns:List Int}(hl:ns.length<=63):nG (.scr (LI ns)) (.int 63)=some (.lst (LI ns)):=by
 show some (D.lst ((LI ns).take (cutAt (LI ns).length 63)))=_
 rw[List.take_of_length_le]
 have:(LI ns).length=ns.length:=by simp[LI]
 rw[this]
 unfold cutAt
 rw[if_pos (by decide)]
 have:(63:Int).toNat=63:=rfl
 lia
theorem yh{cl:Cl}{m N:Nat}{M:List Nat}{B:Ss}{ns:List Int}(hl:ns.length<=63)(hN:N<=1000)
 (turn:∀ (k:Nat) (os:List (Option D)),k<N->os.length=m->∃ os',os'.length=m+1/\ah cl M B (some (.lst (LI ns))::some (.int (k:Nat))::os)=some (.nx,some (.lst (LI ns))::os')) :
  evF cl ⟨1,m+2,M,[],.cons (.asg 0 (.slT (.var 0) (.cst (.int 63)))) (.cons (.forr [1] (.rng1 (.cst (.int (N:Nat)))) B) (.cons (.ret (.cst (.bl true))) .nil))⟩ [.scr (LI ns)]=some (.bl true):=by
 have e1:=bR (n:=N) hN
 obtain⟨σ',e,os,hos,rfl⟩:=cH (f:=ah cl M B) (tg:=[1]) (xs:=List.range N) (σ:=some (.lst (LI ns))::List.replicate (m+1) none) (fun _ σ=>∃ os:List (Option D),os.length=m+1/\σ=some (.lst (LI ns))::os) ⟨_,by simp,rfl⟩ (by
  rintro p x q σ hx ⟨os,ho,rfl⟩
  have hxN:x<N:=by
   have:x∈List.range N:=by rw[hx];simp
   simpa using this
  cases os with
  | nil=>simp at ho
  |cons o os=>
   obtain⟨os',h1,h2⟩:=turn x os hxN (by simpa using ho)
   exact⟨_,by simpa[aM]using h2,os',h1,rfl⟩)
 exact aC rfl rfl (a7 (ux (aa rfl) af (Fw hl)) (by simp[aU,D.imm,aJ,uX]) (cz (gK af e1) e (a9 af rfl)))
section
variable{cl:Cl}{n:Nat}{f:List Nat}
theorem xD{p:Nat}(h:p<2*n):ixV (.tup (L (aP n))) (.int (p:Nat))=some (.int (ovr n p:Nat)):=by
 rw[eD (by simp[aP];lia),plain_at]
 unfold ovr
 split
 ·rw[Nat.add_comm]
 ·rfl
theorem yT{fm fp fo fc:Nat}(h1:1<=n)(hn:n<=10)(F:Frm n f)(hc:cl fc [.tup (L f)]=some .non)(ho:cl fo [.tup (L f)]=some (.int n))(hp:cl fp [.int n]=some (.tup (L (aP n))))
 (hm:cl fm [.tup (L f),.tup (L (aP n))]=some (.tup (L (bI n (ovr n) (ovr n) f)))):evF cl (jX fm fp fo fc) [.tup (L f)]=some (.tup (L (bI n (ovr n) (ovr n) f))):=by
 simp[evF,jX,ah,evS,ev,evs,hc,ho,hp,hm,aV,D.imm,aY,aT]
end
section
variable{T:List Fn}{nu pc pa nb un if' cf po rp ir mv:Nat}
theorem Ex{n:Nat}{to ba:Nat->Nat}{f E:List Nat}(W:Way n to ba)(h1:E.length=2*n)(h2:∀ p,p<2*n->at' E (to p)=to (at' f p)):E=bI n to ba f:=by
 refine iE h1 (eY ..) fun p hp=>?_
 rw[cu hp]
 have:=h2 (ba p) (W.blt _ hp)
 rw[W.tb _ hp]at this
 exact this
theorem Ck.Fz(h:Ck T nu pc pa nb un if' cf po rp ir mv)(n:Nat){k:Nat}{f:List Nat}{U:D}{to ba:Nat->Nat}(hk:k<=10)(F:Frm k f)(W:Way k to ba)(hT:∀ p:Nat,p<2*k->ixV U (.int (p:Nat))=some (.int (to p:Nat))):aq T (n+1) mv [.tup (L f),U]=some (.tup (L (bI k to ba f))):=by
 obtain⟨E,h1,h2,h3⟩:=h.move n hk F hT W.lt fun p q hp hq e=>W.inj hp hq e
 rw[h3,Ex W h1 h2]
theorem Ck.over(h:Ck T nu pc pa nb un if' cf po rp ir mv){cp pl ov:Nat}(hcp:T[cp]?=some (bV pc))(hpl:T[pl]?=some (gm cp))(hov:T[ov]?=some (jX mv pl po cf))(n:Nat){k:Nat}{f:List Nat}(h1:1<=k)(hk:k<=10)(V:Val k f):aq T (n+6) ov [.tup (L f)]=some (.tup (L (bI k (ovr k) (ovr k) f))) :=
 (ao hov).trans (yT h1 hk V.frm (h.check n h1 hk V) (h.half (n+4) V.frm.len) (h.plain hcp hpl (n+1) h1 hk) (h.Fz (n+4) hk V.frm (c7 k) fun p hp=>xD hp))
end
end RM
set_option maxHeartbeats 1000000
namespace RT
open RL
end RT
namespace RM
open RL RT
section
variable{cl:Cl}{n:Nat}{f:List Nat}
end
structure Two(m:Nat)(a b:Nat->Nat):Prop where
 al:∀ x,x<m->a x<m
 bl:∀ x,x<m->b x<m
 ai:∀ x,x<m->a (a x)=x
 bi:∀ x,x<m->b (b x)=x
theorem Two.swap{m:Nat}{a b:Nat->Nat}(T:Two m a b):Two m b a:=⟨T.bl,T.al,T.bi,T.ai⟩
noncomputable def wk(a b:Nat->Nat)(x:Nat):Nat->Nat
 | 0=>x
 | k+1=>if k%2=0 then b (wk a b x k)else a (wk a b x k)
noncomputable def Stp(a b:Nat->Nat)(x k:Nat):Prop:=wk a b x (k+1)=wk a b x k\/wk a b x (k+1)=x
noncomputable instance{a b:Nat->Nat}{x k:Nat}:Decidable (Stp a b x k):=inferInstanceAs (Decidable (_\/_))
section
variable{m:Nat}{a b:Nat->Nat}{x:Nat}
theorem dn{k:Nat}(h:k%2=0):wk a b x (k+1)=b (wk a b x k):=by rw[wk,if_pos h]
theorem fz{k:Nat}(h:k%2=1):wk a b x (k+1)=a (wk a b x k):=by rw[wk,if_neg (by lia)]
theorem f9(T:Two m a b)(hx:x<m):∀ k,wk a b x k<m
 | 0=>hx
 | k+1=>by
  rw[wk]
  split
  ·exact T.bl _ (f9 T hx k)
  ·exact T.al _ (f9 T hx k)
theorem i9(T:Two m a b)(hx:x<m)(k:Nat):(if k%2=0 then b (wk a b x (k+1))else a (wk a b x (k+1)))=wk a b x k:=by
 have h:=f9 T hx k
 rw[wk]
 split
 ·exact T.bi _ h
 ·exact T.ai _ h
theorem ET(T:Two m a b)(hx:x<m){i j:Nat}(hp:i%2=j%2)(h:wk a b x (i+1)=wk a b x (j+1)):wk a b x i=wk a b x j:=by
 rw[<-i9 T hx i,<-i9 T hx j,h,hp]
theorem tD(T:Two m a b)(hx:x<m){k:Nat}(hs:∀ j,j<k->¬ Stp a b x j){d:Nat}(hd:d%2=1):∀ i,i+(d+1)<=k->wk a b x i≠wk a b x (i+(d+1))
 | 0,hk,h=>hs d (by lia) (.inr (by rw[Nat.zero_add]at h;exact h.symm))
 | i+1,hk,h=>tD T hx hs hd i (by lia) (ET T hx (i:=i) (j:=i+(d+1)) (by lia) (by rw[h];congr 1;lia))
theorem wB(T:Two m a b)(hx:x<m){k:Nat}(hs:∀ j,j<k->¬ Stp a b x j):∀ (c i:Nat),i+(2*c+1)<=k->wk a b x i≠wk a b x (i+(2*c+1))
 | 0,i,hk,h=>hs i (by lia) (.inl h.symm)
 | c+1,i,hk,h=>by
  refine wB T hx hs c (i+1) (by lia) ?_
  have h1:=i9 T hx (i+(2*c+2))
  rw[show i+(2*c+2)+1=i+(2*(c+1)+1) by lia,<-h]at h1
  have h2:wk a b x (i+1)=if(i+(2*c+2))%2=0 then b (wk a b x i)else a (wk a b x i):=by
   rw[wk]
   have:(i+(2*c+2))%2=i%2:=by lia
   rw[this]
  rw[h2,h1]
  congr 1
  lia
theorem kX(T:Two m a b)(hx:x<m){k:Nat}(hs:∀ j,j<k->¬ Stp a b x j){i j:Nat}(hij:i<j)(hj:j<=k):wk a b x i≠wk a b x j:=by
 obtain⟨d,rfl⟩:∃ d,j=i+(d+1):=⟨j-i-1,by lia⟩
 by_cases c:d%2=1
 ·exact tD T hx hs c i hj
 ·obtain⟨e,rfl⟩:∃ e,d=2*e:=⟨d / 2,by lia⟩
  exact wB T hx hs e i hj
theorem least{P:Nat->Prop} [DecidablePred P]:∀ n,P n->∃ k,k<=n/\P k/\∀ j,j<k->¬ P j:=by
 intro n
 induction n using Nat.strongRecOn with
 |_ n ih=>
  intro h
  by_cases c:∃ j,j<n/\P j
  ·obtain⟨j,hj,hp⟩:=c
   obtain⟨k,h1,h2,h3⟩:=ih j hj hp
   exact⟨k,by lia,h2,h3⟩
  ·exact⟨n,Nat.le_refl _,h,fun j hj hp=>c ⟨j,hj,hp⟩⟩
theorem eR(T:Two m a b)(hx:x<m):∃ k,k<m/\Stp a b x k/\∀ j,j<k->¬ Stp a b x j:=by
 by_cases c:∃ k,k<m/\Stp a b x k
 ·obtain⟨k,h1,h2⟩:=c
  obtain⟨j,h3,h4,h5⟩:=least k h2
  exact⟨j,by lia,h4,h5⟩
 ·exfalso
  have hs:∀ j,j<m->¬ Stp a b x j:=fun j hj h=>c ⟨j,hj,h⟩
  have nd:((List.range (m+1)).map (wk a b x)).Nodup:=by
   rw[List.nodup_iff_pairwise_ne,List.pairwise_map]
   refine List.Pairwise.imp_of_mem ?_ (List.pairwise_lt_range (n:=m+1))
   intro i j hi hj hlt
   exact kX T hx hs hlt (by have:=List.mem_range.mp hj;lia)
  have:=cT nd (b:=List.range m) fun y hy=>by
   obtain⟨i,_,rfl⟩:=List.mem_map.mp hy
   exact List.mem_range.mpr (f9 T hx i)
  simp at this
  lia
inductive Cn (a b:Nat->Nat) (x:Nat):Nat->Prop
 | refl:Cn a b x x
 | sa {y:Nat}:Cn a b x y->Cn a b x (a y)
 | sb {y:Nat}:Cn a b x y->Cn a b x (b y)
theorem Cn.lt(T:Two m a b)(hx:x<m){y:Nat}(h:Cn a b x y):y<m:=by
 induction h with
 | refl=>exact hx
 | sa _ ih=>exact T.al _ ih
 | sb _ ih=>exact T.bl _ ih
theorem Cn.trans{y z:Nat}(h:Cn a b x y)(h':Cn a b y z):Cn a b x z:=by
 induction h' with
 | refl=>exact h
 | sa _ ih=>exact .sa ih
 | sb _ ih=>exact .sb ih
theorem Cn.symm(T:Two m a b)(hx:x<m){y:Nat}(h:Cn a b x y):Cn a b y x:=by
 induction h with
 | refl=>exact .refl
 |@sa y h ih=>
  have:=Cn.sa (a:=a) (b:=b) (Cn.refl (x:=a y))
  rw[T.ai _ (h.lt T hx)]at this
  exact this.trans ih
 |@sb y h ih=>
  have:=Cn.sb (a:=a) (b:=b) (Cn.refl (x:=b y))
  rw[T.bi _ (h.lt T hx)]at this
  exact this.trans ih
theorem Cn.flip{y:Nat}(h:Cn a b x y):Cn b a x y:=by
 induction h with
 | refl=>exact .refl
 | sa _ ih=>exact .sb ih
 | sb _ ih=>exact .sa ih
theorem j5:∀ k,Cn a b x (wk a b x k)
 | 0=>.refl
 | k+1=>by
  rw[wk]
  split
  ·exact .sb (j5 k)
  ·exact .sa (j5 k)
theorem k7(T:Two m a b)(hx:x<m){k:Nat}(st:Stp a b x k)(hs:∀ j,j<k->¬ Stp a b x j)(h:a x=x\/∀ y,Cn a b x y->a y≠y/\b y≠y){y:Nat}(hy:Cn a b x y):∃ i,i<=k/\wk a b x i=y:=by
 have bx:∃ i,i<=k/\wk a b x i=b x:=by
  by_cases c:k=0
  ·subst c
   refine⟨0,Nat.le_refl _,?_⟩
   rcases st with st | st
   ·rw[dn rfl]at st;exact st.symm
   ·rw[dn rfl]at st;exact st.symm
  ·exact⟨1,by lia,dn rfl⟩
 have key:∀ j,0<j->j<=k->(∃ i,i<=k/\wk a b x i=a (wk a b x j))/\∃ i,i<=k/\wk a b x i=b (wk a b x j):=by
  intro j h0 hj
  have prev:=i9 T hx (j-1)
  rw[show j-1+1=j by omega]at prev
  have next:∃ i,i<=k/\wk a b x i=wk a b x (j+1):=by
   by_cases c:j<k
   ·exact⟨j+1,by lia,rfl⟩
   ·have:j=k:=by lia
    subst this
    rcases st with st | st
    ·exact⟨j,Nat.le_refl _,st.symm⟩
    ·exact⟨0,by lia,st.symm⟩
  by_cases c:j%2=0
  ·rw[if_neg (by lia)]at prev
   rw[dn c]at next
   exact⟨⟨j-1,by lia,prev.symm⟩,next⟩
  ·rw[if_pos (by lia)]at prev
   rw[fz (by lia)]at next
   exact⟨next,⟨j-1,by omega,prev.symm⟩⟩
 have ax:∃ i,i<=k/\wk a b x i=a x:=by
  rcases h with h | h
  ·exact⟨0,by lia,h.symm⟩
  ·rcases st with st | st
   ·exfalso
    have hc:=h _ (j5 k)
    by_cases c:k%2=0
    ·rw[dn c]at st;exact hc.2 st
    ·rw[fz (by lia)]at st;exact hc.1 st
   ·by_cases c:k%2=0
    ·exfalso
     rw[dn c]at st
     have e:wk a b x k=b x:=by
      have:=congrArg b st
      rw[T.bi _ (f9 T hx k)]at this
      exact this
     by_cases k0:k=0
     ·subst k0
      exact(h x .refl).2 e.symm
     ·have:wk a b x 1=b x:=dn rfl
      exact kX T hx hs (i:=1) (j:=k) (by lia) (Nat.le_refl _) (by rw[this,e])
    ·rw[fz (by lia)]at st
     exact⟨k,Nat.le_refl _,by
      have:=congrArg a st
      rw[T.ai _ (f9 T hx k)]at this
      exact this⟩
 induction hy with
 | refl=>exact⟨0,by lia,rfl⟩
 |sa _ ih=>
  obtain⟨i,hi,rfl⟩:=ih
  by_cases c:i=0
  ·subst c;exact ax
  ·exact(key i (by lia) hi).1
 |sb _ ih=>
  obtain⟨i,hi,rfl⟩:=ih
  by_cases c:i=0
  ·subst c;exact bx
  ·exact(key i (by lia) hi).2
theorem kF(T:Two m a b)(hx:x<m){k:Nat}(st:Stp a b x k)(hs:∀ j,j<k->¬ Stp a b x j)(hb:∀ y,y<m->b y≠y)(ha:a x=x):k%2=1/\a (wk a b x k)=wk a b x k:=by
 have lk:=f9 T hx k
 by_cases c:k%2=0
 ·exfalso
  rcases st with st | st
  ·rw[dn c]at st
   exact hb _ lk st
  ·rw[dn c]at st
   have e:wk a b x k=b x:=by
    have:=congrArg b st
    rw[T.bi _ lk]at this
    exact this
   by_cases k0:k=0
   ·subst k0
    exact hb x hx e.symm
   ·have:wk a b x 1=b x:=dn rfl
    exact kX T hx hs (i:=1) (j:=k) (by lia) (Nat.le_refl _) (by rw[this,e])
 ·refine⟨by lia,?_⟩
  rcases st with st | st
  ·rw[fz (by lia)]at st;exact st
  ·exfalso
   rw[fz (by lia)]at st
   have e:wk a b x k=x:=by rw[<-T.ai _ lk,st,ha]
   exact kX T hx hs (i:=0) (j:=k) (by lia) (Nat.le_refl _) e.symm
end
structure kQ(m:Nat)(a b:Nat->Nat)(S:List Nat):Prop where
 lt:∀ s∈S,s<m
 nd:S.Pairwise fun s t=>¬ Cn a b s t
 ring:∀ s∈S,∀ y,Cn a b s y->a y≠y/\b y≠y
 all:∀ x,x<m->(∃ s,s<m/\(a s=s\/b s=s)/\Cn a b s x)\/∃ s∈S,Cn a b s x
theorem zO{t:St->Option Bool}{f:St->Option (Out × St)}{σ:Nat->St}{k:Nat}(h1:∀ i,i<k->t (σ i)=some true/\f (σ i)=some (.nx,σ (i+1)))(h2:t (σ k)=some false):∀ (d i fuel:Nat),i+d=k->d<fuel->whF t f fuel (σ i)=some (.nx,σ k)
 | 0,i,0,_,h=>by lia
 | 0,i,fuel+1,hi,_=>by
  have:i=k:=by lia
  subst this
  rw[whF,h2]
  rfl
 | d+1,i,0,_,h=>by lia
 | d+1,i,fuel+1,hi,hf=>by
  obtain⟨e1,e2⟩:=h1 i (by lia)
  rw[whF,e1,Option.bind_some,if_pos rfl,e2,Option.bind_some]
  exact zO h1 h2 d (i+1) fuel (by lia) (by lia)
section
variable{cl:Cl}{m x:Nat}{a b:Nat->Nat}{A B:D}
noncomputable def yd(A B:D):Nat->Option D
 | 0=>none
 | t+1=>some (if t%2=0 then A else B)
noncomputable def wks(a b:Nat->Nat)(x k:Nat):List Nat:=(List.range (k+1)).map (wk a b x)
theorem xO(k:Nat):wks a b x (k+1)=wks a b x k++[wk a b x (k+1)]:=by
 unfold wks
 rw[List.range_succ,List.map_append]
 rfl
theorem rP(k:Nat):ixV (.lst (L (wks a b x k))) (.int (-1))=some (.int (wk a b x k:Nat)):=by
 show cj (L (wks a b x k)) (-1)=_
 unfold cj
 have hl:(L (wks a b x k)).length=k+1:=by simp[L,wks]
 rw[if_neg (by decide),if_pos (by rw[hl];lia),hl,show((-1:Int)+((k+1:Nat):Int)).toNat=k by lia,kI]
 simp[wks]
theorem CS{σ:St}:ev cl σ (.neg (.cst (.int 1)))=some (.int (-1)):=uP af
theorem t9(T:Two m a b)(hm:m<=1000)(hA:∀ x:Nat,x<m->ixV A (.int (x:Nat))=some (.int (a x:Nat)))(hB:∀ x:Nat,x<m->ixV B (.int (x:Nat))=some (.int (b x:Nat)))(hx:x<m) :
  ∃ k,k<m/\Stp a b x k/\(∀ j,j<k->¬ Stp a b x j)/\evF cl pL [A,B,.int (x:Nat)]=some (.lst (L (wks a b x k))):=by
 obtain⟨k,hk,st,hs⟩:=eR T hx
 refine⟨k,hk,st,hs,?_⟩
 have cond:∀ (i:Nat) (o:Option D),(ev cl [some A,some B,some (.int (x:Nat)),some (.lst (L (wks a b x i))),some (.int (wk a b x (i+1):Nat)),o] (.inn true (.var 4) (.tup (.cons (.ix (.var 3) (.neg (.cst (.int 1)))) (.cons (.var 2) .nil))))).bind truth=some (!decide (Stp a b x i)):=fun i o=>by
  have hv:inV (.int (wk a b x (i+1):Nat)) (.tup [.int (wk a b x i:Nat),.int (x:Nat)])=some (decide (Stp a b x i)):=by
   show(if(flat (.int (wk a b x (i+1):Nat))&&[D.int (wk a b x i:Nat),.int (x:Nat)].all flat)=true then some ([D.int (wk a b x i:Nat),.int (x:Nat)].any fun y=>eqF y (.int (wk a b x (i+1):Nat)))else none)=_
   rw[if_pos (by simp[flat])]
   congr 1
   simp only[List.any_cons,List.any_nil,eqF,Bool.or_false]
   unfold Stp
   rw[Bool.eq_iff_iff]
   simp only[Bool.or_eq_true,beq_iff_eq,decide_eq_true_eq,Int.ofNat_inj]
   exact⟨fun h=>decide_eq_true (h.imp Eq.symm Eq.symm),fun h=>(of_decide_eq_true h).imp Eq.symm Eq.symm⟩
  exact aE (Fg (n:=true) (aa rfl) (gU (aB (bp (aa rfl) CS (rP i)) (aB (aa rfl) b9))) hv)
 have wh:=zO (t:=fun σ=>(ev cl σ (.inn true (.var 4) (.tup (.cons (.ix (.var 3) (.neg (.cst (.int 1)))) (.cons (.var 2) .nil))))).bind truth) (f:=ah cl [3] uY) (σ:=fun i=>[some A,some B,some (.int (x:Nat)),some (.lst (L (wks a b x i))),some (.int (wk a b x (i+1):Nat)),yd A B i]) (k:=k) (fun i hi=>by
  refine⟨by rw[cond];simp[hs i hi],?_⟩
  have hl:(L (wks a b x i)).length<most:=by simp[L,wks,most];lia
  have ha:L (wks a b x i)++[D.int (wk a b x (i+1):Nat)]=L (wks a b x (i+1)):=by rw[xO,cD];rfl
  have ln:biV .len (.lst (L (wks a b x (i+1))))=some (.int ((i+2:Nat):Int)):=by
   show some (D.int ((L (wks a b x (i+1))).length:Nat))=_
   simp[L,wks]
   lia
  have md:a8 .mod (.int ((i+2:Nat):Int)) (.int 2)=some (.int (((i+2)%2:Nat):Int)):=by rw[dR (by decide)];simp
  have lt:=f9 T hx (i+1)
  refine qW (aa rfl) rfl rfl hl ?_
  rw[ha]
  by_cases c:i%2=0
  ·have h0:bc .eq (.int (((i+2)%2:Nat):Int)) (.int 0)=some true:=by
    rw[show(i+2)%2=0 by lia];rfl
   refine a7 (d:=A) (jf (k:=true) (aE (a5 (aj (bo (aa rfl) ln) af md) af h0)) (aa rfl)) (by simp[aU,avE]) (a7 (bp (aa rfl) (aa rfl) (hA _ lt)) rfl ?_)
   rw[aG]
   show some (Out.nx,[some A,some B,some (D.int (x:Nat)),some (.lst (L (wks a b x (i+1)))),some (.int (a (wk a b x (i+1)):Nat)),some A])=_
   rw[<-fz (a:=a) (b:=b) (x:=x) (k:=i+1) (by lia)]
   simp[yd,c]
  ·have h0:bc .eq (.int (((i+2)%2:Nat):Int)) (.int 0)=some false:=by
    rw[show(i+2)%2=1 by lia];rfl
   refine a7 (d:=B) (jf (k:=false) (aE (a5 (aj (bo (aa rfl) ln) af md) af h0)) (aa rfl)) (by simp[aU,avE]) (a7 (bp (aa rfl) (aa rfl) (hB _ lt)) rfl ?_)
   rw[aG]
   show some (Out.nx,[some A,some B,some (D.int (x:Nat)),some (.lst (L (wks a b x (i+1)))),some (.int (b (wk a b x (i+1)):Nat)),some B])=_
   rw[<-dn (a:=a) (b:=b) (x:=x) (k:=i+1) (by lia)]
   simp[yd,c]) (by rw[cond];simp[st]) k 0 most (by lia) (by unfold most;lia)
 have w1:wk a b x (0+1)=b x:=dn rfl
 rw[w1]at wh
 exact aC rfl rfl (gC (d:=.lst (L (wks a b x 0))) (de (aB (aa rfl) b9)) rfl (a7 (bp (aa rfl) (aa rfl) (hB x hx)) rfl (uZ wh (a9 (aa rfl) (by simp[aV,aJ,aY,pL])))))
end
theorem Cf{cl:Cl}{fn:Fn}{ds:List D}{σ':St}{o:D}(hl:ds.length=fn.ps)(hm:fn.mp=[0])(h:ah cl fn.M fn.body (ds.map some++List.replicate (fn.nn-fn.ps) none)=some (.nx,σ'))(ho:(σ'[0]?).bind id=some o):evF cl fn ds=some (.tup [.non,o]):=by
 unfold evF
 rw[if_pos hl,h]
 show aT fn .non σ'=_
 unfold aT
 rw[hm]
 show(if D.non.imm=true then Option.map _ (fC σ' [0])else none)=_
 rw[if_pos (show D.non.imm=true from rfl),fC,ho]
 rfl
noncomputable def BL(s:List Bool):List D:=s.map D.bl
theorem wA:∀ s:List Bool,au (BL s)=true
 | []=>rfl
 | x::r=>by
  show((D.bl x).imm&&au (BL r))=true
  rw[wA r];rfl
noncomputable def Sn(m:Nat)(s:List Bool)(P:Nat->Prop):Prop:=s.length=m/\∀ y,y<m->(s[y]?=some true↔P y)
theorem Sn.set{m:Nat}{s:List Bool}{P:Nat->Prop}(h:Sn m s P){p:Nat}(hp:p<m):Sn m (s.set p true) (fun y=>P y\/y=p):=by
 obtain⟨h1,h2⟩:=h
 refine⟨by simp[h1],fun y hy=>?_⟩
 rw[List.getElem?_set]
 by_cases c:p=y
 ·subst c
  rw[if_pos rfl,if_pos (by lia)]
  exact⟨fun _=>.inr rfl,fun _=>rfl⟩
 ·rw[if_neg c,h2 y hy]
  exact⟨.inl,fun z=>z.resolve_right fun e=>c e.symm⟩
theorem Sn.congr{m:Nat}{s:List Bool}{P Q:Nat->Prop}(h:Sn m s P)(e:∀ y,y<m->(P y↔Q y)):Sn m s Q:=⟨h.1,fun y hy=>(h.2 y hy).trans (e y hy)⟩
section
variable{cl:Cl}{m:Nat}{a b:Nat->Nat}{A B:D}
theorem yj{s:List Bool}{P:Nat->Prop}(h:Sn m s P){ps:List Nat}(hp:∀ p∈ps,p<m):∃ s',Sn m s' (fun y=>P y\/y∈ps)/\evF cl qH [.lst (BL s),.lst (L ps)]=some (.tup [.non,.lst (BL s')]):=by
 obtain⟨σ',e,s',o,rfl,hs⟩:=cH (f:=ah cl [0,0] tH) (tg:=[2]) (xs:=ps) (σ:=[some (.lst (BL s)),some (.lst (L ps)),none]) (fun u σ=>∃ (s':List Bool) (o:Option D),σ=[some (.lst (BL s')),some (.lst (L ps)),o]/\Sn m s' fun y=>P y\/y∈u) ⟨s,none,rfl,h.congr fun y _=>by simp⟩ (by
  rintro u p v σ hu ⟨s',o,rfl,hs⟩
  have hpm:=hp p (by rw[hu];simp)
  have hl:(BL s').length=m:=by simp[BL,hs.1]
  have hput:du (.lst (BL s')) (.int (p:Nat)) (.bl true)=some (.lst (BL (s'.set p true))):=by
   show Option.map (fun j=>D.lst ((BL s').set j (.bl true))) (oh (BL s').length (p:Int))=_
   rw[hl,qK hpm]
   simp[BL,List.map_set]
  refine⟨_,jT (cl:=cl) (M:=[0,0]) (r:=.nil) af (aa rfl) rfl rfl hput aG,s'.set p true,_,rfl,(hs.set hpm).congr fun y _=>by simp[or_assoc]⟩)
 exact⟨s',hs,Cf rfl rfl (cz (dC (aa rfl) rfl) e aG) rfl⟩
theorem Ay{s:List Bool}{P:Nat->Prop}(h:Sn m s P){p:Nat}(hp:p<m):∃ v:Bool,ixV (.lst (BL s)) (.int (p:Nat))=some (.bl v)/\(v=true↔P p):=by
 have hl:p<s.length:=by rw[h.1];exact hp
 refine⟨s[p],?_,?_⟩
 ·show cj (BL s) (p:Int)=_
  rw[dA]
  simp[BL,hl]
 ·rw[<-h.2 p hp,List.getElem?_eq_getElem hl]
  simp
noncomputable def Pth(m:Nat)(a b:Nat->Nat)(y:Nat):Prop:=∃ s,s<m/\(a s=s\/b s=s)/\Cn a b s y
theorem oD{x k y:Nat}:y∈wks a b x k↔∃ i,i<=k/\wk a b x i=y:=by
 unfold wks
 rw[List.mem_map]
 constructor
 ·rintro⟨i,hi,e⟩
  exact⟨i,by have:=List.mem_range.mp hi;lia,e⟩
 ·rintro⟨i,hi,e⟩
  exact⟨i,List.mem_range.mpr (by lia),e⟩
theorem nM{fr:Nat}(T:Two m a b)(hr:∀ x:Nat,x<m->∃ k,k<m/\Stp a b x k/\(∀ j,j<k->¬ Stp a b x j)/\cl fr [A,B,.int (x:Nat)]=some (.lst (L (wks a b x k)))){x:Nat}(hx:x<m)(h:a x=x\/∀ y,Cn a b x y->a y≠y/\b y≠y) :
  ∃ ps:List Nat,(∀ p∈ps,p<m)/\(∀ y,y∈ps↔Cn a b x y)/\cl fr [A,B,.int (x:Nat)]=some (.lst (L ps)):=by
 obtain⟨k,_,st,hs,e⟩:=hr x hx
 refine⟨_,fun p hp=>?_,fun y=>?_,e⟩
 ·obtain⟨i,_,rfl⟩:=oD.mp hp
  exact f9 T hx i
 ·rw[oD]
  exact⟨fun⟨i,_,e⟩=>e▸j5 i,fun hy=>k7 T hx st hs h hy⟩
theorem rD{fm fr:Nat}(T:Two m a b)(hm:m<=1000)(lA:biV .len A=some (.int (m:Nat)))
 (hA:∀ x:Nat,x<m->ixV A (.int (x:Nat))=some (.int (a x:Nat)))(hB:∀ x:Nat,x<m->ixV B (.int (x:Nat))=some (.int (b x:Nat)))
 (hr:∀ x:Nat,x<m->∃ k,k<m/\Stp a b x k/\(∀ j,j<k->¬ Stp a b x j)/\cl fr [A,B,.int (x:Nat)]=some (.lst (L (wks a b x k))))
 (hr':∀ x:Nat,x<m->∃ k,k<m/\Stp b a x k/\(∀ j,j<k->¬ Stp b a x j)/\cl fr [B,A,.int (x:Nat)]=some (.lst (L (wks b a x k))))
 (hk:∀ (s:List Bool) (P:Nat->Prop) (ps:List Nat),Sn m s P->(∀ p∈ps,p<m)->∃ s',Sn m s' (fun y=>P y\/y∈ps)/\cl fm [.lst (BL s),.lst (L ps)]=some (.tup [.non,.lst (BL s')])) :
  ∃ S:List Nat,kQ m a b S/\evF cl (ju fm fr) [A,B]=some (.int (S.length:Nat)):=by
 have e1:=bR (n:=m) hm
 obtain⟨σ1,l1,s1,o1,rfl,hs1⟩:=cH (f:=ah cl [2] (ip fm fr)) (tg:=[3]) (xs:=List.range m) (σ:=[some A,some B,some (.lst (BL (List.replicate m false))),none,none]) (fun u σ=>∃ (s:List Bool) (o:Option D),σ=[some A,some B,some (.lst (BL s)),o,none]/\Sn m s fun y=>∃ x,x∈u/\(a x=x\/b x=x)/\Cn a b x y)
  ⟨_,none,rfl,by simp,fun y hy=>by
   simp[List.getElem?_replicate,hy]⟩ (by
  rintro u x v σ hu ⟨s,o,rfl,hs⟩
  have hx:x<m:=by
   have:x∈List.range m:=by rw[hu];simp
   simpa using this
  show ∃ σ2,ah cl [2] (ip fm fr) [some A,some B,some (.lst (BL s)),some (.int (x:Nat)),none]=some (.nx,σ2)/\_
  obtain⟨s2,hs2,k2⟩:∃ s2,Sn m s2 (fun y=>(∃ x,x∈u/\(a x=x\/b x=x)/\Cn a b x y)\/(a x=x/\Cn a b x y))/\∀ (r:Ss) (res:Option (Out × St)),ah cl [2] r [some A,some B,some (.lst (BL s2)),some (.int (x:Nat)),none]=res->ah cl [2] (.cons (.ife (.cmp .eq (.ix (.var 0) (.var 3)) (.var 3)) (.cons (.mexc fm (.cons (.var 2) (.cons (.call fr (.cons (.var 0) (.cons (.var 1) (.cons (.var 3) .nil)))) .nil)) [0] [2]) .nil) .nil) r) [some A,some B,some (.lst (BL s)),some (.int (x:Nat)),none]=res:=by
   by_cases c:a x=x
   ·obtain⟨ps,p1,p2,p3⟩:=nM T hr hx (.inl c)
    obtain⟨s',hs',e⟩:=hk s _ ps hs p1
    refine⟨s',hs'.congr fun y _=>by rw[p2];simp[c],fun r res k=>eE (aE (a5 (bp (aa rfl) (aa rfl) (hA x hx)) (aa rfl) (by rw[bW,c];simp))) (nS (aB (aa rfl) (aB (fR (aa rfl) (aa rfl) (aa rfl) p3) b9)) (by simp[dI,isVar,aU,D.imm,aJ,aY]) e rfl aG) k⟩
   ·refine⟨s,hs.congr fun y _=>by simp[c],fun r res k=>bf (aE (a5 (bp (aa rfl) (aa rfl) (hA x hx)) (aa rfl) (by rw[bW];congr 1;simp;lia))) k⟩
  obtain⟨s3,hs3,k3⟩:∃ s3,Sn m s3 (fun y=>((∃ x,x∈u/\(a x=x\/b x=x)/\Cn a b x y)\/(a x=x/\Cn a b x y))\/(b x=x/\Cn a b x y))/\ah cl [2] (.cons (.ife (.cmp .eq (.ix (.var 1) (.var 3)) (.var 3)) (.cons (.mexc fm (.cons (.var 2) (.cons (.call fr (.cons (.var 1) (.cons (.var 0) (.cons (.var 3) .nil)))) .nil)) [0] [2]) .nil) .nil) .nil) [some A,some B,some (.lst (BL s2)),some (.int (x:Nat)),none]=some (.nx,[some A,some B,some (.lst (BL s3)),some (.int (x:Nat)),none]):=by
   by_cases c:b x=x
   ·obtain⟨ps,p1,p2,p3⟩:=nM T.swap hr' hx (.inl c)
    obtain⟨s',hs',e⟩:=hk s2 _ ps hs2 p1
    refine⟨s',hs'.congr fun y _=>?_,eE (aE (a5 (bp (aa rfl) (aa rfl) (hB x hx)) (aa rfl) (by rw[bW,c];simp))) (nS (aB (aa rfl) (aB (fR (aa rfl) (aa rfl) (aa rfl) p3) b9)) (by simp[dI,isVar,aU,D.imm,aJ,aY]) e rfl aG) aG⟩
    rw[p2]
    have:Cn b a x y↔Cn a b x y:=⟨Cn.flip,Cn.flip⟩
    simp[c,this]
   ·exact⟨s2,hs2.congr fun y _=>by simp[c],bf (aE (a5 (bp (aa rfl) (aa rfl) (hB x hx)) (aa rfl) (by rw[bW];congr 1;simp;lia))) aG⟩
  refine⟨_,k2 _ _ k3,s3,_,rfl,hs3.congr fun y _=>?_⟩
  constructor
  ·rintro((⟨z,h1,h2,h3⟩ | ⟨h1,h2⟩) | ⟨h1,h2⟩)
   ·exact⟨z,by simp[h1],h2,h3⟩
   ·exact⟨x,by simp,.inl h1,h2⟩
   ·exact⟨x,by simp,.inr h1,h2⟩
  ·rintro⟨z,h1,h2,h3⟩
   rcases List.mem_append.mp h1 with h1 | h1
   ·exact .inl (.inl ⟨z,h1,h2,h3⟩)
   ·have:z=x:=by simpa using h1
    subst this
    rcases h2 with h2 | h2
    ·exact .inl (.inr ⟨h2,h3⟩)
    ·exact .inr ⟨h2,h3⟩)
 have hs1':Sn m s1 (Pth m a b):=hs1.congr fun y _=>⟨fun⟨x,h1,h2,h3⟩=>⟨x,by simpa using h1,h2,h3⟩,fun⟨x,h1,h2,h3⟩=>⟨x,by simpa using h1,h2,h3⟩⟩
 obtain⟨σ2,l2,s2,o2,S,rfl,hs2,c1,c2,c3,c4⟩:=cH (f:=ah cl [2] (ig fm fr)) (tg:=[3]) (xs:=List.range m) (σ:=[some A,some B,some (.lst (BL s1)),o1,some (.int ((([]:List Nat).length:Nat):Int))]) (fun u σ=>∃ (s:List Bool) (o:Option D) (S:List Nat),σ=[some A,some B,some (.lst (BL s)),o,some (.int (S.length:Nat))]/\Sn m s (fun y=>Pth m a b y\/∃ t∈S,Cn a b t y)/\(∀ t∈S,t<m)/\(S.Pairwise fun t t'=>¬ Cn a b t t')/\(∀ t∈S,¬ Pth m a b t)/\∀ y∈u,Pth m a b y\/∃ t∈S,Cn a b t y)
  ⟨s1,o1,[],rfl,hs1'.congr fun y _=>by simp,by simp,.nil,by simp,by simp⟩ (by
  rintro u x v σ hu ⟨s,o,S,rfl,hs,c1,c2,c3,c4⟩
  have hx:x<m:=by
   have:x∈List.range m:=by rw[hu];simp
   simpa using this
  show ∃ σ2,ah cl [2] (ig fm fr) [some A,some B,some (.lst (BL s)),some (.int (x:Nat)),some (.int (S.length:Nat))]=some (.nx,σ2)/\_
  obtain⟨w,w1,w2⟩:=Ay hs hx
  cases w with
  |true=>
   refine⟨_,bf (aE (dM (bp (aa rfl) (aa rfl) w1))) aG,s,_,S,rfl,hs,c1,c2,c3,fun y hy=>?_⟩
   rcases List.mem_append.mp hy with hy | hy
   ·exact c4 y hy
   ·have:y=x:=by simpa using hy
    subst this
    exact w2.mp rfl
  |false=>
   have hn:¬ (Pth m a b x\/∃ t∈S,Cn a b t x):=fun z=>Bool.noConfusion (w2.mpr z)
   have np:¬ Pth m a b x:=fun z=>hn (.inl z)
   have ring:∀ y,Cn a b x y->a y≠y/\b y≠y:=fun y hy=>⟨fun e=>np ⟨y,hy.lt T hx,.inl e,hy.symm T hx⟩,fun e=>np ⟨y,hy.lt T hx,.inr e,hy.symm T hx⟩⟩
   obtain⟨ps,p1,p2,p3⟩:=nM T hr hx (.inr ring)
   obtain⟨s',hs',e⟩:=hk s _ ps hs p1
   refine⟨_,eE (aE (dM (bp (aa rfl) (aa rfl) w1))) (ka rfl af aW (nS (aB (aa rfl) (aB (fR (aa rfl) (aa rfl) (aa rfl) p3) b9)) (by simp[dI,isVar,aU,D.imm,aJ,aY]) e rfl aG)) aG,s',_,S++[x],by simp;rfl,hs'.congr fun y _=>?_,fun t ht=>?_,?_,fun t ht=>?_,fun y hy=>?_⟩
   ·rw[p2]
    constructor
    ·rintro((h | ⟨t,h1,h2⟩) | h)
     ·exact .inl h
     ·exact .inr ⟨t,by simp[h1],h2⟩
     ·exact .inr ⟨x,by simp,h⟩
    ·rintro(h | ⟨t,h1,h2⟩)
     ·exact .inl (.inl h)
     ·rcases List.mem_append.mp h1 with h1 | h1
      ·exact .inl (.inr ⟨t,h1,h2⟩)
      ·have:t=x:=by simpa using h1
       subst this
       exact .inr h2
   ·rcases List.mem_append.mp ht with ht | ht
    ·exact c1 t ht
    ·have:t=x:=by simpa using ht
     subst this
     exact hx
   ·rw[List.pairwise_append]
    refine⟨c2,by simp,fun t ht t' ht' z=>?_⟩
    have:t'=x:=by simpa using ht'
    subst this
    exact hn (.inr ⟨t,ht,z⟩)
   ·rcases List.mem_append.mp ht with ht | ht
    ·exact c3 t ht
    ·have:t=x:=by simpa using ht
     subst this
     exact np
   ·rcases List.mem_append.mp hy with hy | hy
    ·rcases c4 y hy with h | ⟨t,h1,h2⟩
     ·exact .inl h
     ·exact .inr ⟨t,by simp[h1],h2⟩
    ·have:y=x:=by simpa using hy
     subst this
     exact .inr ⟨y,by simp,.refl⟩)
 refine⟨S,⟨c1,c2,fun t ht y hy=>⟨fun e=>c3 t ht ⟨y,hy.lt T (c1 t ht),.inl e,hy.symm T (c1 t ht)⟩,fun e=>c3 t ht ⟨y,hy.lt T (c1 t ht),.inr e,hy.symm T (c1 t ht)⟩⟩,fun x hx=>c4 x (by simpa using hx)⟩,?_⟩
 have e0:a8 .mul (.lst [.bl false]) (.int (m:Nat))=some (.lst (BL (List.replicate m false))):=by
  dsimp only[a8]
  rw[if_pos ⟨by lia,by unfold most;lia,by simp[most];lia⟩]
  simp[BL]
 exact aC rfl rfl (gC (aj (de (aB af b9)) (bo (aa rfl) lA) e0) (by simp[aJ,wA]) (cz (gK (bo (aa rfl) lA) e1) l1 (a7 af rfl (cz (gK (bo (aa rfl) lA) e1) l2 (a9 (aa rfl) rfl)))))
end
noncomputable def jn(n x:Nat):Nat:=if x<n then x else if x<2*n then x+n else if x<3*n then x-n else x
noncomputable def rb(n:Nat)(h l:List Nat)(x:Nat):Nat:=if x<2*n then at' h x else 2*n+at' l (x-2*n)
noncomputable def out(n p:Nat):Nat:=if p<n then p else p+2*n
section
variable{n:Nat}{h l:List Nat}
theorem two(F:Frm n h)(G:Frm n l):Two (4*n) (jn n) (rb n h l):=by
 refine⟨fun x hx=>?_,fun x hx=>?_,fun x hx=>?_,fun x hx=>?_⟩
 ·unfold jn;(repeat' split)<;>lia
 ·unfold rb
  split
  ·have:=F.lt x (by lia);lia
  ·have:=G.lt (x-2*n) (by omega);lia
 ·unfold jn;(repeat' split)<;>lia
 ·unfold rb
  by_cases c:x<2*n
  ·rw[if_pos c,if_pos (F.lt x c),F.inv]
  ·rw[if_neg c,if_neg (by lia),Nat.add_sub_cancel_left,G.inv]
   omega
theorem dP(F:Frm n h)(G:Frm n l){x:Nat}(hx:x<4*n):rb n h l x≠x:=by
 unfold rb
 split
 ·rename_i c
  exact F.no x c
 ·have:=G.no (x-2*n) (by omega)
  lia
theorem bb{p:Nat}(hp:p<2*n):out n p<4*n:=by unfold out;split<;>lia
theorem dN{p:Nat}(hp:p<2*n):jn n (out n p)=out n p:=by unfold out jn;(repeat' split)<;>lia
theorem nK{p q:Nat}(e:out n p=out n q)(hp:p<2*n)(hq:q<2*n):p=q:=by unfold out at e;(repeat' split at e)<;>lia
theorem vg{x:Nat}(hx:x<4*n)(e:jn n x=x):∃ p,p<2*n/\x=out n p:=by
 by_cases c:x<n
 ·exact⟨x,by lia,by unfold out;rw[if_pos c]⟩
 ·have:3*n<=x:=by
   unfold jn at e
   (repeat' split at e)<;>lia
  exact⟨x-2*n,by lia,by unfold out;rw[if_neg (by lia)];lia⟩
noncomputable def en2(n:Nat)(s:Bool × Nat):Nat:=if s.1 then s.2 else 2*n+s.2
theorem DY{s:Bool × Nat}(hs:s.2<2*n)(c:s.1=decide (n<=s.2)):en2 n (stp n h l s)=rb n h l (jn n (en2 n s)):=by
 obtain⟨b,q⟩:=s
 unfold stp
 rw[if_pos c]
 dsimp only at c hs ⊢
 rw[c]
 clear c
 by_cases c:n<=q
 ·have e:(q+n)%(2*n)=q-n:=by rw[Nat.mod_eq_sub_mod (by lia),Nat.mod_eq_of_lt (by omega)];lia
  have e2:jn n q=q+n:=by unfold jn;rw[if_neg (by lia),if_pos hs]
  simp only[c,decide_true,Bool.not_true,en2,pick,if_true,Bool.false_eq_true,if_false,e,e2,rb]
  rw[if_neg (by lia),show q+n-2*n=q-n by lia]
 ·have e:(q+n)%(2*n)=q+n:=Nat.mod_eq_of_lt (by lia)
  have e2:jn n (2*n+q)=n+q:=by unfold jn;rw[if_neg (by lia),if_neg (by lia),if_pos (by lia)];lia
  simp only[c,decide_false,Bool.not_false,en2,pick,if_true,Bool.false_eq_true,if_false,e,e2,rb]
  rw[if_pos (by lia),Nat.add_comm]
theorem uM{s:Bool × Nat}(hs:s.2<2*n):s.1=decide (n<=s.2)↔jn n (en2 n s)≠en2 n s:=by
 obtain⟨b,q⟩:=s
 dsimp only at hs
 cases b
 ·simp only[en2,Bool.false_eq_true,if_false]
  by_cases c:n<=q
  ·simp only[c,decide_true,Bool.false_eq_true,false_iff,Classical.not_not]
   unfold jn;rw[if_neg (by lia),if_neg (by lia),if_neg (by lia)]
  ·simp only[c,decide_false,true_iff]
   unfold jn;rw[if_neg (by lia),if_neg (by lia),if_pos (by lia)];lia
 ·simp only[en2,if_true]
  by_cases c:n<=q
  ·simp only[c,decide_true,true_iff]
   unfold jn;rw[if_neg (by lia),if_pos hs];lia
  ·simp only[c,decide_false,Bool.true_eq_false,false_iff,Classical.not_not]
   unfold jn;rw[if_pos (by lia)]
theorem AR{s:Bool × Nat}(c:¬ s.1=decide (n<=s.2)):stp n h l s=s:=by
 unfold stp
 rw[if_neg c]
theorem Ci{p:Nat}(hp:p<2*n):en2 n (beg n h l p)=rb n h l (out n p):=by
 unfold beg en2 rb out pick
 by_cases c:p<n
 ·simp only[c,decide_true,if_true]
  rw[if_pos (by lia)]
 ·simp only[c,decide_false,Bool.false_eq_true,if_false]
  rw[if_neg (by lia),show p+2*n-2*n=p by lia]
theorem iV(F:Frm n h)(G:Frm n l){p k:Nat}(hp:p<2*n)(st:Stp (jn n) (rb n h l) (out n p) k)(hs:∀ j,j<k->¬ Stp (jn n) (rb n h l) (out n p) j) :
  ∀ j,en2 n (itr n h l j (beg n h l p))=wk (jn n) (rb n h l) (out n p) (if 2*j+1<=k then 2*j+1 else k):=by
 have T:=two F G
 obtain⟨k1,k2⟩:=kF T (bb hp) st hs (fun y hy=>dP F G hy) (dN hp)
 have blt:(beg n h l p).2<2*n:=by
  unfold beg pick
  dsimp only
  split
  ·exact F.lt p hp
  ·exact G.lt p hp
 intro j
 induction j with
 |zero=>
  rw[if_pos (by lia)]
  show en2 n (beg n h l p)=_
  rw[Ci hp]
  exact(dn (k:=0) rfl).symm
 |succ j ih=>
  have hl:=gu (fun x hx=>F.lt x hx) (fun x hx=>G.lt x hx) (h:=h) (l:=l) blt j
  show en2 n (stp n h l (itr n h l j (beg n h l p)))=_
  by_cases c:2*(j+1)+1<=k
  ·rw[if_pos (by lia)]at ih
   rw[if_pos c]
   have ne:jn n (en2 n (itr n h l j (beg n h l p)))≠en2 n (itr n h l j (beg n h l p)):=by
    rw[ih]
    intro e
    exact hs (2*j+1) (by lia) (.inl (by rw[fz (by lia)];exact e))
   rw[DY hl ((uM hl).mpr ne),ih,<-fz (a:=jn n) (b:=rb n h l) (x:=out n p) (k:=2*j+1) (by lia),<-dn (a:=jn n) (b:=rb n h l) (x:=out n p) (k:=2*j+1+1) (by lia)]
   congr 1
  ·rw[if_neg c]
   have e:(if 2*j+1<=k then 2*j+1 else k)=k:=by split<;>lia
   rw[e]at ih
   rw[AR (fun z=>(uM hl).mp z (by rw[ih];exact k2)),ih]
theorem cK:(az n h l).length=2*n:=by simp[az]
theorem qV{p:Nat}(hp:p<2*n):at' (az n h l) p=(itr n h l (4*n) (beg n h l p)).2:=by simp[az,at',hp]
theorem jG(F:Frm n h)(G:Frm n l){p k:Nat}(hp:p<2*n)(hk:k<4*n)(st:Stp (jn n) (rb n h l) (out n p) k)(hs:∀ j,j<k->¬ Stp (jn n) (rb n h l) (out n p) j) :
  at' (az n h l) p<2*n/\wk (jn n) (rb n h l) (out n p) k=out n (at' (az n h l) p):=by
 have T:=two F G
 obtain⟨k1,k2⟩:=kF T (bb hp) st hs (fun y hy=>dP F G hy) (dN hp)
 have w:=iV F G hp st hs (4*n)
 rw[show(if 2*(4*n)+1<=k then 2*(4*n)+1 else k)=k by split<;>lia]at w
 rw[qV hp]
 have blt:(beg n h l p).2<2*n:=by
  unfold beg pick
  dsimp only
  split
  ·exact F.lt p hp
  ·exact G.lt p hp
 have hl:=gu (fun x hx=>F.lt x hx) (fun x hx=>G.lt x hx) (h:=h) (l:=l) blt (4*n)
 refine⟨hl,?_⟩
 rw[<-w]
 have no:¬ (itr n h l (4*n) (beg n h l p)).1=decide (n<=(itr n h l (4*n) (beg n h l p)).2):=fun z=>(uM hl).mp z (by rw[w];exact k2)
 generalize itr n h l (4*n) (beg n h l p)=s at *
 obtain⟨b,q⟩:=s
 unfold en2 out
 dsimp only at no hl ⊢
 cases b
 ·rw[if_neg (by decide)]
  have:¬ q<n:=fun c=>no (by simp[show ¬ n<=q by lia])
  rw[if_neg this];lia
 ·rw[if_pos rfl]
  have:q<n:=by
   apply Classical.byContradiction
   intro c
   exact no (by simp[show n<=q by lia])
  rw[if_pos this]
theorem found_iff(F:Frm n h)(G:Frm n l){p q:Nat}(hp:p<2*n)(hq:q<2*n)(ne:p≠q):at' (az n h l) p=q↔Cn (jn n) (rb n h l) (out n p) (out n q):=by
 have T:=two F G
 obtain⟨k,hk,st,hs⟩:=eR T (bb hp)
 obtain⟨e1,e2⟩:=jG F G hp hk st hs
 constructor
 ·intro e
  rw[<-e,<-e2]
  exact j5 k
 ·intro c
  obtain⟨i,hi,e⟩:=k7 T (bb hp) st hs (.inl (dN hp)) c
  have fx:jn n (wk (jn n) (rb n h l) (out n p) i)=wk (jn n) (rb n h l) (out n p) i:=by rw[e];exact dN hq
  have ik:i=k:=by
   apply Classical.byContradiction
   intro z
   have i0:i≠0:=fun z=>by
    subst z
    exact ne (nK e hp hq)
   by_cases c:i%2=1
   ·exact hs i (by lia) (.inl (by rw[fz c];exact fx))
   ·have:=i9 T (bb hp) (i-1)
    rw[show i-1+1=i by lia,if_neg (by lia),fx]at this
    exact hs (i-1) (by lia) (.inl (by rw[show i-1+1=i by lia];exact this))
  subst ik
  rw[e2]at e
  exact(nK e e1 hq)
theorem d6(F:Frm n h)(G:Frm n l):Frm n (az n h l):=by
 have T:=two F G
 have lt:∀ p,p<2*n->at' (az n h l) p<2*n/\at' (az n h l) p≠p:=fun p hp=>by
  obtain⟨k,hk,st,hs⟩:=eR T (bb hp)
  obtain⟨e1,e2⟩:=jG F G hp hk st hs
  obtain⟨k1,k2⟩:=kF T (bb hp) st hs (fun y hy=>dP F G hy) (dN hp)
  refine⟨e1,fun e=>?_⟩
  rw[e]at e2
  exact kX T (bb hp) hs (i:=0) (j:=k) (by lia) (Nat.le_refl _) e2.symm
 refine⟨cK,fun p hp=>(lt p hp).1,fun p=>?_,fun p hp=>(lt p hp).2⟩
 by_cases hp:p<2*n
 ·obtain⟨l1,l2⟩:=lt p hp
  have c:=(found_iff F G hp l1 (Ne.symm l2)).mp rfl
  exact(found_iff F G l1 hp l2).mpr (c.symm T (bb hp))
 ·rw[dH (f:=az n h l) (x:=p) (by rw[cK];lia),dH (by rw[cK];lia)]
end
section
variable{cl:Cl}{n:Nat}{h l:List Nat}
theorem ng{β:Type}{σ:St}{e:E}{i:Nat}{u g:β->D}(im:∀ x,(g x).imm=true)(xs:List β)(h:∀ x∈xs,ev cl (σ.set i (some (u x))) e=some (g x)):bX (fun σ1=>(ev cl σ1 e).map some) [i] σ (xs.map u)=some (xs.map g) :=
 iP im xs fun x hx=>by
  show Option.map some (ev cl (σ.set i (some (u x))) e)=_
  rw[h x hx]
  rfl
theorem tM{σ:St}{e:E}{i:Nat}{g:Nat->D}(im:∀ x,(g x).imm=true)(xs:List Nat)(h:∀ x∈xs,ev cl (σ.set i (some (.int (x:Nat)))) e=some (g x)):bX (fun σ1=>(ev cl σ1 e).map some) [i] σ (L xs)=some (xs.map g) :=
 ng im xs h
noncomputable def jL(n:Nat):List Nat:=List.range n++List.range' (2*n) n++List.range' n n++List.range' (3*n) n
noncomputable def rbL(n:Nat)(h l:List Nat):List Nat:=h++l.map fun x=>2*n+x
theorem w6:(jL n).length=4*n:=by simp[jL];lia
theorem B2{x:Nat}(hx:x<4*n):(jL n)[x]?=some (jn n x):=by
 unfold jL jn
 by_cases c1:x<n
 ·rw[if_pos c1,List.append_assoc,List.append_assoc,List.getElem?_append_left (by simpa using c1),List.getElem?_range c1]
 ·rw[if_neg c1]
  by_cases c2:x<2*n
  ·rw[if_pos c2,List.append_assoc,List.append_assoc,List.getElem?_append_right (by simp;lia),List.length_range,List.getElem?_append_left (by simp;omega),List.getElem?_range' (by omega)]
   congr 1;lia
  ·rw[if_neg c2]
   by_cases c3:x<3*n
   ·rw[if_pos c3,List.getElem?_append_left (by simp;lia),List.getElem?_append_right (by simp;lia)]
    simp only[List.length_append,List.length_range,List.length_range']
    rw[List.getElem?_range' (by omega)]
    congr 1;lia
   ·rw[if_neg c3,List.getElem?_append_right (by simp;lia)]
    simp only[List.length_append,List.length_range,List.length_range']
    rw[List.getElem?_range' (by omega)]
    congr 1;lia
theorem Fy{x:Nat}(hx:x<4*n):at' (jL n) x=jn n x:=by
 unfold at'
 rw[B2 hx]
 rfl
theorem sL(F:Frm n h)(G:Frm n l):(rbL n h l).length=4*n:=by simp[rbL,F.len,G.len];lia
theorem CT(F:Frm n h)(G:Frm n l){x:Nat}(hx:x<4*n):at' (rbL n h l) x=rb n h l x:=by
 unfold rb rbL
 by_cases c:x<2*n
 ·rw[if_pos c]
  unfold at'
  rw[List.getElem?_append_left (by rw[F.len];exact c)]
 ·rw[if_neg c]
  unfold at'
  rw[List.getElem?_append_right (by rw[F.len];lia),F.len,List.getElem?_map]
  have:x-2*n<l.length:=by rw[G.len];omega
  simp[this]
theorem vH{f:List Nat}{x:Nat}(hx:x<f.length):ixV (.lst (L f)) (.int (x:Nat))=some (.int (at' f x:Nat)):=by
 show cj (L f) (x:Int)=_
 rw[dA,kI,cJ hx]
 rfl
theorem fT{k:Nat}(hk:k<100)(n:Nat):a8 .mul (.int (k:Nat)) (.int (n:Nat))=some (.int ((k*n:Nat):Int)):=by
 rw[bG (by lia) (by lia)]
 simp
theorem u6(hn:n<=10):evF cl dY [.int (n:Nat)]=some (.lst (L (jL n))):=by
 have a1:=bR (n:=n) (by lia)
 have a2:=cL (a:=n) (b:=2*n) (by lia) (by lia)
 have a3:=cL (a:=2*n) (b:=3*n) (by lia) (by lia)
 have a4:=cL (a:=3*n) (b:=4*n) (by lia) (by lia)
 rw[show 2*n-n=n by lia]at a2
 rw[show 3*n-2*n=n by lia]at a3
 rw[show 4*n-3*n=n by lia]at a4
 have ad:∀ xs ys:List Nat,xs.length+ys.length<=1000->a8 .add (.lst (L xs)) (.lst (L ys))=some (.lst (L (xs++ys))):=fun xs ys hl=>by
  show(if(L xs).length+(L ys).length<=most then some (D.lst (L xs++L ys))else none)=_
  rw[if_pos (by rw[aL,aL];unfold most;lia),cD]
 have im:∀ (e:E) (xs:List Nat),aF e=true->aU [] e (.lst (L xs))=true:=fun e xs ht=>by simp[aU,D.imm,aJ,aY,ht]
 refine aC rfl rfl (a7 (t6 (aa rfl) a1) (im _ _ rfl) (a7 (kR (aa rfl) (aj af (aa rfl) (fT (k:=2) (by decide) n)) a2) (im _ _ rfl) (a7 (kR (aj af (aa rfl) (fT (k:=2) (by decide) n)) (aj af (aa rfl) (fT (k:=3) (by decide) n)) a3) (im _ _ rfl) (a7 (kR (aj af (aa rfl) (fT (k:=3) (by decide) n)) (aj af (aa rfl) (fT (k:=4) (by decide) n)) a4) (im _ _ rfl) (a9 (d:=.lst (L (jL n))) (aj (aj (aj (aa rfl) (aa rfl) (ad _ _ ?_)) (aa rfl) (ad _ _ ?_)) (aa rfl) (ad _ _ ?_)) ?_)))))
 ·simp;lia
 ·simp;lia
 ·simp;lia
 ·simp[aV,aJ,aY]
theorem pB{fg fr fj fo:Nat}{r:Nat}(h1:1<=n)(hn:n<=10)(F:Frm n h)(G:Frm n l)(ho:cl fo [.tup (L h)]=some (.int (n:Nat)))(hj:cl fj [.int (n:Nat)]=some (.lst (L (jL n))))
 (hr:∀ x:Nat,x<4*n->∃ k,k<4*n/\Stp (jn n) (rb n h l) x k/\(∀ j,j<k->¬ Stp (jn n) (rb n h l) x j)/\cl fr [.lst (L (jL n)),.lst (L (rbL n h l)),.int (x:Nat)]=some (.lst (L (wks (jn n) (rb n h l) x k))))
 (hg:cl fg [.lst (L (jL n)),.lst (L (rbL n h l))]=some (.int (r:Nat))):evF cl (hX fg fr fj fo) [.tup (L h),.tup (L l)]=some (.tup [.tup (L (az n h l)),.int (r:Nat)]):=by
 have lm:∀ xs:List Nat,xs.length<=1000->(L xs).length<=most:=fun xs hl=>by rw[aL];unfold most;lia
 have ad:∀ xs ys:List Nat,xs.length+ys.length<=1000->a8 .add (.lst (L xs)) (.lst (L ys))=some (.lst (L (xs++ys))):=fun xs ys hl=>by
  show(if(L xs).length+(L ys).length<=most then some (D.lst (L xs++L ys))else none)=_
  rw[if_pos (by rw[aL,aL];unfold most;lia),cD]
 have im:∀ (e:E) (xs:List Nat),aF e=true->aU [] e (.lst (L xs))=true:=fun e xs ht=>by simp[aU,D.imm,aJ,aY,ht]
 have a1:=bR (n:=n) (by lia)
 have a4:=cL (a:=3*n) (b:=4*n) (by lia) (by lia)
 rw[show 4*n-3*n=n by lia]at a4
 have oL:List.range n++List.range' (3*n) n=(List.range (2*n)).map (out n):=by
  rw[show 2*n=n+n by lia,List.range_add,List.map_append]
  congr 1
  ·rw[<-List.map_id (List.range n),List.map_map]
   refine List.map_congr_left fun p hp=>?_
   unfold out
   rw[Function.comp,id,if_pos (List.mem_range.mp hp)]
  ·rw[List.range'_eq_map_range,List.map_map]
   refine List.map_congr_left fun p hp=>?_
   unfold out
   simp only[Function.comp]
   rw[if_neg (by lia)]
   lia
 have l4:(rbL n h l).length<=1000:=by rw[sL F G];lia
 have c1:bX (fun σ1=>(ev cl σ1 (.bin .add (.bin .mul (.cst (.int 2)) (.var 2)) (.var 8))).map some) [8] [some (.tup (L h)),some (.tup (L l)),some (.int (n:Nat)),none,none,none,none,none,none,none] (L l)=some (L (l.map fun x=>2*n+x)):=by
  rw[tM (g:=fun x=>.int ((2*n+x:Nat):Int)) (fun _=>rfl),uj]
  exact fun x _=>aj (aj af (aa rfl) (fT (k:=2) (by decide) n)) (aa rfl) (show a8 .add (.int ((2*n:Nat):Int)) (.int (x:Nat))=some (.int ((2*n+x:Nat):Int)) by rw[aW];simp)
 have c2:bX (fun σ1=>(ev cl σ1 (.ix (.call fr (.cons (.var 4) (.cons (.var 3) (.cons (.var 8) .nil)))) (.neg (.cst (.int 1))))).map some) [8] [some (.tup (L h)),some (.tup (L l)),some (.int (n:Nat)),some (.lst (L (rbL n h l))),some (.lst (L (jL n))),some (.lst (L ((List.range (2*n)).map (out n)))),none,none,none,none] (L ((List.range (2*n)).map (out n)))=some (L ((List.range (2*n)).map fun p=>out n (at' (az n h l) p))):=by
  have e:L ((List.range (2*n)).map (out n))=(List.range (2*n)).map fun p=>D.int (out n p:Nat):=by simp[L]
  rw[e,ng (g:=fun p=>.int ((out n (at' (az n h l) p):Nat):Int)) (fun _=>rfl)]
  ·simp[L]
  ·intro p hp
   rw[List.mem_range]at hp
   obtain⟨k,k1,k2,k3,k4⟩:=hr (out n p) (bb hp)
   obtain⟨e1,e2⟩:=jG F G hp k1 k2 k3
   rw[<-e2]
   exact bp (fR (aa rfl) (aa rfl) (aa rfl) k4) CS (rP k)
 have c3:bX (fun σ1=>(ev cl σ1 (.ifx (.cmp .lt (.var 9) (.var 2)) (.var 9) (.bin .sub (.var 9) (.bin .mul (.cst (.int 2)) (.var 2))))).map some) [9] [some (.tup (L h)),some (.tup (L l)),some (.int (n:Nat)),some (.lst (L (rbL n h l))),some (.lst (L (jL n))),some (.lst (L ((List.range (2*n)).map (out n)))),some (.lst (L ((List.range (2*n)).map fun p=>out n (at' (az n h l) p)))),none,none,none] (L ((List.range (2*n)).map fun p=>out n (at' (az n h l) p)))=some (L (az n h l)):=by
  have e:L ((List.range (2*n)).map fun p=>out n (at' (az n h l) p))=(List.range (2*n)).map fun p=>D.int (out n (at' (az n h l) p):Nat):=by simp[L]
  have e':az n h l=(List.range (2*n)).map (at' (az n h l)):=iE cK (by simp) fun x hx=>by simp[at',hx]
  have FF:=d6 F G
  rw[e,ng (g:=fun p=>.int ((at' (az n h l) p:Nat):Int)) (fun _=>rfl)]
  ·conv=>rhs;rw[e']
   simp[L]
  ·intro p hp
   rw[List.mem_range]at hp
   have hl:=FF.lt p hp
   by_cases c:at' (az n h l) p<n
   ·have eo:out n (at' (az n h l) p)=at' (az n h l) p:=by unfold out;rw[if_pos c]
    have v:∀ {σ:St},(σ[9]?).bind id=some (D.int (out n (at' (az n h l) p):Nat))->ev cl σ (.var 9)=some (.int (at' (az n h l) p:Nat)):=fun h=>by rw[aa h,eo]
    exact jf (k:=true) (aE (a5 (aa rfl) (aa rfl) (by rw[cS,decide_eq_true (by lia)]))) (v rfl)
   ·have eo:out n (at' (az n h l) p)=at' (az n h l) p+2*n:=by unfold out;rw[if_neg c]
    exact jf (k:=false) (aE (a5 (aa rfl) (aa rfl) (by rw[cS,decide_eq_false (by lia)]))) (aj (aa rfl) (aj af (aa rfl) (fT (k:=2) (by decide) n)) (by rw[br,eo];congr 2;lia))
 have ll:(L l).length<=most:=lm l (by rw[G.len];lia)
 exact aC rfl rfl (a7 (bj (aa rfl) ho) rfl (a7 (d:=.lst (L (rbL n h l))) (aj (bo (aa rfl) rfl) (dE (dC (aa rfl) rfl) ll c1) (ad _ _ (by simp[F.len,G.len];lia))) (im _ _ rfl) (a7 (bj (aa rfl) hj) (im _ _ rfl) (a7 (d:=.lst (L ((List.range (2*n)).map (out n)))) (aj (t6 (aa rfl) a1) (kR (aj af (aa rfl) (fT (k:=3) (by decide) n)) (aj af (aa rfl) (fT (k:=4) (by decide) n)) a4) (by rw[ad _ _ (by simp;lia),oL])) (im _ _ rfl) (a7 (dE (dC (aa rfl) rfl) (lm _ (by simp;lia)) c2) (im _ _ rfl) (a7 (bo (dE (dC (aa rfl) rfl) (lm _ (by simp;lia)) c3) rfl) (by simp[aU,D.imm,aY]) (a9 (gU (aB (aa rfl) (aB (bQ (aa rfl) (aa rfl) hg) b9))) (by simp[aV,D.imm,au,aY]))))))))
end
section
variable{n:Nat}{h l:List Nat}
theorem Pth.step{m:Nat}{a b:Nat->Nat}{x y:Nat}(h:Pth m a b x)(c:Cn a b x y):Pth m a b y:=by
 obtain⟨s,h1,h2,h3⟩:=h
 exact⟨s,h1,h2,h3.trans c⟩
theorem lI{m:Nat}(hm:m<n):jn n (n+m)=2*n+m:=by unfold jn;rw[if_neg (by lia),if_pos (by lia)];lia
theorem qJ{m:Nat}(hm:m<n):jn n (2*n+m)=n+m:=by unfold jn;rw[if_neg (by lia),if_neg (by lia),if_pos (by lia)];lia
theorem uG{a b:Nat->Nat}{x y:Nat}(e:a x=y):Cn a b x y:=by rw[<-e];exact .sa .refl
theorem zE{a b:Nat->Nat}{x y:Nat}(e:b x=y):Cn a b x y:=by rw[<-e];exact .sb .refl
theorem qC(F:Frm n h)(G:Frm n l){m:Nat}(hm:m<n):Gn n h l (2*n) m↔Pth (4*n) (jn n) (rb n h l) (n+m):=by
 have T:=two F G
 constructor
 ·rintro⟨p,hp,j,hj,t1,t2⟩
  obtain⟨k,hk,st,hs⟩:=eR T (bb hp)
  have w:=iV F G hp st hs j
  refine⟨out n p,bb hp,.inl (dN hp),?_⟩
  have c:Cn (jn n) (rb n h l) (out n p) (en2 n (itr n h l j (beg n h l p))):=by rw[w];exact j5 _
  have blt:(beg n h l p).2<2*n:=by
   unfold beg pick
   dsimp only
   split
   ·exact F.lt p hp
   ·exact G.lt p hp
  have hl:=gu (fun x hx=>F.lt x hx) (fun x hx=>G.lt x hx) (h:=h) (l:=l) blt j
  generalize itr n h l j (beg n h l p)=s at *
  obtain⟨b,q⟩:=s
  dsimp only at t1 t2 hl
  unfold en2 at c
  cases b
  ·simp only[Bool.false_eq_true,if_false]at c
   have:q<n:=by
    apply Classical.byContradiction
    intro z
    rw[decide_eq_true (by lia)]at t1
    cases t1
   rw[Nat.mod_eq_of_lt this]at t2
   subst t2
   have:=Cn.sa c
   rw[qJ hm]at this
   exact this
  ·rw[if_pos rfl]at c
   have:n<=q:=of_decide_eq_true t1.symm
   rw[Nat.mod_eq_sub_mod this,Nat.mod_eq_of_lt (by lia)]at t2
   rw[show n+m=q by lia]
   exact c
 ·rintro⟨s,h1,h2,h3⟩
  have h2:jn n s=s:=h2.resolve_right (dP F G h1)
  obtain⟨p,hp,rfl⟩:=vg h1 h2
  obtain⟨k,hk,st,hs⟩:=eR T (bb hp)
  obtain⟨k1,k2⟩:=kF T (bb hp) st hs (fun y hy=>dP F G hy) (dN hp)
  obtain⟨i,hi,e⟩:=k7 T (bb hp) st hs (.inl (dN hp)) h3
  have na:=lI hm
  have i0:i≠0:=fun z=>by
   subst z
   have:=dN hp
   rw[show out n p=n+m from e,na]at this
   lia
  have ik:i≠k:=fun z=>by
   subst z
   rw[e,na]at k2
   lia
  have blt:(beg n h l p).2<2*n:=by
   unfold beg pick
   dsimp only
   split
   ·exact F.lt p hp
   ·exact G.lt p hp
  by_cases c:i%2=1
  ·obtain⟨j,rfl⟩:∃ j,i=2*j+1:=⟨i / 2,by lia⟩
   have w:=iV F G hp st hs j
   rw[if_pos hi,e]at w
   have hl:=gu (fun x hx=>F.lt x hx) (fun x hx=>G.lt x hx) (h:=h) (l:=l) blt j
   refine⟨p,hp,j,by lia,?_⟩
   unfold Tr
   generalize itr n h l j (beg n h l p)=s at *
   obtain⟨b,q⟩:=s
   unfold en2 at w
   dsimp only at w hl ⊢
   cases b
   ·rw[if_neg (by decide)]at w;lia
   ·rw[if_pos rfl]at w
    subst w
    exact⟨(decide_eq_true (by lia)).symm,by rw[Nat.mod_eq_sub_mod (by lia),Nat.mod_eq_of_lt (by lia)];lia⟩
  ·obtain⟨j,rfl⟩:∃ j,i=2*j+1+1:=⟨i / 2-1,by lia⟩
   have w:=iV F G hp st hs j
   rw[fz (by lia)]at e
   have e':wk (jn n) (rb n h l) (out n p) (2*j+1)=2*n+m:=by
    have:=congrArg (jn n) e
    rw[T.ai _ (f9 T (bb hp) _),na]at this
    exact this
   rw[if_pos (by lia),e']at w
   have hl:=gu (fun x hx=>F.lt x hx) (fun x hx=>G.lt x hx) (h:=h) (l:=l) blt j
   refine⟨p,hp,j,by lia,?_⟩
   unfold Tr
   generalize itr n h l j (beg n h l p)=s at *
   obtain⟨b,q⟩:=s
   unfold en2 at w
   dsimp only at w hl ⊢
   cases b
   ·rw[if_neg (by decide)]at w
    have:q=m:=by lia
    subst this
    exact⟨(decide_eq_false (by lia)).symm,Nat.mod_eq_of_lt hm⟩
   ·rw[if_pos rfl]at w;lia
theorem lU(F:Frm n h)(G:Frm n l){x:Nat}(hx:x<4*n)(np:¬ Pth (4*n) (jn n) (rb n h l) x):∃ m,m<n/\(x=n+m\/x=2*n+m)/\¬ Pth (4*n) (jn n) (rb n h l) (n+m):=by
 have no:jn n x≠x:=fun e=>np ⟨x,hx,.inl e,.refl⟩
 by_cases c:x<2*n
 ·have:n<=x:=by
   apply Classical.byContradiction
   intro z
   exact no (by unfold jn;rw[if_pos (by lia)])
  exact⟨x-n,by omega,.inl (by lia),by rw[show n+(x-n)=x by lia];exact np⟩
 ·have:x<3*n:=by
   apply Classical.byContradiction
   intro z
   exact no (by unfold jn;rw[if_neg (by lia),if_neg (by lia),if_neg (by lia)])
  refine⟨x-2*n,by omega,.inr (by lia),fun z=>np (z.step ?_)⟩
  have:=lI (n:=n) (m:=x-2*n) (by omega)
  rw[show 2*n+(x-2*n)=x by lia]at this
  exact uG this
theorem rS(F:Frm n h)(G:Frm n l){m:Nat}(hm:m<n)(np:¬ Pth (4*n) (jn n) (rb n h l) (n+m)):at' l m<n/\¬ Pth (4*n) (jn n) (rb n h l) (n+at' l m)/\Cn (jn n) (rb n h l) (n+m) (n+at' l m):=by
 have T:=two F G
 have hl:=G.lt m (by lia)
 have e:rb n h l (2*n+m)=2*n+at' l m:=by unfold rb;rw[if_neg (by lia),show 2*n+m-2*n=m by lia]
 have c:Cn (jn n) (rb n h l) (n+m) (2*n+at' l m):=(uG (lI hm)).trans (zE e)
 have np':¬ Pth (4*n) (jn n) (rb n h l) (2*n+at' l m):=fun z=>np (z.step (c.symm T (by lia)))
 obtain⟨j,hj,e1 | e1,e2⟩:=lU F G (by lia) np'
 ·lia
 ·have:at' l m=j:=by lia
  rw[this]
  refine⟨hj,e2,?_⟩
  rw[this]at c
  have:=Cn.sa c
  rw[qJ hj]at this
  exact this
theorem oZ(F:Frm n h)(G:Frm n l){m:Nat}(hm:m<n)(np:¬ Pth (4*n) (jn n) (rb n h l) (n+m)):∃ j,j<n/\at' h (n+m)=n+j/\¬ Pth (4*n) (jn n) (rb n h l) (n+j)/\Cn (jn n) (rb n h l) (n+m) (n+j):=by
 have T:=two F G
 have hl:=F.lt (n+m) (by lia)
 have e:rb n h l (n+m)=at' h (n+m):=by unfold rb;rw[if_pos (by lia)]
 have c:Cn (jn n) (rb n h l) (n+m) (at' h (n+m)):=zE e
 have np':¬ Pth (4*n) (jn n) (rb n h l) (at' h (n+m)):=fun z=>np (z.step (c.symm T (by lia)))
 obtain⟨j,hj,e1 | e1,e2⟩:=lU F G (by lia) np'
 ·exact⟨j,hj,e1,e2,by rw[<-e1];exact c⟩
 ·lia
theorem yx(F:Frm n h)(G:Frm n l){inner:List Nat}(hin:∀ m,m∈inner↔m<n/\¬ Pth (4*n) (jn n) (rb n h l) (n+m)){f:Nat->Int}
 (f1:∀ x∈inner,∀ y∈inner,f x=f y->Cn (jn n) (rb n h l) (n+x) (n+y))(f2:∀ m∈inner,f (at' l m)=f m)(f3:∀ m∈inner,∀ j,at' h (n+m)=n+j->f j=f m) :
  ∃ S,kQ (4*n) (jn n) (rb n h l) S/\(iI (inner.map f)).length=S.length:=by
 have T:=two F G
 have f4:∀ x∈inner,∀ z,Cn (jn n) (rb n h l) (n+x) z->∃ m∈inner,(z=n+m\/z=2*n+m)/\f m=f x:=by
  intro x hx z c
  induction c with
  | refl=>exact⟨x,hx,.inl rfl,rfl⟩
  |sa _ ih=>
   obtain⟨m,hm,e | e,ef⟩:=ih
   ·exact⟨m,hm,.inr (by rw[e,lI ((hin m).mp hm).1]),ef⟩
   ·exact⟨m,hm,.inl (by rw[e,qJ ((hin m).mp hm).1]),ef⟩
  |sb _ ih=>
   obtain⟨m,hm,e | e,ef⟩:=ih
   ·have mn:=((hin m).mp hm).1
    obtain⟨j,h1,h2,h3,_⟩:=oZ F G ((hin m).mp hm).1 ((hin m).mp hm).2
    exact⟨j,(hin j).mpr ⟨h1,h3⟩,.inl (by rw[e];unfold rb;rw[if_pos (by lia),h2]),by rw[f3 m hm j h2,ef]⟩
   ·obtain⟨h1,h2,_⟩:=rS F G ((hin m).mp hm).1 ((hin m).mp hm).2
    exact⟨at' l m,(hin _).mpr ⟨h1,h2⟩,.inr (by rw[e];unfold rb;rw[if_neg (by lia),show 2*n+m-2*n=m by lia]),by rw[f2 m hm,ef]⟩
 have jV:∀ xs:List Nat,∃ R:List Nat,(∀ r∈R,r∈xs)/\R.map f=iI (xs.map f)/\(R.Pairwise fun r t=>f r≠f t)/\∀ x∈xs,∃ r∈R,f r=f x:=by
  intro xs
  suffices H:∀ (ys:List Nat) (R:List Nat) (done:List Nat),(∀ r∈R,r∈done)->(R.Pairwise fun r t=>f r≠f t)->(∀ x∈done,∃ r∈R,f r=f x)->∃ R':List Nat,(∀ r∈R',r∈done++ys)/\R'.map f=(ys.map f).foldl (fun m k=>if m.any (· == k)then m else m++[k]) (R.map f)/\(R'.Pairwise fun r t=>f r≠f t)/\∀ x∈done++ys,∃ r∈R',f r=f x by
   obtain⟨R,h1,h2,h3,h4⟩:=H xs [] [] (by simp) .nil (by simp)
   exact⟨R,by simpa using h1,h2,h3,by simpa using h4⟩
  intro ys
  induction ys with
  | nil=>intro R done h1 h2 h3;exact⟨R,by simpa using h1,rfl,h2,by simpa using h3⟩
  |cons y ys ih=>
   intro R done h1 h2 h3
   by_cases c:(R.map f).any (· == f y)=true
   ·obtain⟨R',g1,g2,g3,g4⟩:=ih R (done++[y]) (fun r hr=>by simp[h1 r hr]) h2 (fun x hx=>by
     rcases List.mem_append.mp hx with hx | hx
     ·exact h3 x hx
     ·have:x=y:=by simpa using hx
      subst this
      simpa using c)
    exact⟨R',by simpa using g1,by rw[List.map_cons,List.foldl_cons,if_pos c];exact g2,g3,by simpa using g4⟩
   ·obtain⟨R',g1,g2,g3,g4⟩:=ih (R++[y]) (done++[y]) (fun r hr=>by
     rcases List.mem_append.mp hr with hr | hr
     ·simp[h1 r hr]
     ·simp at hr;simp[hr]) (by
     rw[List.pairwise_append]
     refine⟨h2,by simp,fun r hr t ht e=>c ?_⟩
     have:t=y:=by simpa using ht
     subst this
     simpa using⟨r,hr,e⟩) (fun x hx=>by
     rcases List.mem_append.mp hx with hx | hx
     ·obtain⟨r,a1,a2⟩:=h3 x hx
      exact⟨r,by simp[a1],a2⟩
     ·have:x=y:=by simpa using hx
      subst this
      exact⟨x,by simp,rfl⟩)
    exact⟨R',by simpa using g1,by rw[List.map_cons,List.foldl_cons,if_neg c];simpa using g2,g3,by simpa using g4⟩
 obtain⟨R,r1,r2,r3,r4⟩:=jV inner
 refine⟨R.map fun m=>n+m,⟨fun s hs=>?_,?_,fun s hs y hy=>?_,fun x hx=>?_⟩,by rw[<-r2];simp⟩
 ·obtain⟨m,hm,rfl⟩:=List.mem_map.mp hs
  have:=((hin m).mp (r1 m hm)).1
  lia
 ·rw[List.pairwise_map]
  refine List.Pairwise.imp_of_mem ?_ r3
  intro a b ha hb ne c
  obtain⟨m,hm,e | e,ef⟩:=f4 a (r1 a ha) _ c
  ·have:m=b:=by lia
   subst this
   exact ne ef.symm
  ·have:=((hin m).mp hm).1
   have:=((hin b).mp (r1 b hb)).1
   lia
 ·obtain⟨m,hm,rfl⟩:=List.mem_map.mp hs
  obtain⟨j,hj,e,_⟩:=f4 m (r1 m hm) y hy
  have jn':=((hin j).mp hj).1
  refine⟨?_,dP F G (by rcases e with rfl | rfl<;>lia)⟩
  rcases e with rfl | rfl
  ·rw[lI jn'];lia
  ·rw[qJ jn'];lia
 ·by_cases np:Pth (4*n) (jn n) (rb n h l) x
  ·exact .inl np
  ·obtain⟨m,hm,e,nm⟩:=lU F G hx np
   have mi:=(hin m).mpr ⟨hm,nm⟩
   obtain⟨r,hr,er⟩:=r4 m mi
   refine .inr ⟨n+r,List.mem_map.mpr ⟨r,hr,rfl⟩,?_⟩
   have c:=f1 r (r1 r hr) m mi er
   rcases e with rfl | rfl
   ·exact c
   ·exact c.trans (uG (lI hm))
end
section
variable{cl:Cl}{n:Nat}{h l inner:List Nat}
noncomputable def HF(inner:List Nat)(hk:List Ky)(hv:List D)(f:Nat->Int):Prop:=hk.length=hv.length/\hk.length<=10/\∀ m∈inner,aK hk hv (.inl (m:Int))=some (.int (f m))
theorem HF.hi{hk:List Ky}{hv:List D}{f:Nat->Int}(H:HF inner hk hv f):HI inner hk hv:=⟨H.1,H.2.1,fun m hm=>⟨f m,H.2.2 m hm⟩⟩
theorem HF.put{hk:List Ky}{hv:List D}{f:Nat->Int}(H:HF inner hk hv f){m:Nat}(hm:m∈inner)(v:Int):HF inner (putD hk hv (.inl (m:Int)) (.int v)).1 (putD hk hv (.inl (m:Int)) (.int v)).2 (fun x=>if x=m then v else f x):=by
 obtain⟨p1,p2,_⟩:=H.hi.put hm v
 refine⟨p1,p2,fun x hx=>?_⟩
 rw[eU H.1]
 dsimp only
 by_cases c:x=m
 ·subst c;rw[if_pos rfl,if_pos rfl]
 ·rw[if_neg (fun e=>c (by injection e with e;lia)),if_neg c]
  exact H.2.2 x hx
theorem wH{hk:List Ky}{hv:List D}(hl:hk.length<=10)(x:Nat)(d:D):du (.dK hk hv) (.int (x:Nat)) d=some (.dK (putD hk hv (.inl (x:Int)) d).1 (putD hk hv (.inl (x:Int)) d).2):=by
 dsimp only[du,keyOf]
 rw[Option.bind_some,if_pos (by unfold most;lia)]
theorem qB{hk:List Ky}{hv:List D}{f:Nat->Int}(H:HF inner hk hv f)(o5 o6 o7:Option D)(keep go:Int):∃ hk' hv' o7',HF inner hk' hv' (fun x=>if f x=go then keep else f x)/\aZ (ah cl [4] di) [7] (L inner) (rst n h l inner hk hv o5 o6 o7 (some (.int keep)) (some (.int go)))=some (.nx,rst n h l inner hk' hv' o5 o6 o7' (some (.int keep)) (some (.int go))):=by
 obtain⟨σ',e,hk',hv',o7',g,rfl,H',hg⟩:=cH (f:=ah cl [4] di) (tg:=[7]) (xs:=inner) (σ:=rst n h l inner hk hv o5 o6 o7 (some (.int keep)) (some (.int go)))
  (fun p σ=>∃ (hk':List Ky) (hv':List D) (o7':Option D) (g:Nat->Int),σ=rst n h l inner hk' hv' o5 o6 o7' (some (.int keep)) (some (.int go))/\HF inner hk' hv' g/\∀ x,g x=if x∈p then(if f x=go then keep else f x)else f x) ⟨hk,hv,o7,f,rfl,H,fun x=>by simp⟩ (by
   rintro p x q σ hx ⟨hk',hv',o7',g,rfl,H',hg⟩
   have hm:x∈inner:=by rw[hx];simp
   have lk:=kB (H'.2.2 x hm)
   show ∃ σ2,ah cl [4] di (rst n h l inner hk' hv' o5 o6 (some (.int (x:Nat))) (some (.int keep)) (some (.int go)))=some (.nx,σ2)/\_
   by_cases c:g x=go
   ·refine⟨rst n h l inner (putD hk' hv' (.inl (x:Int)) (.int keep)).1 (putD hk' hv' (.inl (x:Int)) (.int keep)).2 o5 o6 (some (.int (x:Nat))) (some (.int keep)) (some (.int go)),eE (aE (a5 (jm (aa rfl) (aa rfl) lk) (aa rfl) (by rw[bW];congr 1;simp[c]))) (jT (aa rfl) (aa rfl) rfl rfl (wH H'.2.1 x _) aG) aG,_,_,_,_,rfl,H'.put hm keep,fun y=>?_⟩
    by_cases e:y=x
    ·subst e
     rw[if_pos rfl,if_pos (by simp)]
     rw[hg]at c
     split at c
     ·split
      ·rfl
      ·rename_i z1 z2
       rw[if_neg z2]at c
       exact absurd c z2
     ·rw[if_pos c]
    ·rw[if_neg e,hg y]
     simp[e]
   ·refine⟨rst n h l inner hk' hv' o5 o6 (some (.int (x:Nat))) (some (.int keep)) (some (.int go)),bf (aE (a5 (jm (aa rfl) (aa rfl) lk) (aa rfl) (by rw[bW];congr 1;simp[c]))) aG,_,_,_,_,rfl,H',fun y=>?_⟩
    by_cases e:y=x
    ·subst e
     rw[if_pos (by simp)]
     rw[hg]at c ⊢
     split at c
     ·rename_i z;rw[if_pos z]
     ·rename_i z;rw[if_neg z,if_neg c]
    ·rw[hg y]
     simp[e])
 refine⟨hk',hv',o7',⟨H'.1,H'.2.1,fun m hm=>?_⟩,e⟩
 rw[H'.2.2 m hm,hg m,if_pos hm]
noncomputable def Tog(n:Nat)(h l inner:List Nat)(f:Nat->Int):Prop:=∀ x∈inner,∀ y∈inner,f x=f y->Cn (jn n) (rb n h l) (n+x) (n+y)
noncomputable def mg(f:Nat->Int)(m o x:Nat):Int:=if f x=f o then f m else f x
theorem mO{f:Nat->Int}{m o a b:Nat}(e:f a=f b):mg f m o a=mg f m o b:=by unfold mg;rw[e]
theorem zK{f:Nat->Int}{m o:Nat}:mg f m o o=mg f m o m:=by
 unfold mg
 rw[if_pos rfl]
 split<;>rfl
theorem Tog.merge(F:Frm n h)(G:Frm n l){f:Nat->Int}(t:Tog n h l inner f)(hlt:∀ m∈inner,m<n){m o:Nat}(hm:m∈inner)(ho:o∈inner)(c:Cn (jn n) (rb n h l) (n+m) (n+o)):Tog n h l inner (mg f m o):=by
 have T:=two F G
 intro x hx y hy e
 have lx:=hlt x hx
 have ly:=hlt y hy
 have lm:=hlt m hm
 have lo:=hlt o ho
 unfold mg at e
 split at e
 ·rename_i e1
  split at e
  ·rename_i e2
   exact t x hx y hy (e1.trans e2.symm)
  ·exact(t x hx o ho e1).trans ((c.symm T (by lia)).trans (t m hm y hy e))
 ·split at e
  ·rename_i e2
   exact(t x hx m hm e).trans (c.trans (t o ho y hy e2.symm))
  ·exact t x hx y hy e
theorem uO(h1:1<=n)(hn:n<=10)(F:Frm n h)(G:Frm n l)(hil:inner.length<=n)(hin:∀ m,m∈inner↔m<n/\¬ Pth (4*n) (jn n) (rb n h l) (n+m)):∃ S:List Nat,kQ (4*n) (jn n) (rb n h l) S/\evF cl eS [.tup (L h),.tup (L l),.lst (L inner)]=some (.int (S.length:Nat)):=by
 have e6:=half (xs:=L h) (n:=n) (by rw[aL,F.len])
 obtain⟨σ1,l1,hk,hv,o5,rfl,H0,H1,H2⟩:=cH (f:=ah cl [4] hG) (tg:=[5]) (xs:=inner) (σ:=rst n h l inner [] [] none none none none none)
  (fun p σ=>∃ hk hv o5,σ=rst n h l inner hk hv o5 none none none none/\hk.length=hv.length/\hk.length<=p.length/\∀ m∈p,aK hk hv (.inl (m:Int))=some (.int (m:Nat))) ⟨[],[],none,rfl,rfl,by simp,by simp⟩ (by
   rintro p x q σ hx ⟨hk,hv,o5,rfl,H0,H1,H2⟩
   have hp:p.length<10:=by
    have:=congrArg List.length hx
    simp at this
    lia
   have pl:=gh (x:=(.inl (x:Int):Ky)) (d:=.int (x:Nat)) H0
   refine⟨rst n h l inner (putD hk hv (.inl (x:Int)) (.int (x:Nat))).1 (putD hk hv (.inl (x:Int)) (.int (x:Nat))).2 (some (.int (x:Nat))) none none none none,jT (cl:=cl) (M:=[4]) (σ:=rst n h l inner hk hv (some (.int (x:Nat))) none none none none) (r:=.nil) (aa rfl) (aa rfl) rfl rfl (wH (by lia) x _) aG,_,_,_,rfl,pl.1,by have:=pl.2;simp;lia,fun m hm=>?_⟩
   rw[eU H0]
   by_cases e:(.inl (x:Int):Ky)=.inl (m:Int)
   ·rw[if_pos e]
    injection e with e
    have:x=m:=by lia
    rw[this]
   ·rw[if_neg e]
    simp at hm
    rcases hm with hm | hm
    ·exact H2 m hm
    ·exact absurd (by rw[hm]) e)
 have H:HF inner hk hv (fun m=>(m:Int)):=⟨H0,by lia,H2⟩
 obtain⟨σ2,l2',hk',hv',o5',o6',o7',o8',o9',f,rfl,H',t,pr⟩:=cH (f:=ah cl [4] gY) (tg:=[5]) (xs:=inner) (σ:=rst n h l inner hk hv o5 none none none none)
  (fun p σ=>∃ (hk:List Ky) (hv:List D) (o5 o6 o7 o8 o9:Option D) (f:Nat->Int),σ=rst n h l inner hk hv o5 o6 o7 o8 o9/\HF inner hk hv f/\Tog n h l inner f/\∀ m∈p,f (at' l m)=f m/\∀ j,at' h (n+m)=n+j->f j=f m) ⟨hk,hv,o5,none,none,none,none,_,rfl,H,fun x _ y _ e=>by
   have e:(x:Int)=(y:Int):=e
   have:x=y:=by lia
   subst this
   exact .refl,by simp⟩ (by
   rintro p x q σ hx ⟨hk',hv',o5',o6',o7',o8',o9',f,rfl,H',t,pr⟩
   have hm:x∈inner:=by rw[hx];simp
   have hsub:∀ m∈p,m∈inner:=fun m hm=>by rw[hx];simp[hm]
   have hlt:∀ m∈inner,m<n:=fun m hm=>((hin m).mp hm).1
   have xn:=hlt x hm
   obtain⟨ln,lp,lc⟩:=rS F G xn ((hin x).mp hm).2
   obtain⟨j,jn',hjj,jp,jc⟩:=oZ F G xn ((hin x).mp hm).2
   have li:=(hin _).mpr ⟨ln,lp⟩
   have ji:=(hin _).mpr ⟨jn',jp⟩
   obtain⟨hk2,hv2,o72,H2,e2⟩:=qB (cl:=cl) (n:=n) (h:=h) (l:=l) H' (some (.int (x:Nat))) (some (.int (at' l x:Nat))) o7' (f x) (f (at' l x))
   have t2:=t.merge F G hlt hm li lc
   have H2:HF inner hk2 hv2 (mg f x (at' l x)):=H2
   obtain⟨hk3,hv3,o73,H3,e3⟩:=qB (cl:=cl) (n:=n) (h:=h) (l:=l) H2 (some (.int (x:Nat))) (some (.int (j:Nat))) o72 (mg f x (at' l x) x) (mg f x (at' l x) j)
   have H3:HF inner hk3 hv3 (mg (mg f x (at' l x)) x j):=H3
   have t3:=t2.merge F G hlt hm ji jc
   have s1:ah cl [4] e8 (rst n h l inner hk' hv' (some (.int (x:Nat))) (some (.int (at' l x:Nat))) o7' o8' o9')=some (.nx,rst n h l inner hk2 hv2 (some (.int (x:Nat))) (some (.int (at' l x:Nat))) o72 (some (.int (f x))) (some (.int (f (at' l x))))) :=
    mm (jm (aa rfl) (aa rfl) (kB (H'.2.2 x hm))) (jm (aa rfl) (aa rfl) (kB (H'.2.2 _ li))) rfl (cz (dC (aa rfl) rfl) e2 aG)
   have s2:ah cl [4] e8 (rst n h l inner hk2 hv2 (some (.int (x:Nat))) (some (.int (j:Nat))) o72 (some (.int (f x))) (some (.int (f (at' l x)))))=some (.nx,rst n h l inner hk3 hv3 (some (.int (x:Nat))) (some (.int (j:Nat))) o73 (some (.int (mg f x (at' l x) x))) (some (.int (mg f x (at' l x) j)))) :=
    mm (jm (aa rfl) (aa rfl) (kB (H2.2.2 x hm))) (jm (aa rfl) (aa rfl) (kB (H2.2.2 _ ji))) rfl (cz (dC (aa rfl) rfl) e3 aG)
   have i1:=eD (f:=l) (x:=x) (by rw[G.len];lia)
   have i2:=eD (f:=h) (x:=n+x) (by rw[F.len];lia)
   rw[hjj]at i2
   refine⟨rst n h l inner hk3 hv3 (some (.int (x:Nat))) (some (.int (j:Nat))) o73 (some (.int (mg f x (at' l x) x))) (some (.int (mg f x (at' l x) j))),cz (cl:=cl) (M:=[4]) (σ:=rst n h l inner hk' hv' (some (.int (x:Nat))) o6' o7' o8' o9') (dC (x:=.tup [.int (at' l x:Nat),.int (j:Nat)]) (gU (aB (bp (aa rfl) (aa rfl) i1) (aB (aj (bp (aa rfl) (aj (aa rfl) (aa rfl) (by rw[aW];rfl)) i2) (aa rfl) (by rw[br];congr 2;lia)) b9))) rfl) ?_ aG,_,_,_,_,_,_,_,_,rfl,H3,t3,fun m hm'=>?_⟩
   ·exact sN rfl rfl s1 (sN rfl rfl s2 Du)
   ·rcases List.mem_append.mp hm' with hp | hp
    ·obtain⟨q1,q2⟩:=pr m hp
     exact⟨mO (mO q1),fun j' hj'=>mO (mO (q2 j' hj'))⟩
    ·have:m=x:=by simpa using hp
     subst this
     refine⟨mO zK,fun j' hj'=>?_⟩
     have:j'=j:=by lia
     subst this
     exact zK)
 obtain⟨S,R,hS⟩:=yx F G hin t (fun m hm=>(pr m hm).1) (fun m hm=>(pr m hm).2)
 refine⟨S,R,?_⟩
 have mc:=tM (cl:=cl) (σ:=rst n h l inner hk' hv' o5' o6' o7' o8' o9') (e:=.ixD (.var 4) (.var 5)) (i:=5) (g:=fun m=>.int (f m)) (fun _=>rfl) inner (fun x hx=>jm (aa rfl) (aa rfl) (kB (H'.2.2 x hx)))
 have ls:biV .lenSet (.lst (inner.map fun m=>.int (f m)))=some (.int (S.length:Nat)):=by
  dsimp only[biV]
  rw[if_pos (by simp;lia),ints_map,<-hS]
  rfl
 exact aC rfl rfl (a7 (aj (bo (aa rfl) e6) af (yM n)) rfl (gC (d:=.dK [] []) (by rw[ev]) rfl (cz (dC (aa rfl) rfl) l1 (cz (dC (aa rfl) rfl) l2' (a9 (bo (dE (dC (aa rfl) rfl) (by rw[aL];unfold most;lia) mc) ls) rfl)))))
end
structure Hg(T:List Fn)(cf po rn mk rg jb pu c2 hu:Nat):Prop where
 DT:T[rn]?=some pL
 GF:T[mk]?=some qH
 ya:T[rg]?=some (ju mk rn)
 GG:T[jb]?=some dY
 GN:T[pu]?=some (hX rg rn jb po)
 Gd:T[c2]?=some (fL cf)
 xW:T[hu]?=some (wj pu c2)
section
variable{T:List Fn}{nu pc pa nb un if' cf po rp ir mv rn mk rg jb pu c2 hu:Nat}
theorem Hg.under(H:Hg T cf po rn mk rg jb pu c2 hu)(C:Ck T nu pc pa nb un if' cf po rp ir mv)(n:Nat){k:Nat}{f g:List Nat}(h1:1<=k)(hk:k<=10)(F:Frm k f)(G:Frm k g) :
  ∃ S:List Nat,kQ (4*k) (jn k) (rb k f g) S/\aq T (n+3) pu [.tup (L f),.tup (L g)]=some (.tup [.tup (L (az k f g)),.int (S.length:Nat)]):=by
 have T2:=two F G
 have hj:∀ x:Nat,x<4*k->ixV (.lst (L (jL k))) (.int (x:Nat))=some (.int (jn k x:Nat)):=fun x hx=>by rw[vH (by rw[w6];exact hx),Fy hx]
 have hb:∀ x:Nat,x<4*k->ixV (.lst (L (rbL k f g))) (.int (x:Nat))=some (.int (rb k f g x:Nat)):=fun x hx=>by rw[vH (by rw[sL F G];exact hx),CT F G hx]
 have r1:∀ (n x:Nat),x<4*k->∃ i,i<4*k/\Stp (jn k) (rb k f g) x i/\(∀ j,j<i->¬ Stp (jn k) (rb k f g) x j)/\aq T (n+1) rn [.lst (L (jL k)),.lst (L (rbL k f g)),.int (x:Nat)]=some (.lst (L (wks (jn k) (rb k f g) x i))):=fun n x hx=>by
  obtain⟨i,a1,a2,a3,a4⟩:=t9 (cl:=aq T n) T2 (by lia) hj hb hx
  exact⟨i,a1,a2,a3,(ao H.DT).trans a4⟩
 have r2:∀ (n x:Nat),x<4*k->∃ i,i<4*k/\Stp (rb k f g) (jn k) x i/\(∀ j,j<i->¬ Stp (rb k f g) (jn k) x j)/\aq T (n+1) rn [.lst (L (rbL k f g)),.lst (L (jL k)),.int (x:Nat)]=some (.lst (L (wks (rb k f g) (jn k) x i))):=fun n x hx=>by
  obtain⟨i,a1,a2,a3,a4⟩:=t9 (cl:=aq T n) T2.swap (by lia) hb hj hx
  exact⟨i,a1,a2,a3,(ao H.DT).trans a4⟩
 obtain⟨S,R,e⟩:=rD (cl:=aq T (n+1)) (fm:=mk) (fr:=rn) T2 (by lia) (A:=.lst (L (jL k))) (B:=.lst (L (rbL k f g))) (by
  show some (D.int ((L (jL k)).length:Nat))=_
  rw[aL,w6]) hj hb (r1 n) (r2 n) (fun s P ps hs hp=>by
  obtain⟨s',b1,b2⟩:=yj (cl:=aq T n) hs hp
  exact⟨s',b1,(ao H.GF).trans b2⟩)
 exact⟨S,R,(ao H.GN).trans (pB h1 hk F G (C.half (n+1) F.len) ((ao H.GG).trans (u6 hk)) (r1 (n+1)) ((ao H.ya).trans e))⟩
theorem Hg.lP(H:Hg T cf po rn mk rg jb pu c2 hu)(C:Ck T nu pc pa nb un if' cf po rp ir mv)(n:Nat){k:Nat}{f g:List Nat}(h1:1<=k)(hk:k<=10)(V:Val k f)(W:Val k g) :
  ∃ S:List Nat,kQ (4*k) (jn k) (rb k f g) S/\aq T (n+7) hu [.tup (L f),.tup (L g)]=some (.tup [.tup (L (az k f g)),.int (S.length:Nat)]):=by
 obtain⟨S,R,e⟩:=H.under C (n+3) h1 hk V.frm W.frm
 refine⟨S,R,(ao H.xW).trans ?_⟩
 have ck2:aq T (n+6) c2 [.tup (L f),.tup (L g)]=some .non:=by
  refine(ao H.Gd).trans (pV rfl rfl (gx (bj (aa rfl) (C.check n h1 hk V)) (gx (bj (aa rfl) (C.check n h1 hk W)) (bf (aE (a5 (bo (aa rfl) (half (n:=k) (by rw[aL,V.frm.len]))) (bo (aa rfl) (half (n:=k) (by rw[aL,W.frm.len]))) (by rw[CF];simp))) aG))))
 exact aC rfl rfl (gx (bQ (aa rfl) (aa rfl) ck2) (a9 (bQ (aa rfl) (aa rfl) e) (by simp[aV,D.imm,au,aY])))
end
section
variable{T:List Fn}{mx rw dg pl hk ci ft tx rg hu ov fr:Nat}
theorem Dr.lP(D0:Dr T mx rw dg pl hk ci ft tx rg hu ov fr)(n:Nat){k:Nat}{f g:List Nat}(h1:1<=k)(hk':k<=10)(F:Frm k f)(G:Frm k g) :
  ∃ S:List Nat,kQ (4*k) (jn k) (rb k f g) S/\aq T (n+2) hu [.tup (L f),.tup (L g)]=some (.tup [.tup (L (az k f g)),.int (S.length:Nat)]):=by
 obtain⟨inner,i1,i2,i3⟩:=yn (cl:=aq T (n+1)) (fr:=rg) h1 hk' F.len G.len F.lt G.lt
 obtain⟨S,R,e⟩:=uO (cl:=aq T n) h1 hk' F G i2 (fun m=>by
  rw[i1 m]
  exact⟨fun⟨a,b⟩=>⟨a,fun z=>b ((qC F G a).mpr z)⟩,fun⟨a,b⟩=>⟨a,fun z=>b ((qC F G a).mp z)⟩⟩)
 exact⟨S,R,(ao D0.xW).trans (i3 _ ((ao D0.ya).trans e))⟩
end
section
variable{n:Nat}{f:List Nat}
end
theorem r0{xs:List Nat}{b:Nat->Nat}(nd:xs.Nodup)(cl:∀ x∈xs,b x∈xs)(bi:∀ x∈xs,b (b x)=x)(no:∀ x∈xs,b x≠x):xs.length%2=0:=by
 have h1:(xs.filter fun x=>decide (x<b x)).length<=(xs.filter fun x=>decide (b x<x)).length:=by
  have:(xs.filter fun x=>decide (x<b x)).length=((xs.filter fun x=>decide (x<b x)).map b).length:=by simp
  rw[this]
  refine cT ?_ fun y hy=>?_
  ·rw[List.nodup_iff_pairwise_ne,List.pairwise_map]
   refine List.Pairwise.imp_of_mem ?_ (List.nodup_iff_pairwise_ne.mp (nd.filter _))
   intro x y hx hy hne e
   rw[List.mem_filter]at hx hy
   exact hne (by rw[<-bi x hx.1,e,bi y hy.1])
  ·obtain⟨x,hx,rfl⟩:=List.mem_map.mp hy
   rw[List.mem_filter,decide_eq_true_eq]at hx ⊢
   exact⟨cl x hx.1,by rw[bi x hx.1];exact hx.2⟩
 have h2:(xs.filter fun x=>decide (b x<x)).length<=(xs.filter fun x=>decide (x<b x)).length:=by
  have:(xs.filter fun x=>decide (b x<x)).length=((xs.filter fun x=>decide (b x<x)).map b).length:=by simp
  rw[this]
  refine cT ?_ fun y hy=>?_
  ·rw[List.nodup_iff_pairwise_ne,List.pairwise_map]
   refine List.Pairwise.imp_of_mem ?_ (List.nodup_iff_pairwise_ne.mp (nd.filter _))
   intro x y hx hy hne e
   rw[List.mem_filter]at hx hy
   exact hne (by rw[<-bi x hx.1,e,bi y hy.1])
  ·obtain⟨x,hx,rfl⟩:=List.mem_map.mp hy
   rw[List.mem_filter,decide_eq_true_eq]at hx ⊢
   exact⟨cl x hx.1,by rw[bi x hx.1];exact hx.2⟩
 have h3:∀ ys:List Nat,(∀ x∈ys,b x≠x)->ys.length=(ys.filter fun x=>decide (x<b x)).length+(ys.filter fun x=>decide (b x<x)).length:=by
  intro ys
  induction ys with
  | nil=>intro _;rfl
  |cons y ys ih=>
   intro h
   have i:=ih fun x hx=>h x (List.mem_cons_of_mem _ hx)
   have hy:=h y List.mem_cons_self
   rw[List.filter_cons,List.filter_cons]
   by_cases c:y<b y
   ·rw[if_pos (decide_eq_true c),if_neg (by rw[decide_eq_true_eq];lia)]
    simp only[List.length_cons]
    lia
   ·rw[if_neg (by rw[decide_eq_true_eq];exact c),if_pos (decide_eq_true (by lia))]
    simp only[List.length_cons]
    lia
 have:=h3 xs no
 lia
section
variable{n:Nat}{h l:List Nat}
noncomputable def rp(n x:Nat):Nat:=if x<2*n then rd n x else 2*n+rd n (x-2*n)
noncomputable def phi(n:Nat)(Q:List Nat)(x:Nat):Nat:=(Q.filter fun y=>decide (y<2*n↔x<2*n)&&decide (rp n y<rp n x)).length
theorem fK(Q:List Nat)(P R:Nat->Bool):(Q.filter P).length=(Q.filter fun y=>P y&&R y).length+(Q.filter fun y=>P y && !R y).length:=by
 induction Q with
 | nil=>rfl
 |cons y Q ih=>
  rw[List.filter_cons,List.filter_cons,List.filter_cons]
  cases P y<;>cases R y<;>simp[ih]<;>lia
theorem bM{Q:List Nat}{P R:Nat->Bool}(e:∀ y∈Q,P y=R y):(Q.filter P).length=(Q.filter R).length:=by rw[List.filter_congr e]
theorem mQ{x y:Nat}(hx:x<4*n)(hy:y<4*n)(e:rp n x=rp n y):x=y:=by
 unfold rp at e
 have:∀ q,q<2*n->rd n q<2*n:=fun q hq=>bg hq
 split at e<;>split at e
 ·exact iG (by lia) (by lia) e
 ·have:=this x (by lia);lia
 ·have:=this y (by lia);lia
 ·have:=iG (n:=n) (p:=x-2*n) (q:=y-2*n) (by omega) (by omega) (by lia)
  omega
theorem wF(V:Val n h)(W:Val n l){x y:Nat}(hx:x<4*n)(hy:y<4*n):¬ (rp n x<rp n y/\rp n y<rp n (rb n h l x)/\rp n (rb n h l x)<rp n (rb n h l y)):=by
 have F:=V.frm
 have G:=W.frm
 have T:=two F G
 rintro⟨h1,h2,h3⟩
 have r2:∀ q,q<2*n->rd n q<2*n:=fun q hq=>bg hq
 by_cases cx:x<2*n
 ·have ex:rb n h l x=at' h x:=by unfold rb;rw[if_pos cx]
  have lx:=F.lt x cx
  by_cases cy:y<2*n
  ·have ey:rb n h l y=at' h y:=by unfold rb;rw[if_pos cy]
   have ly:=F.lt y cy
   rw[ex]at h2 h3
   rw[ey]at h3
   unfold rp at h1 h2 h3
   rw[if_pos cx,if_pos cy]at h1
   rw[if_pos cy,if_pos lx]at h2
   rw[if_pos lx,if_pos ly]at h3
   refine V.nox (rd n x) (rd n y) (bg cx) (bg cy) ?_
   unfold rnd
   rw[bS cx,bS cy]
   exact⟨h1,h2,h3⟩
  ·rw[ex]at h2
   unfold rp at h2
   rw[if_neg cy,if_pos lx]at h2
   have:=r2 _ lx
   lia
 ·have ex:rb n h l x=2*n+at' l (x-2*n):=by unfold rb;rw[if_neg cx]
  have lx:=G.lt (x-2*n) (by omega)
  by_cases cy:y<2*n
  ·unfold rp at h1
   rw[if_neg cx,if_pos cy]at h1
   have:=r2 _ cy
   lia
  ·have ey:rb n h l y=2*n+at' l (y-2*n):=by unfold rb;rw[if_neg cy]
   have ly:=G.lt (y-2*n) (by omega)
   rw[ex]at h2 h3
   rw[ey]at h3
   unfold rp at h1 h2 h3
   rw[if_neg cx,if_neg cy]at h1
   rw[if_neg cy,if_neg (by lia),Nat.add_sub_cancel_left]at h2
   rw[if_neg (by lia),if_neg (by lia),Nat.add_sub_cancel_left,Nat.add_sub_cancel_left]at h3
   refine W.nox (rd n (x-2*n)) (rd n (y-2*n)) (bg (by omega)) (bg (by omega)) ?_
   unfold rnd
   rw[bS (by omega),bS (by omega)]
   exact⟨by lia,by lia,by lia⟩
structure Cls(n:Nat)(h l Q:List Nat):Prop where
 nd:Q.Nodup
 lt:∀ y∈Q,y<4*n
 b:∀ y∈Q,rb n h l y∈Q
 a:∀ y∈Q,jn n y∈Q
theorem nH(F:Frm n h)(G:Frm n l){x:Nat}(hx:x<4*n):rb n h l x<2*n↔x<2*n:=by
 unfold rb
 split
 ·rename_i c
  have:=F.lt x c
  lia
 ·lia
theorem EW(V:Val n h)(W:Val n l){Q:List Nat}(C:Cls n h l Q){x:Nat}(hx:x<4*n)(hq:x∉Q):phi n Q (rb n h l x)%2=phi n Q x%2:=by
 have F:=V.frm
 have G:=W.frm
 have T:=two F G
 have key:∀ x,x<4*n->x∉Q->rp n x<rp n (rb n h l x)->phi n Q (rb n h l x)%2=phi n Q x%2:=by
  intro x hx hq lt
  have bl:=T.bl x hx
  have bq:rb n h l x∉Q:=fun z=>hq (by have:=C.b _ z;rw[T.bi x hx]at this;exact this)
  have sd:=nH F G (h:=h) (l:=l) hx
  have e:phi n Q (rb n h l x)=phi n Q x+(Q.filter fun y=>decide (y<2*n↔x<2*n)&&(decide (rp n x<rp n y)&&decide (rp n y<rp n (rb n h l x)))).length:=by
   unfold phi
   rw[fK Q (fun y=>decide (y<2*n↔rb n h l x<2*n)&&decide (rp n y<rp n (rb n h l x))) (fun y=>decide (rp n y<rp n x))]
   congr 1
   ·refine bM fun y hy=>?_
    rw[Bool.eq_iff_iff]
    simp only[Bool.and_eq_true,decide_eq_true_eq]
    rw[sd]
    lia
   ·refine bM fun y hy=>?_
    have ne:rp n y≠rp n x:=fun e=>hq (mQ (C.lt y hy) hx e▸hy)
    rw[Bool.eq_iff_iff]
    simp only[Bool.and_eq_true,decide_eq_true_eq,Bool.not_eq_true',decide_eq_false_iff_not]
    rw[sd]
    lia
  have ev:=r0 (b:=rb n h l) (xs:=Q.filter fun y=>decide (y<2*n↔x<2*n)&&(decide (rp n x<rp n y)&&decide (rp n y<rp n (rb n h l x)))) (C.nd.filter _) (fun y hy=>by
   simp only[List.mem_filter,Bool.and_eq_true,decide_eq_true_eq]at hy ⊢
   obtain⟨y1,y2,y3,y4⟩:=hy
   have ly:=C.lt y y1
   have lb:=T.bl y ly
   refine⟨C.b y y1,by rw[nH F G ly];exact y2,?_⟩
   have n1:=wF V W hx ly
   have n2:=wF V W lb hx
   rw[T.bi y ly]at n2
   have ne1:rp n (rb n h l y)≠rp n x:=fun e=>hq (mQ lb hx e▸C.b y y1)
   have ne2:rp n (rb n h l y)≠rp n (rb n h l x):=fun e=>bq (mQ lb bl e▸C.b y y1)
   lia) (fun y hy=>by
   simp only[List.mem_filter]at hy
   exact T.bi y (C.lt y hy.1)) (fun y hy=>by
   simp only[List.mem_filter]at hy
   exact dP F G (C.lt y hy.1))
  lia
 by_cases c:rp n x<rp n (rb n h l x)
 ·exact key x hx hq c
 ·have bl:=T.bl x hx
  have bq:rb n h l x∉Q:=fun z=>hq (by have:=C.b _ z;rw[T.bi x hx]at this;exact this)
  have ne:rp n (rb n h l x)≠rp n x:=fun e=>dP F G hx (mQ bl hx e)
  have:=key (rb n h l x) bl bq (by rw[T.bi x hx];lia)
  rw[T.bi x hx]at this
  exact this.symm
theorem tP(F:Frm n h)(G:Frm n l){Q:List Nat}(C:Cls n h l Q):(Q.filter fun y=>decide (y<2*n)).length%2=0:=by
 have T:=two F G
 refine r0 (b:=rb n h l) (C.nd.filter _) (fun y hy=>?_) (fun y hy=>?_) (fun y hy=>?_)
 ·simp only[List.mem_filter,decide_eq_true_eq]at hy ⊢
  exact⟨C.b y hy.1,(nH F G (C.lt y hy.1)).mpr hy.2⟩
 ·simp only[List.mem_filter]at hy
  exact T.bi y (C.lt y hy.1)
 ·simp only[List.mem_filter]at hy
  exact dP F G (C.lt y hy.1)
set_option synthInstance.maxSize 10000 in
set_option synthInstance.maxHeartbeats 0 in
theorem iL:∀ n,n<11->∀ m,m<n->∀ y,y<4*n->(decide (y<2*n↔2*n+m<2*n)&&decide (rp n y<rp n (2*n+m)))=decide (2*n<=y/\y<2*n+m) /\
  (y≠n+m->(decide (y<2*n) && !decide (rp n y<rp n (n+m)))=decide (n<=y/\y<n+m))/\(decide (y<2*n↔n+m<2*n)&&decide (rp n y<rp n (n+m)))=(decide (y<2*n)&&decide (rp n y<rp n (n+m))) /\
  (2*n<=y->y<2*n+m->n<=jn n y/\jn n y<n+m)/\(n<=y->y<n+m->2*n<=jn n y/\jn n y<2*n+m):=by decide +kernel
theorem sM(hn:n<11)(F:Frm n h)(G:Frm n l){Q:List Nat}(C:Cls n h l Q){m:Nat}(hm:m<n)(hq:n+m∉Q):phi n Q (2*n+m)%2=phi n Q (n+m)%2:=by
 have T:=two F G
 have swap:(Q.filter fun y=>decide (2*n<=y/\y<2*n+m)).length=(Q.filter fun y=>decide (n<=y/\y<n+m)).length:=by
  have go:∀ (P R:Nat->Bool),(∀ y,y<4*n->P y=true->R (jn n y)=true)->(Q.filter P).length<=(Q.filter R).length:=fun P R hPR=>by
   have:(Q.filter P).length=((Q.filter P).map (jn n)).length:=by simp
   rw[this]
   refine cT ?_ fun y hy=>?_
   ·rw[List.nodup_iff_pairwise_ne,List.pairwise_map]
    refine List.Pairwise.imp_of_mem ?_ (List.nodup_iff_pairwise_ne.mp (C.nd.filter _))
    intro x y hx hy hne e
    rw[List.mem_filter]at hx hy
    exact hne (by rw[<-T.ai x (C.lt x hx.1),e,T.ai y (C.lt y hy.1)])
   ·obtain⟨x,hx,rfl⟩:=List.mem_map.mp hy
    rw[List.mem_filter]at hx ⊢
    exact⟨C.a x hx.1,hPR x (C.lt x hx.1) hx.2⟩
  refine Nat.le_antisymm (go _ _ fun y hy e=>?_) (go _ _ fun y hy e=>?_)
  ·rw[decide_eq_true_eq]at e ⊢
   exact(iL n hn m hm y hy).2.2.2.1 e.1 e.2
  ·rw[decide_eq_true_eq]at e ⊢
   exact(iL n hn m hm y hy).2.2.2.2 e.1 e.2
 have e1:phi n Q (2*n+m)=(Q.filter fun y=>decide (2*n<=y/\y<2*n+m)).length:=bM fun y hy=>(iL n hn m hm y (C.lt y hy)).1
 have e2:phi n Q (n+m)+(Q.filter fun y=>decide (n<=y/\y<n+m)).length=(Q.filter fun y=>decide (y<2*n)).length:=by
  rw[fK Q (fun y=>decide (y<2*n)) (fun y=>decide (rp n y<rp n (n+m)))]
  congr 1
  ·exact bM fun y hy=>(iL n hn m hm y (C.lt y hy)).2.2.1
  ·exact(bM fun y hy=>(iL n hn m hm y (C.lt y hy)).2.1 fun e=>hq (e▸hy)).symm
 have e3:=tP F G C
 lia
theorem Cu(hn:n<11)(V:Val n h)(W:Val n l){Q:List Nat}(C:Cls n h l Q){x z:Nat}(hx:x<4*n)(hq:x∉Q)(c:Cn (jn n) (rb n h l) x z):z∉Q/\phi n Q z%2=phi n Q x%2:=by
 have F:=V.frm
 have G:=W.frm
 have T:=two F G
 induction c with
 | refl=>exact⟨hq,rfl⟩
 |@sa y hy ih=>
  obtain⟨i1,i2⟩:=ih
  have ly:=hy.lt T hx
  have nq:jn n y∉Q:=fun z=>i1 (by have:=C.a _ z;rw[T.ai y ly]at this;exact this)
  refine⟨nq,?_⟩
  rw[<-i2]
  by_cases c1:y<n
  ·have:jn n y=y:=by unfold jn;rw[if_pos c1]
   rw[this]
  ·by_cases c2:y<2*n
   ·have e:y=n+(y-n):=by lia
    have:jn n y=2*n+(y-n):=by rw[e,lI (by lia)];lia
    rw[this]
    have:=sM hn F G C (m:=y-n) (by lia) (by rw[<-e];exact i1)
    rw[<-e]at this
    exact this
   ·by_cases c3:y<3*n
    ·have e:y=2*n+(y-2*n):=by lia
     have ej:jn n y=n+(y-2*n):=by rw[e,qJ (by lia)];lia
     have:=sM hn F G C (m:=y-2*n) (by lia) (by rw[<-ej];exact nq)
     rw[<-e,<-ej]at this
     exact this.symm
    ·have:jn n y=y:=by unfold jn;rw[if_neg c1,if_neg c2,if_neg c3]
     rw[this]
 |@sb y hy ih=>
  obtain⟨i1,i2⟩:=ih
  have ly:=hy.lt T hx
  exact⟨fun z=>i1 (by have:=C.b _ z;rw[T.bi y ly]at this;exact this),by rw[EW V W C ly i1,i2]⟩
end
section
variable{n:Nat}{h l:List Nat}
theorem Bm{Q:List Nat}(nd:Q.Nodup){P:Nat->Bool}{u v:Nat}(hu:u∈Q)(hv:v∈Q)(ne:u≠v)(only:∀ y∈Q,P y=true->y=u\/y=v):(Q.filter P).length=([u,v].filter P).length:=by
 have nz:[u,v].Nodup:=by simp[ne]
 refine Nat.le_antisymm (cT (nd.filter _) fun y hy=>?_) (cT (nz.filter _) fun y hy=>?_)
 ·rw[List.mem_filter]at hy ⊢
  exact⟨by rcases only y hy.1 hy.2 with e | e<;>simp[e],hy.2⟩
 ·rw[List.mem_filter]at hy ⊢
  refine⟨?_,hy.2⟩
  have:=hy.1
  simp only[List.mem_cons,List.not_mem_nil,or_false]at this
  rcases this with rfl | rfl<;>assumption
noncomputable def psi(n p y:Nat):Bool:=(decide (y<n)&&decide (y<rd n p)) || (decide (3*n<=y)&&decide (rd n (y-2*n)<rd n p))
set_option synthInstance.maxSize 10000 in
set_option synthInstance.maxHeartbeats 0 in
theorem tJ:∀ n,n<11->∀ p,p<2*n->∀ y,y<4*n->(p<n->(decide (y<2*n↔p<2*n)&&decide (rp n y<rp n p))=psi n p y) /\
  (¬ p<n->(decide (y<2*n↔p+2*n<2*n)&&decide (rp n y<rp n (p+2*n))&&decide (y<3*n))=decide (2*n<=y/\y<3*n) /\
   (decide (y<2*n↔p+2*n<2*n)&&decide (rp n y<rp n (p+2*n)) && !decide (y<3*n))=(decide (3*n<=y)&&decide (rd n (y-2*n)<rd n p)) /\
   (psi n p y&&decide (y<n))=decide (y<n)/\(psi n p y && !decide (y<n))=(decide (3*n<=y)&&decide (rd n (y-2*n)<rd n p))) /\
  (decide (y<2*n)&&decide (y<n))=decide (y<n)/\(decide (y<2*n) && !decide (y<n))=decide (n<=y/\y<2*n) /\
  (2*n<=y->y<3*n->n<=jn n y/\jn n y<2*n)/\(n<=y->y<2*n->2*n<=jn n y/\jn n y<3*n)/\(psi n p y=true->jn n y=y):=by decide +kernel
theorem tK(hn:n<11)(F:Frm n h)(G:Frm n l){Q:List Nat}(C:Cls n h l Q){p:Nat}(hp:p<2*n):phi n Q (out n p)%2=(Q.filter (psi n p)).length%2:=by
 have T:=two F G
 have fin:=fun y (hy:y∈Q)=>tJ n hn p hp y (C.lt y hy)
 by_cases c:p<n
 ·have eo:out n p=p:=by unfold out;rw[if_pos c]
  rw[eo]
  congr 1
  exact bM fun y hy=>(fin y hy).1 c
 ·have eo:out n p=p+2*n:=by unfold out;rw[if_neg c]
  rw[eo]
  have go:∀ (P R:Nat->Bool),(∀ y,y∈Q->P y=true->R (jn n y)=true)->(Q.filter P).length<=(Q.filter R).length:=fun P R hPR=>by
   have:(Q.filter P).length=((Q.filter P).map (jn n)).length:=by simp
   rw[this]
   refine cT ?_ fun y hy=>?_
   ·rw[List.nodup_iff_pairwise_ne,List.pairwise_map]
    refine List.Pairwise.imp_of_mem ?_ (List.nodup_iff_pairwise_ne.mp (C.nd.filter _))
    intro x y hx hy hne e
    rw[List.mem_filter]at hx hy
    exact hne (by rw[<-T.ai x (C.lt x hx.1),e,T.ai y (C.lt y hy.1)])
   ·obtain⟨x,hx,rfl⟩:=List.mem_map.mp hy
    rw[List.mem_filter]at hx ⊢
    exact⟨C.a x hx.1,hPR x hx.1 hx.2⟩
  have swap:(Q.filter fun y=>decide (2*n<=y/\y<3*n)).length=(Q.filter fun y=>decide (n<=y/\y<2*n)).length:=by
   refine Nat.le_antisymm (go _ _ fun y hy e=>?_) (go _ _ fun y hy e=>?_)
   ·rw[decide_eq_true_eq]at e ⊢
    exact(fin y hy).2.2.2.2.1 e.1 e.2
   ·rw[decide_eq_true_eq]at e ⊢
    exact(fin y hy).2.2.2.2.2.1 e.1 e.2
  have e1:phi n Q (p+2*n)=(Q.filter fun y=>decide (2*n<=y/\y<3*n)).length+(Q.filter fun y=>decide (3*n<=y)&&decide (rd n (y-2*n)<rd n p)).length:=by
   unfold phi
   rw[fK Q (fun y=>decide (y<2*n↔p+2*n<2*n)&&decide (rp n y<rp n (p+2*n))) (fun y=>decide (y<3*n)),bM fun y hy=>((fin y hy).2.1 c).1,bM fun y hy=>((fin y hy).2.1 c).2.1]
  have e2:(Q.filter (psi n p)).length=(Q.filter fun y=>decide (y<n)).length+(Q.filter fun y=>decide (3*n<=y)&&decide (rd n (y-2*n)<rd n p)).length:=by
   rw[fK Q (psi n p) (fun y=>decide (y<n)),bM fun y hy=>((fin y hy).2.1 c).2.2.1,bM fun y hy=>((fin y hy).2.1 c).2.2.2]
  have e3:(Q.filter fun y=>decide (y<2*n)).length=(Q.filter fun y=>decide (y<n)).length+(Q.filter fun y=>decide (n<=y/\y<2*n)).length:=by
   rw[fK Q (fun y=>decide (y<2*n)) (fun y=>decide (y<n)),bM fun y hy=>(fin y hy).2.2.1,bM fun y hy=>(fin y hy).2.2.2.1]
  have e4:=tP F G C
  rw[e1,e2,swap]
  rw[e3]at e4
  clear e1 e2 e3 swap go fin
  lia
theorem CO(F:Frm n h)(G:Frm n l){s:Nat}(hs:s<2*n):∃ Q,Cls n h l Q/\∀ y,y∈Q↔Cn (jn n) (rb n h l) (out n s) y:=by
 have T:=two F G
 obtain⟨k,hk,st,hn⟩:=eR T (bb hs)
 have mem:∀ y,y∈wks (jn n) (rb n h l) (out n s) k↔Cn (jn n) (rb n h l) (out n s) y:=fun y=>by
  rw[oD]
  exact⟨fun⟨i,_,e⟩=>e▸j5 i,fun c=>k7 T (bb hs) st hn (.inl (dN hs)) c⟩
 refine⟨_,⟨?_,fun y hy=>((mem y).mp hy).lt T (bb hs),fun y hy=>(mem _).mpr (.sb ((mem y).mp hy)),fun y hy=>(mem _).mpr (.sa ((mem y).mp hy))⟩,mem⟩
 unfold wks
 rw[List.nodup_iff_pairwise_ne,List.pairwise_map]
 refine List.Pairwise.imp_of_mem ?_ (List.pairwise_lt_range (n:=k+1))
 intro i j hi hj hlt
 exact kX T (bb hs) hn hlt (by have:=List.mem_range.mp hj;lia)
theorem kM{p q:Nat}(hp:p<2*n)(hq:q<2*n):psi n p (out n q)=decide (rd n q<rd n p):=by
 rw[Bool.eq_iff_iff]
 unfold psi out
 simp only[Bool.and_eq_true,Bool.or_eq_true,decide_eq_true_eq]
 split
 ·rename_i c
  have:rd n q=q:=by unfold rd;rw[if_pos c]
  rw[this]
  lia
 ·rename_i c
  rw[show q+2*n-2*n=q by lia]
  lia
theorem jR(hn:n<=10)(V:Val n h)(W:Val n l):Val n (az n h l):=by
 have F:=V.frm
 have G:=W.frm
 have T:=two F G
 have FF:=d6 F G
 refine⟨FF,fun q q' hq hq' hc=>?_⟩
 obtain⟨c1,c2,c3⟩:=hc
 have p1:=bg hq
 have s1:=bg hq'
 unfold rnd at c2 c3
 have ep:rd n (rd n q)=q:=bS hq
 have es:rd n (rd n q')=q':=bS hq'
 generalize rd n q=p at *
 generalize rd n q'=s at *
 have lp:=FF.lt p p1
 have ls:=FF.lt s s1
 obtain⟨Q,C,mem⟩:=CO F G s1
 have su:out n s∈Q:=(mem _).mpr .refl
 have sv:out n (at' (az n h l) s)∈Q:=(mem _).mpr ((found_iff F G s1 ls (Ne.symm (FF.no s s1))).mp rfl)
 have suv:out n s≠out n (at' (az n h l) s):=fun e=>FF.no s s1 (nK e s1 ls).symm
 have only:∀ t,t<2*n->out n t∈Q->t=s\/t=at' (az n h l) s:=fun t ht hm=>by
  by_cases c:s=t
  ·exact .inl c.symm
  ·exact .inr ((found_iff F G s1 ht c).mpr ((mem _).mp hm)).symm
 have pq:out n p∉Q:=fun z=>by
  rcases only p p1 z with e | e
  ·subst e;lia
  ·subst e;lia
 have pc:=(found_iff F G p1 lp (Ne.symm (FF.no p p1))).mp rfl
 obtain⟨_,ph⟩:=Cu (by lia) V W C (bb p1) pq pc
 rw[tK (by lia) F G C lp,tK (by lia) F G C p1]at ph
 have cnt2:∀ t,t<2*n->(Q.filter (psi n t)).length=([out n s,out n (at' (az n h l) s)].filter (psi n t)).length:=fun t ht=>by
  refine Bm C.nd su sv suv fun y hy e=>?_
  have ly:=C.lt y hy
  have:jn n y=y:=(tJ n (by lia) t ht y ly).2.2.2.2.2.2 e
  obtain⟨u,hu,rfl⟩:=vg ly this
  rcases only u hu hy with e | e
  ·exact .inl (by rw[e])
  ·exact .inr (by rw[e])
 rw[cnt2 p p1,cnt2 _ lp,List.filter_cons,List.filter_cons,List.filter_cons,List.filter_cons,kM lp s1,kM lp ls,kM p1 s1,kM p1 ls]at ph
 rw[if_pos (by rw[decide_eq_true_eq];lia),if_neg (by rw[decide_eq_true_eq];lia),if_neg (by rw[decide_eq_true_eq];lia),if_neg (by rw[decide_eq_true_eq];lia)]at ph
 simp at ph
end
section
variable{T:List Fn}{mx rw dg pl hk ci ft tx rg hu ov fr:Nat}
theorem Dr.Dk(h:Dr T mx rw dg pl hk ci ft tx rg hu ov fr){ns:List Int}(hl:ns.length<=63)(n:Nat){k m:Nat}(hk':k<=1000)(h1:1<=m)(hm:m<=10):∃ f:List Nat,Val m f/\aq T (n+4) fr [.lst (LI ns),.int k,.int m]=some (.tup (L f)) :=
 h.CH hl n hk' h1 hm fun f V=>by
  have W:Val m (bu m f):=by rw[lY V.frm];exact(c7 m).val V
  obtain⟨S,_,e⟩:=h.lP (n+1) h1 hm V.frm W.frm
  exact⟨_,_,jR hm V W,e⟩
end
structure Fld(M:Nat)(a a' b:Nat->Nat)(N:Nat)(c f o:Nat->Nat):Prop where
 T:Two M a b
 T':Two M a' b
 T2:Two N c f
 ol:∀ p,p<N->o p<M
 oi:∀ p q,p<N->q<N->o p=o q->p=q
 fx:∀ x,x<M->a x=x->∃ p,p<N/\x=o p
 fo:∀ p,p<N->a (o p)=o p
 jo:∀ p,p<N->a' (o p)=o (c p)
 jj:∀ x,x<M->a x≠x->a' x=a x
 ff:∀ p q,p<N->q<N->p≠q->(f p=q↔Cn a b (o p) (o q))
 nb:∀ x,x<M->b x≠x
 nf:∀ p,p<N->f p≠p
section
variable{M N:Nat}{a a' b c f o:Nat->Nat}
theorem Fld.up(D:Fld M a a' b N c f o){x y:Nat}(hx:x<M)(h:Cn a b x y):Cn a' b x y:=by
 induction h with
 | refl=>exact .refl
 |@sa y hy ih=>
  by_cases e:a y=y
  ·rw[e];exact ih
  ·rw[<-D.jj y (hy.lt D.T hx) e];exact .sa ih
 | @sb y hy ih=>exact .sb ih
theorem Fld.to(D:Fld M a a' b N c f o){p q:Nat}(hp:p<N)(h:Cn c f p q):Cn a' b (o p) (o q):=by
 induction h with
 | refl=>exact .refl
 | @sa y hy ih=>rw[<-D.jo y (hy.lt D.T2 hp)];exact .sa ih
 |@sb y hy ih=>
  have ly:=hy.lt D.T2 hp
  exact ih.trans (D.up (D.ol y ly) ((D.ff y _ ly (D.T2.bl y ly) (Ne.symm (D.nf y ly))).mp rfl))
theorem Fld.one(D:Fld M a a' b N c f o){p q t:Nat}(hq:q<N)(ht:t<N)(h2:Cn c f p q)(h3:Cn a b (o q) (o t)):Cn c f p t:=by
 by_cases z:q=t
 ·rw[<-z];exact h2
 ·have:=(D.ff q t hq ht z).mpr h3
  rw[<-this];exact .sb h2
theorem Fld.back(D:Fld M a a' b N c f o){p y:Nat}(hp:p<N)(h:Cn a' b (o p) y):∃ q,q<N/\Cn c f p q/\Cn a b (o q) y:=by
 induction h with
 | refl=>exact⟨p,hp,.refl,.refl⟩
 |@sa y hy ih=>
  obtain⟨q,h1,h2,h3⟩:=ih
  have ly:=h3.lt D.T (D.ol q h1)
  by_cases e:a y=y
  ·obtain⟨t,ht,rfl⟩:=D.fx y ly e
   exact⟨c t,D.T2.al t ht,.sa (D.one h1 ht h2 h3),by rw[D.jo t ht];exact .refl⟩
  ·exact⟨q,h1,h2,by rw[D.jj y ly e];exact .sa h3⟩
 |@sb y hy ih=>
  obtain⟨q,h1,h2,h3⟩:=ih
  exact⟨q,h1,h2,.sb h3⟩
theorem Fld.iff(D:Fld M a a' b N c f o){p q:Nat}(hp:p<N)(hq:q<N):Cn c f p q↔Cn a' b (o p) (o q) :=
 ⟨D.to hp,fun h=>by
  obtain⟨t,h1,h2,h3⟩:=D.back hp h
  exact D.one h1 hq h2 h3⟩
end
section
variable{m m':Nat}{a b a' b':Nat->Nat}
theorem Cn.map{t:Nat->Nat}(T:Two m a b)(ha:∀ x,x<m->t (a x)=a' (t x))(hb:∀ x,x<m->t (b x)=b' (t x)){x y:Nat}(hx:x<m)(c:Cn a b x y):Cn a' b' (t x) (t y):=by
 induction c with
 | refl=>exact .refl
 | @sa y hy ih=>rw[ha y (hy.lt T hx)];exact .sa ih
 | @sb y hy ih=>rw[hb y (hy.lt T hx)];exact .sb ih
end
section
variable{n:Nat}{h l f:List Nat}
end
noncomputable def j3(n x:Nat):Nat:=if x<n then x else if x<2*n then x+n else if x<3*n then x-n else if x<4*n then x+n else if x<5*n then x-n else x
noncomputable def jB(n x:Nat):Nat:=if x<3*n then x else if x<4*n then x+n else if x<5*n then x-n else x
noncomputable def r3(n:Nat)(h m l:List Nat)(x:Nat):Nat:=if x<2*n then at' h x else 2*n+rb n m l (x-2*n)
noncomputable def oB(n p:Nat):Nat:=if p<3*n then p else p+2*n
section
variable{n:Nat}{h m l:List Nat}
theorem mH(F:Frm n h){x:Nat}(hx:x<4*n):r3 n h m l x=rb n h m x:=by
 unfold r3 rb
 by_cases c:x<2*n
 ·rw[if_pos c,if_pos c]
 ·rw[if_neg c,if_neg c,if_pos (by omega)]
theorem FN{x:Nat}(hx:4*n<=x):r3 n h m l x=4*n+at' l (x-4*n):=by
 unfold r3 rb
 rw[if_neg (by lia),if_neg (by lia),show x-2*n-2*n=x-4*n by lia]
 lia
theorem pJ{x:Nat}:r3 n h m l (2*n+x)=2*n+rb n m l x:=by
 unfold r3
 rw[if_neg (by lia),show 2*n+x-2*n=x by lia]
theorem k9(F:Frm n h)(G:Frm n m)(H:Frm n l){x:Nat}(hx:x<6*n):r3 n h m l x<6*n/\r3 n h m l (r3 n h m l x)=x/\r3 n h m l x≠x:=by
 by_cases c:x<2*n
 ·have e:r3 n h m l x=at' h x:=by unfold r3;rw[if_pos c]
  have lt:=F.lt x c
  rw[e]
  refine⟨by lia,?_,F.no x c⟩
  unfold r3
  rw[if_pos lt]
  exact F.inv x
 ·obtain⟨y,rfl⟩:∃ y,x=2*n+y:=⟨x-2*n,by omega⟩
  have T:=two G H
  have ly:y<4*n:=by lia
  have lt:=T.bl y ly
  rw[pJ]
  refine⟨by lia,by rw[pJ,T.bi y ly],?_⟩
  have:=dP G H ly
  lia
theorem pP(F:Frm n h)(G:Frm n m)(H:Frm n l){j:Nat->Nat}(jl:∀ x,x<6*n->j x<6*n)(jj:∀ x,x<6*n->j (j x)=x):Two (6*n) j (r3 n h m l):=⟨jl,fun x hx=>(k9 F G H hx).1,jj,fun x hx=>(k9 F G H hx).2.1⟩
theorem zD{f g:List Nat}{p:Nat}(hp:p<2*n):rb n f g p=at' f p:=by unfold rb;rw[if_pos hp]
theorem zo{f g:List Nat}{p:Nat}:rb n f g (2*n+p)=2*n+at' g p:=by unfold rb;rw[if_neg (by lia),show 2*n+p-2*n=p by lia]
theorem xt{a b:Nat->Nat}{x y:Nat}(h1:a x=x)(h2:a (b x)=b x)(h3:b (b x)=x)(c:Cn a b x y):y=x\/y=b x:=by
 induction c with
 | refl=>exact .inl rfl
 |sa _ ih=>
  rcases ih with rfl | rfl
  ·exact .inl h1
  ·exact .inr h2
 |sb _ ih=>
  rcases ih with rfl | rfl
  ·exact .inr rfl
  ·exact .inl h3
set_option synthInstance.maxSize 10000 in
set_option synthInstance.maxHeartbeats 0 in
theorem zP:∀ n,n<11->∀ x,x<6*n->(jn n x<6*n/\jn n (jn n x)=x)/\(j3 n x<6*n/\j3 n (j3 n x)=x)/\(jB n x<6*n/\jB n (jB n x)=x)/\(jn n x=x->x<n\/3*n<=x)/\(jn n x≠x->j3 n x=jn n x)/\(jB n x=x->x<3*n\/5*n<=x)/\(jB n x≠x->j3 n x=jB n x):=by decide +kernel
set_option synthInstance.maxSize 10000 in
set_option synthInstance.maxHeartbeats 0 in
theorem zJ:∀ n,n<11->∀ p,p<4*n->(out n p<6*n/\jn n (out n p)=out n p/\j3 n (out n p)=out n (jn n p))/\(oB n p<6*n/\jB n (oB n p)=oB n p/\j3 n (oB n p)=oB n (jn n p)):=by decide +kernel
theorem eh{p:Nat}(c:¬ p<n):out n p=p+2*n:=by unfold out;rw[if_neg c]
theorem gr{p:Nat}(c:p<n):out n p=p:=by unfold out;rw[if_pos c]
theorem hV{p:Nat}(c:p<3*n):oB n p=p:=by unfold oB;rw[if_pos c]
theorem kO{p:Nat}(c:¬ p<3*n):oB n p=p+2*n:=by unfold oB;rw[if_neg c]
theorem ui{p q:Nat}(e:out n p=out n q):p=q:=by
 by_cases c:p<n
 ·rw[gr c]at e
  by_cases d:q<n
  ·rw[gr d]at e;exact e
  ·rw[eh d]at e;lia
 ·rw[eh c]at e
  by_cases d:q<n
  ·rw[gr d]at e;lia
  ·rw[eh d]at e;lia
theorem yO{p q:Nat}(e:oB n p=oB n q):p=q:=by
 by_cases c:p<3*n
 ·rw[hV c]at e
  by_cases d:q<3*n
  ·rw[hV d]at e;exact e
  ·rw[kO d]at e;lia
 ·rw[kO c]at e
  by_cases d:q<3*n
  ·rw[hV d]at e;lia
  ·rw[kO d]at e;lia
theorem E3(hn:n<11)(F:Frm n h)(G:Frm n m)(H:Frm n l):Fld (6*n) (jn n) (j3 n) (r3 n h m l) (4*n) (jn n) (rb n (az n h m) l) (out n):=by
 have FF:=d6 F G
 have f3:=zP n hn
 have f4:=zJ n hn
 have T4:Two (4*n) (jn n) (rb n h m):=two F G
 have T4':Two (4*n) (jn n) (r3 n h m l):=⟨T4.al,fun x hx=>by rw[mH F hx];exact T4.bl x hx,T4.ai,fun x hx=>by rw[mH F hx,mH F (T4.bl x hx)];exact T4.bi x hx⟩
 refine⟨pP F G H (fun x hx=>(f3 x hx).1.1) (fun x hx=>(f3 x hx).1.2),pP F G H (fun x hx=>(f3 x hx).2.1.1) (fun x hx=>(f3 x hx).2.1.2),two FF H,
  fun p hp=>(f4 p hp).1.1,fun p q _ _ e=>ui e,fun x hx e=>?_,fun p hp=>(f4 p hp).1.2.1,fun p hp=>(f4 p hp).1.2.2,fun x hx e=>(f3 x hx).2.2.2.2.1 e,fun p q hp hq ne=>?_,fun x hx=>(k9 F G H hx).2.2,fun p hp=>dP FF H hp⟩
 ·rcases(f3 x hx).2.2.2.1 e with c | c
  ·exact⟨x,by lia,(gr c).symm⟩
  ·exact⟨x-2*n,by lia,by rw[eh (by lia)];lia⟩
 ·by_cases c:p<2*n
  ·have lo:=bb c
   rw[zD c]
   constructor
   ·rintro rfl
    have lf:=FF.lt p c
    exact((found_iff F G c lf ne).mp rfl).map T4 (t:=fun x=>x) (fun x hx=>rfl) (fun x hx=>(mH F hx).symm) lo
   ·intro z
    have z:=z.map T4' (t:=fun x=>x) (a':=jn n) (b':=rb n h m) (fun x hx=>rfl) (fun x hx=>mH F hx) lo
    have lz:=z.lt T4 lo
    have lq:q<2*n:=by
     by_cases d:q<n
     ·lia
     ·rw[eh d]at lz;lia
    exact(found_iff F G c lq ne).mpr z
  ·obtain⟨y,rfl⟩:∃ y,p=2*n+y:=⟨p-2*n,by lia⟩
   have ly:y<2*n:=by lia
   have la:=H.lt y ly
   have eo:∀ y,out n (2*n+y)=4*n+y:=fun y=>by rw[eh (by lia)];lia
   have er:∀ y,r3 n h m l (4*n+y)=4*n+at' l y:=fun y=>by rw[FN (by lia),Nat.add_sub_cancel_left]
   have ej:∀ y,jn n (4*n+y)=4*n+y:=fun y=>by unfold jn;rw[if_neg (by lia),if_neg (by lia),if_neg (by lia)]
   rw[zo,eo]
   constructor
   ·rintro rfl
    rw[eo,<-er]
    exact .sb .refl
   ·intro z
    have e2:=(k9 (l:=l) F G H (x:=4*n+y) (by lia)).2.1
    rcases xt (ej y) (by rw[er,ej]) e2 z with w | w
    ·exact absurd (ui ((eo y).trans w.symm)) ne
    ·rw[er,<-eo]at w
     exact ui w.symm
theorem Fv(y:Nat):jB n (2*n+y)=2*n+jn n y:=by
 unfold jB jn
 by_cases c:y<n
 ·rw[if_pos c,if_pos (by lia)]
 ·rw[if_neg c,if_neg (by lia)]
  by_cases d:y<2*n
  ·rw[if_pos d,if_pos (by lia)];lia
  ·rw[if_neg d,if_neg (by lia)]
   by_cases e:y<3*n
   ·rw[if_pos e,if_pos (by lia)];lia
   ·rw[if_neg e,if_neg (by lia)]
theorem C5(hn:n<11)(F:Frm n h)(G:Frm n m)(H:Frm n l):Fld (6*n) (jB n) (j3 n) (r3 n h m l) (4*n) (jn n) (rb n h (az n m l)) (oB n):=by
 have FF:=d6 G H
 have f3:=zP n hn
 have f4:=zJ n hn
 have T4:Two (4*n) (jn n) (rb n m l):=two G H
 have eo:∀ y,oB n (2*n+y)=2*n+out n y:=fun y=>by
  by_cases c:y<n
  ·rw[hV (by lia),gr c]
  ·rw[kO (by lia),eh c];lia
 have ej:=Fv (n:=n)
 refine⟨pP F G H (fun x hx=>(f3 x hx).2.2.1.1) (fun x hx=>(f3 x hx).2.2.1.2),pP F G H (fun x hx=>(f3 x hx).2.1.1) (fun x hx=>(f3 x hx).2.1.2),two F FF,
  fun p hp=>(f4 p hp).2.1,fun p q _ _ e=>yO e,fun x hx e=>?_,fun p hp=>(f4 p hp).2.2.1,fun p hp=>(f4 p hp).2.2.2,fun x hx e=>(f3 x hx).2.2.2.2.2.2 e,fun p q hp hq ne=>?_,fun x hx=>(k9 F G H hx).2.2,fun p hp=>dP F FF hp⟩
 ·rcases(f3 x hx).2.2.2.2.2.1 e with c | c
  ·exact⟨x,by lia,(hV c).symm⟩
  ·exact⟨x-2*n,by lia,by rw[kO (by lia)];lia⟩
 ·by_cases c:p<2*n
  ·have la:=F.lt p c
   have eb:∀ {y:Nat},y<2*n->oB n y=y:=fun {y} hy=>hV (by lia)
   have er:∀ {y:Nat},y<2*n->r3 n h m l y=at' h y:=fun {y} hy=>by unfold r3;rw[if_pos hy]
   have ejj:∀ {y:Nat},y<2*n->jB n y=y:=fun {y} hy=>by unfold jB;rw[if_pos (by lia)]
   rw[zD c,eb c]
   constructor
   ·rintro rfl
    rw[eb la,<-er c]
    exact .sb .refl
   ·intro z
    have e2:=(k9 (l:=l) F G H (x:=p) (by lia)).2.1
    rcases xt (ejj c) (by rw[er c,ejj la]) e2 z with w | w
    ·exact absurd (yO ((eb c).trans w.symm)) ne
    ·rw[er c,<-eb la]at w
     exact yO w.symm
  ·obtain⟨y,rfl⟩:∃ y,p=2*n+y:=⟨p-2*n,by lia⟩
   have ly:y<2*n:=by lia
   have lo:=bb ly
   rw[zo,eo]
   constructor
   ·rintro rfl
    have lf:=FF.lt y ly
    rw[eo]
    exact((found_iff G H ly lf (by lia)).mp rfl).map T4 (t:=fun x=>2*n+x) (fun x hx=>(ej x).symm) (fun x hx=>pJ.symm) lo
   ·intro z
    have back:∀ {x w:Nat},x<4*n->Cn (jB n) (r3 n h m l) (2*n+x) w->∃ v,w=2*n+v/\Cn (jn n) (rb n m l) x v:=fun {x w} hx cc=>by
     induction cc with
     | refl=>exact⟨x,rfl,.refl⟩
     |sa _ ih=>
      obtain⟨v,rfl,hv⟩:=ih
      exact⟨_,ej v,.sa hv⟩
     |sb _ ih=>
      obtain⟨v,rfl,hv⟩:=ih
      exact⟨_,pJ,.sb hv⟩
    obtain⟨v,hv,cv⟩:=back lo z
    obtain⟨u,rfl⟩:∃ u,q=2*n+u:=⟨q-2*n,by
     by_cases d:q<3*n
     ·rw[hV d]at hv;lia
     ·lia⟩
    rw[eo]at hv
    have:v=out n u:=Nat.add_left_cancel hv.symm
    subst this
    rw[(found_iff G H ly (show u<2*n by lia) (by lia)).mpr cv]
theorem rW(hn:n<11)(F:Frm n h)(G:Frm n m)(H:Frm n l):az n (az n h m) l=az n h (az n m l):=by
 have A:=d6 F G
 have B:=d6 G H
 have C:=d6 A H
 refine iE cK cK fun p hp=>?_
 have lq:=C.lt p hp
 have ne:=Ne.symm (C.no p hp)
 have c1:=((E3 hn F G H).iff (bb hp) (bb lq)).mp ((found_iff A H hp lq ne).mp rfl)
 have e:∀ {p:Nat},p<2*n->out n (out n p)=oB n (out n p):=fun {p} hp=>by
  by_cases c:p<n
  ·rw[gr c,gr c,hV (by lia)]
  ·rw[eh c,eh (by lia),kO (by lia)]
 rw[e hp,e lq]at c1
 exact((found_iff F B hp lq ne).mpr (((C5 hn F G H).iff (bb hp) (bb lq)).mpr c1)).symm
end
end RM
set_option maxHeartbeats 1000000
namespace RM
open RL RT
section
variable{n:Nat}{f g h l:List Nat}
theorem mY{x:Nat}(c:x<n):stp n h l (true,x)=(true,x):=by
 unfold stp
 rw[if_neg (by simp;exact c)]
theorem wd{x:Nat}(c:¬ x<n):stp n h l (false,x)=(false,x):=by
 unfold stp
 rw[if_neg (by simp;lia)]
theorem CM{x:Nat}(c:¬ x<n)(d:x<2*n):stp n h l (true,x)=(false,at' l (x-n)):=by
 unfold stp
 rw[if_pos (by simp;lia)]
 show(false,at' l ((x+n)%(2*n)))=_
 rw[show(x+n)%(2*n)=x-n by rw[Nat.mod_eq_sub_mod (by lia),Nat.mod_eq_of_lt (by omega)];lia]
theorem vn{x:Nat}(c:x<n):stp n h l (false,x)=(true,at' h (x+n)):=by
 unfold stp
 rw[if_pos (by simp;exact c)]
 show(true,at' h ((x+n)%(2*n)))=_
 rw[Nat.mod_eq_of_lt (by lia)]
theorem vi(h1:1<=n)(F:Frm n f)(G:Frm n g)(s:∀ p,p<n->at' f p<n->at' g p=at' f p):az n (cP n f) g=g:=by
 have q:∀ x,x<n->¬ at' f x<n->(∀ i,(itr n (cP n f) g (i+1) (false,at' g x)).2=at' g x):=by
  intro x hx nx i
  by_cases c:at' g x<n
  ·have k:¬ at' f (at' g x)<n:=fun k=>by
    have:=s _ c k
    rw[G.inv]at this
    have e:=F.inv (at' g x)
    rw[<-this]at e
    lia
   have e:stp n (cP n f) g (false,at' g x)=(true,at' g x):=by
    rw[vn c,me (by lia),if_neg (by lia),show at' g x+n-n=at' g x by lia,if_neg k]
   rw[eT e (mY c)]
  ·rw[cM (wd c)]
 apply vY (n:=n) (by simp[az]) G.len
 funext p
 by_cases hp:p<2*n
 ·rw[show at' (az n (cP n f) g) p=(itr n (cP n f) g (4*n) (beg n (cP n f) g p)).2 by simp[az,at',hp],show 4*n=(4*n-2)+2 by lia]
  by_cases c:p<n
  ·rw[show beg n (cP n f) g p=(true,at' (cP n f) p) by simp[beg,c,pick],me hp,if_pos c]
   by_cases d:at' f p<n
   ·rw[if_pos d,cM (mY d),s p c d]
   ·rw[if_neg d]
    have e:stp n (cP n f) g (true,p+n)=(false,at' g p):=by rw[CM (by lia) (by lia),show p+n-n=p by lia]
    have step:∀ i,itr n (cP n f) g (i+1) (true,p+n)=itr n (cP n f) g i (false,at' g p):=fun i=>by
     induction i with
     | zero=>exact e
     | succ i ih=>rw[itr,ih];rfl
    rw[step]
    exact q p c d _
  ·rw[show beg n (cP n f) g p=(false,at' g p) by simp[beg,c,pick]]
   by_cases d:at' g p<n
   ·have k:¬ at' f (at' g p)<n:=fun k=>by
     have:=s _ d k
     rw[G.inv]at this
     lia
    have e:stp n (cP n f) g (false,at' g p)=(true,at' g p):=by
     rw[vn d,me (by lia),if_neg (by lia),show at' g p+n-n=at' g p by lia,if_neg k]
    rw[eT e (mY d)]
   ·rw[cM (wd d)]
 ·rw[dH (by simp[az];lia),dH (by rw[G.len];lia)]
theorem zh(h1:1<=n)(hn:n<=10)(F:Frm n f)(O:Frm n (bu n f))(G:Frm n g)(s:∀ p,p<n->at' f p<n->at' g p=at' f p):az n f (az n (bu n f) g)=g:=by
 rw[<-rW (by lia) F O G,pd h1 F,vi h1 F G s]
end
end RM
set_option maxHeartbeats 1000000
namespace RT
open RL
end RT
namespace RM
open RL RT
section
variable{T:List Fn}{nu pc pa nb un if' cf po rp ir mv rn mk rg jb pu c2 hu:Nat}
end
section
variable{n:Nat}{h l h' l':List Nat}
set_option synthInstance.maxSize 10000 in
set_option synthInstance.maxHeartbeats 0 in
end
end RM
set_option maxHeartbeats 1000000
namespace RT
open RL
noncomputable def kN(f_pegs_of f_check_frame:Nat):Fn :=
 ⟨1,4,[],[],(.cons (.exc (.call f_check_frame (.cons (.var 0) .nil))) (.cons (.asg 1 (.call f_pegs_of (.cons (.var 0) .nil))) (.cons (.ret (.bi .tuple (.compA (.ifx (.cmp .lt (.var 3) (.var 1)) (.var 3) (.var 2)) [2,3] (.enm (.slT (.var 0) (.var 1)))))) .nil)))⟩
noncomputable def tf(f_upper f_over:Nat):Fn :=
 ⟨1,1,[],[],(.cons (.ret (.call f_upper (.cons (.call f_over (.cons (.var 0) .nil)) .nil))) .nil)⟩
end RT
namespace RM
open RL RT
noncomputable def up(n:Nat)(f:List Nat)(p:Nat):Nat:=if at' f p<n then at' f p else p
noncomputable def upL(n:Nat)(f:List Nat):List Nat:=(List.range n).map (up n f)
section
variable{cl:Cl}{n:Nat}{f:List Nat}
theorem so:(upL n f).length=n:=by simp[upL]
theorem iC{p:Nat}(h:p<n):at' (upL n f) p=up n f p:=by simp[upL,at',h]
theorem Fj(F:Frm n f){p:Nat}(h:p<n):at' (f.take n) p=at' f p:=by
 rw[sH F]
 simp[at',h]
theorem wK{fo fc:Nat}(h1:1<=n)(hn:n<=10)(F:Frm n f)(hc:cl fc [.tup (L f)]=some .non)(ho:cl fo [.tup (L f)]=some (.int (n:Nat))):evF cl (kN fo fc) [.tup (L f)]=some (.tup (L (upL n f))):=by
 have hl:(f.take n).length=n:=by rw[List.length_take,F.len];lia
 have en:=jK hl
 have sl:nG (.tup (L f)) (.int (n:Nat))=some (.tup (L (f.take n))):=by
  have c:cutAt (L f).length (n:Nat)=n:=by
   unfold cutAt
   rw[if_pos (by lia),Int.toNat_natCast,aL,F.len]
   lia
  show(if cutAt (L f).length (n:Nat)<(L f).length then some (D.tup ((L f).take (cutAt (L f).length (n:Nat))))else none)=_
  rw[c,if_pos (by rw[aL,F.len];lia),vX]
 have mc:=iP (F:=fun σ1=>(ev cl σ1 (.ifx (.cmp .lt (.var 3) (.var 1)) (.var 3) (.var 2))).map some) (tg:=[2,3]) (σ:=[some (.tup (L f)),some (.int (n:Nat)),none,none]) (h:=pr (f.take n)) (g:=fun p=>.int (up n f p:Nat)) (fun _=>rfl) (List.range n) (by
  intro p hp
  have hp:=List.mem_range.mp hp
  show(ev cl [some (.tup (L f)),some (.int (n:Nat)),some (.int (p:Nat)),some (.int (at' (f.take n) p:Nat))] (.ifx (.cmp .lt (.var 3) (.var 1)) (.var 3) (.var 2))).map some=_
  rw[Fj F hp]
  unfold up
  by_cases c:at' f p<n
  ·rw[jf (k:=true) (aE (a5 (aa rfl) (aa rfl) (by rw[cS];simp;exact c))) (aa rfl),if_pos c]
   rfl
  ·rw[jf (k:=false) (aE (a5 (aa rfl) (aa rfl) (by rw[cS];simp;lia))) (aa rfl),if_neg c]
   rfl)
 rw[<-en]at mc
 have lm:(cG 0 (L (f.take n))).length<=most:=by rw[en,List.length_map,List.length_range];unfold most;lia
 have e:((List.range n).map fun p=>D.int (up n f p:Nat))=L (upL n f):=by unfold upL L;rw[List.map_map];rfl
 rw[e]at mc
 exact aC rfl rfl (gx (bj (aa rfl) hc) (a7 (bj (aa rfl) ho) rfl (a9 (bo (dE (mz (ux (aa rfl) (aa rfl) sl) rfl) lm mc) rfl) (by unfold aV;rw[show ∀ x:List Nat,(D.tup (L x)).imm=au (L x)from fun _=>rfl,aY];rfl))))
end
section
variable{T:List Fn}{nu pc pa nb un if' cf po rp ir mv:Nat}
theorem Ck.upper(C:Ck T nu pc pa nb un if' cf po rp ir mv){up':Nat}(hup:T[up']?=some (kN po cf))(n:Nat){k:Nat}{f:List Nat}(h1:1<=k)(hk:k<=10)(V:Val k f):aq T (n+6) up' [.tup (L f)]=some (.tup (L (upL k f))) :=
 (ao hup).trans (wK h1 hk V.frm (C.check n h1 hk V) (C.half (n+4) V.frm.len))
theorem Ck.lower(C:Ck T nu pc pa nb un if' cf po rp ir mv){up' cp pl ov lw:Nat}(hup:T[up']?=some (kN po cf))(hcp:T[cp]?=some (bV pc))(hpl:T[pl]?=some (gm cp))(hov:T[ov]?=some (jX mv pl po cf))(hlw:T[lw]?=some (tf up' ov))(n:Nat){k:Nat}{f:List Nat}(h1:1<=k)(hk:k<=10)(V:Val k f):aq T (n+7) lw [.tup (L f)]=some (.tup (L (upL k (bI k (ovr k) (ovr k) f)))) :=
 (ao hlw).trans (aC rfl rfl (a9 (bj (bj (aa rfl) (C.over hcp hpl hov n h1 hk V)) (C.upper hup n h1 hk ((c7 k).val V))) (by unfold aV;rw[show ∀ x:List Nat,(D.tup (L x)).imm=au (L x)from fun _=>rfl,aY];rfl)))
end
section
variable{n:Nat}{f:List Nat}
theorem FK(F:Frm n f):bI n (ovr n) (ovr n) (bI n (ovr n) (ovr n) f)=f:=by
 rw[Az (c7 n) (c7 n)]
 exact Cz F (fun p hp=>(c7 n).bt p hp) (fun p hp=>(c7 n).bt p hp)
end
noncomputable def Has(n:Nat)(a b:List Nat):Prop:=∀ p,p<n->at' a p<n->at' b p=at' a p
section
variable{n:Nat}{a b h l:List Nat}
theorem vP(hp:∀ p,p<n->at' h p<n->p<2*n):Has n h (az n h l):=fun p c d=>by
 rw[qV (by lia),show beg n h l p=(true,at' h p) by simp[beg,c,pick],cM (mY d)]
end
theorem mw(k:Nat):∀ a b:List Nat,a.length=b.length->eqs (eqD k) (L a) (L b)=some (decide (a=b))
 | [],[],_=>rfl
 | x::r,y::s,h=>by
  have ih:=mw k r s (by simpa using h)
  show((eqD k (.int (x:Nat)) (.int (y:Nat))).bind fun e=>(eqs (eqD k) (L r) (L s)).map fun j=>e&&j)=_
  rw[ih,show eqD k (.int (x:Nat)) (.int (y:Nat))=some ((x:Int) == (y:Int)) by cases k<;>rfl]
  show some (((x:Int) == (y:Int))&&decide (r=s))=_
  congr 1
  rw[Bool.eq_iff_iff]
  simp
  intro _
  lia
theorem uh{a b:List Nat}(h:a.length=b.length):bc .eq (.tup (L a)) (.tup (L b))=some (decide (a=b)):=by
 show(eqs (eqD 7) (L a) (L b)).map (fun k=>k&&(L a).length == (L b).length)=_
 rw[mw 7 a b h,aL,aL,h]
 simp
end RM
set_option maxHeartbeats 1000000
namespace RM
open RL RT
structure Hf(n:Nat)(h:List Nat):Prop where
 len:h.length=n
 lt:∀ q,q<n->at' h q<n
 inv:∀ q,q<n->at' h (at' h q)=q
 nx:Nx (at' h) n
noncomputable def fx(n:Nat)(h:List Nat):List Nat:=(List.range n).filter fun q=>decide (at' h q=q)
section
variable{n:Nat}{f h a b:List Nat}
theorem CJ(V:Val n f){p q:Nat}(hp:p<n)(hq:q<n)(c:at' f p<n):¬ (p<q/\q<at' f p/\(at' f p<at' f q\/n<=at' f q)):=by
 rintro⟨c1,c2,c3⟩
 have F:=V.frm
 have:=V.nox p q (by lia) (by lia)
 rw[vx F hp,vx F hq,if_pos c]at this
 have lb:=F.lt q (by lia)
 split at this<;>lia
theorem kG(V:Val n f):Hf n (upL n f):=by
 have F:=V.frm
 have hi:∀ q,q<n->at' f q<n->up n f q=at' f q:=fun q _ c=>by unfold up;rw[if_pos c]
 have lo:∀ q,¬ at' f q<n->up n f q=q:=fun q c=>by unfold up;rw[if_neg c]
 have lt:∀ q,q<n->up n f q<n:=fun q hq=>by
  by_cases c:at' f q<n
  ·rw[hi q hq c];exact c
  ·rw[lo q c];exact hq
 refine⟨so,fun q hq=>by rw[iC hq];exact lt q hq,fun q hq=>?_,fun q q' h1 h2 h3=>?_⟩
 ·rw[iC hq,iC (lt q hq)]
  by_cases c:at' f q<n
  ·rw[hi q hq c]
   unfold up
   rw[F.inv,if_pos hq]
  ·rw[lo q c,lo q c]
 ·by_cases hq:q<n
  ·rw[iC hq]at h2 h3 ⊢
   rw[iC (show q'<n by lia)]
   by_cases c:at' f q<n
   ·rw[hi q hq c]at h2 h3 ⊢
    have x:=CJ V hq (show q'<n by lia) c
    by_cases d:at' f q'<n
    ·rw[hi q' (by lia) d]
     have:=F.no q' (by lia)
     lia
    ·lia
   ·rw[lo q c]at h2
    lia
  ·rw[dH (by rw[so];omega)]at h2
   lia
theorem Cv:(fx n (upL n f)).length=thr n f\/¬ Frm n f:=by
 by_cases F:Frm n f
 ·refine .inl ?_
  unfold fx thr
  congr 1
  apply List.filter_congr
  intro q hq
  have hq:=List.mem_range.mp hq
  rw[iC hq]
  apply decide_eq_decide.mpr
  unfold up
  have:=F.no q (by lia)
  split<;>lia
 ·exact .inr F
end
end RM
set_option maxHeartbeats 1000000
namespace RM
open RL RT
section
variable{n:Nat}{f:List Nat}
end
end RM
set_option maxHeartbeats 1000000
namespace RM
open RL RT
section
variable{n:Nat}{f g A B:List Nat}
end
end RM
set_option maxHeartbeats 1000000
namespace RM
open RL RT
section
variable{cl:Cl}{xs:List Int}
end
end RM
set_option maxHeartbeats 1000000
namespace RT
open RL
noncomputable def jW(f_is_half:Nat):Fn :=
 ⟨1,1,[],[],(.cons (.ife (.not (.call f_is_half (.cons (.var 0) .nil))) (.cons .never .nil) .nil) .nil)⟩
noncomputable def nv:Fn :=
 ⟨1,3,[],[],(.cons (.ret (.comp (.var 1) [1,2] (.enm (.var 0)) (.cmp .eq (.var 1) (.var 2)))) .nil)⟩
end RT
namespace RM
open RL RT
section
variable{cl:Cl}{n:Nat}{h a b:List Nat}
theorem wW(hn:n<=10)(hl:h.length=n):evF cl nv [.tup (L h)]=some (.lst (L (fx n h))):=by
 have en:=jK hl
 have mc:=m4 (F:=fun σ1=>((ev cl σ1 (.cmp .eq (.var 1) (.var 2))).bind truth).bind fun k=>if k then(ev cl σ1 (.var 1)).map some else some none) (tg:=[1,2]) (σ:=[some (.tup (L h)),none,none]) (h:=pr h) (g:=fun p=>.int (p:Nat)) (c:=fun p=>decide (at' h p=p)) (fun _=>rfl) (List.range n) (by
  intro p hp
  show((ev cl [some (.tup (L h)),some (.int (p:Nat)),some (.int (at' h p:Nat))] (.cmp .eq (.var 1) (.var 2))).bind truth).bind (fun k=>if k then(ev cl [some (.tup (L h)),some (.int (p:Nat)),some (.int (at' h p:Nat))] (.var 1)).map some else some none)=_
  have q:bc .eq (.int (p:Nat)) (.int (at' h p:Nat))=some (decide (at' h p=p)):=by
   rw[bW]
   congr 1
   rw[Bool.eq_iff_iff,beq_iff_eq,decide_eq_true_eq]
   lia
  rw[aE (a5 (aa rfl) (aa rfl) q),Option.bind_some,aa rfl]
  split<;>rfl)
 rw[<-en]at mc
 exact aC rfl rfl (a9 (d:=.lst (L (fx n h))) (w4 (mz (aa rfl) rfl) (by rw[en,List.length_map,List.length_range];unfold most;lia) mc) (by unfold aV;rw[show aJ (.lst (L (fx n h)))=true from aY _];rfl))
theorem uc(H:Hf n h):(List.range (h.map Int.ofNat).length).all (nb (h.map Int.ofNat))=true:=m9 H.len H.lt H.inv
theorem rV{fu fp fc:Nat}(h1:1<=n)(hn:n<=10)(H:Hf n h)(hc:∀ i:Int,cl fc [.int i]=some (.bl (decide (1<=i/\i<=10))))(hp:cl fp [.tup (L h)]=some (.bl true))(hu:cl fu [.tup (L h)]=some (.bl true)):evF cl (kq fu fp fc) [.tup (L h)]=some (.bl true):=by
 have ln:biV .len (.tup (L h))=some (.int (n:Nat)):=by
  show some (D.int ((L h).length:Nat))=_
  rw[aL,H.len]
 have c:=hc (n:Nat)
 rw[decide_eq_true (by lia)]at c
 exact aC rfl rfl (a9 (cU (bj (bo (aa rfl) ln) c) (cU (bj (aa rfl) hp) (bj (aa rfl) hu))) rfl)
end
end RM
set_option maxHeartbeats 1000000
namespace RM
open RL RT
noncomputable def Cb(m:Nat):Nat->Nat
 | 0=>1
 | i+1=>Cb m i*(m-i) / (i+1)
noncomputable def Wy(m g:Nat):Nat:=if g<=m/\(m-g)%2=0 then(if m=g then 1 else Cb m ((m-g) / 2)-Cb m ((m-g) / 2-1))else 0
noncomputable def Ah(m g:Nat):Nat:=match m,g with
 | m+1,g+1=>Wy m g
 | _,_=>0
noncomputable def Td(m g w:Nat):Nat:=Wy w 0*Wy (m-w-2) g
noncomputable def Sm(m g:Nat):Nat->Nat
 | 0=>0
 | j+1=>Sm m g j+Td m g (2*j)
theorem nh:∀ m,m<=10->∀ g,g<=m->(1<=m->Ah m g+Sm m g (m / 2)=Wy m g)/\(m≠g->Cb m ((m-g) / 2-1)<=Cb m ((m-g) / 2))/\Wy m g<1000:=by decide +kernel
theorem ko{m g:Nat}(h:m<g):Wy m g=0:=by
 unfold Wy
 rw[if_neg (by lia)]
theorem wQ{m g:Nat}(h1:1<=m)(hm:m<=10):Ah m g+Sm m g (m / 2)=Wy m g:=by
 by_cases c:g<=m
 ·exact(nh m hm g c).1 h1
 ·have a0:Ah m g=0:=by
   match m,g with
   | 0,_=>rfl
   | _+1,0=>rfl
   | m+1,g+1=>exact ko (by lia)
  have s0:∀ j,Sm m g j=0:=fun j=>by
   induction j with
   | zero=>rfl
   | succ j ih=>rw[Sm,ih,Td,ko (m:=m-2*j-2) (g:=g) (by lia),Nat.mul_zero]
  rw[a0,s0,ko (by lia)]
theorem sG(m g:Nat){i j:Nat}(h:i<=j):Sm m g i<=Sm m g j:=by
 induction h with
 | refl=>exact Nat.le_refl _
 | step h ih=>exact Nat.le_trans ih (by rw[Sm];lia)
theorem lF{m g:Nat}(hm:m<=10):Wy m g<1000:=by
 by_cases c:g<=m
 ·exact(nh m hm g c).2.2
 ·rw[ko (by lia)];decide
theorem Cd{j m g:Nat}(h:2*j+m+2<=10):Ah (2*j+m+2) g+Sm (2*j+m+2) g j+Wy (2*j) 0*Wy m g<=Wy (2*j+m+2) g:=by
 have r:=wQ (m:=2*j+m+2) (g:=g) (by lia) h
 have mo:=sG (2*j+m+2) g (i:=j+1) (j:=(2*j+m+2) / 2) (by lia)
 rw[Sm,Td,show 2*j+m+2-2*j-2=m by lia]at mo
 lia
inductive Sg:Nat->Nat->Nat->List Nat->Nat->Prop
 | nil (a:Nat):Sg a 0 0 [] 0
 | fix {a m g k:Nat} {xs:List Nat}:Sg (a+1) m g xs k->Sg a (m+1) (g+1) (a::xs) k
 | tie {a j m g k l:Nat} {ys zs:List Nat}:Sg (a+1) (2*j) 0 ys k->Sg (a+2*j+2) m g zs l->Sg a (2*j+m+2) g ((a+2*j+1)::(ys++a::zs)) (Ah (2*j+m+2) g+Sm (2*j+m+2) g j+k*Wy m g+l)
theorem Sg.len{a m g k:Nat}{xs:List Nat}(s:Sg a m g xs k):xs.length=m:=by
 induction s with
 | nil=>rfl
 | fix _ ih=>rw[List.length_cons,ih]
 | tie _ _ ih1 ih2=>rw[List.length_cons,List.length_append,List.length_cons,ih1,ih2];lia
theorem Sg.par{a m g k:Nat}{xs:List Nat}(s:Sg a m g xs k):m%2=g%2/\g<=m:=by
 induction s with
 | nil=>exact⟨rfl,Nat.le_refl _⟩
 | fix _ ih=>lia
 | tie _ _ ih1 ih2=>lia
theorem Sg.bound{a m g k:Nat}{xs:List Nat}(s:Sg a m g xs k):m<=10->k<Wy m g:=by
 induction s with
 | nil=>intro _;decide
 |@fix a m g k xs _ ih=>
  intro h
  have r:=wQ (m:=m+1) (g:=g+1) (by lia) h
  rw[Ah]at r
  have:=ih (by lia)
  lia
 |@tie a j m g k l ys zs _ _ ih1 ih2=>
  intro h
  have b1:=ih1 (by lia)
  have b2:=ih2 (by lia)
  have t:=Cd (j:=j) (m:=m) (g:=g) h
  have:k*Wy m g+Wy m g<=Wy (2*j) 0*Wy m g:=by
   rw[<-Nat.succ_mul]
   exact Nat.mul_le_mul_right _ b1
  lia
noncomputable def cw:Nat->List Nat->Nat
 | _,[]=>0
 | a,x::r=>(if x=a then 1 else 0)+cw (a+1) r
theorem l8:∀ (a:Nat) (xs ys:List Nat),cw a (xs++ys)=cw a xs+cw (a+xs.length) ys
 | a,[],ys=>by simp[cw]
 | a,x::r,ys=>by
  rw[List.cons_append,cw,cw,l8 (a+1) r ys,List.length_cons,show a+1+r.length=a+(r.length+1) by lia]
  lia
theorem Sg.cw{a m g k:Nat}{xs:List Nat}(s:Sg a m g xs k):RM.cw a xs=g:=by
 induction s with
 | nil=>rfl
 | fix _ ih=>rw[RM.cw,ih,if_pos rfl];lia
 |@tie a j m g k l ys zs s1 s2 ih1 ih2=>
  rw[RM.cw,if_neg (by lia),l8,ih1,RM.cw,s1.len,if_neg (by lia),show a+1+2*j+1=a+2*j+2 by lia,ih2]
  lia
theorem ot:∀ (r:Nat->Nat) (m a:Nat),cw a ((List.range' a m).map r)=((List.range' a m).filter fun q=>decide (r q=q)).length
 | r,0,a=>rfl
 | r,m+1,a=>by
  rw[List.range'_succ,List.map_cons,cw,ot r m (a+1),List.filter_cons]
  by_cases c:r a=a
  ·rw[if_pos c,if_pos (decide_eq_true c),List.length_cons];lia
  ·rw[if_neg c,if_neg (by simpa using c)];lia
theorem Sg.make{r:Nat->Nat}:∀ (m a e:Nat),e=a+m->(∀ q,a<=q->q<e->a<=r q/\r q<e)->(∀ q,a<=q->q<e->r (r q)=q)->(∀ q q',a<=q->q<q'->q'<r q->r q<e->¬ (r q<r q'\/r q'=q'))->∃ g k,Sg a m g ((List.range' a m).map r) k:=by
 intro m
 induction m using Nat.strongRecOn with
 |ind m ih=>
  intro a e he cl inv nx
  cases m with
  | zero=>exact⟨0,0,.nil a⟩
  |succ m=>
   have c0:=cl a (Nat.le_refl _) (by lia)
   have i0:=inv a (Nat.le_refl _) (by lia)
   rw[List.range'_succ,List.map_cons]
   by_cases c:r a=a
   ·obtain⟨g,k,s⟩:=ih m (by lia) (a+1) e (by lia) (fun q h h'=>by
     have:=cl q (by lia) h'
     have i:=inv q (by lia) h'
     have:r q≠a:=fun z=>by rw[z,c]at i;lia
     lia) (fun q h h'=>inv q (by lia) h') (fun q q' h=>nx q q' (by lia))
    rw[c]
    exact⟨_,_,.fix s⟩
   ·obtain⟨w,hw⟩:∃ w,r a=a+w+1:=⟨r a-a-1,by lia⟩
    obtain⟨m',hm⟩:∃ m',m=w+m'+1:=⟨m-w-1,by lia⟩
    subst hm
    have inn:∀ q,a+1<=q->q<a+w+1->a+1<=r q/\r q<a+w+1:=fun q h h'=>by
     have:=cl q (by lia) (by lia)
     have i:=inv q (by lia) (by lia)
     have n:=nx a q (Nat.le_refl _) (by lia) (by lia) (by lia)
     have:r q≠a:=fun z=>by rw[z]at i;lia
     have:r q≠r a:=fun z=>by rw[z,i0]at i;lia
     lia
    obtain⟨g1,k1,s1⟩:=ih w (by lia) (a+1) (a+w+1) (by lia) inn (fun q h h'=>inv q (by lia) (by lia)) (fun q q' h x y z=>nx q q' (by lia) x y (by lia))
    obtain⟨g2,k2,s2⟩:=ih m' (by lia) (a+w+2) e (by lia) (fun q h h'=>by
     have:=cl q (by lia) h'
     have i:=inv q (by lia) h'
     have n1:r q≠a:=fun z=>by rw[z]at i;lia
     have n2:r q≠r a:=fun z=>by rw[z,i0]at i;lia
     by_cases d:r q<a+w+1
     ·have:=inn (r q) (by lia) d
      lia
     ·lia) (fun q h h'=>inv q (by lia) h') (fun q q' h=>nx q q' (by lia))
    have g0:g1=0:=by
     have:=s1.cw
     rw[ot,List.filter_eq_nil_iff.mpr (fun q hq=>by
      rw[List.mem_range'_1]at hq
      have:=nx a q (Nat.le_refl _) (by lia) (by lia) (by lia)
      simp
      lia)]at this
     exact this.symm
    subst g0
    obtain⟨j,rfl⟩:∃ j,w=2*j:=⟨w / 2,by have:=s1.par;lia⟩
    have e1:(List.range' (a+1) (2*j+m'+1)).map r=(List.range' (a+1) (2*j)).map r++a::(List.range' (a+2*j+2) m').map r:=by
     rw[show 2*j+m'+1=2*j+(m'+1) by lia,<-List.range'_append_1,List.map_append,List.range'_succ,List.map_cons,show a+1+2*j=a+2*j+1 by lia,show r (a+2*j+1)=a by rw[<-hw];exact i0]
    rw[e1,hw]
    exact⟨_,_,.tie s1 s2⟩
theorem BJ{n:Nat}{h:List Nat}(l:h.length=n):(List.range' 0 n).map (at' h)=h:=by
 apply List.ext_getElem?
 intro i
 by_cases hi:i<n
 ·rw[cJ (f:=h) (by lia)]
  simp[hi]
 ·rw[List.getElem?_eq_none (by simp;lia),List.getElem?_eq_none (by lia)]
theorem rm{n:Nat}{h:List Nat}(H:Hf n h):∃ k,Sg 0 n (fx n h).length h k:=by
 obtain⟨g,k,s⟩:=Sg.make (r:=at' h) n 0 n (by lia) (fun q _ hq=>⟨Nat.zero_le _,H.lt q hq⟩) (fun q _ hq=>H.inv q hq) (fun q q' _=>H.nx q q')
 have c:=s.cw
 rw[ot,<-List.range_eq_range']at c
 rw[BJ H.len]at s
 unfold fx
 rw[c]
 exact⟨k,s⟩
end RM
set_option maxHeartbeats 1000000
namespace RT
open RL
noncomputable def jP(f_going f_check_half:Nat):Fn :=
 ⟨1,1,[],[],(.cons (.exc (.call f_check_half (.cons (.var 0) .nil))) (.cons (.ret (.bi .len (.call f_going (.cons (.var 0) .nil)))) .nil))⟩
noncomputable def fS(f_is_number f_ways f_check_pegs:Nat):Fn :=
 ⟨2,2,[],[],(.cons (.exc (.call f_check_pegs (.cons (.var 0) .nil))) (.cons (.ret (.ifx (.call f_is_number (.cons (.var 1) .nil)) (.call f_ways (.cons (.var 0) (.cons (.var 1) .nil))) (.cst (.int 0)))) .nil))⟩
noncomputable def p7(f_half_from f_check_number f_how_many_halves:Nat):Fn :=
 ⟨3,3,[],[],(.cons (.exc (.call f_check_number (.cons (.var 2) (.cons (.call f_how_many_halves (.cons (.var 0) (.cons (.var 1) .nil))) .nil)))) (.cons (.ret (.call f_half_from (.cons (.cst (.int 0)) (.cons (.var 0) (.cons (.var 1) (.cons (.var 2) .nil)))))) .nil))⟩
noncomputable def jC(f_number_from f_through_of:Nat):Fn :=
 ⟨1,1,[],[],(.cons (.ret (.call f_number_from (.cons (.var 0) (.cons (.cst (.int 0)) (.cons (.bi .len (.var 0)) (.cons (.call f_through_of (.cons (.var 0) .nil)) .nil)))))) .nil)⟩
noncomputable def gy(f_half_from f_ways f_tied_around:Nat):Ss :=
 (.cons (.aug 4 .add (.call f_tied_around (.cons (.var 1) (.cons (.var 2) (.cons (.var 5) .nil))))) (.cons (.aug 5 .add (.cst (.int 2))) .nil))
noncomputable def l9(f_half_from f_ways f_tied_around:Nat):Fn :=
 ⟨4,11,[],[],(.cons (.ife (.cmp .eq (.var 1) (.cst (.int 0))) (.cons (.ret (.tup .nil)) .nil) .nil) (.cons (.asg 4 (.call f_ways (.cons (.bin .sub (.var 1) (.cst (.int 1))) (.cons (.bin .sub (.var 2) (.cst (.int 1))) .nil)))) (.cons (.ife (.cmp .lt (.var 3) (.var 4)) (.cons (.ret (.bin .add (.tup (.cons (.var 0) .nil)) (.call f_half_from (.cons (.bin .add (.var 0) (.cst (.int 1))) (.cons (.bin .sub (.var 1) (.cst (.int 1))) (.cons (.bin .sub (.var 2) (.cst (.int 1))) (.cons (.var 3) .nil))))))) .nil) .nil) (.cons (.asg 5 (.cst (.int 0))) (.cons (.whil (.cmp .ge (.var 3) (.bin .add (.var 4) (.call f_tied_around (.cons (.var 1) (.cons (.var 2) (.cons (.var 5) .nil)))))) (gy f_half_from f_ways f_tied_around)) (.cons (.asg 6 (.bin .add (.bin .add (.var 0) (.var 5)) (.cst (.int 1)))) (.cons (.asg 7 (.bin .sub (.bin .sub (.var 1) (.var 5)) (.cst (.int 2)))) (.cons (.unp [9,10] (.dvm (.bin .sub (.var 3) (.var 4)) (.call f_ways (.cons (.var 7) (.cons (.var 2) .nil))))) (.cons (.asg 8 (.call f_half_from (.cons (.bin .add (.var 0) (.cst (.int 1))) (.cons (.var 5) (.cons (.cst (.int 0)) (.cons (.var 9) .nil)))))) (.cons (.ret (.bin .add (.bin .add (.bin .add (.tup (.cons (.var 6) .nil)) (.var 8)) (.tup (.cons (.var 0) .nil))) (.call f_half_from (.cons (.bin .add (.var 6) (.cst (.int 1))) (.cons (.var 7) (.cons (.var 2) (.cons (.var 10) .nil))))))) .nil))))))))))⟩
noncomputable def iF(f_number_from f_ways f_tied_around:Nat):Ss :=
 (.cons (.aug 6 .add (.call f_tied_around (.cons (.var 5) (.cons (.var 3) (.cons (.var 7) .nil))))) .nil)
noncomputable def jA(f_number_from f_ways f_tied_around:Nat):Fn :=
 ⟨4,8,[],[],(.cons (.ife (.cmp .eq (.var 1) (.var 2)) (.cons (.ret (.cst (.int 0))) .nil) .nil) (.cons (.asg 4 (.ix (.var 0) (.var 1))) (.cons (.ife (.cmp .eq (.var 4) (.var 1)) (.cons (.ret (.call f_number_from (.cons (.var 0) (.cons (.bin .add (.var 1) (.cst (.int 1))) (.cons (.var 2) (.cons (.bin .sub (.var 3) (.cst (.int 1))) .nil)))))) .nil) .nil) (.cons (.asg 5 (.bin .sub (.var 2) (.var 1))) (.cons (.asg 6 (.call f_ways (.cons (.bin .sub (.var 5) (.cst (.int 1))) (.cons (.bin .sub (.var 3) (.cst (.int 1))) .nil)))) (.cons (.forr [7] (.rng3 (2) (.cst (.int 0)) (.bin .sub (.bin .sub (.var 4) (.var 1)) (.cst (.int 1)))) (iF f_number_from f_ways f_tied_around)) (.cons (.aug 6 .add (.bin .mul (.call f_number_from (.cons (.var 0) (.cons (.bin .add (.var 1) (.cst (.int 1))) (.cons (.var 4) (.cons (.cst (.int 0)) .nil))))) (.call f_ways (.cons (.bin .sub (.bin .sub (.var 2) (.var 4)) (.cst (.int 1))) (.cons (.var 3) .nil))))) (.cons (.ret (.bin .add (.var 6) (.call f_number_from (.cons (.var 0) (.cons (.bin .add (.var 4) (.cst (.int 1))) (.cons (.var 2) (.cons (.var 3) .nil))))))) .nil))))))))⟩
noncomputable def j9(f_ways:Nat):Fn :=
 ⟨3,3,[],[],(.cons (.ret (.bin .mul (.call f_ways (.cons (.var 2) (.cons (.cst (.int 0)) .nil))) (.call f_ways (.cons (.bin .sub (.bin .sub (.var 0) (.var 2)) (.cst (.int 2))) (.cons (.var 1) .nil))))) .nil)⟩
noncomputable def mN(f_choices:Nat):Fn :=
 ⟨2,3,[],[],(.cons (.ife (.or (.cmp .lt (.var 1) (.cst (.int 0))) (.or (.cmp .gt (.var 1) (.var 0)) (.cmp .eq (.bin .mod (.bin .sub (.var 0) (.var 1)) (.cst (.int 2))) (.cst (.int 1))))) (.cons (.ret (.cst (.int 0))) .nil) .nil) (.cons (.asg 2 (.bin .fdiv (.bin .sub (.var 0) (.var 1)) (.cst (.int 2)))) (.cons (.ret (.bin .sub (.call f_choices (.cons (.var 0) (.cons (.var 2) .nil))) (.call f_choices (.cons (.var 0) (.cons (.bin .sub (.var 2) (.cst (.int 1))) .nil))))) .nil)))⟩
noncomputable def my:Ss :=
 (.cons (.asg 2 (.bin .fdiv (.bin .mul (.var 2) (.bin .sub (.var 0) (.var 3))) (.bin .add (.var 3) (.cst (.int 1))))) .nil)
noncomputable def hJ:Fn :=
 ⟨2,4,[],[],(.cons (.ife (.cmp .lt (.var 1) (.cst (.int 0))) (.cons (.ret (.cst (.int 0))) .nil) .nil) (.cons (.asg 2 (.cst (.int 1))) (.cons (.forr [3] (.rng1 (.var 1)) (my)) (.cons (.ret (.var 2)) .nil))))⟩
noncomputable def iu(f_is_number:Nat):Fn :=
 ⟨2,2,[],[],(.cons (.ife (.or (.not (.call f_is_number (.cons (.var 0) .nil))) (.not (.chain .le .lt (.cst (.int 0)) (.var 0) (.var 1)))) (.cons .never .nil) .nil) .nil)⟩
noncomputable def qR(f_half_number f_upper f_lower:Nat):Fn :=
 ⟨1,1,[],[],(.cons (.ret (.tup (.cons (.call f_half_number (.cons (.call f_upper (.cons (.var 0) .nil)) .nil)) (.cons (.call f_half_number (.cons (.call f_lower (.cons (.var 0) .nil)) .nil)) .nil)))) .nil)⟩
noncomputable def qU(f_hung:Nat):Fn :=
 ⟨1,1,[],[],(.cons (.ret (.cmp .eq (.ix (.call f_hung (.cons (.var 0) (.cons (.var 0) .nil))) (.cst (.int 0))) (.var 0))) .nil)⟩
end RT
namespace RM
open RL RT
section
variable{cl:Cl}
theorem c6{M:List Nat}{e:E}(i:Int):aU M e (.int i)=true:=rfl
theorem fJ{M:List Nat}{e:E}(i:Int):aV M e (.int i)=true:=rfl
theorem se{m c:Nat}(hm:m<=10)(hc:c<=m):evF cl hJ [.int (m:Nat),.int (c:Nat)]=some (.int (Cb m c:Nat)):=by
 obtain⟨σ',e,o3,rfl⟩:=mj (f:=ah cl [] my) (tg:=[3]) (fun p:Nat=>.int (p:Nat)) (fun _=>rfl)
  (fun u σ=>∃ o3:Option D,σ=[some (.int (m:Nat)),some (.int (c:Nat)),some (.int (Cb m u.length:Nat)),o3])
  (List.range c) [] [some (.int (m:Nat)),some (.int (c:Nat)),some (.int (Cb m 0:Nat)),none] (by
   rintro u p v σ hu ⟨o3,rfl⟩
   obtain⟨hk,hp⟩:=cF (g:=id) (by simpa using hu)
   simp only[id]at hp
   subst hp
   have lt:((u.length:Nat):Int)+1<2 ^ 200:=Int.lt_of_lt_of_le (b:=1000) (by lia) (by decide)
   have ls:((m:Nat):Int)-(u.length:Nat)<2 ^ 64:=Int.lt_of_lt_of_le (b:=1000) (by lia) (by decide)
   have lg:-(2 ^ 64)<((m:Nat):Int)-(u.length:Nat):=Int.lt_of_lt_of_le (b:=0) (by decide) (by lia)
   have a1:ev cl [some (.int (m:Nat)),some (.int (c:Nat)),some (.int (Cb m u.length:Nat)),some (.int (u.length:Nat))] (.bin .fdiv (.bin .mul (.var 2) (.bin .sub (.var 0) (.var 3))) (.bin .add (.var 3) (.cst (.int 1))))=some (.int (Cb m (u.length+1):Nat)):=by
    refine aj (x:=.int ((Cb m u.length:Nat)*((m:Nat)-(u.length:Nat)))) (y:=.int ((u.length:Nat)+1)) (aj (aa rfl) (aj (aa rfl) (aa rfl) br) (rz lg ls)) (aj (aa rfl) af aW) ?_
    rw[gR (by lia) lt,Cb,Int.natCast_ediv,Int.natCast_mul,Int.natCast_sub (by lia)]
    rfl
   have b1:=a7 (cl:=cl) (M:=[]) (i:=2) a1 (c6 _) aG
   refine⟨[some (.int (m:Nat)),some (.int (c:Nat)),some (.int (Cb m (u.length+1):Nat)),some (.int (u.length:Nat))],?_,some (.int (u.length:Nat)),?_⟩
   ·have bt:aM [3] (.int (u.length:Nat)) [some (.int (m:Nat)),some (.int (c:Nat)),some (.int (Cb m u.length:Nat)),o3]=some [some (.int (m:Nat)),some (.int (c:Nat)),some (.int (Cb m u.length:Nat)),some (.int (u.length:Nat))]:=rfl
    rw[bt,Option.bind_some]
    exact b1
   rw[List.length_append,List.length_singleton]) ⟨none,rfl⟩
 rw[List.nil_append,List.length_range]at e
 exact aC rfl rfl (bf (aE (a5 (k:=false) (aa rfl) af (by rw[cS,decide_eq_false (by lia)]))) (a7 (d:=.int (Cb m 0:Nat)) af (c6 _) (cz (gK (aa rfl) (bR (by lia))) e (a9 (d:=.int (Cb m c:Nat)) (aa rfl) (fJ _)))))
theorem pW{m:Nat}:evF cl hJ [.int (m:Nat),.int (-1)]=some (.int 0) :=
 aC rfl rfl (bN (aE (a5 (k:=true) (aa rfl) af rfl)) (a9 af rfl))
theorem yJ{fc m g:Nat}(hm:m<=10)(h1:∀ c:Nat,c<=m->cl fc [.int (m:Nat),.int (c:Nat)]=some (.int (Cb m c:Nat)))(h0:cl fc [.int (m:Nat),.int (-1)]=some (.int 0)):evF cl (mN fc) [.int (m:Nat),.int (g:Nat)]=some (.int (Wy m g:Nat)):=by
 have s1:ev cl [some (.int (m:Nat)),some (.int (g:Nat)),none] (.cmp .lt (.var 1) (.cst (.int 0)))=some (.bl false):=a5 (aa rfl) af (by rw[cS,decide_eq_false (by lia)])
 by_cases c:m<g
 ·rw[ko c]
  exact aC rfl rfl (bN (aE (fQ s1 (uw (a5 (k:=true) (aa rfl) (aa rfl) (by rw[jJ,decide_eq_true (by lia)]))))) (a9 af rfl))
 ·have s2:ev cl [some (.int (m:Nat)),some (.int (g:Nat)),none] (.cmp .gt (.var 1) (.var 0))=some (.bl false):=a5 (aa rfl) (aa rfl) (by rw[jJ,decide_eq_false (by lia)])
  have sb:∀ {σ:St},(σ[0]?).bind id=some (D.int (m:Nat))->(σ[1]?).bind id=some (D.int (g:Nat))->ev cl σ (.bin .sub (.var 0) (.var 1))=some (.int ((m-g:Nat):Int)):=fun a b=>aj (aa a) (aa b) (by rw[br,Int.natCast_sub (by lia)])
  have md:a8 .mod (.int ((m-g:Nat):Int)) (.int 2)=some (.int (((m-g)%2:Nat):Int)):=by rw[dR (by decide)];rfl
  by_cases c2:(m-g)%2=1
  ·have w0:Wy m g=0:=by unfold Wy;rw[if_neg (by lia)]
   rw[w0]
   exact aC rfl rfl (bN (aE (fQ s1 (fQ s2 (a5 (k:=true) (aj (sb rfl rfl) af md) af (by rw[bW,c2];rfl))))) (a9 af rfl))
  ·have s3:ev cl [some (.int (m:Nat)),some (.int (g:Nat)),none] (.cmp .eq (.bin .mod (.bin .sub (.var 0) (.var 1)) (.cst (.int 2))) (.cst (.int 1)))=some (.bl false):=a5 (aj (sb rfl rfl) af md) af (by rw[bW,beq_eq_false_iff_ne.mpr (by lia)])
   have dv:a8 .fdiv (.int ((m-g:Nat):Int)) (.int 2)=some (.int (((m-g) / 2:Nat):Int)):=by rw[gR (by decide) (by decide)];rfl
   have k1:=h1 ((m-g) / 2) (by lia)
   refine aC rfl rfl (bf (aE (fQ s1 (fQ s2 s3))) (a7 (aj (sb rfl rfl) af dv) (c6 _) (a9 (d:=.int (Wy m g:Nat)) ?_ (fJ _))))
   by_cases c3:m=g
   ·have w1:Wy m g=1:=by unfold Wy;rw[if_pos ⟨by lia,by lia⟩,if_pos c3]
    rw[w1]
    have z:(m-g) / 2=0:=by lia
    rw[z]at k1 ⊢
    exact aj (bQ (aa rfl) (aa rfl) k1) (bQ (aa rfl) (aj (aa rfl) af br) h0) rfl
   ·have k2:=h1 ((m-g) / 2-1) (by lia)
    have w1:Wy m g=Cb m ((m-g) / 2)-Cb m ((m-g) / 2-1):=by unfold Wy;rw[if_pos ⟨by lia,by lia⟩,if_neg c3]
    have le:=(nh m hm g (by lia)).2.1 c3
    rw[w1]
    refine aj (bQ (aa rfl) (aa rfl) k1) (bQ (aa rfl) (aj (aa rfl) af (by rw[br,show(((m-g) / 2:Nat):Int)-1=(((m-g) / 2-1:Nat):Int) by lia])) k2) ?_
    rw[br,Int.natCast_sub le]
theorem xp{fc m:Nat}:evF cl (mN fc) [.int (m:Nat),.int (-1)]=some (.int 0) :=
 aC rfl rfl (bN (aE (uw (a5 (k:=true) (aa rfl) af rfl))) (a9 af rfl))
theorem yc{j:Nat}(h:j<=100):eC 2 (.int 0) (.int ((2*j:Nat):Int))=some ((List.range j).map fun i=>.int ((2*i:Nat):Int)):=by
 have hN:b8 2 0 ((2*j:Nat):Int)=j:=by
  unfold b8
  rw[if_pos (by decide)]
  split<;>lia
 have hS:∀ (k a:Nat),bK 2 ((2*a:Nat):Int) k=(List.range' a k).map fun i=>.int ((2*i:Nat):Int):=fun k=>by
  induction k with
  | zero=>intro a;rfl
  |succ k ih=>
   intro a
   rw[bK,show((2*a:Nat):Int)+2=((2*(a+1):Nat):Int) by lia,ih,List.range'_succ,List.map_cons]
 dsimp only[eC]
 rw[hN,if_pos ⟨by decide,by decide,by decide,by unfold most;lia,by decide,by decide,by lia,by lia⟩]
 have:=hS j 0
 rw[List.range_eq_range']
 exact congrArg some this
end
end RM
set_option maxHeartbeats 1000000
namespace RM
open RL RT
theorem jZ{cl:Cl}{σ:St}{f:Nat}{e1 e2 e3 e4:E}{d1 d2 d3 d4 x:D}(h1:ev cl σ e1=some d1)(h2:ev cl σ e2=some d2)(h3:ev cl σ e3=some d3)(h4:ev cl σ e4=some d4)(hc:cl f [d1,d2,d3,d4]=some x):ev cl σ (.call f (.cons e1 (.cons e2 (.cons e3 (.cons e4 .nil)))))=some x:=x_call (aB h1 (aB h2 (aB h3 (aB h4 b9)))) hc
theorem zU{xs ys:List D}(h:0<xs.length)(hl:xs.length+ys.length<=most):a8 .add (.tup xs) (.tup ys)=some (.tup (xs++ys)):=by
 dsimp only[a8]
 rw[if_pos ⟨hl,h⟩]
theorem vk{M:List Nat}{e:E}(xs:List Nat):aU M e (.tup (L xs))=true:=by
 unfold aU
 rw[show(D.tup (L xs)).imm=true from aY xs]
 rfl
theorem kr{M:List Nat}{e:E}(xs:List Nat):aV M e (.tup (L xs))=true:=by
 unfold aV
 rw[show(D.tup (L xs)).imm=true from aY xs]
 rfl
structure Nm(T:List Fn)(hf nf td wy ch:Nat):Prop where
 yL:T[hf]?=some (l9 hf wy td)
 xB:T[nf]?=some (jA nf wy td)
 Hb:T[td]?=some (j9 wy)
 CP:T[wy]?=some (mN ch)
 Er:T[ch]?=some hJ
section
variable{T:List Fn}{hf nf td wy ch:Nat}
theorem Nm.nV(N:Nm T hf nf td wy ch)(n:Nat){m g:Nat}(hm:m<=10):aq T (n+2) wy [.int (m:Nat),.int (g:Nat)]=some (.int (Wy m g:Nat)) :=
 (ao N.CP).trans (yJ hm (fun c hc=>(ao N.Er).trans (se hm hc)) ((ao N.Er).trans pW))
theorem Nm.ahead(N:Nm T hf nf td wy ch)(n:Nat){m g:Nat}(hm:m<=10):aq T (n+2) wy [.int (m:Nat),.int ((g:Nat)-1)]=some (.int (Ah (m+1) g:Nat)):=by
 cases g with
 | zero=>exact(ao N.CP).trans xp
 |succ g=>
  rw[show((g+1:Nat):Int)-1=(g:Nat) by lia]
  exact N.nV n hm
theorem Nm.BS(N:Nm T hf nf td wy ch)(n:Nat){m g w:Nat}(hm:m<=10)(hw:w+2<=m):aq T (n+3) td [.int (m:Nat),.int (g:Nat),.int (w:Nat)]=some (.int (Td m g w:Nat)):=by
 have s0:=lF (m:=w) (g:=0) (by lia)
 refine(ao N.Hb).trans (aC rfl rfl (a9 (aj (bQ (aa rfl) af (N.nV n (m:=w) (g:=0) (by lia))) (bQ (aj (aj (aa rfl) (aa rfl) br) af (by rw[br,show((m:Nat):Int)-(w:Nat)-2=((m-w-2:Nat):Int) by omega])) (aa rfl) (N.nV n (by lia))) ?_) (fJ _)))
 rw[bG (Int.lt_of_lt_of_le (b:=0) (by decide) (by lia)) (Int.lt_of_lt_of_le (b:=1000) (by lia) (by decide)),Td,Int.natCast_mul]
theorem Nm.number(N:Nm T hf nf td wy ch){H:List Nat}{a m g k:Nat}{xs:List Nat}(s:Sg a m g xs k):m<=10->a+m<=H.length->(∀ i,i<m->xs[i]?=some (at' H (a+i)))->∀ n,m+4<=n->aq T n nf [.tup (L H),.int (a:Nat),.int ((a+m:Nat):Int),.int (g:Nat)]=some (.int (k:Nat)):=by
 induction s with
 |nil a=>
  intro _ _ _ n hn
  obtain⟨n,rfl⟩:∃ n',n=n'+1:=⟨n-1,by lia⟩
  exact(ao N.xB).trans (aC rfl rfl (bN (aE (a5 (k:=true) (aa rfl) (aa rfl) (by rw[bW,Nat.add_zero,beq_self_eq_true]))) (a9 af rfl)))
 |@fix a m g k xs s ih=>
  intro hm hl hx n hn
  obtain⟨n,rfl⟩:∃ n',n=n'+1:=⟨n-1,by lia⟩
  have h0:at' H a=a:=by have:=hx 0 (by lia);simp at this;exact this.symm
  have ih:=ih (by lia) (by lia) (fun i hi=>by have:=hx (i+1) (by lia);rw[List.getElem?_cons_succ]at this;rw[this,show a+(i+1)=a+1+i by lia]) n (by lia)
  have ix:ixV (.tup (L H)) (.int (a:Nat))=some (.int (a:Nat)):=by
   show cj _ _=_
   rw[dA,kI,cJ (by lia),h0]
   rfl
  rw[show a+1+m=a+(m+1) by lia]at ih
  refine(ao N.xB).trans (aC rfl rfl (bf (aE (a5 (k:=false) (aa rfl) (aa rfl) (by rw[bW,beq_eq_false_iff_ne.mpr (by lia)]))) (a7 (bp (aa rfl) (aa rfl) ix) (c6 _) (bN (aE (a5 (k:=true) (aa rfl) (aa rfl) (by rw[bW,beq_self_eq_true]))) (a9 (jZ (aa rfl) (aj (aa rfl) af aW) (aa rfl) (aj (aa rfl) af (by rw[br,show((g+1:Nat):Int)-1=(g:Nat) by lia])) ih) (fJ _))))))
 |@tie a j m g k l ys zs s1 s2 ih1 ih2=>
  intro hm hl hx n hn
  obtain⟨n,rfl⟩:∃ n',n=n'+1:=⟨n-1,by lia⟩
  obtain⟨n',hn'⟩:∃ n',n=n'+3:=⟨n-3,by lia⟩
  have len1:=s1.len
  have h0:at' H a=a+2*j+1:=by have:=hx 0 (by lia);simp at this;exact this.symm
  have ix:ixV (.tup (L H)) (.int (a:Nat))=some (.int ((a+2*j+1:Nat):Int)):=by
   show cj _ _=_
   rw[dA,kI,cJ (by lia),h0]
   rfl
  have ih1:=ih1 (by lia) (by lia) (fun i hi=>by
   have:=hx (i+1) (by lia)
   rw[List.getElem?_cons_succ,List.getElem?_append_left (by lia)]at this
   rw[this,show a+(i+1)=a+1+i by lia]) n (by lia)
  have ih2:=ih2 (by lia) (by lia) (fun i hi=>by
   have:=hx (i+2*j+2) (by lia)
   rw[show i+2*j+2=(i+2*j+1)+1 by lia,List.getElem?_cons_succ,List.getElem?_append_right (by lia),show i+2*j+1-ys.length=i+1 by lia,List.getElem?_cons_succ]at this
   rw[this,show a+(i+2*j+1+1)=a+2*j+2+i by lia]) n (by lia)
  rw[show a+1+2*j=a+2*j+1 by lia]at ih1
  rw[show a+2*j+2+m=a+(2*j+m+2) by lia]at ih2
  have aw:=N.ahead (n'+1) (m:=2*j+m+1) (g:=g) (by lia)
  have ww:=N.nV (n'+1) (m:=m) (g:=g) (by lia)
  rw[show n'+1+2=n by lia]at aw ww
  obtain⟨σ',e,o7,rfl⟩:=mj (f:=ah (aq T n) [] (iF nf wy td)) (tg:=[7]) (fun i:Nat=>.int ((2*i:Nat):Int)) (fun _=>rfl)
   (fun u σ=>∃ o7:Option D,σ=[some (.tup (L H)),some (.int (a:Nat)),some (.int ((a+(2*j+m+2):Nat):Int)),some (.int (g:Nat)),some (.int ((a+2*j+1:Nat):Int)),some (.int ((2*j+m+2:Nat):Int)),some (.int ((Ah (2*j+m+2) g+Sm (2*j+m+2) g u.length:Nat):Int)),o7])
   (List.range j) [] [some (.tup (L H)),some (.int (a:Nat)),some (.int ((a+(2*j+m+2):Nat):Int)),some (.int (g:Nat)),some (.int ((a+2*j+1:Nat):Int)),some (.int ((2*j+m+2:Nat):Int)),some (.int ((Ah (2*j+m+2) g+Sm (2*j+m+2) g 0:Nat):Int)),none] (by
    rintro u p v σ hu ⟨o7,rfl⟩
    obtain⟨hk,hp⟩:=cF (g:=id) (by simpa using hu)
    simp only[id]at hp
    subst hp
    have tt:=N.BS n' (m:=2*j+m+2) (g:=g) (w:=2*u.length) (by lia) (by lia)
    rw[<-hn']at tt
    have b1:=ka (cl:=aq T n) (M:=[]) (i:=6) (o:=.add) (r:=.nil) (e:=.call td (.cons (.var 5) (.cons (.var 3) (.cons (.var 7) .nil)))) (σ:=[some (.tup (L H)),some (.int (a:Nat)),some (.int ((a+(2*j+m+2):Nat):Int)),some (.int (g:Nat)),some (.int ((a+2*j+1:Nat):Int)),some (.int ((2*j+m+2:Nat):Int)),some (.int ((Ah (2*j+m+2) g+Sm (2*j+m+2) g u.length:Nat):Int)),some (.int ((2*u.length:Nat):Int))]) rfl (fR (aa rfl) (aa rfl) (aa rfl) tt) aW aG
    refine⟨_,?_,some (.int ((2*u.length:Nat):Int)),rfl⟩
    have bt:∀ w:D,aM [7] (.int ((2*u.length:Nat):Int)) [some (.tup (L H)),some (.int (a:Nat)),some (.int ((a+(2*j+m+2):Nat):Int)),some (.int (g:Nat)),some (.int ((a+2*j+1:Nat):Int)),some (.int ((2*j+m+2:Nat):Int)),some w,o7]=some [some (.tup (L H)),some (.int (a:Nat)),some (.int ((a+(2*j+m+2):Nat):Int)),some (.int (g:Nat)),some (.int ((a+2*j+1:Nat):Int)),some (.int ((2*j+m+2:Nat):Int)),some w,some (.int ((2*u.length:Nat):Int))]:=fun _=>rfl
    rw[bt,Option.bind_some]
    rw[List.length_append,List.length_singleton,show((Ah (2*j+m+2) g+Sm (2*j+m+2) g (u.length+1):Nat):Int)=((Ah (2*j+m+2) g+Sm (2*j+m+2) g u.length:Nat):Int)+((Td (2*j+m+2) g (2*u.length):Nat):Int) by rw[Sm];lia]
    exact b1) ⟨none,rfl⟩
  rw[List.nil_append,List.length_range]at e
  have kb:k<1000:=Nat.lt_trans (s1.bound (by lia)) (lF (by lia))
  have mu:a8 .mul (.int (k:Nat)) (.int (Wy m g:Nat))=some (.int ((k*Wy m g:Nat):Int)):=by
   rw[bG (Int.lt_of_lt_of_le (b:=0) (by decide) (by lia)) (Int.lt_of_lt_of_le (b:=1000) (by lia) (by decide)),Int.natCast_mul]
  refine(ao N.xB).trans (aC rfl rfl (bf (aE (a5 (k:=false) (aa rfl) (aa rfl) (by rw[bW,beq_eq_false_iff_ne.mpr (by lia)]))) (a7 (bp (aa rfl) (aa rfl) ix) (c6 _) (bf (aE (a5 (k:=false) (aa rfl) (aa rfl) (by rw[bW,beq_eq_false_iff_ne.mpr (by lia)])))
   (a7 (d:=.int ((2*j+m+2:Nat):Int)) (aj (aa rfl) (aa rfl) (by rw[br,show((a+(2*j+m+2):Nat):Int)-(a:Nat)=((2*j+m+2:Nat):Int) by lia])) (c6 _)
   (a7 (d:=.int ((Ah (2*j+m+2) g+Sm (2*j+m+2) g 0:Nat):Int)) (bQ (aj (aa rfl) af (by rw[br,show((2*j+m+2:Nat):Int)-1=((2*j+m+1:Nat):Int) by lia])) (aj (aa rfl) af br) aw) (c6 _)
   (cz (vw af (aj (aj (aa rfl) (aa rfl) br) af (by rw[br,show((a+2*j+1:Nat):Int)-(a:Nat)-1=((2*j:Nat):Int) by lia])) (yc (by lia))) e
   (ka rfl (aj (jZ (aa rfl) (aj (aa rfl) af aW) (aa rfl) af ih1) (bQ (aj (aj (aa rfl) (aa rfl) br) af (by rw[br,show((a+(2*j+m+2):Nat):Int)-((a+2*j+1:Nat):Int)-1=((m:Nat):Int) by lia])) (aa rfl) ww) mu) aW
   (a9 (aj (aa rfl) (jZ (aa rfl) (aj (aa rfl) af aW) (aa rfl) (aa rfl) ih2) (by rw[aW];rfl)) (fJ _))))))))))
end
end RM
set_option maxHeartbeats 1000000
namespace RM
open RL RT
section
variable{T:List Fn}{hf nf td wy ch:Nat}
theorem Nm.half(N:Nm T hf nf td wy ch){a m g k:Nat}{xs:List Nat}(s:Sg a m g xs k):m<=10->∀ n,m+4<=n->aq T n hf [.int (a:Nat),.int (m:Nat),.int (g:Nat),.int (k:Nat)]=some (.tup (L xs)):=by
 induction s with
 |nil a=>
  intro _ n hn
  obtain⟨n,rfl⟩:∃ n',n=n'+1:=⟨n-1,by lia⟩
  exact(ao N.yL).trans (aC rfl rfl (bN (aE (a5 (k:=true) (aa rfl) af rfl)) (a9 (gU b9) rfl)))
 |@fix a m g k xs s ih=>
  intro hm n hn
  obtain⟨n,rfl⟩:∃ n',n=n'+1:=⟨n-1,by lia⟩
  obtain⟨n',hn'⟩:∃ n',n=n'+2:=⟨n-2,by lia⟩
  have ih:=ih (by lia) n (by lia)
  have bd:=s.bound (by lia)
  have aw:=N.ahead n' (m:=m) (g:=g+1) (by lia)
  rw[<-hn',Ah]at aw
  have sl:=s.len
  refine(ao N.yL).trans (aC rfl rfl (bf (aE (a5 (k:=false) (aa rfl) af (by rw[bW,beq_eq_false_iff_ne.mpr (by lia)]))) (a7 (d:=.int (Wy m g:Nat)) (bQ (aj (aa rfl) af (by rw[br,show((m+1:Nat):Int)-1=((m:Nat):Int) by lia])) (aj (aa rfl) af br) aw) (c6 _)
   (bN (aE (a5 (k:=true) (aa rfl) (aa rfl) (by rw[cS,decide_eq_true (by lia)]))) (a9 (aj (gU (aB (aa rfl) b9)) (jZ (aj (aa rfl) af aW) (aj (aa rfl) af (by rw[br,show((m+1:Nat):Int)-1=((m:Nat):Int) by lia])) (aj (aa rfl) af (by rw[br,show((g+1:Nat):Int)-1=((g:Nat):Int) by lia])) (aa rfl) ih) (zU Nat.one_pos (by rw[aL,sl];show 1+m<=most;unfold most;lia))) (kr (a::xs)))))))
 |@tie a j m g k l ys zs s1 s2 ih1 ih2=>
  intro hm n hn
  obtain⟨n,rfl⟩:∃ n',n=n'+1:=⟨n-1,by lia⟩
  obtain⟨n',hn'⟩:∃ n',n=n'+3:=⟨n-3,by lia⟩
  have ih1:=ih1 (by lia) n (by lia)
  have ih2:=ih2 (by lia) n (by lia)
  have len1:=s1.len
  have len2:=s2.len
  have b1:=s1.bound (by lia)
  have b2:=s2.bound (by lia)
  have aw:=N.ahead (n'+1) (m:=2*j+m+1) (g:=g) (by lia)
  have ww:=N.nV (n'+1) (m:=m) (g:=g) (by lia)
  rw[show n'+1+2=n by lia]at aw ww
  have tt:∀ i,i<=j->aq T n td [.int ((2*j+m+2:Nat):Int),.int (g:Nat),.int ((2*i:Nat):Int)]=some (.int (Td (2*j+m+2) g (2*i):Nat)):=fun i hi=>by
   have:=N.BS n' (m:=2*j+m+2) (g:=g) (w:=2*i) (by lia) (by lia)
   rw[<-hn']at this
   exact this
  have tj:Td (2*j+m+2) g (2*j)=Wy (2*j) 0*Wy m g:=by
   unfold Td
   rw[show 2*j+m+2-2*j-2=m by lia]
  have kl:k*Wy m g+l<Wy (2*j) 0*Wy m g:=by
   have:k*Wy m g+Wy m g<=Wy (2*j) 0*Wy m g:=by
    rw[<-Nat.succ_mul]
    exact Nat.mul_le_mul_right _ b1
   lia
  generalize hA:Ah (2*j+m+2) g=A at aw ⊢
  have wh:∀ d i,i+d=j->∀ n2,whF (fun σ=>(ev (aq T n) σ (.cmp .ge (.var 3) (.bin .add (.var 4) (.call td (.cons (.var 1) (.cons (.var 2) (.cons (.var 5) .nil))))))).bind truth) (ah (aq T n) [] (gy hf wy td)) (n2+d+1)
    [some (.int (a:Nat)),some (.int ((2*j+m+2:Nat):Int)),some (.int (g:Nat)),some (.int ((A+Sm (2*j+m+2) g j+k*Wy m g+l:Nat):Int)),some (.int ((A+Sm (2*j+m+2) g i:Nat):Int)),some (.int ((2*i:Nat):Int)),none,none,none,none,none] =
    some (.nx,[some (.int (a:Nat)),some (.int ((2*j+m+2:Nat):Int)),some (.int (g:Nat)),some (.int ((A+Sm (2*j+m+2) g j+k*Wy m g+l:Nat):Int)),some (.int ((A+Sm (2*j+m+2) g j:Nat):Int)),some (.int ((2*j:Nat):Int)),none,none,none,none,none]):=by
   intro d
   induction d with
   |zero=>
    intro i hi n2
    obtain rfl:i=j:=by lia
    have te:=aE (a5 (cl:=aq T n) (k:=false) (aa (i:=3) (σ:=[some (.int (a:Nat)),some (.int ((2*i+m+2:Nat):Int)),some (.int (g:Nat)),some (.int ((A+Sm (2*i+m+2) g i+k*Wy m g+l:Nat):Int)),some (.int ((A+Sm (2*i+m+2) g i:Nat):Int)),some (.int ((2*i:Nat):Int)),none,none,none,none,none]) rfl) (aj (aa (i:=4) rfl) (fR (aa (i:=1) rfl) (aa (i:=2) rfl) (aa (i:=5) rfl) (tt i (Nat.le_refl _))) aW) (by rw[jN,tj,decide_eq_false (by lia)]))
    rw[whF,te]
    rfl
   |succ d ihd=>
    intro i hi n2
    have mo:=sG (2*j+m+2) g (i:=i+1) (j:=j) (by lia)
    have sm:Sm (2*j+m+2) g (i+1)=Sm (2*j+m+2) g i+Td (2*j+m+2) g (2*i):=by rw[Sm]
    have te:=aE (a5 (cl:=aq T n) (k:=true) (aa (i:=3) (σ:=[some (.int (a:Nat)),some (.int ((2*j+m+2:Nat):Int)),some (.int (g:Nat)),some (.int ((A+Sm (2*j+m+2) g j+k*Wy m g+l:Nat):Int)),some (.int ((A+Sm (2*j+m+2) g i:Nat):Int)),some (.int ((2*i:Nat):Int)),none,none,none,none,none]) rfl) (aj (aa (i:=4) rfl) (fR (aa (i:=1) rfl) (aa (i:=2) rfl) (aa (i:=5) rfl) (tt i (by lia))) aW) (by rw[jN,decide_eq_true (by lia)]))
    have bd:=ka (cl:=aq T n) (M:=[]) (i:=4) (o:=.add) (r:=.cons (.aug 5 .add (.cst (.int 2))) .nil) (e:=.call td (.cons (.var 1) (.cons (.var 2) (.cons (.var 5) .nil)))) (σ:=[some (.int (a:Nat)),some (.int ((2*j+m+2:Nat):Int)),some (.int (g:Nat)),some (.int ((A+Sm (2*j+m+2) g j+k*Wy m g+l:Nat):Int)),some (.int ((A+Sm (2*j+m+2) g i:Nat):Int)),some (.int ((2*i:Nat):Int)),none,none,none,none,none]) rfl (fR (aa rfl) (aa rfl) (aa rfl) (tt i (by lia))) aW (ka (i:=5) rfl af aW aG)
    rw[show((A+Sm (2*j+m+2) g i:Nat):Int)+((Td (2*j+m+2) g (2*i):Nat):Int)=((A+Sm (2*j+m+2) g (i+1):Nat):Int) by rw[sm];lia,show((2*i:Nat):Int)+2=((2*(i+1):Nat):Int) by lia]at bd
    have:=ihd (i+1) (by lia) n2
    rw[show n2+(d+1)+1=n2+d+1+1 by lia,whF,te,Option.bind_some,if_pos rfl,show ah (aq T n) [] (gy hf wy td) _=_ from bd,Option.bind_some]
    exact this
  have wh:=wh j 0 (by lia) (most-j-1)
  rw[show most-j-1+j+1=most by unfold most;lia]at wh
  have wp:0<Wy m g:=by lia
  have ws:=lF (m:=m) (g:=g) (by lia)
  have df:((A+Sm (2*j+m+2) g j+k*Wy m g+l:Nat):Int)-((A+Sm (2*j+m+2) g j:Nat):Int)=((k*Wy m g+l:Nat):Int):=by lia
  have dv:((k*Wy m g+l:Nat):Int) / ((Wy m g:Nat):Int)=(k:Nat):=by
   rw[<-Int.natCast_ediv,Nat.mul_comm,Nat.mul_add_div wp,Nat.div_eq_of_lt b2,Nat.add_zero]
  have dm:((k*Wy m g+l:Nat):Int)%((Wy m g:Nat):Int)=(l:Nat):=by
   rw[<-Int.natCast_emod,Nat.mul_comm,Nat.mul_add_mod,Nat.mod_eq_of_lt b2]
  have tp:∀ (xs ys:List Nat),xs.length+ys.length<=100->0<xs.length->a8 .add (.tup (L xs)) (.tup (L ys))=some (.tup (L (xs++ys))):=fun xs ys h1 h2=>by
   rw[zU (by rw[aL];exact h2) (by rw[aL,aL];unfold most;lia),cD]
  refine(ao N.yL).trans (aC rfl rfl (bf (aE (a5 (k:=false) (aa rfl) af (by rw[bW,beq_eq_false_iff_ne.mpr (by lia)]))) (a7 (d:=.int ((A+Sm (2*j+m+2) g 0:Nat):Int)) (bQ (aj (aa rfl) af (by rw[br,show((2*j+m+2:Nat):Int)-1=((2*j+m+1:Nat):Int) by lia])) (aj (aa rfl) af br) (by rw[aw];rfl)) (c6 _)
   (bf (aE (a5 (k:=false) (aa rfl) (aa rfl) (by rw[cS,decide_eq_false (by rw[Sm];lia)]))) (a7 (d:=.int ((2*0:Nat):Int)) af (c6 _) (uZ wh
   (a7 (d:=.int ((a+2*j+1:Nat):Int)) (aj (aj (aa rfl) (aa rfl) aW) af aW) (c6 _) (a7 (d:=.int (m:Nat)) (aj (aj (aa rfl) (aa rfl) br) af (by rw[br,show((2*j+m+2:Nat):Int)-((2*j:Nat):Int)-2=((m:Nat):Int) by lia])) (c6 _)
   (vZ (Fx (aj (aa rfl) (aa rfl) (by rw[br,df])) (bQ (aa rfl) (aa rfl) ww) (by lia) (by lia)) rfl rfl (by rw[dv,dm];rfl)
   (a7 (jZ (aj (aa rfl) af aW) (aa rfl) af (aa rfl) ih1) (vk ys) (a9 (aj (aj (aj (x:=.tup (L [a+2*j+1])) (gU (aB (aa rfl) b9)) (aa rfl) (tp [a+2*j+1] ys (by simp;lia) (by simp))) (y:=.tup (L [a])) (gU (aB (aa rfl) b9)) (tp ([a+2*j+1]++ys) [a] (by simp;lia) (by simp))) (jZ (aj (aa rfl) af aW) (aa rfl) (aa rfl) (aa rfl) ih2) ((tp ([a+2*j+1]++ys++[a]) zs (by simp;lia) (by simp)).trans (by rw[show [a+2*j+1]++ys++[a]++zs=(a+2*j+1)::(ys++a::zs) by simp]))) (kr _))))))))))))
end
end RM
set_option maxHeartbeats 1000000
namespace RM
open RL RT
section
variable{cl:Cl}{n:Nat}{f h:List Nat}
theorem j8(hn:n<=10)(F:Frm n f):evF cl fB [.tup (L f)]=some (.tup (L (upL n f))):=by
 have ln:=half (xs:=L f) (n:=n) (by rw[aL,F.len])
 have mc:=iP (F:=fun σ1=>(ev cl σ1 (.ix (.lst (.cons (.ix (.var 0) (.var 2)) (.cons (.var 2) .nil))) (.bi .int (.cmp .ge (.ix (.var 0) (.var 2)) (.var 1))))).map some) (tg:=[2]) (σ:=[some (.tup (L f)),some (.int (n:Nat)),none]) (h:=fun p=>.int (p:Nat)) (g:=fun p=>.int (up n f p:Nat)) (fun _=>rfl) (List.range n) (by
  intro p hp
  have hp:=List.mem_range.mp hp
  have ix:ixV (.tup (L f)) (.int (p:Nat))=some (.int (at' f p:Nat)):=eD (by rw[F.len];lia)
  show(ev cl [some (.tup (L f)),some (.int (n:Nat)),some (.int (p:Nat))] (.ix (.lst (.cons (.ix (.var 0) (.var 2)) (.cons (.var 2) .nil))) (.bi .int (.cmp .ge (.ix (.var 0) (.var 2)) (.var 1))))).map some=_
  unfold up
  by_cases c:at' f p<n
  ·rw[if_pos c,bp (de (aB (bp (aa rfl) (aa rfl) ix) (aB (aa rfl) b9))) (bo (a5 (k:=false) (bp (aa rfl) (aa rfl) ix) (aa rfl) (by rw[jN,decide_eq_false (by lia)])) rfl) (show ixV (.lst [.int (at' f p:Nat),.int (p:Nat)]) (.int 0)=some (.int (at' f p:Nat))from rfl)]
   rfl
  ·rw[if_neg c,bp (de (aB (bp (aa rfl) (aa rfl) ix) (aB (aa rfl) b9))) (bo (a5 (k:=true) (bp (aa rfl) (aa rfl) ix) (aa rfl) (by rw[jN,decide_eq_true (by lia)])) rfl) (show ixV (.lst [.int (at' f p:Nat),.int (p:Nat)]) (.int 1)=some (.int (p:Nat))from rfl)]
   rfl)
 refine aC rfl rfl (a7 (d:=.int (n:Nat)) (aj (bo (aa rfl) ln) af (by rw[gR (by decide) (by decide),show(2*(n:Int)) / 2=(n:Nat) by lia])) (c6 _) (a9 (d:=.tup (L (upL n f))) (bo (dE (gK (aa rfl) (bR (by lia))) (by rw[aL,List.length_range];unfold most;lia) mc) ?_) (kr _)))
 unfold upL L
 rw[List.map_map]
 rfl
end
theorem CW{cl:Cl}{σ:St}{e:E}{xs:List D}(h:ev cl σ e=some (.tup xs)):ev cl σ (.rev e)=some (.tup xs.reverse):=by rw[ev,h];rfl
structure Hm(T:List Fn)(nu pc pa nb un hf nf td wy ch cn ih chf go to hmh ho hnm:Nat)(cp:Nat):Prop extends Nm T hf nf td wy ch where
 G7:T[cn]?=some (iu nu)
 Ga:T[ih]?=some (kq un pa pc)
 FA:T[chf]?=some (jW ih)
 Gi:T[go]?=some nv
 GW:T[to]?=some (jP go chf)
 Fu:T[hmh]?=some (fS nu wy cp)
 G5:T[ho]?=some (p7 hf cn hmh)
 FO:T[hnm]?=some (jC nf to)
section
variable{T:List Fn}{nu pc pa nb un if' cf po rp ir mv hf nf td wy ch cn ih chf go to hmh ho hnm cp n:Nat}{h:List Nat}
theorem Hm.isH(M:Hm T nu pc pa nb un hf nf td wy ch cn ih chf go to hmh ho hnm cp)(C:Ck T nu pc pa nb un if' cf po rp ir mv)(m:Nat)(h1:1<=n)(hn:n<=10)(H:Hf n h):aq T (m+4) ih [.tup (L h)]=some (.bl true):=by
 have p:=(ao (n:=m+2) C.DQ).trans (l7 (xs:=h.map Int.ofNat) (by rw[List.length_map,H.len];lia) fun q hq=>(ao C.DV).trans (wL (C.num m) hq))
 rw[uc H,<-CV]at p
 obtain⟨b,e,_,hb⟩:=sC (cl:=aq T (m+2)) (m:=n) (by lia) H.len H.inv H.lt
 rw[hb H.nx]at e
 exact(ao M.Ga).trans (rV h1 hn H (C.xU (m+1)) p ((ao C.CD).trans e))
theorem Hm.thr(M:Hm T nu pc pa nb un hf nf td wy ch cn ih chf go to hmh ho hnm cp)(C:Ck T nu pc pa nb un if' cf po rp ir mv)(m:Nat)(h1:1<=n)(hn:n<=10)(H:Hf n h):aq T (m+6) to [.tup (L h)]=some (.int ((fx n h).length:Nat)) :=
 (ao M.GW).trans (aC rfl rfl (gx (bj (aa rfl) ((ao M.FA).trans (pV rfl rfl (bf (aE (dM (bj (aa rfl) (M.isH C m h1 hn H)))) aG)))) (a9 (bo (bj (aa rfl) ((ao M.Gi).trans (wW hn H.len))) (show biV .len (.lst (L (fx n h)))=some (.int ((fx n h).length:Nat)) by show some (D.int ((L (fx n h)).length:Nat))=_;rw[aL])) (fJ _))))
theorem Hm.number(M:Hm T nu pc pa nb un hf nf td wy ch cn ih chf go to hmh ho hnm cp)(C:Ck T nu pc pa nb un if' cf po rp ir mv)(m:Nat)(h1:1<=n)(hn:n<=10)(H:Hf n h){k:Nat}(s:Sg 0 n (fx n h).length h k):aq T (m+15) hnm [.tup (L h)]=some (.int (k:Nat)):=by
 have e:=M.toNm.number (H:=h) s hn (by rw[H.len];lia) (fun i hi=>by rw[cJ (by rw[H.len];exact hi),Nat.zero_add]) (m+14) (by lia)
 rw[Nat.zero_add]at e
 exact(ao M.FO).trans (aC rfl rfl (a9 (jZ (aa rfl) af (bo (aa rfl) (show biV .len (.tup (L h))=some (.int (n:Nat)) by show some (D.int ((L h).length:Nat))=_;rw[aL,H.len])) (bj (aa rfl) (M.thr C (m+8) h1 hn H)) e) (fJ _)))
theorem Hm.of(M:Hm T nu pc pa nb un hf nf td wy ch cn ih chf go to hmh ho hnm cp)(C:Ck T nu pc pa nb un if' cf po rp ir mv)(hcp:T[cp]?=some (bV pc))(m:Nat)(h1:1<=n)(hn:n<=10){g k:Nat}{xs:List Nat}(s:Sg 0 n g xs k):aq T (m+15) ho [.int (n:Nat),.int (g:Nat),.int (k:Nat)]=some (.tup (L xs)):=by
 have b:=s.bound hn
 have hm:aq T (m+14) hmh [.int (n:Nat),.int (g:Nat)]=some (.int (Wy n g:Nat)) :=
  (ao M.Fu).trans (aC rfl rfl (gx (bj (aa rfl) (C.zy hcp (m+10) h1 hn)) (a9 (jf (k:=true) (aE (bj (aa rfl) (C.num (m+12) _))) (bQ (aa rfl) (aa rfl) (M.toNm.nV (m+11) hn))) (fJ _))))
 have hc:aq T (m+14) cn [.int (k:Nat),.int (Wy n g:Nat)]=some .non :=
  (ao M.G7).trans (pV rfl rfl (bf (aE (fQ (dM (bj (aa rfl) (C.num (m+12) _))) (dM (oq (k:=true) af (aa rfl) (aa rfl) (by rw[ur,decide_eq_true (by lia)]) (by rw[cS,decide_eq_true (by lia)]))))) aG))
 exact(ao M.G5).trans (aC rfl rfl (gx (bQ (aa rfl) (bQ (aa rfl) (aa rfl) hm) hc) (a9 (jZ af (aa rfl) (aa rfl) (aa rfl) (M.toNm.half s hn (m+14) (by lia))) (kr _))))
end
end RM
set_option maxHeartbeats 1000000
namespace RM
open RL RT
end RM
set_option maxHeartbeats 1000000
namespace K39
open RL RT
noncomputable def Cy(f_itself f_hung f_over f_law_same f_law_hung f_family f_half_of f_law_upper f_law_lower f_law_frame f_law_digits:Nat):Ss :=
 (.cons (.asg 2 (.bin .add (.cst (.int 1)) (.ix (.call f_law_digits (.cons (.var 0) (.cons (.bin .add (.cst (.int 40)) (.var 1)) (.cons (.lst (.cons (.cst (.int 10)) .nil)) .nil)))) (.cst (.int 0))))) (.cons (.asg 3 (.call f_law_frame (.cons (.var 0) (.cons (.var 1) (.cons (.var 2) .nil))))) (.cons (.asg 4 (.call f_family (.cons (.var 3) .nil))) (.cons (.asg 5 (.bi .len (.comp (.var 7) [7] (.seq (.slT (.var 3) (.var 2))) (.cmp .ge (.var 7) (.var 2))))) (.cons (.ife (.or (.not (.isi (.var 4) .tuple)) (.cmp .ne (.bi .len (.var 4)) (.cst (.int 2)))) (.cons (.ret (.cst (.bl false))) .nil) .nil) (.cons (.ife (.cmp .ne (.compA (.call f_half_of (.cons (.var 2) (.cons (.var 5) (.cons (.var 8) .nil)))) [8] (.seq (.var 4))) (.lst (.cons (.call f_law_upper (.cons (.var 3) .nil)) (.cons (.call f_law_lower (.cons (.var 3) .nil)) .nil)))) (.cons (.ret (.cst (.bl false))) .nil) .nil) (.cons (.ife (.cmp .ne (.call f_family (.cons (.call f_over (.cons (.var 3) .nil)) .nil)) (.rev (.var 4))) (.cons (.ret (.cst (.bl false))) .nil) .nil) (.cons (.ife (.not (.call f_law_same (.cons (.call f_itself (.cons (.var 3) .nil)) (.cons (.cmp .eq (.ix (.call f_law_hung (.cons (.var 3) (.cons (.var 3) .nil))) (.cst (.int 0))) (.var 3)) .nil)))) (.cons (.ret (.cst (.bl false))) .nil) .nil) (.cons (.asg 6 (.call f_hung (.cons (.var 3) (.cons (.ix (.call f_hung (.cons (.call f_over (.cons (.var 3) .nil)) (.cons (.var 3) .nil))) (.cst (.int 0))) .nil)))) (.cons (.ife (.or (.cmp .ne (.ix (.var 6) (.cst (.int 0))) (.var 3)) (.not (.call f_itself (.cons (.ix (.call f_hung (.cons (.var 3) (.cons (.call f_over (.cons (.var 3) .nil)) .nil))) (.cst (.int 0))) .nil)))) (.cons (.ret (.cst (.bl false))) .nil) .nil) .nil))))))))))
noncomputable def zM(f_itself f_hung f_over f_law_same f_law_hung f_family f_half_of f_law_upper f_law_lower f_law_frame f_law_digits:Nat):Fn :=
 ⟨1,9,[],[],(.cons (.asg 0 (.slT (.var 0) (.cst (.int 63)))) (.cons (.forr [1] (.rng1 (.cst (.int 8))) (Cy f_itself f_hung f_over f_law_same f_law_hung f_family f_half_of f_law_upper f_law_lower f_law_frame f_law_digits)) (.cons (.ret (.cst (.bl true))) .nil)))⟩
noncomputable def T:List Fn:=[ib,dB 0,bV 1,gE 4,gI 0,eW,pL,ju 8 6,qH,gd 5 16 3 1 12,dQ 9,fL 10,jH,gm 2,jX 17 13 12 10,cW,fU 17 15 12,kT,kq 5 3 1,jW 18,kN 12 10,tf 20 14,jP 23 19,nv,wj 25 11,hX 7 6 26 12,dY,fS 0 33 2,p7 30 35 27,jC 31 22,l9 30 33 32,jA 31 33 32,j9 33,mN 34,hJ,iu 0,qR 29 20 21,qU 24,jU,ky 38,eA 39,dJ,fX 41,eP,eg 43,jg,eS,gf 46,gg,il 47 48 44 45 42 41 40,fB,lr 50 48,gb 52,zM 37 24 14 52 47 36 28 50 51 49 40]
open RM
theorem F9{α:Type}:∀ {os:List α},os.length=7->∃ a b c d e f g,os=[a,b,c,d,e,f,g]
 | [a,b,c,d,e,f,g],_=>⟨a,b,c,d,e,f,g,rfl⟩
theorem Fq{ds:List Nat}{a:Nat}(h:jI ds [a]):∃ x,ds=[x]/\x<a:=by
 obtain⟨h1,h2⟩:=h
 match ds,h1 with
 | [x],_=>exact⟨x,rfl,h2 0 x a rfl rfl⟩
theorem ck:Ck T 0 1 3 4 5 9 10 12 15 16 17:=⟨rfl,rfl,rfl,rfl,rfl,rfl,rfl,rfl,rfl,rfl,rfl⟩
theorem dr:Dr T 38 39 40 41 42 43 44 45 46 47 48 49:=⟨⟨rfl,rfl,rfl⟩,rfl,rfl,rfl,rfl,rfl,rfl,rfl,rfl,rfl⟩
theorem hg:Hg T 10 12 6 8 7 26 25 11 24:=⟨rfl,rfl,rfl,rfl,rfl,rfl,rfl⟩
theorem hm:Hm T 0 1 3 4 5 30 31 32 33 34 35 18 19 23 22 27 28 29 2:=⟨⟨rfl,rfl,rfl,rfl,rfl⟩,rfl,rfl,rfl,rfl,rfl,rfl,rfl,rfl⟩
section
variable{n:Nat}{f g h:List Nat}
theorem count(hn:n<=10)(h1:1<=n)(F:Frm n f){σ:St}{i:Nat}(hi:(σ[i]?).bind id=some (.tup (L f)))(h2:(σ[2]?).bind id=some (.int (n:Nat)))(h8:∀ x,((σ.set 7 x)[2]?).bind id=some (.int (n:Nat)))(h9:∀ x:D,((σ.set 7 (some x))[7]?).bind id=some x):ev (aq T 29) σ (.bi .len (.comp (.var 7) [7] (.seq (.slT (.var i) (.var 2))) (.cmp .ge (.var 7) (.var 2))))=some (.int (thr n f:Nat)):=by
 have sl:nG (.tup (L f)) (.int (n:Nat))=some (.tup (L (f.take n))):=by
  have c:cutAt (L f).length (n:Nat)=n:=by
   unfold cutAt
   rw[if_pos (by lia),Int.toNat_natCast,aL,F.len]
   lia
  show(if cutAt (L f).length (n:Nat)<(L f).length then some (D.tup ((L f).take (cutAt (L f).length (n:Nat))))else none)=_
  rw[c,if_pos (by rw[aL,F.len];lia),vX]
 have mc:=m4 (F:=fun σ1=>((ev (aq T 29) σ1 (.cmp .ge (.var 7) (.var 2))).bind truth).bind fun k=>if k then(ev (aq T 29) σ1 (.var 7)).map some else some none) (tg:=[7]) (σ:=σ) (h:=fun x=>.int (x:Nat)) (g:=fun x=>.int (x:Nat)) (c:=fun x=>decide (n<=x)) (fun _=>rfl) (f.take n) (by
  intro x _
  show((ev (aq T 29) (σ.set 7 (some (.int (x:Nat)))) (.cmp .ge (.var 7) (.var 2))).bind truth).bind (fun k=>if k then(ev (aq T 29) (σ.set 7 (some (.int (x:Nat)))) (.var 7)).map some else some none)=_
  have q:bc .ge (.int (x:Nat)) (.int (n:Nat))=some (decide (n<=x)):=by
   rw[jN]
   congr 1
   apply decide_eq_decide.mpr
   omega
  rw[aE (a5 (aa (h9 _)) (aa (h8 _)) q),Option.bind_some,aa (h9 _)]
  split<;>rfl)
 have ln:biV .len (.lst (((f.take n).filter fun x=>decide (n<=x)).map fun x=>D.int (x:Nat)))=some (.int (thr n f:Nat)):=by
  show some (D.int (List.length _:Nat))=_
  rw[List.length_map,sH F,List.filter_map,List.length_map]
  rfl
 have lm:(L (f.take n)).length<=most:=by rw[aL,List.length_take];unfold most;lia
 exact bo (w4 (dC (ux (aa hi) (aa h2) sl) rfl) lm mc) ln
theorem Et(V:Val n f):(fx n (upL n f)).length=thr n f:=by
 rcases Cv (n:=n) (f:=f)with h | h
 ·exact h
 ·exact absurd V.frm h
theorem sF(h1:1<=n)(hn:n<=10)(V:Val n f):aq T 29 37 [.tup (L f)]=some (.bl (decide (az n f f=f))):=by
 obtain⟨S,_,e⟩:=hg.lP ck 21 h1 hn V V
 exact(ao (fn:=qU 24) rfl).trans (aC rfl rfl (a9 (a5 (bp (bQ (aa rfl) (aa rfl) e) af rfl) (aa rfl) (uh (by rw[cK,V.frm.len]))) rfl))
theorem fam(h1:1<=n)(hn:n<=10)(V:Val n f){a b:Nat}(sa:Sg 0 n (fx n (upL n f)).length (upL n f) a)(sb:Sg 0 n (fx n (upL n (bI n (ovr n) (ovr n) f))).length (upL n (bI n (ovr n) (ovr n) f)) b):aq T 29 36 [.tup (L f)]=some (.tup [.int (a:Nat),.int (b:Nat)]) :=
 (ao (fn:=qR 29 20 21) rfl).trans (aC rfl rfl (a9 (gU (aB (bj (bj (aa rfl) (ck.upper (up':=20) rfl 22 h1 hn V)) (hm.number ck 13 h1 hn (kG V) sa)) (aB (bj (bj (aa rfl) (ck.lower (up':=20) (cp:=2) (pl:=13) (ov:=14) (lw:=21) rfl rfl rfl rfl rfl 21 h1 hn V)) (hm.number ck 13 h1 hn (kG ((c7 n).val V)) sb)) b9))) rfl))
theorem CB(a b:List Nat):bc .ne (.lst [.tup (L a),.tup (L b)]) (.lst [.tup (L a),.tup (L b)])=some false:=by
 have e:∀ (k:Nat) (x:List Nat),eqD (k+1) (.tup (L x)) (.tup (L x))=some true:=fun k x=>by
  rw[eqD,mw k x x rfl,Option.map_some,decide_eq_true rfl,beq_self_eq_true]
  rfl
 show(eqD 8 _ _).map not=_
 rw[eqD,eqs,e 6 a,Option.bind_some,eqs,e 6 b]
 rfl
theorem Fl(a b:Nat):bc .ne (.tup [.int (a:Nat),.int (b:Nat)]) (.tup [.int (a:Nat),.int (b:Nat)])=some false:=by
 have:=mw 7 [a,b] [a,b] rfl
 show(eqD 8 (.tup (L [a,b])) (.tup (L [a,b]))).map not=_
 rw[eqD,this,Option.map_some,decide_eq_true rfl,beq_self_eq_true]
 rfl
theorem main(ns:List Int)(hl:ns.length<=63):aq T 30 53 [.scr (ns.map D.int)]=some (.bl true):=by
 refine(ao (fn:=zM 37 24 14 52 47 36 28 50 51 49 40) rfl).trans (yh (m:=7) (N:=8) hl (by decide) fun k os hk ho=>?_)
 obtain⟨o2,o3,o4,o5,o6,o7,o8,rfl⟩:=F9 ho
 obtain⟨ds,hd,e1⟩:=dr.digits hl 26 (k:=40+k) (sizes:=[10]) (by lia) (by simp) (by simp)
 obtain⟨p,rfl,hp⟩:=Fq hd
 have n1:1<=1+p:=by lia
 have n2:1+p<=10:=by lia
 obtain⟨f,V,e2⟩:=dr.Dk hl 25 (k:=k) (m:=1+p) (by lia) n1 n2
 have e0:a8 .add (.int 1) (.int (p:Nat))=some (.int ((1+p:Nat):Int)):=rfl
 generalize 1+p=n at *
 have V':=(c7 n).val V
 obtain⟨a,sa⟩:=rm (kG V)
 obtain⟨b,sb⟩:=rm (kG V')
 have fm:=fam n1 n2 V sa sb
 have fo:=fam n1 n2 V' sb (by rw[FK V.frm];exact sa)
 have ov:=ck.over (cp:=2) (pl:=13) (ov:=14) rfl rfl rfl 23 n1 n2 V
 rw[Et V]at sa
 rw[Et V',zd V.frm]at sb
 have up1:aq T 29 50 [.tup (L f)]=some (.tup (L (upL n f))):=(ao (fn:=fB) rfl).trans (j8 n2 V.frm)
 have lo1:aq T 29 51 [.tup (L f)]=some (.tup (L (upL n (bI n (ovr n) (ovr n) f)))):=by
  refine(ao (fn:=lr 50 48) rfl).trans (aC rfl rfl (a9 (bj (bj (aa rfl) (dr.over 27 n1 n2 V.frm.len)) ((ao (fn:=fB) rfl).trans ?_)) (kr _)))
  rw[lY V.frm]
  exact j8 n2 V'.frm
 have mc:=iP (F:=fun σ1=>(ev (aq T 29) σ1 (.call 28 (.cons (.var 2) (.cons (.var 5) (.cons (.var 8) .nil))))).map some) (tg:=[8]) (σ:=[some (.lst (LI ns)),some (.int (k:Nat)),some (.int (n:Nat)),some (.tup (L f)),some (.tup [.int (a:Nat),.int (b:Nat)]),some (.int (thr n f:Nat)),o6,o7,o8]) (h:=fun x:Nat × List Nat=>.int (x.1:Nat)) (g:=fun x=>.tup (L x.2)) (fun x=>aY x.2) [(a,upL n f),(b,upL n (bI n (ovr n) (ovr n) f))] (by
  intro x hx
  have S:Sg 0 n (thr n f) x.2 x.1:=by
   simp only[List.mem_cons,List.not_mem_nil,or_false]at hx
   rcases hx with rfl | rfl
   ·exact sa
   ·exact sb
  show(ev (aq T 29) [some (.lst (LI ns)),some (.int (k:Nat)),some (.int (n:Nat)),some (.tup (L f)),some (.tup [.int (a:Nat),.int (b:Nat)]),some (.int (thr n f:Nat)),o6,o7,some (.int (x.1:Nat))] (.call 28 (.cons (.var 2) (.cons (.var 5) (.cons (.var 8) .nil))))).map some=_
  rw[fR (aa rfl) (aa rfl) (aa rfl) (hm.of ck rfl 14 n1 n2 S)]
  rfl)
 obtain⟨S1,_,q1⟩:=dr.lP 27 n1 n2 V.frm V.frm
 have X:=jR n2 V' V
 have Y:=jR n2 V V'
 obtain⟨S2,_,q2⟩:=hg.lP ck 22 n1 n2 V' V
 obtain⟨S3,_,q3⟩:=hg.lP ck 22 n1 n2 V X
 obtain⟨S4,_,q4⟩:=hg.lP ck 22 n1 n2 V V'
 have om:=lY V.frm
 have b3:az n f (az n (bI n (ovr n) (ovr n) f) f)=f:=by
  have:=zh n1 n2 V.frm (by rw[om];exact V'.frm) V.frm (fun _ _ _=>rfl)
  rw[om]at this
  exact this
 have b4:az n (az n f (bI n (ovr n) (ovr n) f)) (az n f (bI n (ovr n) (ovr n) f))=az n f (bI n (ovr n) (ovr n) f):=by
  have:=vi n1 V.frm Y.frm (vP fun _ _ _=>by lia)
  rw[<-pd n1 V.frm,om]at this
  exact this
 rw[b3]at q3
 have i1:=sF n1 n2 V
 have i2:=sF n1 n2 Y
 rw[decide_eq_true b4]at i2
 have sm:aq T 29 52 [.bl (decide (az n f f=f)),.bl (decide (az n f f=f))]=some (.bl true):=(ao (fn:=gb 52) rfl).trans (Bc _)
 have nT:bc .ne (.tup (L f)) (.tup (L f))=some false:=by
  show(bc .eq (.tup (L f)) (.tup (L f))).map not=_
  rw[uh rfl,decide_eq_true rfl]
  rfl
 refine⟨_,?_,a7 (aj af (bp (fR (aa rfl) (aj af (aa rfl) rfl) (de (aB af b9)) e1) af rfl) e0) (c6 _)
  (a7 (fR (aa rfl) (aa rfl) (aa rfl) e2) (vk _)
  (a7 (bj (aa rfl) fm) rfl
  (a7 (count n2 n1 V.frm rfl rfl (fun _=>rfl) (fun _=>rfl)) (c6 _)
  (bf (aE (fQ (dM (k:=true) (da (aa rfl) rfl)) (a5 (k:=false) (bo (aa rfl) rfl) af rfl)))
  (bf (aE (a5 (dE (dC (aa rfl) rfl) (by show 2<=most;unfold most;lia) mc) (de (aB (bj (aa rfl) up1) (aB (bj (aa rfl) lo1) b9))) (CB _ _)))
  (bf (aE (a5 (bj (bj (aa rfl) ov) fo) (CW (aa rfl)) (Fl _ _)))
  (bf (aE (dM (bQ (bj (aa rfl) i1) (a5 (bp (bQ (aa rfl) (aa rfl) q1) af rfl) (aa rfl) (uh (by rw[cK,V.frm.len]))) sm)))
  (a7 (bQ (aa rfl) (bp (bQ (bj (aa rfl) ov) (aa rfl) q2) af rfl) q3) (by unfold aU;rw[show(D.tup [.tup (L f),.int (S3.length:Nat)]).imm=true by simp[D.imm,au,aY]];rfl)
  (bf (aE (fQ (a5 (bp (aa rfl) af rfl) (aa rfl) nT) (dM (bj (bp (bQ (aa rfl) (bj (aa rfl) ov) q4) af rfl) i2))))
  aG)))))))))⟩
 rfl
end
end K39
namespace L2
open PySem PySem.Spec PyProof.Rows
abbrev Key:=Sum Int Str
def kZ:Key->Value->Bool
 | .inl k,v=>Value.isInt k v
 | .inr x,v=>Value.isStrOf x v
def Gm(w:World):Key->Int
 | .inl k=>hashInt k
 | .inr x=>hashStr w x
theorem bT:∀ {k:Key} {v:Value},kZ k v=true->(∃ i t,k=Sum.inl i/\v=Value.int i t)\/(∃ x t,k=Sum.inr x/\v=Value.str x t)
 | .inl i,v,h=>by
  obtain⟨t,e⟩:=Value.isInt_shape (k:=i) (v:=v) h
  exact .inl ⟨i,t,rfl,e⟩
 | .inr x,v,h=>by
  obtain⟨t,e⟩:=Value.isStrOf_shape (x:=x) (v:=v) h
  exact .inr ⟨x,t,rfl,e⟩
theorem uV(i:Int)(t:Tok):kZ (.inl i) (.int i t)=true:=by simp[kZ,Value.isInt]
theorem vG(x:Str)(t:Tok):kZ (.inr x) (.str x t)=true:=by simp[kZ,Value.isStrOf]
theorem Di(a b:Int):decide ((Sum.inl a:Key)=Sum.inl b)=(a == b):=by
 by_cases e:a=b
 ·subst e;simp
 ·have h:¬ (Sum.inl a:Key)=Sum.inl b:=fun q=>e (Sum.inl.inj q)
  rw[decide_eq_false h]
  exact(beq_eq_false_iff_ne.mpr e).symm
theorem CI(a b:Str):decide ((Sum.inr a:Key)=Sum.inr b)=decide (a=b):=by
 by_cases e:a=b
 ·subst e;simp
 ·have h:¬ (Sum.inr a:Key)=Sum.inr b:=fun q=>e (Sum.inr.inj q)
  rw[decide_eq_false h,decide_eq_false e]
theorem Dc(a:Int)(b:Str):decide ((Sum.inl a:Key)=Sum.inr b)=false:=decide_eq_false (fun q=>nomatch q)
theorem B4(a:Str)(b:Int):decide ((Sum.inr a:Key)=Sum.inl b)=false:=decide_eq_false (fun q=>nomatch q)
def bY(prog:Program)(w:World):PySem.KeyKind prog w Key where
 is:=kZ
 hash:=Gm w
 inj:=fun v a b ha hb=>by
  rcases bT ha with⟨i,t,rfl,rfl⟩ | ⟨x,t,rfl,rfl⟩
  ·rcases bT hb with⟨j,u,rfl,e⟩ | ⟨y,u,rfl,e⟩
   ·injection e with e1 _;rw[e1]
   ·exact nomatch e
  ·rcases bT hb with⟨j,u,rfl,e⟩ | ⟨y,u,rfl,e⟩
   ·exact nomatch e
   ·injection e with e1 _;rw[e1]
 byValue:=fun k v h=>by
  rcases bT h with⟨i,t,rfl,rfl⟩ | ⟨x,t,rfl,rfl⟩<;>rfl
 pyHash:=fun hv h=>by
  rcases bT hv with⟨i,t,rfl,rfl⟩ | ⟨x,t,rfl,rfl⟩
  ·exact wpAny_pyHash_int h
  ·exact wpAny_pyHash_str h
 eqBool:=fun hu hv h=>by
  rcases bT hu with⟨i,t,rfl,rfl⟩ | ⟨x,t,rfl,rfl⟩
  ·rcases bT hv with⟨j,u,rfl,rfl⟩ | ⟨y,u,rfl,rfl⟩
   ·rw[Di]at h;exact wpAny_eqBool_int h
   ·rw[Dc]at h;exact SeqAt.EqAt.int_str i t y u _ _ _ _ h
  ·rcases bT hv with⟨j,u,rfl,rfl⟩ | ⟨y,u,rfl,rfl⟩
   ·rw[B4]at h;exact SeqAt.EqAt.str_int x t j u _ _ _ _ h
   ·rw[CI]at h;exact wpAny_eqBool_str h
 «strs»:=fun k x t v h=>by
  rcases bT h with⟨i,u,rfl,e⟩ | ⟨y,u,rfl,e⟩
  ·exact nomatch e
  ·injection e with e1 _
   subst e1
   cases v<;>rfl
theorem rZ(prog:Program)(w:World)(i:Int)(t:Tok):(bY prog w).is (.inl i) (.int i t)=true:=uV i t
theorem sh(prog:Program)(w:World)(x:Str)(t:Tok):(bY prog w).is (.inr x) (.str x t)=true:=vG x t
inductive V where
 | non | bl (b:Bool) | int (i:Int) | str (x:Str) | byt (b:Array UInt8) | flt (b:UInt64) | ref (a:Addr) | ty (n:String)
 deriving DecidableEq
def RelV:V->Value->Prop
 | .non,u=>u=Value.none
 | .bl b,u=>u=Value.bool b
 | .int i,u=>∃ t,u=Value.int i t
 | .str x,u=>∃ t,u=Value.str x t
 | .byt b,u=>∃ t,u=Value.bytes b t
 | .flt b,u=>∃ t,u=Value.float b t
 | .ref a,u=>u=Value.ref a
 | .ty n,u=>u=Value.type n
abbrev Vals:List V->List Value->Prop:=Paired RelV
theorem Vals.length{xs:List V}{us:List Value}(r:Vals xs us):xs.length=us.length:=Paired.length r
theorem Vals.get:∀ {xs:List V} {us:List Value} {i:Nat} {x:V},Vals xs us->xs[i]?=some x->∃ u,us[i]?=some u/\RelV x u
 | _,_,_,_,.nil,e=>by simp at e
 | _,_,0,_,.cons r _,e=>by simp at e;subst e;exact⟨_,rfl,r⟩
 | _,_,i+1,x,.cons _ t,e=>by
  obtain⟨u,h1,h2⟩:=Vals.get (i:=i) (x:=x) t (by simpa using e)
  exact⟨u,by simpa using h1,h2⟩
theorem Vals.set{x:V}{u:Value}(r:RelV x u):∀ {xs:List V} {us:List Value} (i:Nat),Vals xs us->Vals (xs.set i x) (us.set i u)
 | _,_,_,.nil=>.nil
 | _,_,0,.cons _ t=>.cons r t
 | _,_,i+1,.cons q t=>.cons q (Vals.set r i t)
theorem Vals.append:∀ {xs ys:List V} {us ws:List Value},Vals xs us->Vals ys ws->Vals (xs++ys) (us++ws)
 | _,_,_,_,.nil,s=>s
 | _,_,_,_,.cons r t,s=>.cons r (Vals.append t s)
theorem Vals.take:∀ {xs:List V} {us:List Value} (n:Nat),Vals xs us->Vals (xs.take n) (us.take n)
 | _,_,0,_=>.nil
 | _,_,_+1,.nil=>.nil
 | _,_,n+1,.cons r t=>.cons r (Vals.take n t)
theorem Vals.drop:∀ {xs:List V} {us:List Value} (n:Nat),Vals xs us->Vals (xs.drop n) (us.drop n)
 | _,_,0,r=>r
 | _,_,_+1,.nil=>.nil
 | _,_,n+1,.cons _ t=>Vals.drop n t
def gz:Option V->Option Value->Prop
 | some v,some u=>RelV v u
 | none,none=>True
 | _,_=>False
def KV{κ:Type}:List (κ × V)->List (κ × Value)->Prop:=Paired fun(p:κ × V) (q:κ × Value)=>p.1=q.1/\RelV p.2 q.2
def kV:Key->V
 | .inl i=>.int i
 | .inr x=>.str x
inductive HO where
  | lst (xs:List V)
  | tup (xs:List V)
  | dK (kvs:List (Key × V)) | dT (kvs:List (List Key × V))
  | set (S:Int->Bool) (n:Nat)
  | ins (C dx:Addr) (fs:List (Str × V))
  | own (x:Addr)
  | xd (fs:List (Str × V))
  | met (f x:Addr)
  | rng (lo hi:Int)
  | frz (o:Obj) (u:HO)
  | tbl (ps:Array Value)
  | ext (φ:Heap->Prop)
abbrev Hp:=Addr->Option HO
def upd(H:Hp)(a:Addr)(o:HO):Hp:=fun b=>if b=a then some o else H b
theorem bC{H:Hp}{a:Addr}{o:HO}:upd H a o a=some o:=by unfold upd;rw[if_pos rfl]
theorem aR{H:Hp}{a b:Addr}{o:HO}(h:b≠a):upd H a o b=H b:=by unfold upd;rw[if_neg h]
theorem uH{H:Hp}{a b:Addr}{o u:HO}(h:H a=some o)(h':H b=some u)(d:o≠u):a≠b:=by
 intro e;subst e;rw[h]at h';exact d (Option.some.inj h')
theorem aQ{H:Hp}{a b:Addr}{o:HO}(h:H a=some o)(h':H b=none):a≠b:=by
 intro e;subst e;rw[h]at h';cases h'
section
variable(P:Program)(w:World)
def bB(H:Hp)(h:Heap)(a:Addr):HO->Prop
 | .lst xs=>xs.length<=sizeLine/\∃ (its:List Value) (n:Nat),Vals xs its/\h.get? a=some { cls:=.type "list",data:=.seq its.toArray n }
 | .tup xs=>xs.length<=sizeLine/\∃ its:List Value,Vals xs its/\IsTup h a its.toArray
 | .dK kvs=>kvs.length<=sizeLine/\(a == sysModules)=false/\∃ vs,KV kvs vs/\h.DictOf (bY P w) a vs
 | .dT kvs=>kvs.length<=sizeLine/\(a == sysModules)=false/\∃ xs:List (List Key × Addr × Value),
   Paired (fun(p:List Key × V) (q:List Key × Addr × Value)=>p.1=q.1/\H q.2.1=some (.tup (p.1.map kV))/\RelV p.2 q.2.2) kvs xs /\
   ∃ o es ep,h.get? a=some o/\o.ExactDict/\o.data=.dict es ep/\es.toList=xs.map (entryOfKey (tupleKind (bY P w)))/\(xs.map (·.1)).Nodup
 | .set S n=>h.SetOf (intKind P w) a S n
 | .ins C dx fs=>H dx=some (.own a)/\fs.length<=1000/\dx≠a/\h.get? a=some (PySem.W.instObj C dx) /\
   ∃ mA,h.Ns1 dx mA/\(∀ f,gz (fs.lookup f) (mA f))/\PySem.Within mA (fs.map (·.1))
 | .own _=>∃ o,h.get? a=some o
 | .xd fs=>∃ mA,h.Ns1 a mA/\∀ f,gz (fs.lookup f) (mA f)
 | .rng lo hi=>∃ t u v,h.get? a=some { cls:=.type "range",data:=.fields #[.int lo t,.int hi u,.int 1 v] }
 | .frz o u=>h.get? a=some o/\bB H h a u
 | .tbl ps=>h.get? a=some { cls:=.none,data:=.fields ps }
 | .met f x=>h.get? a=some (PySem.W.methodObj (.ref f) (.ref x))
 | .ext φ=>φ h/\(∃ o,h.get? a=some o)/\∀ h1 h2:Heap,φ h1->(∀ o,h1.get? a=some o->h2.get? a=some o)->φ h2
def HOk(H:Hp)(h:Heap):Prop:=∀ a o,H a=some o->bB P w H h a o
end
section
variable{P:Program}{w:World}{H H':Hp}{h h':Heap}{a:Addr}{o:HO}
theorem bB.lt(x:bB P w H h a o):a<h.objs.size:=by
 cases o with
 | lst xs=>obtain⟨_,_,_,_,e⟩:=x;exact Heap.lt_size e
 | tup xs=>obtain⟨_,_,_,p⟩:=x;exact p.lt
 | dK kvs=>obtain⟨_,_,_,_,o,_,_,e,_⟩:=x;exact Heap.lt_size e
 | dT kvs=>obtain⟨_,_,_,_,o,_,_,e,_⟩:=x;exact Heap.lt_size e
 | set S n=>obtain⟨o,_,_,_,e,_⟩:=x;exact Heap.lt_size e
 | ins C dx fs=>obtain⟨_,_,_,e,_⟩:=x;exact Heap.lt_size e
 | own y=>obtain⟨_,e⟩:=x;exact Heap.lt_size e
 | xd fs=>obtain⟨_,⟨_,_,_,e,_⟩,_⟩:=x;exact Heap.lt_size e
 | rng lo hi=>obtain⟨_,_,_,e⟩:=x;exact Heap.lt_size e
 | frz ob u=>obtain⟨e,_⟩:=x;exact Heap.lt_size e
 | tbl ps=>exact Heap.lt_size (show h.get? a=some _ from x)
 | met f y=>exact Heap.lt_size (show h.get? a=some _ from x)
 | ext φ=>obtain⟨_,⟨_,e⟩,_⟩:=x;exact Heap.lt_size e
theorem Paired.xw{α β:Type}{F G:α->β->Prop}:∀ {l₁:List α} {l₂:List β},Paired F l₁ l₂->(∀ a b,F a b->G a b)->Paired G l₁ l₂
 | _,_,.nil,_=>.nil
 | _,_,.cons r t,f=>.cons (f _ _ r) (Paired.xw t f)
theorem bB.cw(x:bB P w H h a o)(k:∀ b u,(b=a\/H b=some (.own a))->h.get? b=some u->h'.get? b=some u)
 (ho:∀ b,H b=some (.own a)->H' b=some (.own a))(ht:∀ b xs,H b=some (.tup xs)->H' b=some (.tup xs)):bB P w H' h' a o:=by
 induction o with
 | lst xs=>obtain⟨z,its,n,r,e⟩:=x;exact⟨z,its,n,r,k _ _ (.inl rfl) e⟩
 | tup xs=>obtain⟨z,its,r,ob,e,c⟩:=x;exact⟨z,its,r,ob,k _ _ (.inl rfl) e,c⟩
 | dK kvs=>obtain⟨z,y,vs,r,ob,es,ep,e,c⟩:=x;exact⟨z,y,vs,r,ob,es,ep,k _ _ (.inl rfl) e,c⟩
 |dT kvs=>
  obtain⟨z,y,xs,r,ob,es,ep,e,c⟩:=x
  exact⟨z,y,xs,Paired.xw r fun p q z=>⟨z.1,ht _ _ z.2.1,z.2.2⟩,ob,es,ep,k _ _ (.inl rfl) e,c⟩
 | set S n=>obtain⟨ob,es,ep,t,e,c⟩:=x;exact⟨ob,es,ep,t,k _ _ (.inl rfl) e,c⟩
 |ins C dx fs=>
  obtain⟨d,z,ne,e,mA,⟨od,es,ep,e2,c⟩,r⟩:=x
  exact⟨ho _ d,z,ne,k _ _ (.inl rfl) e,mA,⟨od,es,ep,k _ _ (.inr d) e2,c⟩,r⟩
 | own y=>obtain⟨ob,e⟩:=x;exact⟨ob,k _ _ (.inl rfl) e⟩
 | xd fs=>obtain⟨mA,⟨od,es,ep,e,c⟩,r⟩:=x;exact⟨mA,⟨od,es,ep,k _ _ (.inl rfl) e,c⟩,r⟩
 | rng lo hi=>obtain⟨t,u,v,e⟩:=x;exact⟨t,u,v,k _ _ (.inl rfl) e⟩
 | frz ob u ih=>obtain⟨e,q⟩:=x;exact⟨k _ _ (.inl rfl) e,ih q⟩
 |tbl ps=>
  have e:h.get? a=some { cls:=.none,data:=.fields ps }:=x
  show h'.get? a=some { cls:=.none,data:=.fields ps }
  exact k a _ (.inl rfl) e
 |met f y=>
  have e:h.get? a=some (PySem.W.methodObj (.ref f) (.ref y)):=x
  show h'.get? a=some (PySem.W.methodObj (.ref f) (.ref y))
  exact k a _ (.inl rfl) e
 | ext φ=>obtain⟨p,⟨o,e⟩,st⟩:=x;exact⟨st _ _ p fun o q=>k _ _ (.inl rfl) q,⟨o,k _ _ (.inl rfl) e⟩,st⟩
theorem HOk.lt(x:HOk P w H h)(e:H a=some o):a<h.objs.size:=(x a o e).lt
theorem HOk.fresh(x:HOk P w H h)(e:h.objs.size<=a):H a=none:=by
 cases q:H a with
 | none=>rfl
 | some u=>exact absurd (Nat.lt_of_lt_of_le (x.lt q) e) (Nat.lt_irrefl _)
theorem HOk.kept(x:HOk P w H h)(k:∀ b u,h.get? b=some u->h'.get? b=some u):HOk P w H h':=fun a o e =>
 (x a o e).cw (fun b u _ q=>k b u q) (fun _ q=>q) fun _ _ q=>q
theorem HOk.laid(x:HOk P w H h)(k:∀ b u,h.get? b=some u->h'.get? b=some u)(hp:h.objs.size<=a)(new:bB P w (upd H a o) h' a o):HOk P w (upd H a o) h':=fun b u e=>by
 have hn:=x.fresh hp
 by_cases hb:b=a
 ·subst hb;rw[bC]at e;cases e;exact new
 ·rw[aR hb]at e
  exact(x b u e).cw (fun c v _ q=>k c v q) (fun c q=>by rw[aR (aQ q hn)];exact q) fun c xs q=>by rw[aR (aQ q hn)];exact q
end
def Rd(H:Hp)(a:Addr)(u:HO):Prop:=H a=some u\/∃ o,H a=some (.frz o u)
theorem Rd.ok{P:Program}{w:World}{H:Hp}{h:Heap}{a:Addr}{u:HO}(r:Rd H a u)(x:HOk P w H h):bB P w H h a u:=by
 rcases r with r | ⟨o,r⟩
 ·exact x a u r
 ·obtain⟨_,q⟩:=x a _ r
  exact q
def Mut:Option HO->Prop
 | some (.lst _)=>True
 | some (.dK _)=>True
 | some (.dT _)=>True
 | some (.set _ _)=>True
 | some (.ins _ _ _)=>True
 | some (.ext _)=>True
 | _=>False
section
variable{P:Program}{w:World}{H:Hp}{h h':Heap}{x e:Addr}{o':HO}
theorem HOk.write(ok:HOk P w H h)(mu:Mut (H x))(he:e=x\/H e=some (.own x))(k:∀ b u,b≠e->h.get? b=some u->h'.get? b=some u)(heo:∃ u,h'.get? e=some u)
 (new:bB P w (upd H x o') h' x o'):HOk P w (upd H x o') h':=fun b u q=>by
 have nown:∀ c y,H c=some (.own y)->c≠x:=fun c y r z=>by subst z;rw[r]at mu;exact mu
 have ntup:∀ c xs,H c=some (.tup xs)->c≠x:=fun c xs r z=>by subst z;rw[r]at mu;exact mu
 by_cases hb:b=x
 ·subst hb;rw[bC]at q;cases q;exact new
 ·rw[aR hb]at q
  by_cases hbe:b=e
  ·have q':H b=some (.own x):=by
    rcases he with z | z
    ·exact absurd (hbe.trans z) hb
    ·rw[hbe];exact z
   rw[q]at q';cases q'
   obtain⟨v,hv⟩:=heo
   exact⟨v,by rw[hbe];exact hv⟩
  ·refine(ok b u q).cw (fun c v hc r=>k c v ?_ r) (fun c r=>by rw[aR (nown c b r)];exact r) fun c xs r=>by rw[aR (ntup c xs r)];exact r
   rcases hc with rfl | hc
   ·exact hbe
   ·rintro rfl
    rcases he with z | z
    ·exact nown c b hc z
    ·rw[hc]at z;cases z;exact hb rfl
end
structure Un(fs ex:List Addr)(H H':Hp)(h h':Heap):Prop where
 keep:∀ b o,h.get? b=some o->H b=none->b∉fs->b∉ex->h'.get? b=some o
 slot:∀ b o,h.get? b=some o->H b=none->b∈fs->b∉ex->∃ sl,h'.get? b=some { o with slots:=sl }
 free:∀ b o,h.get? b=some o->H b=none->b∉ex->H' b=none
 there:∀ b o,h.get? b=some o->b∉ex->∃ o',h'.get? b=some o'
 kh:∀ b xs,H b=some (.tup xs)->H' b=some (.tup xs)
 iY:∀ b o u,H b=some (.frz o u)->H' b=some (.frz o u)
 km:∀ b ps,H b=some (.tbl ps)->∃ more,H' b=some (.tbl (ps++more))
section
variable{fs fs' ex ex':List Addr}{H H1 H2:Hp}{h h1 h2 h':Heap}{a x e:Addr}{o:HO}
theorem Un.any(u:Un fs ex H H1 h h1){b:Addr}{ob:Obj}(q:h.get? b=some ob)(n:H b=none)(hx:b∉ex):∃ sl,h1.get? b=some { ob with slots:=sl }:=by
 by_cases hb:b∈fs
 ·exact u.slot b ob q n hb hx
 ·exact⟨ob.slots,u.keep b ob q n hb hx⟩
theorem Un.kept(k:∀ b u,h.get? b=some u->h'.get? b=some u):Un fs ex H H h h' :=
 ⟨fun b ob q _ _ _=>k b ob q,fun b ob q _ _ _=>⟨ob.slots,k b ob q⟩,fun _ _ _ n _=>n,fun b ob q _=>⟨ob,k b ob q⟩,fun _ _ q=>q,fun _ _ _ q=>q,fun _ ps q=>⟨#[],by rw[q];simp⟩⟩
theorem Un.refl:Un fs ex H H h h:=Un.kept fun _ _ q=>q
theorem Un.laid(k:∀ b u,h.get? b=some u->h'.get? b=some u)(hp:h.objs.size<=a)(hn:H a=none):Un fs ex H (upd H a o) h h' where
 keep:=fun b u q _ _ _=>k b u q
 slot:=fun b u q _ _ _=>⟨u.slots,k b u q⟩
 free:=fun b u q n _=>by rw[aR (Nat.ne_of_lt (Nat.lt_of_lt_of_le (Heap.lt_size q) hp))];exact n
 there:=fun b u q _=>⟨u,k b u q⟩
 kh:=fun b xs q=>by rw[aR (aQ q hn)];exact q
 iY:=fun b u xs q=>by rw[aR (aQ q hn)];exact q
 km:=fun b ps q=>⟨#[],by rw[aR (aQ q hn),q];simp⟩
theorem Un.write(mu:Mut (H x))(he:e=x\/H e=some (.own x))(k:∀ b u,b≠e->h.get? b=some u->h'.get? b=some u)(heo:∃ u,h'.get? e=some u):Un fs ex H (upd H x o) h h':=by
 have hx:∀ b,H b=none->b≠x:=fun b n z=>by subst z;rw[n]at mu;exact mu
 have hb:∀ b,H b=none->b≠e:=fun b n z=>by
  subst z
  rcases he with r | r
  ·exact hx b n r
  ·rw[n]at r;cases r
 have hm:∀ b u,H b=some u->¬ Mut (some u)->b≠x:=fun b u q nm z=>by subst z;rw[q]at mu;exact nm mu
 refine⟨fun b u q n _ _=>k b u (hb b n) q,fun b u q n _ _=>⟨u.slots,k b u (hb b n) q⟩,fun b u q n _=>by rw[aR (hx b n)];exact n,fun b u q _=>?_,
  fun b xs q=>by rw[aR (hm b _ q fun z=>z)];exact q,fun b u xs q=>by rw[aR (hm b _ q fun z=>z)];exact q,fun b ps q=>⟨#[],by rw[aR (hm b _ q fun z=>z),q];simp⟩⟩
 by_cases hbe:b=e
 ·subst hbe;exact heo
 ·exact⟨u,k b u hbe q⟩
end
def trk(h:Heap)(H:Hp):List Addr:=(List.range h.objs.size).filter fun a=>(H a).isSome
def iX(h:Heap)(H:Hp):Heap:=PySem.W.hideAll h (trk h H)
theorem wm(h:Heap)(H:Hp):(iX h H).objs.size=h.objs.size:=PySem.W.hideAll_size _ _
theorem zg{h:Heap}{H:Hp}{b:Addr}{o:Obj}(e:h.get? b=some o)(n:H b=none):(iX h H).get? b=some o :=
 PySem.W.hideAll_get _ e fun hm=>by
  have q:(H b).isSome=true:=(List.mem_filter.mp hm).2
  rw[n]at q;simp at q
theorem Aj{h:Heap}{H:Hp}{b:Addr}{o:Obj}(e:(iX h H).get? b=some o):h.get? b=some o/\H b=none:=by
 have e':h.get? b=some o:=PySem.W.of_hideAll (trk h H) e
 refine⟨e',?_⟩
 cases q:H b with
 | none=>rfl
 |some x=>
  have hm:b∈trk h H:=List.mem_filter.mpr ⟨List.mem_range.mpr (Heap.lt_size e'),by simp[q]⟩
  have z:(iX h H).get? b=none:=PySem.W.hideAll_none (trk h H) hm
  rw[z]at e;cases e
structure Mod(K:PySem.W.Frag)(mg:Str->Option Value)(base:Heap):Prop where
 kin:K.In base
 glob:base.Ns mainGlobals mg
 blt:∃ mb,base.Ns builtinsNs mb/\∀ x:Str,x ≠ "__name__" -> mb x=bootBuiltins x
 nolimit:base.NoLimit
structure Cx where
 prog:Program
 w:World
 K:PySem.W.Frag
 mg:Str->Option Value
 base:Heap
 A:Around
 N:List Str
 s₀:Shared
 H₀:Hp
 env:Env
 outer:List Env
 stack:List Env
 ex:List Addr
 fn:Str->Bool
 calm:Bool
 pn:List (Addr × Obj)
 xe:Value->Shared->Prop
def frs(l:List Env):List Addr:=l.filterMap (·.frame)
abbrev Cx.fs(X:Cx):List Addr:=frs X.outer
def Vis(sc:Scope)(x:Str):Prop:=sc.names.lookup x=some .local\/sc.names.lookup x=some .cell\/sc.names.lookup x=some .free
def Loc(sc:Scope)(x:Str):Prop:=sc.names.lookup x=some .local\/sc.names.lookup x=some .cell
def Look(env:Env)(h:Heap)(m:Str->Option Value)(x:Str)(u:Value):Prop :=
 (env.kindOf x=some .local/\m x=some u)\/((env.kindOf x=some .cell\/env.kindOf x=some .free)/\∃ c,env.cells.lookup x=some c/\h.IsCell c (some u))
structure Cx.Ok(X:Cx):Prop where
 mod:Mod X.K X.mg X.base
 kind:X.env.scope.kind=.function
 glob:X.env.globals=mainGlobals
 blt:X.env.builtins=builtinsNs
 above:X.s₀.heap.objs.size<=X.env.locals
 inj:∀ x y c,X.env.cells.lookup x=some c->X.env.cells.lookup y=some c->x=y
 has:∀ x,(X.env.kindOf x=some .cell\/X.env.kindOf x=some .free)->∃ c,X.env.cells.lookup x=some c
 cab:∀ x c,X.fn x=true->X.env.cells.lookup x=some c->X.s₀.heap.objs.size<=c
 hd:X.calm=true->X.A.handled=none
 frames:X.A.frames=some X.stack
 stk:X.stack=X.outer\/(X.stack=X.env::X.outer/\X.env.frame=some X.env.locals)
 exf:∀ b∈X.ex,b≠X.env.locals/\∀ x c,X.env.cells.lookup x=some c->c≠b
 bs:∀ b o,X.base.get? b=some o->X.s₀.heap.get? b=some o/\X.H₀ b=none
 bsz:X.base.objs.size<=X.s₀.heap.objs.size
 qT:∀ b o,X.base.get? b=some o->b∉X.ex
 qj:∀ b∈X.ex,b∉X.fs
 gA:X.s₀.heap.FunFrames X.base X.outer
 frf:∀ b∈X.fs,X.H₀ b=none
structure Inv(X:Cx)(pins:List (Addr × Obj))(σ:List (Option V))(H:Hp)(s:Shared):Prop where
 ok:X.Ok
 os:s.os=X.s₀.os
 bare:AllBare s.gens
 base:Un X.fs X.ex X.H₀ H X.s₀.heap s.heap
 loc:∃ m,s.heap.Ns X.env.locals m/\∀ (i:Nat) (x:Str) (v:V),X.N[i]?=some x->σ[i]?=some (some v)->Vis X.env.scope x->∃ u,RelV v u/\Look X.env s.heap m x u
 cell:∀ x c,X.env.cells.lookup x=some c->∃ v,s.heap.IsCell c v
 free:H X.env.locals=none
 eF:∀ x c,X.env.cells.lookup x=some c->H c=none
 pin:∀ p∈X.pn++pins,s.heap.get? p.1=some p.2/\H p.1=none/\p.1≠X.env.locals/\p.1∉X.fs/\∀ v,p.2.data≠.cell v
 hok:HOk X.prog X.w H s.heap
 len:σ.length=X.N.length
section
variable{X:Cx}{pins:List (Addr × Obj)}{σ:List (Option V)}{H H':Hp}{s:Shared}{h':Heap}
theorem Cx.Ok.Gy(ok:X.Ok){b:Addr}{o:Obj}(e:X.base.get? b=some o):b∉X.fs:=fun hb=>by
 have:=(ok.gA.mem hb).1
 rw[e]at this;cases this
theorem Inv.bs(I:Inv X pins σ H s):∀ b o,X.base.get? b=some o->s.heap.get? b=some o/\H b=none:=fun b o e =>
 ⟨I.base.keep b o (I.ok.bs b o e).1 (I.ok.bs b o e).2 (I.ok.Gy e) (I.ok.qT b o e),I.base.free b o (I.ok.bs b o e).1 (I.ok.bs b o e).2 (I.ok.qT b o e)⟩
theorem Inv.bk(I:Inv X pins σ H s):∀ b o,X.base.get? b=some o->s.heap.get? b=some o:=fun b o e=>(I.bs b o e).1
theorem Inv.mod(I:Inv X pins σ H s):Mod X.K X.mg X.base:=I.ok.mod
theorem Inv.kIn(I:Inv X pins σ H s):X.K.In s.heap:=I.ok.mod.kin.keeps I.bk
theorem Inv.lt(I:Inv X pins σ H s):X.env.locals<s.heap.objs.size:=let ⟨_,hn,_⟩:=I.loc;hn.lt
theorem Inv.sz(I:Inv X pins σ H s):X.s₀.heap.objs.size<=s.heap.objs.size:=Nat.le_trans I.ok.above (Nat.le_of_lt I.lt)
theorem Inv.GY(I:Inv X pins σ H s){a:Addr}(h:s.heap.objs.size<=a):a∉X.fs:=fun hb=>by
 obtain⟨_,o,ho,_⟩:=I.ok.gA.mem hb
 exact absurd (Nat.lt_of_lt_of_le (Heap.lt_size ho) (Nat.le_trans I.sz h)) (Nat.lt_irrefl _)
theorem Inv.cne(I:Inv X pins σ H s):∀ x c,X.env.cells.lookup x=some c->c≠X.env.locals:=fun x c e z=>by
 obtain⟨v,o,ho,hd⟩:=I.cell x c e
 obtain⟨m,⟨o',es,ep,ho',hd',_⟩,_⟩:=I.loc
 rw[z,ho']at ho;cases ho;rw[hd']at hd;cases hd
theorem Inv.gA(I:Inv X pins σ H s):s.heap.FunFrames X.base X.outer:=by
 have all:∀ (l:List Env),(∀ b∈frs l,b∈X.fs)->X.s₀.heap.FunFrames X.base l->s.heap.FunFrames X.base l:=by
  intro l
  induction l with
  | nil=>intro _ _;trivial
  |cons env r ih=>
   intro hs hl
   obtain⟨hk,⟨L,o,hf,hn,ho,hd⟩,hr⟩:=hl
   have hL:L∈X.fs:=hs L (by unfold frs;rw[List.filterMap_cons,hf];exact List.mem_cons_self)
   obtain⟨sl,e⟩:=I.base.slot L o ho (I.ok.frf L hL) hL fun z=>I.ok.qj L z hL
   exact⟨hk,⟨L,_,hf,hn,e,hd⟩,ih (fun b hb=>hs b (by unfold frs;rw[List.filterMap_cons,hf];exact List.mem_cons_of_mem _ hb)) hr⟩
 exact all X.outer (fun _ hb=>hb) I.ok.gA
theorem Inv.stack(I:Inv X pins σ H s):s.heap.FunFrames X.base X.stack:=by
 rcases I.ok.stk with e | ⟨e,hf⟩
 ·rw[e];exact I.gA
 ·rw[e]
  obtain⟨m,hn,_⟩:=I.loc
  refine .cons (by rw[I.ok.kind];decide) hf hn ?_ I.gA
  exact Heap.get?_none_of_le (Nat.le_trans I.ok.bsz I.ok.above)
theorem Inv.rA(I:Inv X pins σ H s):∀ b∈frs X.stack,b∈X.env.locals::X.fs:=fun b hb=>by
 rcases I.ok.stk with e | ⟨e,hf⟩
 ·rw[e]at hb;exact List.mem_cons_of_mem _ hb
 ·rw[e]at hb
  unfold frs at hb
  rw[List.filterMap_cons,hf]at hb
  exact hb
theorem Inv.sS(I:Inv X pins σ H s):∀ b∈frs X.stack,H b=none:=fun b hb=>by
 rcases List.mem_cons.mp (I.rA b hb)with e | hb
 ·rw[e];exact I.free
 ·obtain⟨_,o,ho,_⟩:=I.ok.gA.mem hb
  exact I.base.free b o ho (I.ok.frf b hb) fun z=>I.ok.qj b z hb
theorem Inv.step{g':Array GenState}{t':Nat}{d':Drawn}{ch:List Addr}(I:Inv X pins σ H s)
 (hch:∀ b∈ch,(b∈X.ex\/X.s₀.heap.objs.size<=b)/\b≠X.env.locals/\(∀ x c,X.env.cells.lookup x=some c->c≠b)/\∀ p∈X.pn++pins,p.1≠b)
 (keep:∀ b o,b≠X.env.locals->b∉X.fs->b∉ch->s.heap.get? b=some o->H b=none->h'.get? b=some o)
 (slot:∀ b o,b≠X.env.locals->b∈X.fs->b∉ch->s.heap.get? b=some o->H b=none->∃ sl,h'.get? b=some { o with slots:=sl })(free:∀ b o,b∉ch->s.heap.get? b=some o->H b=none->H' b=none)
 (there:∀ b o,b∉ch->s.heap.get? b=some o->∃ o',h'.get? b=some o')
 (kh:∀ b xs,H b=some (.tup xs)->H' b=some (.tup xs))(iY:∀ b o u,H b=some (.frz o u)->H' b=some (.frz o u))(km:∀ b ps,H b=some (.tbl ps)->∃ more,H' b=some (.tbl (ps++more)))
 (ns:∀ m,s.heap.Ns X.env.locals m->h'.Ns X.env.locals m)(hok:HOk X.prog X.w H' h')(hg:AllBare g') :
  Inv X pins σ H' { s with heap:=h',gens:=g',drawn:=d',toks:=t' }:=by
 have neL:∀ b o,X.s₀.heap.get? b=some o->b≠X.env.locals:=fun b o e=>Nat.ne_of_lt (Nat.lt_of_lt_of_le (Heap.lt_size e) I.ok.above)
 have neC:∀ b o,X.s₀.heap.get? b=some o->b∉X.ex->b∉ch:=fun b o e hx hb=>by
  rcases(hch b hb).1 with z | z
  ·exact hx z
  ·exact absurd (Nat.lt_of_lt_of_le (Heap.lt_size e) z) (Nat.lt_irrefl _)
 have cellK:∀ x c,X.env.cells.lookup x=some c->∀ v,s.heap.IsCell c v->h'.IsCell c v:=fun x c e v ⟨o,ho,hd⟩=>by
  have nch:c∉ch:=fun z=>(hch c z).2.2.1 x c e rfl
  by_cases hc:c∈X.fs
  ·obtain⟨sl,q⟩:=slot c o (I.cne x c e) hc nch ho (I.eF x c e)
   exact⟨_,q,hd⟩
  ·exact⟨o,keep c o (I.cne x c e) hc nch ho (I.eF x c e),hd⟩
 refine⟨I.ok,I.os,hg,⟨fun b o e n hb hx=>?_,fun b o e n hb hx=>?_,fun b o e n hx=>?_,fun b o e hx=>?_,fun b xs e=>kh b xs (I.base.kh b xs e),fun b o xs e=>iY b o xs (I.base.iY b o xs e),fun b ps e=>?_⟩,?_,fun x c e=>?_,?_,fun x c e=>?_,fun p hp=>?_,hok,I.len⟩
 ·exact keep b o (neL b o e) hb (neC b o e hx) (I.base.keep b o e n hb hx) (I.base.free b o e n hx)
 ·obtain⟨sl,e1⟩:=I.base.slot b o e n hb hx
  obtain⟨sl',e2⟩:=slot b _ (neL b o e) hb (neC b o e hx) e1 (I.base.free b o e n hx)
  exact⟨sl',e2⟩
 ·obtain⟨o',e1⟩:=I.base.there b o e hx
  exact free b o' (neC b o e hx) e1 (I.base.free b o e n hx)
 ·obtain⟨o',e1⟩:=I.base.there b o e hx
  exact there b o' (neC b o e hx) e1
 ·obtain⟨m1,e1⟩:=I.base.km b ps e
  obtain⟨m2,e2⟩:=km b _ e1
  exact⟨m1++m2,by rw[e2,Array.append_assoc]⟩
 ·obtain⟨m,hn,hl⟩:=I.loc
  refine⟨m,ns m hn,fun i x v e1 e2 e3=>?_⟩
  obtain⟨u,r,l⟩:=hl i x v e1 e2 e3
  refine⟨u,r,?_⟩
  rcases l with l | ⟨k,c,e,z⟩
  ·exact .inl l
  ·exact .inr ⟨k,c,e,cellK x c e _ z⟩
 ·obtain⟨v,z⟩:=I.cell x c e
  exact⟨v,cellK x c e v z⟩
 ·obtain⟨m,⟨o,_,_,ho,_⟩,_⟩:=I.loc
  exact free _ o (fun z=>(hch _ z).2.1 rfl) ho I.free
 ·obtain⟨v,o,ho,hd⟩:=I.cell x c e
  exact free c o (fun z=>(hch c z).2.2.1 x c e rfl) ho (I.eF x c e)
 ·obtain⟨e,n,ne,nf,d⟩:=I.pin p hp
  have nch:p.1∉ch:=fun z=>(hch p.1 z).2.2.2 p hp rfl
  exact⟨keep p.1 p.2 ne nf nch e n,free p.1 p.2 nch e n,ne,nf,d⟩
theorem Inv.un{t':Nat}(I:Inv X pins σ H s)(u:Un X.fs [] H H' s.heap h')(hok:HOk X.prog X.w H' h'):Inv X pins σ H' { s with heap:=h',toks:=t' }:=by
 obtain⟨m,⟨o,es,ep,ho,r⟩,_⟩:=id I.loc
 obtain⟨sl,hL⟩:=u.any ho I.free (by simp)
 exact I.step (g':=s.gens) (d':=s.drawn) (ch:=[]) (fun _ z=>nomatch z) (fun b o _ hb _ e n=>u.keep b o e n hb (by simp)) (fun b o _ hb _ e n=>u.slot b o e n hb (by simp)) (fun b o _ e n=>u.free b o e n (by simp)) (fun b o _ e=>u.there b o e (by simp)) u.kh u.iY u.km (fun m' hm=>by
  obtain⟨o',es',ep',ho',r'⟩:=hm
  rw[ho]at ho';cases ho'
  exact⟨_,es',ep',hL,r'⟩) hok I.bare
theorem Inv.call{g':Array GenState}{t':Nat}{d':Drawn}{ch:List Addr}(I:Inv X pins σ H s)(u:Un (frs X.stack) ch H H' s.heap h')(hok:HOk X.prog X.w H' h')(hg:AllBare g')
 (hch:∀ b∈ch,(b∈X.ex\/X.s₀.heap.objs.size<=b)/\b≠X.env.locals/\(∀ x c,X.env.cells.lookup x=some c->c≠b)/\∀ p∈X.pn++pins,p.1≠b) :
  Inv X pins σ H' { s with heap:=h',gens:=g',drawn:=d',toks:=t' }:=by
 obtain⟨m,⟨o,es,ep,ho,r⟩,_⟩:=id I.loc
 obtain⟨sl,hL⟩:=u.any ho I.free fun z=>(hch _ z).2.1 rfl
 exact I.step (ch:=ch) hch (fun b o hL hb hc e n=>u.keep b o e n (fun z=>(List.mem_cons.mp (I.rA b z)).elim hL hb) hc) (fun b o _ _ hc e n=>u.any e n hc) (fun b o hc e n=>u.free b o e n hc) (fun b o hc e=>u.there b o e hc) u.kh u.iY u.km (fun m' hm=>by
  obtain⟨o',es',ep',ho',r'⟩:=hm
  rw[ho]at ho';cases ho'
  exact⟨_,es',ep',hL,r'⟩) hok hg
theorem Inv.turned{t':Nat}{it:Addr}(I:Inv X pins σ H s)(k:∀ b o,b≠it->s.heap.get? b=some o->h'.get? b=some o)(hn:H it=none)(hL:it≠X.env.locals)
 (h1:it∈X.ex\/X.s₀.heap.objs.size<=it)(h2:∀ x c,X.env.cells.lookup x=some c->c≠it)(h3:∀ p∈X.pn++pins,p.1≠it):Inv X pins σ H { s with heap:=h',toks:=t' }:=by
 have nit:∀ b u,H b=some u->b≠it:=fun b u e z=>by rw[z,hn]at e;cases e
 refine I.step (g':=s.gens) (d':=s.drawn) (ch:=[it]) (fun b hb=>?_) (fun b o _ _ hc e _=>k b o (fun z=>hc (by simp[z])) e) (fun b o _ _ hc e _=>⟨o.slots,k b o (fun z=>hc (by simp[z])) e⟩) (fun _ _ _ _ n=>n)
  (fun b o hc e=>⟨o,k b o (fun z=>hc (by simp[z])) e⟩) (fun _ _ e=>e) (fun _ _ _ e=>e) (fun b ps e=>⟨#[],by rw[e];simp⟩) (fun m hm=>?_) (fun b u e=>?_) I.bare
 ·have e:b=it:=by simpa using hb
  subst e
  exact⟨h1,hL,h2,h3⟩
 ·obtain⟨o,es,ep,ho,r⟩:=hm
  exact⟨o,es,ep,k _ o (Ne.symm hL) ho,r⟩
 ·refine(I.hok b u e).cw (fun c v hc q=>k c v ?_ q) (fun _ q=>q) fun _ _ q=>q
  rcases hc with z | z
  ·rw[z];exact nit b u e
  ·exact nit c _ z
theorem Inv.tok(I:Inv X pins σ H s)(t:Nat):Inv X pins σ H { s with toks:=t }:=I.un (h':=s.heap) (t':=t) Un.refl I.hok
theorem Inv.kept{t':Nat}(I:Inv X pins σ H s)(k:∀ b u,s.heap.get? b=some u->h'.get? b=some u):Inv X pins σ H { s with heap:=h',toks:=t' }:=I.un (Un.kept k) (I.hok.kept k)
theorem Inv.laid{a:Addr}{o:HO}{t':Nat}(I:Inv X pins σ H s)(k:∀ b u,s.heap.get? b=some u->h'.get? b=some u)(hp:s.heap.objs.size<=a)(new:bB X.prog X.w (upd H a o) h' a o) :
  Inv X pins σ (upd H a o) { s with heap:=h',toks:=t' }:=I.un (Un.laid k hp (I.hok.fresh hp)) (I.hok.laid k hp new)
theorem Inv.write{x e:Addr}{o:HO}{t':Nat}(I:Inv X pins σ H s)(mu:Mut (H x))(he:e=x\/H e=some (.own x))(k:∀ b u,b≠e->s.heap.get? b=some u->h'.get? b=some u)(heo:∃ u,h'.get? e=some u)
 (new:bB X.prog X.w (upd H x o) h' x o):Inv X pins σ (upd H x o) { s with heap:=h',toks:=t' }:=I.un (Un.write mu he k heo) (I.hok.write mu he k heo new)
theorem Inv.weak{σ':List (Option V)}(I:Inv X pins σ H s)(hl:σ'.length=σ.length)(w:∀ (i:Nat) v,σ'[i]?=some (some v)->σ[i]?=some (some v)):Inv X pins σ' H s :=
 ⟨I.ok,I.os,I.bare,I.base,let ⟨m,hn,hl'⟩:=I.loc;⟨m,hn,fun i x v e1 e2 e3=>hl' i x v e1 (w i v e2) e3⟩,I.cell,I.free,I.eF,I.pin,I.hok,hl.trans I.len⟩
theorem Inv.sI{pins':List (Addr × Obj)}(I:Inv X pins σ H s)(h:∀ p∈pins',s.heap.get? p.1=some p.2/\H p.1=none/\p.1≠X.env.locals/\p.1∉X.fs/\∀ v,p.2.data≠.cell v):Inv X pins' σ H s :=
 ⟨I.ok,I.os,I.bare,I.base,I.loc,I.cell,I.free,I.eF,fun p hp=>(List.mem_append.mp hp).elim (fun z=>I.pin p (List.mem_append_left _ z)) (h p),I.hok,I.len⟩
theorem pY{N:List Str}(hN:N.Nodup){i j:Nat}{x:Str}(a:N[i]?=some x)(b:N[j]?=some x):i=j:=by
 obtain⟨h1,e1⟩:=List.getElem?_eq_some_iff.mp a
 obtain⟨h2,e2⟩:=List.getElem?_eq_some_iff.mp b
 exact(List.getElem_inj hN).mp (e1.trans e2.symm)
theorem pj{M:Model}{A:Around}{E:Value->Shared->Prop}{i:Nat}{x:Str}{v:V}{u:Value}{Q:Unit->Shared->Prop}(I:Inv X pins σ H s)(hN:X.N.Nodup)(hi:X.N[i]?=some x)(hx:Loc X.env.scope x)(r:RelV v u)
 (h:∀ s',Inv X pins (σ.set i (some v)) H s'->(∃ a,Heap.SameBut a s.heap s'.heap/\(a=X.env.locals\/X.env.cells.lookup x=some a))->Q () s')(hf:X.fn x=true\/X.env.scope.names.lookup x=some .local:=by first | exact .inl rfl | exact .inr rfl | assumption):wpAny M A (storeName X.env x u) Q E s:=by
 obtain⟨m,hn,hl⟩:=id I.loc
 have hcls:(X.env.scope.kind == .class || (X.env.scope.kind == .module&&X.env.locals != X.env.globals))=false:=by rw[I.ok.kind];rfl
 have hiσ:i<σ.length:=by rw[I.len];exact(List.getElem?_eq_some_iff.mp hi).1
 have cne:=I.cne
 have tracked:∀ {a:Addr} {h':Heap},(∃ o,s.heap.get? a=some o/\H a=none)->Heap.SameBut a s.heap h'->HOk X.prog X.w H h':=fun {a h'} ha hs b ob e=>by
  obtain⟨_,_,hfree⟩:=ha
  refine(I.hok b ob e).cw (fun c w' hc q=>(hs.2 c ?_).trans q) (fun _ q=>q) fun _ _ q=>q
  rintro rfl
  rcases hc with rfl | hc
  ·rw[hfree]at e;cases e
  ·rw[hfree]at hc;cases hc
 rcases hx with hk | hk
 ·refine wpAny_storeName_local hk hn (fun h' hn' hs=>?_) hcls
  obtain⟨oL,_,_,hoL,_⟩:=id hn
  refine h _ ⟨I.ok,I.os,I.bare,⟨fun b o e n hb hx=>?_,fun b o e n hb hx=>?_,I.base.free,fun b o e hx=>?_,I.base.kh,I.base.iY,I.base.km⟩,⟨_,hn',fun j y v' e1 e2 e3=>?_⟩,fun y c e=>?_,I.free,I.eF,fun p hp=>?_,tracked ⟨oL,hoL,I.free⟩ hs,by simpa using I.len⟩ ⟨_,hs,.inl rfl⟩
  ·exact(hs.2 b (Nat.ne_of_lt (Nat.lt_of_lt_of_le (Heap.lt_size e) I.ok.above))).trans (I.base.keep b o e n hb hx)
  ·obtain⟨sl,e1⟩:=I.base.slot b o e n hb hx
   exact⟨sl,(hs.2 b (Nat.ne_of_lt (Nat.lt_of_lt_of_le (Heap.lt_size e) I.ok.above))).trans e1⟩
  ·obtain⟨o',e1⟩:=I.base.there b o e hx
   exact⟨o',(hs.2 b (Nat.ne_of_lt (Nat.lt_of_lt_of_le (Heap.lt_size e) I.ok.above))).trans e1⟩
  ·by_cases hj:j=i
   ·subst hj
    rw[hi]at e1;cases e1
    rw[List.getElem?_set_self hiσ]at e2
    cases e2
    exact⟨u,r,.inl ⟨hk,by simp⟩⟩
   ·rw[List.getElem?_set_ne (Ne.symm hj)]at e2
    obtain⟨u',r',q⟩:=hl j y v' e1 e2 e3
    refine⟨u',r',?_⟩
    rcases q with⟨k,e⟩ | ⟨k,c,e,z⟩
    ·refine .inl ⟨k,?_⟩
     have:y≠x:=fun e=>hj (pY hN e1 (e▸hi))
     simp[this,e]
    ·exact .inr ⟨k,c,e,z.sameBut hs (cne y c e)⟩
  ·obtain⟨w',z⟩:=I.cell y c e
   exact⟨w',z.sameBut hs (cne y c e)⟩
  ·obtain⟨e,n,ne,nf,d⟩:=I.pin p hp
   exact⟨(hs.2 p.1 ne).trans e,n,ne,nf,d⟩
 ·have hfn:X.fn x=true:=by
   rcases hf with z | z
   ·exact z
   ·rw[z]at hk;cases hk
  obtain⟨c,hc⟩:=I.ok.has x (.inl hk)
  obtain⟨w',z⟩:=I.cell x c hc
  refine wpAny_storeName_cell I.ok.kind hk hc z (fun h' hc' hs=>?_)
  obtain⟨oc,hoc,hocd⟩:=id z
  refine h { s with heap:=h' } ⟨I.ok,I.os,I.bare,⟨fun b o e n hb hx=>?_,fun b o e n hb hx=>?_,I.base.free,fun b o e hx=>?_,I.base.kh,I.base.iY,I.base.km⟩,⟨m,hn.sameBut hs (Ne.symm (cne x c hc)),fun j y v' e1 e2 e3=>?_⟩,fun y c' e=>?_,I.free,I.eF,fun p hp=>?_,tracked ⟨oc,hoc,I.eF x c hc⟩ hs,by simpa using I.len⟩ ⟨c,hs,.inr hc⟩
  ·exact(hs.2 b (Nat.ne_of_lt (Nat.lt_of_lt_of_le (Heap.lt_size e) (I.ok.cab x c hfn hc)))).trans (I.base.keep b o e n hb hx)
  ·obtain⟨sl,e1⟩:=I.base.slot b o e n hb hx
   exact⟨sl,(hs.2 b (Nat.ne_of_lt (Nat.lt_of_lt_of_le (Heap.lt_size e) (I.ok.cab x c hfn hc)))).trans e1⟩
  ·obtain⟨o',e1⟩:=I.base.there b o e hx
   exact⟨o',(hs.2 b (Nat.ne_of_lt (Nat.lt_of_lt_of_le (Heap.lt_size e) (I.ok.cab x c hfn hc)))).trans e1⟩
  ·by_cases hj:j=i
   ·subst hj
    rw[hi]at e1;cases e1
    rw[List.getElem?_set_self hiσ]at e2
    cases e2
    exact⟨u,r,.inr ⟨.inl hk,c,hc,hc'⟩⟩
   ·rw[List.getElem?_set_ne (Ne.symm hj)]at e2
    obtain⟨u',r',q⟩:=hl j y v' e1 e2 e3
    refine⟨u',r',?_⟩
    rcases q with q | ⟨k,c',e,z'⟩
    ·exact .inl q
    ·refine .inr ⟨k,c',e,z'.sameBut hs ?_⟩
     rintro rfl
     exact hj (pY hN e1 (I.ok.inj _ _ _ e hc▸hi))
  ·by_cases hcc:c'=c
   ·subst hcc;exact⟨_,hc'⟩
   ·obtain⟨w2,z2⟩:=I.cell y c' e
    exact⟨w2,z2.sameBut hs hcc⟩
  ·obtain⟨e,n,ne,nf,d⟩:=I.pin p hp
   refine⟨(hs.2 p.1 ?_).trans e,n,ne,nf,d⟩
   intro q
   rw[q,hoc]at e
   have q':oc=p.2:=Option.some.inj e
   exact d w' (by rw[<-q'];exact hocd)
theorem gM{M:Model}{A:Around}{E:Value->Shared->Prop}{i:Nat}{x:Str}{v:V}{u:Value}{Q:Unit->Shared->Prop}(I:Inv X pins σ H s)(hN:X.N.Nodup)(hi:X.N[i]?=some x)(hx:Loc X.env.scope x)(r:RelV v u)
 (h:∀ s',Inv X pins (σ.set i (some v)) H s'->Q () s')(hf:X.fn x=true\/X.env.scope.names.lookup x=some .local:=by first | exact .inl rfl | exact .inr rfl | assumption):wpAny M A (storeName X.env x u) Q E s :=
 pj I hN hi hx r (fun s' I' _=>h s' I') hf
theorem Inv.zt{s':Shared}{ch:List Addr}(I:Inv X pins σ H s)(ho:s'.os=s.os)(u:Un (frs X.stack) ch H H' s.heap s'.heap)(hok:HOk X.prog X.w H' s'.heap)(hg:AllBare s'.gens)
 (hch:∀ b∈ch,(b∈X.ex\/X.s₀.heap.objs.size<=b)/\b≠X.env.locals/\(∀ x c,X.env.cells.lookup x=some c->c≠b)/\∀ p∈X.pn++pins,p.1≠b):Inv X pins σ H' s':=by
 obtain⟨h',g',d',t',o'⟩:=s'
 have e:o'=s.os:=ho
 subst e
 exact I.call (g':=g') (t':=t') (d':=d') u hok hg hch
end
abbrev XK:=Value->Option Addr->Hp->Prop
abbrev St:=List (Option V)
abbrev VK:=V->Hp->Prop
abbrev TE:=St->Hp->VK->Prop
abbrev TT:=St->Hp->(Bool->Hp->Prop)->Prop
abbrev TA:=St->Hp->(List V->Hp->Prop)->Prop
structure Ends where
 nx:St->Hp->Prop
 rt:VK
 bk:St->Hp->Prop:=fun _ _=>False
 ct:St->Hp->Prop:=fun _ _=>False
abbrev TS:=Ends->St->Hp->Prop
def EP(X:Cx)(pins:List (Addr × Obj))(σ:St)(Q:VK)(u:Value)(s':Shared):Prop:=∃ v H',Inv X pins σ H' s'/\RelV v u/\Q v H'
def TP(X:Cx)(pins:List (Addr × Obj))(σ:St)(Q:Bool->Hp->Prop)(b:Bool)(s':Shared):Prop:=∃ H',Inv X pins σ H' s'/\Q b H'
def AP(X:Cx)(pins:List (Addr × Obj))(σ:St)(Q:List V->Hp->Prop)(us:List Value)(s':Shared):Prop:=∃ vs H',Inv X pins σ H' s'/\Vals vs us/\Q vs H'
def SP(X:Cx)(pins:List (Addr × Obj))(D:Ends)(f:Flow)(s':Shared):Prop :=
 match f with
 | .next=>∃ σ' H',Inv X pins σ' H' s'/\D.nx σ' H'
 | .brk=>∃ σ' H',Inv X pins σ' H' s'/\D.bk σ' H'
 | .cont=>∃ σ' H',Inv X pins σ' H' s'/\D.ct σ' H'
 | .ret u=>∃ v σ' H',Inv X pins σ' H' s'/\RelV v u/\D.rt v H'
def PE(X:Cx)(e:Expr)(t:TE):Prop :=
 ∀ (pins:List (Addr × Obj)) (s:Shared) (σ:St) (H:Hp) (Q:VK),Inv X pins σ H s->t σ H Q->wpAny (model X.prog X.w) X.A (eval e X.env) (EP X pins σ Q) X.xe s
def PT(X:Cx)(e:Expr)(t:TT):Prop :=
 ∀ (pins:List (Addr × Obj)) (s:Shared) (σ:St) (H:Hp) (Q:Bool->Hp->Prop),Inv X pins σ H s->t σ H Q->wpAny (model X.prog X.w) X.A (isTrue e X.env (eval e X.env)) (TP X pins σ Q) X.xe s
def PW(X:Cx)(e:Expr)(t:TT):Prop :=
 ∀ (whole:Sem Value) (pins:List (Addr × Obj)) (s:Shared) (σ:St) (H:Hp) (Q:Bool->Hp->Prop),Inv X pins σ H s->t σ H Q->wpAny (model X.prog X.w) X.A (isTrue e X.env whole) (TP X pins σ Q) X.xe s
theorem PW.pt{X:Cx}{e:Expr}{t:TT}(h:PW X e t):PT X e t:=h _
def PA(X:Cx)(es:List Expr)(t:TA):Prop :=
 ∀ (pos:Pos) (pins:List (Addr × Obj)) (s:Shared) (σ:St) (H:Hp) (Q:List V->Hp->Prop),Inv X pins σ H s->t σ H Q->wpAny (model X.prog X.w) X.A (spliced (backTo pos (starEach es X.env))) (AP X pins σ Q) X.xe s
def PS(X:Cx)(st:Stmt)(t:TS):Prop :=
 ∀ (pins:List (Addr × Obj)) (s:Shared) (σ:St) (H:Hp) (D:Ends),Inv X pins σ H s->t D σ H->wpAny (model X.prog X.w) X.A (exec st X.env) (SP X pins D) X.xe s
def PSs(X:Cx)(st:List Stmt)(t:TS):Prop :=
 ∀ (pins:List (Addr × Obj)) (s:Shared) (σ:St) (H:Hp) (D:Ends),Inv X pins σ H s->t D σ H->wpAny (model X.prog X.w) X.A (execs st X.env) (SP X pins D) X.xe s
theorem thn{α:Type}{t:Sem α}{Q Q':α->Shared->Prop}{M:Model}{A:Around}{E:Value->Shared->Prop}{s:Shared}(h:wpAny M A t Q E s)(hQ:∀ a s,Q a s->Q' a s):wpAny M A t Q' E s:=wpAny_mono h hQ fun _ _ x=>x
section
variable{X:Cx}
def jw(i:Nat):TE:=fun σ H Q=>∃ v,σ[i]?=some (some v)/\Q v H
def tC(v:V):TE:=fun _ H Q=>Q v H
theorem gN{i:Nat}{x:Str}{pos:Pos}(hN:X.N[i]?=some x)(hv:Vis X.env.scope x)(hd:(x == ("__debug__" : Str))=false:=by decide)(hcd:(x == ("__classdict__" : Str))=false:=by decide):PE X (.Name x pos) (jw i):=by
 intro pins s σ H Q I h
 obtain⟨v,e,h⟩:=h
 obtain⟨m,hn,hl⟩:=I.loc
 obtain⟨u,r,l⟩:=hl i x v hN e hv
 have fin:EP X pins σ Q u s:=⟨v,H,I,r,h⟩
 rcases l with⟨hk,hm⟩ | ⟨hk,c,hc,hcell⟩
 ·exact wpAny_Name (wpAny_loadName_local I.ok.kind hk hn hm fin) hd
 ·rcases hk with hk | hk
  ·exact wpAny_Name (wpAny_loadName_cell I.ok.kind hk hc hcell fin) hd
  ·exact wpAny_Name (wpAny_loadName_free I.ok.kind hk hc hcell fin hcd) hd
theorem pT{i j pos}:PE X (.Constant (.int i) j pos) (tC (.int i)):=fun _ _ _ H _ I h=>wpAny_Constant_int ⟨.int i,H,I.tok _,⟨_,rfl⟩,h⟩
theorem F2{b j pos}:PE X (.Constant (.bool b) j pos) (tC (.bl b)):=fun _ _ _ H _ I h=>Constant_bool ⟨.bl b,H,I,rfl,h⟩
theorem qE{j pos}:PE X (.Constant .none j pos) (tC .non):=fun _ _ _ H _ I h=>Constant_none ⟨.non,H,I,rfl,h⟩
theorem Eu{x j pos}:PE X (.Constant (.str x) j pos) (tC (.str x)):=fun _ _ _ H _ I h=>Calls.Constant_str ⟨.str x,H,I.tok _,⟨_,rfl⟩,h⟩
def Gl(X:Cx)(x:Str):Prop:=X.env.kindOf x=some .globalImplicit
theorem tq{E:Value->Shared->Prop}{pins:List (Addr × Obj)}{s:Shared}{σ:St}{H:Hp}{x:Str}{u:Value}{pos:Pos}{Q:Value->Shared->Prop}(I:Inv X pins σ H s)(hg:Gl X x)(hm:X.mg x=some u)(h:Q u s)
 (hd:(x == ("__debug__" : Str))=false:=by decide):wpAny (model X.prog X.w) X.A (eval (.Name x pos) X.env) Q E s :=
 Calls.Name_function_global I.ok.kind hg (Calls.loadGlobal_global (by rw[I.ok.glob];exact I.mod.glob.keeps I.bk) hm h) hd
theorem gF{E:Value->Shared->Prop}{pins:List (Addr × Obj)}{s:Shared}{σ:St}{H:Hp}{x:Str}{u:Value}{pos:Pos}{Q:Value->Shared->Prop}(I:Inv X pins σ H s)(hg:Gl X x)(hm:X.mg x=none)(hv:bootBuiltins x=some u)(h:Q u s)
 (hn:x ≠ "__name__" := by decide)(hd:(x == ("__debug__" : Str))=false:=by decide):wpAny (model X.prog X.w) X.A (eval (.Name x pos) X.env) Q E s:=by
 obtain⟨mb,h1,h2⟩:=I.mod.blt
 exact Calls.Name_function_global I.ok.kind hg (Calls.loadGlobal_builtin (by rw[I.ok.glob];exact I.mod.glob.keeps I.bk) hm (by rw[I.ok.blt];exact h1.keeps I.bk) ((h2 x hn).trans hv) h) hd
theorem AD{x:Str}{v:V}{u:Value}{pos:Pos}(hg:Gl X x)(hm:X.mg x=some u)(r:RelV v u)(hd:(x == ("__debug__" : Str))=false:=by decide):PE X (.Name x pos) (tC v) :=
 fun _ _ _ H _ I h=>tq I hg hm ⟨v,H,I,r,h⟩ hd
theorem Bt{x:Str}{v:V}{u:Value}{pos:Pos}(hg:Gl X x)(hm:X.mg x=none)(hv:bootBuiltins x=some u)(r:RelV v u)(hn:x ≠ "__name__" := by decide)(hd:(x == ("__debug__" : Str))=false:=by decide):PE X (.Name x pos) (tC v) :=
 fun _ _ _ H _ I h=>gF I hg hm hv ⟨v,H,I,r,h⟩ hn hd
variable{a b:Expr}{ta tb:TE}{pos:Pos}
def PC(X:Cx)(op:CmpOp)(a b:Expr)(t:TE):Prop :=
 ∀ (pins:List (Addr × Obj)) (s:Shared) (σ:St) (H:Hp) (Q:VK),Inv X pins σ H s->t σ H Q ->
  wpAny (model X.prog X.w) X.A (eval a X.env) (fun v s₁=>wpAny (model X.prog X.w) X.A (eval b X.env) (fun u s₂=>wpAny (model X.prog X.w) X.A (compareOp op v u) (EP X pins σ Q) X.xe s₂) X.xe s₁) X.xe s
def tB(t:TE):TT:=fun σ H Q=>t σ H fun x H1=>∃ c,x=.bl c/\Q c H1
theorem DO{op:CmpOp}{t:TE}(h:PC X op a b t)(h1:behindInMarks op b=false:=by first | exact nobehind _ (by decide) (by decide) | rfl):PE X (.Compare a [op] [b] pos) t:=fun pins s σ H Q I hw=>wpAny_Compare1 (h pins s σ H Q I hw) h1
theorem B6{op:CmpOp}{t:TE}(h:PC X op a b t)(h1:behindInMarks op b=false:=by first | exact nobehind _ (by decide) (by decide) | rfl):PT X (.Compare a [op] [b] pos) (tB t):=by
 intro pins s σ H Q I hw
 refine wpAny_isTrue_Compare1 (thn (h pins s σ H _ I hw) fun v s1 h1=>thn h1 fun u s2 h2=>thn h2 fun c s3 ⟨x,H1,I1,r1,q1⟩=>?_) h1
 obtain⟨d,rfl,q⟩:=q1
 cases r1
 exact wpAny_truthy_bool ⟨H1,I1,q⟩
variable{tA tB':TT}{rest:List Expr}
def Gh(t u:TT):TT:=fun σ H Q=>t σ H fun c H1=>if c=true then u σ H1 Q else Q false H1
def tOr(t u:TT):TT:=fun σ H Q=>t σ H fun c H1=>if c=true then Q true H1 else u σ H1 Q
def GV(t:TT):TT:=fun σ H Q=>t σ H fun c H1=>Q (!c) H1
theorem Bk(ha:PT X a tA):PW X (.BoolOp .And [a] pos) tA:=by
 intro wh pins s σ H Q I h
 refine isTrue_and (thn (ha pins s σ H Q I h) fun c s1 e=>?_)
 cases c with
 | true=>exact isTrue_and_nil e
 | false=>exact e
theorem Dn(ha:PT X a tA):PW X (.BoolOp .Or [a] pos) tA:=by
 intro wh pins s σ H Q I h
 refine isTrue_or (thn (ha pins s σ H Q I h) fun c s1 e=>?_)
 cases c with
 | false=>exact isTrue_or_nil e
 | true=>exact e
theorem CQ(ha:PT X a tA)(hb:PW X (.BoolOp .And (b::rest) pos) tB'):PW X (.BoolOp .And (a::b::rest) pos) (Gh tA tB'):=by
 intro wh pins s σ H Q I h
 refine isTrue_and (thn (ha pins s σ H _ I h) fun c s1 ⟨H1,I1,q1⟩=>?_)
 cases c with
 | true=>exact hb wh pins s1 σ H1 Q I1 q1
 | false=>exact⟨H1,I1,q1⟩
theorem Ft(ha:PT X a tA)(hb:PW X (.BoolOp .Or (b::rest) pos) tB'):PW X (.BoolOp .Or (a::b::rest) pos) (tOr tA tB'):=by
 intro wh pins s σ H Q I h
 refine isTrue_or (thn (ha pins s σ H _ I h) fun c s1 ⟨H1,I1,q1⟩=>?_)
 cases c with
 | true=>exact⟨H1,I1,q1⟩
 | false=>exact hb wh pins s1 σ H1 Q I1 q1
theorem BU(ha:PT X a tA):PT X (.UnaryOp .Not a pos) (GV tA):=by
 intro pins s σ H Q I h
 exact isTrue_not (ha pins s σ H (fun c H1=>Q (!c) H1) I h)
def F1(ta tb:TE):TE:=fun σ H Q=>ta σ H fun x H1=>∃ c,x=.bl c/\if c=true then tb σ H1 Q else Q (.bl false) H1
def Gs(ta tb:TE):TE:=fun σ H Q=>ta σ H fun x H1=>∃ c,x=.bl c/\if c=true then Q (.bl true) H1 else tb σ H1 Q
theorem BO{op}{t:TE}(h:PE X a t):PE X (.BoolOp op [a] pos) t:=fun pins s σ H Q I hw=>BoolOp_one (h pins s σ H Q I hw)
theorem EK(ha:PE X a ta)(hb:PE X (.BoolOp .And (b::rest) pos) tb):PE X (.BoolOp .And (a::b::rest) pos) (F1 ta tb):=by
 intro pins s σ H Q I h
 refine BoolOp_and (thn (ha pins s σ H _ I h) fun v s1 ⟨x,H1,I1,r1,q1⟩=>?_)
 obtain⟨c,rfl,q1⟩:=q1
 cases r1
 refine wpAny_truthy_bool ?_
 cases c with
 | true=>exact hb pins s1 σ H1 Q I1 q1
 | false=>exact⟨.bl false,H1,I1,rfl,q1⟩
theorem FH(ha:PE X a ta)(hb:PE X (.BoolOp .Or (b::rest) pos) tb):PE X (.BoolOp .Or (a::b::rest) pos) (Gs ta tb):=by
 intro pins s σ H Q I h
 refine BoolOp_or (thn (ha pins s σ H _ I h) fun v s1 ⟨x,H1,I1,r1,q1⟩=>?_)
 obtain⟨c,rfl,q1⟩:=q1
 cases r1
 refine wpAny_truthy_bool ?_
 cases c with
 | false=>exact hb pins s1 σ H1 Q I1 q1
 | true=>exact⟨.bl true,H1,I1,rfl,q1⟩
def tIf(t:TT)(ta tb:TE):TE:=fun σ H Q=>t σ H fun c H1=>if c=true then ta σ H1 Q else tb σ H1 Q
theorem yR{c:Expr}(hc:PT X c tA)(ha:PE X a ta)(hb:PE X b tb):PE X (.IfExp c a b pos) (tIf tA ta tb):=by
 intro pins s σ H Q I h
 refine wpAny_IfExp (thn (hc pins s σ H _ I h) fun d s1 ⟨H1,I1,q1⟩=>?_)
 cases d with
 | true=>exact ha pins s1 σ H1 Q I1 q1
 | false=>exact hb pins s1 σ H1 Q I1 q1
end
def SqL(K:PySem.W.Frag)(H:Hp)(a:Addr)(xs:List V):Prop :=
 Rd H a (.lst xs) \/
  ∃ (o:Obj) (its:Array Value) (n:Nat),K.lookup a=some o/\o.cls=.type "list" /\ o.dict=none/\o.data=.seq its n/\its.size<=sizeLine/\Vals xs its.toList
def SqT(K:PySem.W.Frag)(H:Hp)(a:Addr)(xs:List V):Prop :=
 Rd H a (.tup xs) \/
  ∃ (o:Obj) (its:Array Value) (n:Nat),K.lookup a=some o/\o.cls=.type "tuple" /\ o.data=.seq its n/\its.size<=sizeLine/\Vals xs its.toList
def GX:Value->Option V
 | .none=>some .non
 | .bool b=>some (.bl b)
 | .int i _=>some (.int i)
 | .str x _=>some (.str x)
 | .bytes b _=>some (.byt b)
 | .float b _=>some (.flt b)
 | .ref a=>some (.ref a)
 | .type n=>some (.ty n)
 | _=>none
theorem RelV.abs{x:V}{u:Value}(r:RelV x u):GX u=some x:=by
 cases x with
 | non=>cases r;rfl
 | bl _=>cases r;rfl
 | int _=>obtain⟨t,rfl⟩:=r;rfl
 | str _=>obtain⟨t,rfl⟩:=r;rfl
 | byt _=>obtain⟨t,rfl⟩:=r;rfl
 | flt _=>obtain⟨t,rfl⟩:=r;rfl
 | ref _=>cases r;rfl
 | ty _=>cases r;rfl
theorem RelV.inj{x y:V}{u:Value}(r:RelV x u)(q:RelV y u):x=y:=Option.some.inj (r.abs.symm.trans q.abs)
theorem Vals.inj:∀ {xs ys:List V} {us:List Value},Vals xs us->Vals ys us->xs=ys
 | _,_,_,.nil,.nil=>rfl
 | _,_,_,.cons r t,.cons r' t'=>by rw[r.inj r',Vals.inj t t']
section
variable{X:Cx}{pins:List (Addr × Obj)}{σ:St}{H:Hp}{s:Shared}{a:Addr}{xs ys:List V}
theorem SqL.of{K:PySem.W.Frag}(h:H a=some (.lst xs)):SqL K H a xs:=.inl (.inl h)
theorem SqT.of{K:PySem.W.Frag}(h:H a=some (.tup xs)):SqT K H a xs:=.inl (.inl h)
theorem Inv.list(I:Inv X pins σ H s)(h:SqL X.K H a xs):∃ its:List Value,Vals xs its/\PlainL s.heap a its.toArray/\xs.length<=sizeLine:=by
 rcases h with h | ⟨o,its,n,hk,hc,hd,hs,hz,r⟩
 ·obtain⟨z,its,n,r,e⟩:=h.ok I.hok
  exact⟨its,r,⟨_,n,e,rfl,rfl,rfl⟩,z⟩
 ·refine⟨its.toList,r,⟨o,n,I.kIn a o hk,hc,hd,by simpa using hs⟩,?_⟩
  have e:=r.length
  simp only[Array.length_toList]at e
  lia
theorem Inv.tuple(I:Inv X pins σ H s)(h:SqT X.K H a xs):∃ its:List Value,Vals xs its/\IsTup s.heap a its.toArray/\xs.length<=sizeLine:=by
 rcases h with h | ⟨o,its,n,hk,hc,hs,hz,r⟩
 ·obtain⟨z,its,r,p⟩:=h.ok I.hok
  exact⟨its,r,p,z⟩
 ·refine⟨its.toList,r,⟨o,I.kIn a o hk,hc,n,by simpa using hs⟩,?_⟩
  have e:=r.length
  simp only[Array.length_toList]at e
  lia
theorem Inv.zm(I:Inv X pins σ H s)(h:SqL X.K H a xs)(h':SqL X.K H a ys):xs=ys:=by
 obtain⟨its,r,⟨o,n,e,_,_,d⟩,_⟩:=I.list h
 obtain⟨its',r',⟨o',n',e',_,_,d'⟩,_⟩:=I.list h'
 rw[e]at e';cases e'
 rw[d]at d'
 injection d' with d1 _
 have:its=its':=by simpa using congrArg Array.toList d1
 subst this
 exact r.inj r'
theorem Inv.wb(I:Inv X pins σ H s)(h:SqT X.K H a xs)(h':SqT X.K H a ys):xs=ys:=by
 obtain⟨its,r,⟨o,e,_,n,d⟩,_⟩:=I.tuple h
 obtain⟨its',r',⟨o',e',_,n',d'⟩,_⟩:=I.tuple h'
 rw[e]at e';cases e'
 rw[d]at d'
 injection d' with d1 _
 have:its=its':=by simpa using congrArg Array.toList d1
 subst this
 exact r.inj r'
end
abbrev Cx.iq(X:Cx)(E:Value->Shared->Prop):Cx:={ X with xe:=E }
abbrev Cx.nox(X:Cx):Cx:=X.iq fun _ _=>False
theorem Cx.Ok.iq{X:Cx}(ok:X.Ok)(E:Value->Shared->Prop):(X.iq E).Ok :=
 ⟨ok.mod,ok.kind,ok.glob,ok.blt,ok.above,ok.inj,ok.has,ok.cab,ok.hd,ok.frames,ok.stk,ok.exf,ok.bs,ok.bsz,ok.qT,ok.qj,ok.gA,ok.frf⟩
theorem Cx.Ok.fH{X:Cx}{E:Value->Shared->Prop}(ok:(X.iq E).Ok):X.Ok :=
 ⟨ok.mod,ok.kind,ok.glob,ok.blt,ok.above,ok.inj,ok.has,ok.cab,ok.hd,ok.frames,ok.stk,ok.exf,ok.bs,ok.bsz,ok.qT,ok.qj,ok.gA,ok.frf⟩
section
variable{X:Cx}{pins:List (Addr × Obj)}{σ:St}{H:Hp}{s:Shared}{E:Value->Shared->Prop}
theorem Inv.iq(I:Inv X pins σ H s)(E:Value->Shared->Prop):Inv (X.iq E) pins σ H s:=⟨I.ok.iq E,I.os,I.bare,I.base,I.loc,I.cell,I.free,I.eF,I.pin,I.hok,I.len⟩
theorem Inv.fH(I:Inv (X.iq E) pins σ H s):Inv X pins σ H s:=⟨I.ok.fH,I.os,I.bare,I.base,I.loc,I.cell,I.free,I.eF,I.pin,I.hok,I.len⟩
theorem SP.fH{D:Ends}{f:Flow}{s':Shared}(h:SP (X.iq E) pins D f s'):SP X pins D f s':=by
 cases f with
 | next=>obtain⟨σ',H',I,q⟩:=h;exact⟨σ',H',I.fH,q⟩
 | brk=>obtain⟨σ',H',I,q⟩:=h;exact⟨σ',H',I.fH,q⟩
 | cont=>obtain⟨σ',H',I,q⟩:=h;exact⟨σ',H',I.fH,q⟩
 | ret u=>obtain⟨v,σ',H',I,r,q⟩:=h;exact⟨v,σ',H',I.fH,r,q⟩
theorem PSs.nox{st:List Stmt}{t:TS}(h:PSs X.nox st t):PSs X st t:=fun pins s σ H D I hw =>
 wpAny_mono (h pins s σ H D (I.iq _) hw) (fun _ _ q=>q.fH) fun _ _ z=>False.elim z
end
section
variable{X:Cx}{st:Stmt}{rest:List Stmt}{t u:TS}{e:Expr}{te:TE}{pos:Pos}
def FE:TS:=fun D σ H=>D.nx σ H
def Gp(t u:TS):TS:=fun D σ H=>t { D with nx:=u D } σ H
theorem Bs:PSs X [] FE:=fun _ _ σ H _ I h=>wpAny_execs_nil ⟨σ,H,I,h⟩
theorem yA(h1:PS X st t)(h2:PSs X rest u):PSs X (st::rest) (Gp t u):=by
 intro pins s σ H D I h
 refine wpAny_execs_cons (thn (h1 pins s σ H { D with nx:=u D } I h) fun f s1 q=>?_)
 cases f with
 |next=>
  obtain⟨σ',H',I',q⟩:=q
  exact h2 pins s1 σ' H' D I' q
 | ret v=>exact q
 | brk=>exact q
 | cont=>exact q
theorem Inv.quiet{pins:List (Addr × Obj)}{σ:St}{H:Hp}{s:Shared}(I:Inv X pins σ H s):interactive X.env=false:=by simp[interactive,I.ok.kind]
def pO(te:TE):TS:=fun D σ H=>te σ H fun _ H1=>D.nx σ H1
theorem nB(he:PE X e te)(hs:swapsWith e none pos.line X.env=pure false:=by rfl):PS X (.Expr e pos) (pO te):=by
 intro pins s σ H D I h
 exact wpAny_Expr_any (thn (he pins s σ H _ I h) fun v s1 ⟨x,H1,I1,r1,q1⟩=>⟨σ,H1,I1,q1⟩) I.quiet hs
def GZ(te:TE):TS:=fun D σ H=>te σ H D.rt
theorem xl(he:PE X e te):PS X (.Return (some e) pos) (GZ te):=by
 intro pins s σ H D I h
 exact wpAny_Return_some (thn (he pins s σ H _ I h) fun v s1 ⟨x,H1,I1,r1,q1⟩=>⟨x,σ,H1,I1,r1,q1⟩)
def FY(c:TT)(t u:TS):TS:=fun D σ H=>c σ H fun b H1=>if b=true then t D σ H1 else u D σ H1
theorem zB{c:Expr}{a b:List Stmt}{tc:TT}(hc:PT X c tc)(ha:PSs X a t)(hb:PSs X b u):PS X (.If c a b pos) (FY tc t u):=by
 intro pins s σ H D I h
 refine wpAny_If (thn (hc pins s σ H _ I h) fun d s1 ⟨H1,I1,q1⟩=>?_)
 cases d with
 | true=>exact ha pins s1 σ H1 D I1 q1
 | false=>exact hb pins s1 σ H1 D I1 q1
def Dy:TS:=fun _ _ _=>False
theorem ye:PS X st Dy:=fun _ _ _ _ _ _ h=>h.elim
end
abbrev TG:=V->St->Hp->(St->Hp->Prop)->Prop
abbrev TGs:=List V->St->Hp->(St->Hp->Prop)->Prop
def PG(X:Cx)(target:Expr)(t:TG):Prop :=
 ∀ (pins:List (Addr × Obj)) (s:Shared) (σ:St) (H:Hp) (v:V) (u:Value) (Q:St->Hp->Prop),Inv X pins σ H s->RelV v u->t v σ H Q ->
  wpAny (model X.prog X.w) X.A (assign target X.env u) (fun _ s'=>∃ σ' H',Inv X pins σ' H' s'/\Q σ' H') X.xe s
def PGs(X:Cx)(ts:List Expr)(t:TGs):Prop :=
 ∀ (pins:List (Addr × Obj)) (s:Shared) (σ:St) (H:Hp) (vs:List V) (us:List Value) (Q:St->Hp->Prop),Inv X pins σ H s->Vals vs us->t vs σ H Q ->
  wpAny (model X.prog X.w) X.A (assignInOrder ((assignEach ts X.env).map (·.2)) us) (fun _ s'=>∃ σ' H',Inv X pins σ' H' s'/\Q σ' H') X.xe s
abbrev zl:=V->V->V->Hp->(Hp->Prop)->Prop
def DM(X:Cx)(t:zl):Prop :=
 ∀ (pins:List (Addr × Obj)) (s:Shared) (σ:St) (H:Hp) (o i v:V) (ov iv u:Value) (Q:Hp->Prop),Inv X pins σ H s->RelV o ov->RelV i iv->RelV v u->t o i v H Q ->
  wpAny (model X.prog X.w) X.A (setItem ov iv u) (fun _ s'=>∃ H',Inv X pins σ H' s'/\Q H') X.xe s
abbrev TIp:=V->V->Hp->VK->Prop
def PIp(X:Cx)(op:Operator)(t:TIp):Prop :=
 ∀ (pins:List (Addr × Obj)) (s:Shared) (σ:St) (H:Hp) (x y:V) (v u:Value) (Q:VK),Inv X pins σ H s->RelV x v->RelV y u->t x y H Q ->
  wpAny (model X.prog X.w) X.A (inplaceOp op v u) (EP X pins σ Q) X.xe s
section
variable{X:Cx}{pos:Pos}
def mR(i:Nat):TG:=fun v σ H Q=>Q (σ.set i (some v)) H
theorem t7{i:Nat}{x:Str}(hN:X.N.Nodup)(hi:X.N[i]?=some x)(hx:Loc X.env.scope x)(hf:X.fn x=true\/X.env.scope.names.lookup x=some .local:=by first | exact .inl rfl | exact .inr rfl | assumption):PG X (.Name x pos) (mR i):=by
 intro pins s σ H v u Q I r h
 exact wpAny_assign_Name (gM I hN hi hx r (fun s' I'=>⟨_,H,I',h⟩) hf)
def BE:TGs:=fun vs σ H Q=>vs=[]/\Q σ H
def zN(t:TG)(u:TGs):TGs:=fun vs σ H Q=>∃ v r,vs=v::r/\t v σ H fun σ' H'=>u r σ' H' Q
theorem AW:PGs X [] BE:=by
 intro pins s σ H vs us Q I r h
 obtain⟨e,h⟩:=h
 subst e
 cases r
 exact assignInOrder_nil ⟨σ,H,I,h⟩
theorem xE{e:Expr}{es:List Expr}{t:TG}{u:TGs}(h1:PG X e t)(h2:PGs X es u)
 (hs:(assignEach (e::es) X.env).map (·.2)=assign e X.env::(assignEach es X.env).map (·.2):=by rfl):PGs X (e::es) (zN t u):=by
 intro pins s σ H vs us Q I r h
 obtain⟨v,vr,e1,h⟩:=h
 subst e1
 cases r with
 |cons r rr=>
  rw[hs]
  refine assignInOrder_cons (thn (h1 pins s σ H _ _ _ I r h) fun _ s1 ⟨σ1,H1,I1,q1⟩=>?_)
  exact h2 pins s1 σ1 H1 _ _ Q I1 rr q1
def ny(K:PySem.W.Frag)(n:Nat)(t:TGs):TG:=fun v σ H Q=>∃ a xs,v=.ref a/\SqT K H a xs/\xs.length=n/\t xs σ H Q
theorem xo{es:List Expr}{k:Nat}{t:TGs}{n:Nat}(hc:X.calm=true)(h:PGs X es t)
 (hn:(assignEach es X.env).length=n:=by rfl)(hst:(assignEach es X.env).findIdx? (·.1)=none:=by rfl):PG X (.Tuple es k pos) (ny X.K n t):=by
 intro pins s σ H v u Q I r hw
 obtain⟨a,xs,e1,hq,hl,hw⟩:=hw
 subst e1
 cases r
 obtain⟨its,rv,ht,hz⟩:=I.tuple hq
 refine assign_Tuple_tuple (I.ok.hd hc) ht (by simp[hn,<-hl,rv.length]) hst fun h' hx=>?_
 have I1:Inv X pins σ H { s with heap:=h' }:=I.kept (t':=s.toks) fun b o e=>hx b o (Nat.ne_of_lt (Heap.lt_size e)) e
 exact h pins _ σ H xs _ Q I1 (by simpa using rv) hw
def xK(to ti:TE)(t:zl):TG:=fun v σ H Q=>to σ H fun o H1=>ti σ H1 fun i H2=>t o i v H2 fun H3=>Q σ H3
theorem Cw{o i:Expr}{to ti:TE}{t:zl}(ho:PE X o to)(hi:PE X i ti)(hs:DM X t)
 (ha:∀ v,assign (.Subscript o i pos) X.env v=(do
   let ov <- holding [v] (eval o X.env)
   let iv <- holding [v,ov] (eval i X.env)
   standAt pos
   holding [v,ov,iv] (setItem ov iv v)
   release [v,ov,iv] []):=by intro _;rfl):PG X (.Subscript o i pos) (xK to ti t):=by
 intro pins s σ H v u Q I r h
 rw[ha]
 refine wpAny_bind (wpAny_holding (thn (ho pins s σ H _ I h) fun ov s1 ⟨x,H1,I1,r1,q1⟩=>?_))
 refine wpAny_bind (wpAny_holding (thn (hi pins s1 σ H1 _ I1 q1) fun iv s2 ⟨y,H2,I2,r2,q2⟩=>?_))
 refine wpAny_bind (wpAny_standAt (wpAny_bind (wpAny_holding (thn (hs pins s2 σ H2 x y v ov iv u _ I2 r1 r2 r q2) fun _ s3 ⟨H3,I3,q3⟩=>?_))))
 exact wpAny_release ⟨σ,H3,I3,q3⟩
def nQ(te:TE)(g:TG):TS:=fun D σ H=>te σ H fun x H1=>g x σ H1 D.nx
theorem vd{tg e:Expr}{te:TE}{g:TG}(he:PE X e te)(hg:PG X tg g)(hs:swapsWithSole [tg] e pos.line X.env=pure false:=by rfl)(hw:swappedStores [tg] e X.env=pure none:=by rfl)
 (h1:(assignEach [tg] X.env).map (·.2)=[assign tg X.env]:=by rfl):PS X (.Assign [tg] e pos) (nQ te g):=by
 intro pins s σ H D I h
 refine wpAny_Assign_stores (thn (he pins s σ H _ I h) fun v s1 ⟨x,H1,I1,r1,q1⟩=>?_) hs hw
 rw[h1]
 exact thn (hg pins s1 σ H1 x v _ I1 r1 q1) fun _ s2 q=>q
theorem xb{i:Nat}{x:Str}{e:Expr}{te:TE}{pos':Pos}(hN:X.N.Nodup)(hi:X.N[i]?=some x)(hx:Loc X.env.scope x)(he:PE X e te)(hs:swapsWith e (some (.Name x pos')) pos.line X.env=pure false:=by rfl)(hf:X.fn x=true\/X.env.scope.names.lookup x=some .local:=by first | exact .inl rfl | exact .inr rfl | assumption) :
  PS X (.Assign [.Name x pos'] e pos) (nQ te (mR i)):=by
 intro pins s σ H D I h
 refine wpAny_Assign_Name (thn (he pins s σ H _ I h) fun v s1 ⟨y,H1,I1,r1,q1⟩=>?_) hs
 exact gM I1 hN hi hx r1 (fun s2 I2=>⟨_,H1,I2,q1⟩) hf
def DJ(i j:Nat)(ta:TA):TS:=fun D σ H=>ta σ H fun vs H1=>∃ v w,vs=[v,w]/\D.nx ((σ.set i (some v)).set j (some w)) H1
theorem DS{i j:Nat}{x y:Str}{a b:Expr}{ta:TA}{px py pt:Pos}{kt k2 pt2}(hc:X.calm=true)(hN:X.N.Nodup)(hi:X.N[i]?=some x)(hj:X.N[j]?=some y)(hij:i≠j)
 (hx:X.env.scope.names.lookup x=some .local)(hy:X.env.scope.names.lookup y=some .local)(ha:PA X [a,b] ta)
 (hw:swappedStores [.Tuple [.Name x px,.Name y py] kt pt] (.Tuple [a,b] k2 pt2) X.env=pure (some [x,y]))
 (hs:swapsWithSole [.Tuple [.Name x px,.Name y py] kt pt] (.Tuple [a,b] k2 pt2) pos.line X.env=pure false:=by rfl) :
  PS X (.Assign [.Tuple [.Name x px,.Name y py] kt pt] (.Tuple [a,b] k2 pt2) pos) (DJ i j ta):=by
 intro pins s σ H D I h
 rw[exec_Assign_arm]
 refine wpAny_bind (wpAny_standAt ?_)
 rw[hs]
 refine wpAny_bind (wpAny_pure ?_)
 rw[if_neg (by decide)]
 refine wpAny_bind (Tuple_ (thn (ha _ pins s σ H _ I h) fun us s1 ⟨vs,H1,I1,r1,q1⟩=>?_))
 obtain⟨v,w,e1,q1⟩:=q1
 subst e1
 obtain⟨u1,u2,rfl,rv,rw'⟩:∃ u1 u2,us=[u1,u2]/\RelV v u1/\RelV w u2:=by
  cases r1 with
  |cons p q=>
   cases q with
   |cons p' q'=>
    cases q'
    exact⟨_,_,rfl,p,p'⟩
 refine wpAny_newObj_type ?_ (by show 2<=sizeLine;decide)
 have I2:Inv X pins σ H1 { s1 with heap:=s1.heap.push { cls:=.type "tuple",data:=.seq [u1,u2].toArray } }:=I1.kept (t':=s1.toks) fun b o e=>Heap.get?_push_of_some _ e
 rw[hw]
 refine wpAny_bind (wpAny_pure ?_)
 show wpAny (model X.prog X.w) X.A (do rule "assign.swapped-stores";let items <- unpackItems (.ref s1.heap.objs.size) 2 none;assignInOrder [fun v=>bindName X.env y v,fun v=>bindName X.env x v] items.reverse;pure Flow.next) _ _ _
 refine wpAny_bind (wpAny_rule (wpAny_bind (unpackItems_tuple (items:=#[u1,u2]) (I.ok.hd hc) (IsTup.new s1.heap _) fun h' hx'=>?_)))
 have I3:=I2.kept (h':=h') (t':=s1.toks) fun b o e=>hx' b o (Nat.ne_of_lt (Heap.lt_size e)) e
 show wpAny _ _ (assignInOrder [fun v=>bindName X.env y v,fun v=>bindName X.env x v] [u2,u1] >>= fun _=>pure Flow.next) _ _ _
 refine wpAny_bind (assignInOrder_cons (wpAny_bindName (gM I3 hN hj (.inl hy) rw' (fun s2 I4=>?_) (.inr hy))))
 refine assignInOrder_cons (wpAny_bindName (gM I4 hN hi (.inl hx) rv (fun s3 I5=>assignInOrder_nil (wpAny_pure ?_)) (.inr hx)))
 rw[List.set_comm _ _ (Ne.symm hij)]at I5
 exact⟨_,H1,I5,q1⟩
def Cg(i:Nat)(te:TE)(ti:TIp):TS:=fun D σ H=>∃ x,σ[i]?=some (some x)/\te σ H fun y H1=>ti x y H1 fun z H2=>D.nx (σ.set i (some z)) H2
theorem wV{i:Nat}{x:Str}{e:Expr}{te:TE}{op:Operator}{ti:TIp}{pos':Pos}(hN:X.N.Nodup)(hi:X.N[i]?=some x)(hx:Loc X.env.scope x)(he:PE X e te)(ho:PIp X op ti)(hf:X.fn x=true\/X.env.scope.names.lookup x=some .local:=by first | exact .inl rfl | exact .inr rfl | assumption) :
  PS X (.AugAssign (.Name x pos') op e pos) (Cg i te ti):=by
 intro pins s σ H D I h
 obtain⟨v,e1,h⟩:=h
 obtain⟨m,hn,hl⟩:=I.loc
 have vis:Vis X.env.scope x:=by rcases hx with k | k;exact .inl k;exact .inr (.inl k)
 obtain⟨u,r,l⟩:=hl i x v hi e1 vis
 refine wpAny_AugAssign_Name ?_
 have go:wpAny (model X.prog X.w) X.A (eval e X.env) (fun w s₂=>wpAny (model X.prog X.w) X.A (inplaceOp op u w) (fun r s₃=>wpAny (model X.prog X.w) X.A (storeName X.env x r) (fun _=>SP X pins D .next) X.xe s₃) X.xe s₂) X.xe s:=by
  refine thn (he pins s σ H _ I h) fun w s1 ⟨y,H1,I1,r1,q1⟩=>?_
  refine thn (ho pins s1 σ H1 v y u w _ I1 r r1 q1) fun z s2 ⟨zv,H2,I2,r2,q2⟩=>?_
  exact gM I2 hN hi hx r2 (fun s3 I3=>⟨_,H2,I3,q2⟩) hf
 rcases l with⟨hk,hm⟩ | ⟨hk,c,hc,hcell⟩
 ·exact wpAny_loadName_local I.ok.kind hk hn hm go
 ·rcases hk with hk | hk
  ·exact wpAny_loadName_cell I.ok.kind hk hc hcell go
  ·rcases hx with k | k
   ·have:X.env.scope.names.lookup x=some .free:=hk
    rw[k]at this;cases this
   ·have:X.env.scope.names.lookup x=some .free:=hk
    rw[k]at this;cases this
def ipI(f:Int->Int->Int):TIp:=fun x y H Q=>∃ i j,x=.int i/\y=.int j/\Q (.int (f i j)) H
theorem C2:PIp X .Add (ipI fun i j=>i+j):=by
 intro pins s σ H x y v u Q I r1 r2 h
 obtain⟨i,j,e1,e2,q⟩:=h
 subst e1;subst e2
 obtain⟨t,rfl⟩:=r1
 obtain⟨t',rfl⟩:=r2
 exact iadd_int ⟨.int _,H,I.tok _,⟨_,rfl⟩,q⟩
theorem Em:PIp X .Sub (ipI fun i j=>i-j):=by
 intro pins s σ H x y v u Q I r1 r2 h
 obtain⟨i,j,e1,e2,q⟩:=h
 subst e1;subst e2
 obtain⟨t,rfl⟩:=r1
 obtain⟨t',rfl⟩:=r2
 exact isub_int ⟨.int _,H,I.tok _,⟨_,rfl⟩,q⟩
end
section
variable{X:Cx}{pos:Pos}
def BD(c:TT)(tb:TS):TS:=fun D σ H=>∃ W:Nat->St->Hp->Prop,(∃ m,W m σ H)/\∀ m σ H,W m σ H ->
 c σ H fun b H1=>if b=true then ∃ N:St->Hp->Prop,(∀ σ' H',N σ' H'->∃ m',m'<m/\W m' σ' H')/\tb { D with nx:=N,ct:=N,bk:=D.nx } σ H1 else D.nx σ H1
theorem xX{c:Expr}{body:List Stmt}{tc:TT}{tb:TS}(hp:PassesOwn (model X.prog X.w) X.A X.env X.xe)(hc:PT X c tc)(hb:PSs X body tb):PS X (.While c body [] pos) (BD tc tb):=by
 intro pins s σ H D I h
 obtain⟨W,⟨m0,w0⟩,turn⟩:=h
 refine wpAny_While (codeAny_whileLoop (fun n s'=>∃ σ' H',Inv X pins σ' H' s'/\W n σ' H') ?_ m0 ⟨σ,H,I,w0⟩)
 rintro n s1 ⟨σ1,H1,I1,w1⟩
 refine wpAny_passesOwn hp (thn (hc pins s1 σ1 H1 _ I1 (turn n σ1 H1 w1)) fun b s2 ⟨H2,I2,q2⟩=>?_)
 cases b with
 |true=>
  obtain⟨N,hN,q2⟩:=q2
  rw[if_pos rfl]
  refine wpAny_passesOwn hp (thn (hb pins s2 σ1 H2 _ I2 q2) fun f s3 q3=>?_)
  cases f with
  |next=>
   obtain⟨σ3,H3,I3,n3⟩:=q3
   obtain⟨m',hm,w3⟩:=hN σ3 H3 n3
   exact⟨m',hm,σ3,H3,I3,w3⟩
  |cont=>
   obtain⟨σ3,H3,I3,n3⟩:=q3
   obtain⟨m',hm,w3⟩:=hN σ3 H3 n3
   exact⟨m',hm,σ3,H3,I3,w3⟩
  | brk=>exact q3
  | ret v=>exact q3
 |false=>
  rw[if_neg Bool.false_ne_true]
  exact wpAny_execs_nil ⟨σ1,H2,I2,q2⟩
end
structure It where
 go:Nat->Hp->Prop
 yld:Nat->Hp->V->Hp->Prop
 stop:Nat->Hp->Prop
def iU(X:Cx)(pins:List (Addr × Obj))(H:Hp)(b:Addr):Prop :=
 H b=none/\b≠X.env.locals/\b∉X.fs/\(b∈X.ex\/X.s₀.heap.objs.size<=b)/\(∀ x c,X.env.cells.lookup x=some c->c≠b)/\∀ p∈X.pn++pins,p.1≠b
theorem Inv.nO{X:Cx}{pins:List (Addr × Obj)}{σ:St}{H H':Hp}{s:Shared}{b:Addr}(I:Inv X pins σ H s)(hb:s.heap.objs.size<=b)(hn:H' b=none):iU X pins H' b:=by
 refine⟨hn,Nat.ne_of_gt (Nat.lt_of_lt_of_le I.lt hb),I.GY hb,.inr (Nat.le_trans I.sz hb),fun x c e z=>?_,fun p hp z=>?_⟩
 ·obtain⟨v,q⟩:=I.cell x c e
  exact absurd (Nat.lt_of_lt_of_le q.lt (by rw[z];exact hb)) (Nat.lt_irrefl _)
 ·exact absurd (Nat.lt_of_lt_of_le (Heap.lt_size (I.pin p hp).1) (by rw[z];exact hb)) (Nat.lt_irrefl _)
structure Turn(P:Program)(w:World)(K:PySem.W.Frag)(tg:Expr)(J:It)(fp:List Addr)(it:Addr)(tn:Nat->Heap->Prop):Prop where
 mem:it∈fp
 obj:∀ i h,tn i h->∀ b∈fp,∃ o,h.get? b=some o/\∀ v,o.data≠.cell v
 keep:∀ i h h',tn i h->(∀ b∈fp,∀ o,h.get? b=some o->h'.get? b=some o)->tn i h'
 item:∀ (X:Cx),X.prog=P->X.w=w->X.K=K->X.calm=true->∀ (i:Nat) (pins:List (Addr × Obj)) (s:Shared) (σ:St) (H:Hp) (E:Value->Shared->Prop),Inv X pins σ H s->(∀ b∈fp,iU X pins H b)->tn i s.heap->J.go i H ->
  wpAny (model P w) X.A (pyNext (.ref it)) (fun r s1=>∃ u,r=some u /\
   wpAny (model P w) X.A (letOwnedTupleGo tg (.ref it) u) (fun _ s2=>∃ x H',Inv X pins σ H' s2/\RelV x u/\J.yld i H x H'/\tn (i+1) s2.heap/\∀ b∈fp,H' b=none) E s1) E s
 done:∀ (X:Cx),X.prog=P->X.w=w->X.K=K->X.calm=true->∀ (i:Nat) (pins:List (Addr × Obj)) (s:Shared) (σ:St) (H:Hp) (E:Value->Shared->Prop),Inv X pins σ H s->(∀ b∈fp,iU X pins H b)->tn i s.heap->J.stop i H ->
  wpAny (model P w) X.A (pyNext (.ref it)) (fun r s1=>r=none/\Inv X pins σ H s1) E s
 self:∀ (A:Around) (i:Nat) (s:Shared) (Q:Value->Shared->Prop) (E:Value->Shared->Prop),tn i s.heap->Q (.ref it) s->wpAny (model P w) A (pyIter (.ref it)) Q E s
abbrev TI:=St->Hp->(It->Hp->Prop)->Prop
def PIE(X:Cx)(pins:List (Addr × Obj))(σ:St)(tg:Expr)(R:It->Hp->Prop)(itv:Value)(s2:Shared):Prop :=
 ∃ (it:Addr) (fp:List Addr) (tn:Nat->Heap->Prop) (J:It) (H':Hp),itv=.ref it/\Inv X pins σ H' s2/\Turn X.prog X.w X.K tg J fp it tn/\tn 0 s2.heap/\(∀ b∈fp,iU X pins H' b)/\R J H'
def PI(X:Cx)(tg iter:Expr)(wi:TI):Prop :=
 ∀ (pins:List (Addr × Obj)) (s:Shared) (σ:St) (H:Hp) (R:It->Hp->Prop),Inv X pins σ H s->wi σ H R ->
  wpAny (model X.prog X.w) X.A (eval iter X.env) (fun v s1=>wpAny (model X.prog X.w) X.A (pyIter v) (PIE X pins σ tg R) X.xe s1) X.xe s
theorem pF{M:Model}{A:Around}{E:Value->Shared->Prop}{s:Shared}{tg:Expr}{it:Addr}{u:Value}{o:Obj}{n:String}{vs:Array Value}{Q:Unit->Shared->Prop}(ho:s.heap.get? it=some o)(hc:o.cls=.type n)(hd:o.data=.fields vs)
 (hn:["enumerate", "zip", "dict_itemiterator", "dict_reverseitemiterator", "odict_iterator", "itertools.zip_longest", "itertools.pairwise"].contains n=false)(hQ:Q () s):wpAny M A (letOwnedTupleGo tg (.ref it) u) Q E s:=by
 unfold letOwnedTupleGo
 cases tg<;>first
  | exact wpAny_pure hQ
  | (cases u<;>first
    | exact wpAny_pure hQ
    | (refine wpAny_bind (wpAny_load ho ?_)
       rw[hc,hd]
       show wpAny M A (if(["enumerate", "zip", "dict_itemiterator", "dict_reverseitemiterator", "odict_iterator", "itertools.zip_longest", "itertools.pairwise"].contains n&&vs[0]? == some (rawInt _))=true then _ else _) Q E s
       rw[if_neg (by intro h;rw[hn,Bool.false_and]at h;cases h)]
       exact wpAny_pure hQ))
def Itl(K:PySem.W.Frag)(a:Addr):It :=
 ⟨fun i H=>∃ xs x,SqL K H a xs/\xs[i]?=some x,fun i H x H'=>H'=H/\∀ xs,SqL K H a xs->xs[i]?=some x,fun i H=>∃ xs,SqL K H a xs/\xs.length<=i⟩
def Itt(K:PySem.W.Frag)(a:Addr):It :=
 ⟨fun i H=>∃ xs x,SqT K H a xs/\xs[i]?=some x,fun i H x H'=>H'=H/\∀ xs,SqT K H a xs->xs[i]?=some x,fun i H=>∃ xs,SqT K H a xs/\xs.length<=i⟩
def Itr(lo:Int)(n:Nat):It:=⟨fun i _=>i<n,fun i H x H'=>H'=H/\x=.int (lo+i),fun i _=>n<=i⟩
theorem wg{P:Program}{w:World}{K:PySem.W.Frag}{tg:Expr}(a it:Addr):Turn P w K tg (Itl K a) [it] it (fun i h=>h.IsListIter it a i) where
 mem:=by simp
 obj:=fun i h st b hb=>by
  have e:b=it:=by simpa using hb
  subst e
  obtain⟨o,e,c,d⟩:=st
  exact⟨o,e,fun v z=>by rw[d]at z;cases z⟩
 keep:=fun i h h' st k=>st.at fun o e=>k it (by simp) o e
 item:=by
  intro X hP hw hK hc i pins s σ H E I hf st hg
  subst hP hw hK
  obtain⟨xs,x,hq,hx⟩:=hg
  obtain⟨its,rv,p,hz⟩:=I.list hq
  obtain⟨u,hu,ru⟩:=rv.get hx
  obtain⟨f0,f1,f2,f3,f4,f5⟩:=hf it (by simp)
  refine wpAny_pyNext_list_item st p.isList (x:=u) (by simpa using hu) fun h' st' sb=>?_
  have I1:Inv X pins σ H { s with heap:=h' }:=I.turned (t':=s.toks) (fun b o hb e=>(sb.2 b hb).trans e) f0 f1 f3 f4 f5
  obtain⟨o,e,c,d⟩:=id st'
  exact⟨u,rfl,pF (s:={ s with heap:=h' }) e c d (by decide) ⟨x,H,I1,ru,⟨rfl,fun ys hy=>by rw[I.zm hy hq];exact hx⟩,st',fun b hb=>(hf b hb).1⟩⟩
 done:=by
  intro X hP hw hK hc i pins s σ H E I hf st hg
  subst hP hw hK
  obtain⟨xs,hq,hx⟩:=hg
  obtain⟨its,rv,p,hz⟩:=I.list hq
  obtain⟨f0,f1,f2,f3,f4,f5⟩:=hf it (by simp)
  have hl:=rv.length
  exact wpAny_pyNext_list_end (I.ok.hd hc) st p.isList (by simp;lia) fun h' eb=>⟨rfl,I.turned (t':=s.toks) (fun b o hb e=>eb b o hb e) f0 f1 f3 f4 f5⟩
 self:=fun _ _ _ _ _ st h=>wpAny_pyIter_listiter st h
theorem uy{P:Program}{w:World}{K:PySem.W.Frag}{tg:Expr}(a it:Addr):Turn P w K tg (Itt K a) [it] it (fun i h=>h.IsTupleIter it a i) where
 mem:=by simp
 obj:=fun i h st b hb=>by
  have e:b=it:=by simpa using hb
  subst e
  obtain⟨o,e,c,d⟩:=st
  exact⟨o,e,fun v z=>by rw[d]at z;cases z⟩
 keep:=fun i h h' st k=>st.at fun o e=>k it (by simp) o e
 item:=by
  intro X hP hw hK hc i pins s σ H E I hf st hg
  subst hP hw hK
  obtain⟨xs,x,hq,hx⟩:=hg
  obtain⟨its,rv,p,hz⟩:=I.tuple hq
  obtain⟨u,hu,ru⟩:=rv.get hx
  obtain⟨f0,f1,f2,f3,f4,f5⟩:=hf it (by simp)
  refine wpAny_pyNext_tuple_item st (show s.heap.IsTuple a its.toArray from p) (x:=u) (by simpa using hu) fun h' st' sb=>?_
  have I1:Inv X pins σ H { s with heap:=h' }:=I.turned (t':=s.toks) (fun b o hb e=>(sb.2 b hb).trans e) f0 f1 f3 f4 f5
  obtain⟨o,e,c,d⟩:=id st'
  exact⟨u,rfl,pF (s:={ s with heap:=h' }) e c d (by decide) ⟨x,H,I1,ru,⟨rfl,fun ys hy=>by rw[I.wb hy hq];exact hx⟩,st',fun b hb=>(hf b hb).1⟩⟩
 done:=by
  intro X hP hw hK hc i pins s σ H E I hf st hg
  subst hP hw hK
  obtain⟨xs,hq,hx⟩:=hg
  obtain⟨its,rv,p,hz⟩:=I.tuple hq
  obtain⟨f0,f1,f2,f3,f4,f5⟩:=hf it (by simp)
  have hl:=rv.length
  exact wpAny_pyNext_tuple_end (I.ok.hd hc) st (show s.heap.IsTuple a its.toArray from p) (by simp;lia) fun h' eb=>⟨rfl,I.turned (t':=s.toks) (fun b o hb e=>eb b o hb e) f0 f1 f3 f4 f5⟩
 self:=fun _ _ _ _ _ st h=>wpAny_pyIter_tupleiter st h
theorem uF{P:Program}{w:World}{K:PySem.W.Frag}{tg:Expr}(it:Addr)(lo:Int)(n:Nat):Turn P w K tg (Itr lo n) [it] it (fun i h=>IsRangeIter h it (lo+(i:Nat)*1) ((n:Int)-(i:Nat)) 1) where
 mem:=by simp
 obj:=fun i h st b hb=>by
  have e:b=it:=by simpa using hb
  subst e
  exact⟨_,st,fun v z=>by
   have z':Data.fields _=Data.cell v:=z
   cases z'⟩
 keep:=fun i h h' st k=>k it (by simp) _ st
 item:=by
  intro X hP hw hK hc i pins s σ H E I hf st hg
  subst hP hw hK
  obtain⟨f0,f1,f2,f3,f4,f5⟩:=hf it (by simp)
  have W:=Walks.range (prog:=X.prog) (w:=X.w) (I.ok.hd hc) it lo 1 n
  refine W.item i s _ _ hg st fun v h' tk hv st' kk=>?_
  obtain⟨t,rfl⟩:=hv
  have I1:Inv X pins σ H { s with heap:=h',toks:=tk }:=I.turned (fun b o hb e=>kk b o (by simpa using hb) e) f0 f1 f3 f4 f5
  refine⟨_,rfl,pF (s:={ s with heap:=h',toks:=tk }) (n := "range_iterator") st' rfl rfl (by decide) ⟨.int (lo+i),H,I1,⟨t,?_⟩,⟨rfl,rfl⟩,st',fun b hb=>(hf b hb).1⟩⟩
  rw[Int.mul_one]
 done:=by
  intro X hP hw hK hc i pins s σ H E I hf st hg
  subst hP hw hK
  obtain⟨f0,f1,f2,f3,f4,f5⟩:=hf it (by simp)
  exact wpAny_pyNext_range_end (I.ok.hd hc) st (by have:n<=i:=hg;lia) fun h' eb=>⟨rfl,I.turned (t':=s.toks) (fun b o hb e=>eb b o hb e) f0 f1 f3 f4 f5⟩
 self:=fun _ _ _ _ _ st h=>wpAny_pyIter_rangeiter st h
section
variable{X:Cx}{tg:Expr}
theorem pU{pins:List (Addr × Obj)}{σ:St}{H:Hp}{s:Shared}{R:It->Hp->Prop}{E:Value->Shared->Prop}{lo hi:Int}{t u v:Tok}{tk:Nat}(I:Inv X pins σ H s)(h1:-(2 ^ 62)<=lo)(h2:lo<2 ^ 62)(h3:-(2 ^ 62)<=hi)(h4:hi<2 ^ 62)
 (q:R (Itr lo (hi-lo).toNat) H):wpAny (model X.prog X.w) X.A (pyIter (.ref s.heap.objs.size)) (PIE X pins σ tg R) E { s with heap:=s.heap.push { cls:=.type "range",data:=.fields #[.int lo t,.int hi u,.int 1 v] },toks:=tk }:=by
 refine wpAny_pyIter_range (IsRange.new ..) (small_one h1 h2 h3 h4) ?_
 have I1:Inv X pins σ H { s with heap:=s.heap.push { cls:=.type "range",data:=.fields #[.int lo t,.int hi u,.int 1 v] },toks:=tk }:=I.kept fun b o e=>Heap.get?_push_of_some _ e
 refine⟨(s.heap.push { cls:=.type "range",data:=.fields #[.int lo t,.int hi u,.int 1 v] }).objs.size,[(s.heap.push { cls:=.type "range",data:=.fields #[.int lo t,.int hi u,.int 1 v] }).objs.size],_,_,H,rfl,
  I1.kept (t':=tk) fun b o e=>Heap.get?_push_of_some _ e,uF _ lo (hi-lo).toNat,?_,fun b hb=>?_,q⟩
 ·have e1:lo+((0:Nat):Int)*1=lo:=by simp
  have e2:(((hi-lo).toNat:Nat):Int)-((0:Nat):Int)=Builtin.Range.rangeSize lo hi 1:=by rw[rangeSize_one];split<;>lia
  show IsRangeIter _ _ (lo+((0:Nat):Int)*1) ((((hi-lo).toNat:Nat):Int)-((0:Nat):Int)) 1
  rw[e1,e2]
  exact Heap.get?_push_size _ rfl
 ·have e:b=(s.heap.push { cls:=.type "range",data:=.fields #[.int lo t,.int hi u,.int 1 v] }).objs.size:=by simpa using hb
  subst e
  exact I1.nO (Nat.le_refl _) (I1.hok.fresh (Nat.le_refl _))
def Fe(ta:TA):TI:=fun σ H R=>ta σ H fun vs H1=>∃ j:Int,vs=[.int j]/\-(2 ^ 62)<=j/\j<2 ^ 62/\R (Itr 0 j.toNat) H1
def Fm(ta:TA):TI:=fun σ H R=>ta σ H fun vs H1=>∃ i j:Int,vs=[.int i,.int j]/\(-(2 ^ 62)<=i/\i<2 ^ 62/\-(2 ^ 62)<=j/\j<2 ^ 62)/\R (Itr i (j-i).toNat) H1
theorem wJ{a:Expr}{ta:TA}{p pos:Pos}(hg:Gl X "range")(hm:X.mg "range" = none)(ha:PA X [a] ta)(hs:starEach [a] X.env=[(false,eval a X.env)]:=by rfl):PI X tg (.Call (.Name "range" p) [a] [] pos) (Fe ta):=by
 intro pins s σ H R I h
 refine Call_ (gF I hg hm boot_range (PyProof.Rows.callWith_type1 (thn (ha pos pins s σ H _ I h) fun us s1 ⟨vs,H1,I1,r1,q1⟩=>?_) hs rfl))
 obtain⟨j,e,q1,q2,q⟩:=q1
 subst e
 cases r1 with
 |cons r rr=>
  cases rr
  obtain⟨t,rfl⟩:=r
  exact call_range_1 (pU I1 (by lia) (by lia) q1 q2 (by simpa using q))
theorem v9{a b:Expr}{ta:TA}{p pos:Pos}(hg:Gl X "range")(hm:X.mg "range" = none)(ha:PA X [a,b] ta)(hs:starEach [a,b] X.env=[(false,eval a X.env),(false,eval b X.env)]:=by rfl)(hs2:starEach [b] X.env=[(false,eval b X.env)]:=by rfl) :
  PI X tg (.Call (.Name "range" p) [a,b] [] pos) (Fm ta):=by
 intro pins s σ H R I h
 refine Call_ (gF I hg hm boot_range (PyProof.Rows.callWith_type1 (thn (ha pos pins s σ H _ I h) fun us s1 ⟨vs,H1,I1,r1,q1⟩=>?_) (by rw[hs,hs2]) (by rw[hs2];rfl)))
 obtain⟨i,j,e,⟨q1,q2,q3,q4⟩,q⟩:=q1
 subst e
 cases r1 with
 |cons r rr=>
  cases rr with
  |cons r' rr=>
   cases rr
   obtain⟨t,rfl⟩:=r
   obtain⟨t',rfl⟩:=r'
   exact call_range_2 (pU I1 q1 q2 q3 q4 q)
def G8(wi:TI)(g:TG)(tb:TS):TS:=fun D σ H=>wi σ H fun J H1=>∃ W:Nat->Nat->St->Hp->Prop,(∃ m,W 0 m σ H1)/\∀ i m σ H,W i m σ H ->
 (J.stop i H/\D.nx σ H)\/(J.go i H/\∃ N:St->Hp->Prop,(∀ σ' H',N σ' H'->∃ m',m'<m/\W (i+1) m' σ' H')/\∀ x H',J.yld i H x H'->g x σ H' fun σ2 H2=>tb { D with nx:=N,ct:=N,bk:=D.nx } σ2 H2)
def kz(fp:List Addr)(h:Heap):List (Addr × Obj):=fp.filterMap fun b=>(h.get? b).map fun o=>(b,o)
theorem fZ{fp:List Addr}{h:Heap}{b:Addr}{o:Obj}(hb:b∈fp)(e:h.get? b=some o):(b,o)∈kz fp h:=List.mem_filterMap.mpr ⟨b,hb,by rw[e];rfl⟩
theorem vb{fp:List Addr}{h:Heap}{p:Addr × Obj}(hp:p∈kz fp h):p.1∈fp/\h.get? p.1=some p.2:=by
 obtain⟨b,hb,e⟩:=List.mem_filterMap.mp hp
 cases q:h.get? b with
 | none=>rw[q]at e;cases e
 |some o=>
  rw[q]at e
  have e':(b,o)=p:=Option.some.inj e
  subst e'
  exact⟨hb,q⟩
theorem Inv.pinned{pins:List (Addr × Obj)}{σ:St}{H:Hp}{s:Shared}{fp:List Addr}(I:Inv X pins σ H s)(hf:∀ b∈fp,iU X pins H b)(ho:∀ b∈fp,∃ o,s.heap.get? b=some o/\∀ v,o.data≠.cell v):Inv X (pins++kz fp s.heap) σ H s :=
 I.sI fun p hp=>(List.mem_append.mp hp).elim (fun z=>I.pin p (List.mem_append_right _ z)) fun z=>by
  obtain⟨hb,e⟩:=vb z
  obtain⟨f0,f1,f2,_⟩:=hf p.1 hb
  obtain⟨o,e',d⟩:=ho p.1 hb
  rw[e]at e';cases e'
  exact⟨e,f0,f1,f2,d⟩
theorem Inv.js{pins pl:List (Addr × Obj)}{σ:St}{H:Hp}{s:Shared}(I:Inv X (pins++pl) σ H s):Inv X pins σ H s:=I.sI fun p hp=>I.pin p (List.mem_append_right _ (List.mem_append_left _ hp))
theorem Dt{iter:Expr}{body:List Stmt}{wi:TI}{g:TG}{tb:TS}{pos:Pos}(hp:PassesOwn (model X.prog X.w) X.A X.env X.xe)(hc:X.calm=true)(hi:PI X tg iter wi)(hg:PG X tg g)(hb:PSs X body tb)
 (hs:∀ x,foldedSetIterable iter X.env x=pure x:=by intro _;rfl):PS X (.For tg iter body [] pos) (G8 wi g tb):=by
 intro pins s σ H D I h
 refine wpAny_For (thn (hi pins s σ H _ I h) fun v s1 h1=>thn h1 fun itv s2 h2=>?_) hs
 obtain⟨it,fp,tn,J,H2,e,I2,T,st2,f2,W,⟨m0,w0⟩,turn⟩:=h2
 subst e
 have stat:∀ {H':Hp},(∀ b∈fp,H' b=none)->∀ b∈fp,iU X pins H' b:=fun hn b hb=>⟨hn b hb,(f2 b hb).2⟩
 refine codeAny_forLoop_any (fun n s'=>∃ i σ' H',Inv X pins σ' H' s'/\tn i s'.heap/\(∀ b∈fp,H' b=none)/\W i n σ' H') ?_ m0 ⟨0,σ,H2,I2,st2,fun b hb=>(f2 b hb).1,w0⟩
 rintro n s3 ⟨i,σ3,H3,I3,st3,fr3,w3⟩
 rcases turn i n σ3 H3 w3 with⟨stop,qn⟩ | ⟨go,N,hN,step⟩
 ·refine wpAny_passesOwn hp (thn (T.done X rfl rfl rfl hc i pins s3 σ3 H3 X.xe I3 (stat fr3) st3 stop) fun r s4 ⟨hr,I4⟩=>?_)
  subst hr
  exact wpAny_execs_nil ⟨σ3,H3,I4,qn⟩
 ·refine wpAny_passesOwn hp (thn (T.item X rfl rfl rfl hc i pins s3 σ3 H3 X.xe I3 (stat fr3) st3 go) fun r s4 ⟨u,hr,h4⟩=>?_)
  subst hr
  refine wpAny_passesOwn hp (thn h4 fun _ s5 ⟨x,H5,I5,r5,y5,st5,fr5⟩=>?_)
  have I5':=I5.pinned (stat fr5) (T.obj _ _ st5)
  refine wpAny_passesOwn hp (thn (hg _ s5 σ3 H5 x u _ I5' r5 (step x H5 y5)) fun _ s6 ⟨σ6,H6,I6,q6⟩=>?_)
  refine wpAny_passesOwn hp (thn (hb _ s6 σ6 H6 _ I6 q6) fun f s7 q7=>?_)
  have again:∀ {σ7:St} {H7:Hp},Inv X (pins++kz fp s5.heap) σ7 H7 s7->N σ7 H7->∃ m,m<n/\∃ i σ' H',Inv X pins σ' H' s7/\tn i s7.heap/\(∀ b∈fp,H' b=none)/\W i m σ' H':=fun {σ7 H7} I7 n7=>by
   obtain⟨m',hm,w7⟩:=hN σ7 H7 n7
   refine⟨m',hm,i+1,σ7,H7,I7.js,T.keep _ _ _ st5 fun b hb o e=>(I7.pin (b,o) (List.mem_append_right _ (List.mem_append_right _ (fZ hb e)))).1,fun b hb=>?_,w7⟩
   obtain⟨o,e,d⟩:=T.obj _ _ st5 b hb
   exact(I7.pin (b,o) (List.mem_append_right _ (List.mem_append_right _ (fZ hb e)))).2.1
  cases f with
  | next=>obtain⟨σ7,H7,I7,n7⟩:=q7;exact again I7 n7
  | cont=>obtain⟨σ7,H7,I7,n7⟩:=q7;exact again I7 n7
  | brk=>obtain⟨σ7,H7,I7,q7⟩:=q7;exact⟨σ7,H7,I7.js,q7⟩
  | ret v=>obtain⟨x7,σ7,H7,I7,r7,q7⟩:=q7;exact⟨x7,σ7,H7,I7.js,r7,q7⟩
end
abbrev R2:=V->V->Hp->VK->Prop
def OpR(X:Cx)(f:Value->Value->Sem Value)(r:R2):Prop :=
 ∀ (pins:List (Addr × Obj)) (s:Shared) (σ:St) (H:Hp) (x y:V) (v u:Value) (Q:VK),Inv X pins σ H s->RelV x v->RelV y u->r x y H Q ->
  wpAny (model X.prog X.w) X.A (f v u) (EP X pins σ Q) X.xe s
def UnR(X:Cx)(f:Value->Sem Value)(r:V->Hp->VK->Prop):Prop :=
 ∀ (pins:List (Addr × Obj)) (s:Shared) (σ:St) (H:Hp) (x:V) (v:Value) (Q:VK),Inv X pins σ H s->RelV x v->r x H Q ->
  wpAny (model X.prog X.w) X.A (f v) (EP X pins σ Q) X.xe s
def bJ(X:Cx)(f:Value)(r:List V->Hp->VK->Prop):Prop :=
 ∀ (pins:List (Addr × Obj)) (s:Shared) (σ:St) (H:Hp) (xs:List V) (us:List Value) (Q:VK),Inv X pins σ H s->Vals xs us->r xs H Q ->
  wpAny (model X.prog X.w) X.A (call f us) (EP X pins σ Q) X.xe s
def Ha(X:Cx)(r:V->Hp->(Bool->Hp->Prop)->Prop):Prop :=
 ∀ (pins:List (Addr × Obj)) (s:Shared) (σ:St) (H:Hp) (x:V) (v:Value) (Q:Bool->Hp->Prop),Inv X pins σ H s->RelV x v->r x H Q ->
  wpAny (model X.prog X.w) X.A (truthy v) (TP X pins σ Q) X.xe s
def tOp(r:R2)(ta tb:TE):TE:=fun σ H Q=>ta σ H fun x H1=>tb σ H1 fun y H2=>r x y H2 Q
def tUn(r:V->Hp->VK->Prop)(ta:TE):TE:=fun σ H Q=>ta σ H fun x H1=>r x H1 Q
def rI(C:Int->Int->Prop)(g:Int->Int->V):R2:=fun x y H Q=>∃ i j,x=.int i/\y=.int j/\C i j/\Q (g i j) H
def rI0(g:Int->Int->V):R2:=fun x y H Q=>∃ i j,x=.int i/\y=.int j/\Q (g i j) H
def rU(g:Int->V):V->Hp->VK->Prop:=fun x H Q=>∃ i,x=.int i/\Q (g i) H
section
variable{X:Cx}{a b c:Expr}{ta tb tc:TE}{pos:Pos}
theorem yi(ha:PE X a ta)(hb:PE X b tb){pins:List (Addr × Obj)}{s:Shared}{σ:St}{H:Hp}{R:V->V->Hp->Prop}(I:Inv X pins σ H s)
 (h:ta σ H fun x H1=>tb σ H1 fun y H2=>R x y H2){Q:Value->Shared->Prop}{f:Value->Value->Sem Value}
 (hf:∀ v u s2 x y H2,Inv X pins σ H2 s2->RelV x v->RelV y u->R x y H2->wpAny (model X.prog X.w) X.A (f v u) Q X.xe s2) :
  wpAny (model X.prog X.w) X.A (eval a X.env) (fun v s₁=>wpAny (model X.prog X.w) X.A (eval b X.env) (fun u s₂=>wpAny (model X.prog X.w) X.A (f v u) Q X.xe s₂) X.xe s₁) X.xe s:=by
 refine thn (ha pins s σ H _ I h) fun v s1 ⟨x,H1,I1,r1,q1⟩=>?_
 refine thn (hb pins s1 σ H1 _ I1 q1) fun u s2 ⟨y,H2,I2,r2,q2⟩=>?_
 exact hf v u s2 x y H2 I2 r1 r2 q2
theorem Fi{op:Operator}{r:R2}(ho:OpR X (binaryOp op) r)(ha:PE X a ta)(hb:PE X b tb):PE X (.BinOp a op b pos) (tOp r ta tb):=by
 intro pins s σ H Q I h
 exact wpAny_BinOp (yi ha hb I h fun v u s2 x y H2 I2 rx ry q=>ho pins s2 σ H2 x y v u Q I2 rx ry q)
theorem zA{op:UnaryOp}{r:V->Hp->VK->Prop}(ho:UnR X (unaryOp op) r)(ha:PE X a ta):PE X (.UnaryOp op a pos) (tUn r ta):=by
 intro pins s σ H Q I h
 exact UnaryOp_ (thn (ha pins s σ H _ I h) fun v s1 ⟨x,H1,I1,r1,q1⟩=>ho pins s1 σ H1 x v Q I1 r1 q1)
theorem opI{f:Value->Value->Sem Value}{C:Int->Int->Prop}{g:Int->Int->Int}
 (rule:∀ (i j:Int) (t u:Tok) (s:Shared) (Q:Value->Shared->Prop) (E:Value->Shared->Prop),C i j->Q (.int (g i j) s.toks) { s with toks:=s.toks+1 }->wpAny (model X.prog X.w) X.A (f (.int i t) (.int j u)) Q E s) :
  OpR X f (rI C fun i j=>.int (g i j)):=by
 intro pins s σ H x y v u Q I rx ry h
 obtain⟨i,j,rfl,rfl,hc,q⟩:=h
 obtain⟨t,rfl⟩:=rx
 obtain⟨t',rfl⟩:=ry
 exact rule i j t t' s _ _ hc ⟨.int (g i j),H,I.tok _,⟨_,rfl⟩,q⟩
theorem C7{f:Value->Value->Sem Value}{g:Int->Int->Int}
 (rule:∀ (i j:Int) (t u:Tok) (s:Shared) (Q:Value->Shared->Prop) (E:Value->Shared->Prop),Q (.int (g i j) s.toks) { s with toks:=s.toks+1 }->wpAny (model X.prog X.w) X.A (f (.int i t) (.int j u)) Q E s) :
  OpR X f (rI0 fun i j=>.int (g i j)):=by
 intro pins s σ H x y v u Q I rx ry h
 obtain⟨i,j,rfl,rfl,q⟩:=h
 obtain⟨t,rfl⟩:=rx
 obtain⟨t',rfl⟩:=ry
 exact rule i j t t' s _ _ ⟨.int (g i j),H,I.tok _,⟨_,rfl⟩,q⟩
def GU(i j:Int):Prop:=0<j/\j<1073741824
def E4(i j:Int):Prop:=0<=j/\j<=1000000/\i.natAbs<2 ^ 64
def uv(i j:Int):Prop:=(-(2 ^ 64)<i/\i<2 ^ 64)\/(-(2 ^ 64)<j/\j<2 ^ 64)
theorem uv.ok{i j:Int}(h:uv i j):IntMulOk i j:=by
 rcases h with⟨h1,h2⟩ | ⟨h1,h2⟩
 ·exact .of_left (intBits_le_64 h1 h2)
 ·exact .of_right (intBits_le_64 h1 h2)
theorem DX:OpR X (binaryOp .Add) (rI0 fun i j=>.int (i+j)):=C7 fun _ _ _ _ _ _ _ q=>add_int q
theorem BG:OpR X (binaryOp .Sub) (rI0 fun i j=>.int (i-j)):=C7 fun _ _ _ _ _ _ _ q=>sub_int q
theorem DW:OpR X (binaryOp .Mult) (rI uv fun i j=>.int (i*j)):=opI fun _ _ _ _ _ _ _ hc q=>mul_int q hc.ok
theorem ER:OpR X (binaryOp .Mod) (rI (fun _ j=>0<j) fun i j=>.int (i%j)):=opI fun i j _ _ _ _ _ hc q=>by
 have h1:(0:Int)<j:=hc
 exact mod_int' (by lia) (by rw[Int.fmod_eq_emod_of_nonneg i (by lia)];exact q)
theorem EA:OpR X (binaryOp .Pow) (rI E4 fun i j=>.int (i ^ j.toNat)):=opI fun _ _ _ _ _ _ _ hc q=>pow_int_small hc.1 hc.2.1 hc.2.2 q
theorem unI{f:Value->Sem Value}{g:Int->Int}
 (rule:∀ (i:Int) (t:Tok) (s:Shared) (Q:Value->Shared->Prop) (E:Value->Shared->Prop),Q (.int (g i) s.toks) { s with toks:=s.toks+1 }->wpAny (model X.prog X.w) X.A (f (.int i t)) Q E s) :
  UnR X f (rU fun i=>.int (g i)):=by
 intro pins s σ H x v Q I rx h
 obtain⟨i,rfl,q⟩:=h
 obtain⟨t,rfl⟩:=rx
 exact rule i t s _ _ ⟨.int (g i),H,I.tok _,⟨_,rfl⟩,q⟩
theorem xc:UnR X (unaryOp .USub) (rU fun i=>.int (-i)):=unI fun _ _ _ _ _ q=>neg_int q
end
def GL:V->V->Bool
 | .non,.non=>true | .non,.int _=>true | .int _,.non=>true | .non,.bl _=>true | .bl _,.non=>true | .non,.str _=>true | .str _,.non=>true
 | .int _,.int _=>true | .bl _,.bl _=>true | .str _,.str _=>true | .byt _,.byt _=>true
 | .int _,.str _=>true | .str _,.int _=>true | .bl _,.str _=>true | .str _,.bl _=>true
 | _,_=>false
def rNe:R2:=fun x y H Q=>GL x y=true/\Q (.bl (!decide (x=y))) H
theorem zY{i j:Int}:decide (V.int i=V.int j)=(i == j):=by
 rw[Bool.eq_iff_iff]
 simp
theorem BR{i j:Bool}:decide (V.bl i=V.bl j)=(i == j):=by
 rw[Bool.eq_iff_iff]
 simp
theorem AX{i j:Str}:decide (V.str i=V.str j)=(i == j):=by
 rw[Bool.eq_iff_iff]
 simp
theorem Ad{i j:Array UInt8}:decide (V.byt i=V.byt j)=(i.toList == j.toList):=by
 rw[Bool.eq_iff_iff]
 cases i
 cases j
 simp
section
variable{X:Cx}{a b c:Expr}{ta tb tc:TE}{pos:Pos}
theorem bU{pins:List (Addr × Obj)}{σ:St}{H:Hp}{s:Shared}{Q:VK}{k k':Bool}(I:Inv X pins σ H s)(q:Q (.bl k) H)(e:k=k'):EP X pins σ Q (.bool k') s:=by
 subst e
 exact⟨.bl k,H,I,rfl,q⟩
theorem FT:OpR X (compareOp .NotEq) rNe:=by
 intro pins s σ H x y v u Q I rx ry h
 obtain⟨hs,q⟩:=h
 cases x with
 |non=>
  cases rx
  cases y with
  | non=>cases ry;exact PySem.EqNone.ne_none_none (bU I q (by simp))
  | bl j=>cases ry;exact PySem.EqNone.ne_none_bool (bU I q (by simp))
  | int j=>obtain⟨t',rfl⟩:=ry;exact PySem.EqNone.ne_none_int (bU I q (by simp))
  | str j=>obtain⟨t',rfl⟩:=ry;exact PySem.EqNone.ne_none_str (bU I q (by simp))
  | _=>exact absurd (show false=true from hs) Bool.false_ne_true
 |bl i=>
  cases rx
  cases y with
  | non=>cases ry;exact PySem.EqNone.ne_bool_none (bU I q (by simp))
  | bl j=>cases ry;exact ne_bool (bU I q (congrArg not BR))
  | str j=>obtain⟨t',rfl⟩:=ry;exact PySem.EqMixed.ne_bool_str (bU I q (by simp))
  | _=>exact absurd (show false=true from hs) Bool.false_ne_true
 |int i=>
  obtain⟨t,rfl⟩:=rx
  cases y with
  | non=>cases ry;exact PySem.EqNone.ne_int_none (bU I q (by simp))
  | int j=>obtain⟨t',rfl⟩:=ry;exact ne_int (bU I q (congrArg not zY))
  | str j=>obtain⟨t',rfl⟩:=ry;exact PySem.EqMixed.ne_int_str (bU I q (by simp))
  | _=>exact absurd (show false=true from hs) Bool.false_ne_true
 |str i=>
  obtain⟨t,rfl⟩:=rx
  cases y with
  | non=>cases ry;exact PySem.EqNone.ne_str_none (bU I q (by simp))
  | bl j=>cases ry;exact PySem.EqMixed.ne_str_bool (bU I q (by simp))
  | int j=>obtain⟨t',rfl⟩:=ry;exact PySem.EqMixed.ne_str_int (bU I q (by simp))
  | str j=>obtain⟨t',rfl⟩:=ry;exact ne_str (bU I q (congrArg not AX))
  | _=>exact absurd (show false=true from hs) Bool.false_ne_true
 |byt i=>
  obtain⟨t,rfl⟩:=rx
  cases y with
  | byt j=>obtain⟨t',rfl⟩:=ry;exact PySem.W.ne_bytes (bU I q (congrArg not Ad))
  | _=>exact absurd (show false=true from hs) Bool.false_ne_true
 | _=>cases y<;>exact absurd (show false=true from hs) Bool.false_ne_true
theorem Cr:OpR X (compareOp .Is) (fun x y H Q=>y=.non/\Q (.bl (decide (x=.non))) H):=by
 intro pins s σ H x y v u Q I rx ry h
 obtain⟨rfl,q⟩:=h
 cases ry
 refine is_none_gen (bU I q ?_)
 cases x<;>first
  | (cases rx;rfl)
  | (obtain⟨t,rfl⟩:=rx;rfl)
theorem Bd:OpR X (compareOp .IsNot) (fun x y H Q=>y=.non/\Q (.bl (!decide (x=.non))) H):=by
 intro pins s σ H x y v u Q I rx ry h
 obtain⟨rfl,q⟩:=h
 cases ry
 refine isnot_none_gen (bU I q ?_)
 cases x<;>first
  | (cases rx;rfl)
  | (obtain⟨t,rfl⟩:=rx;rfl)
theorem OpR.or{f:Value->Value->Sem Value}{r r':R2}(h:OpR X f r)(h':OpR X f r'):OpR X f (fun x y H Q=>r x y H Q\/r' x y H Q):=by
 intro pins s σ H x y v u Q I rx ry q
 rcases q with q | q
 ·exact h pins s σ H x y v u Q I rx ry q
 ·exact h' pins s σ H x y v u Q I rx ry q
theorem r8(b:Expr){op:CmpOp}(h:op≠.In:=by decide)(h2:op≠.NotIn:=by decide):behindInMarks op b=false:=by
 have e1:(op == CmpOp.In)=false:=by cases op<;>first | rfl | exact absurd rfl h
 have e2:(op == CmpOp.NotIn)=false:=by cases op<;>first | rfl | exact absurd rfl h2
 cases b<;>simp[behindInMarks,e1,e2]
theorem oC{op:CmpOp}{r:R2}(ho:OpR X (compareOp op) r)(ha:PE X a ta)(hb:PE X b tb)(hm:behindInMarks op b=false):PE X (.Compare a [op] [b] pos) (tOp r ta tb):=by
 intro pins s σ H Q I h
 exact wpAny_Compare1 (yi ha hb I h fun v u s2 x y H2 I2 rx ry q=>ho pins s2 σ H2 x y v u Q I2 rx ry q) hm
def zu(t:TE):TT:=fun σ H Q=>t σ H fun x H'=>∃ k,x=.bl k/\Q k H'
theorem k8{op:CmpOp}{r:R2}(ho:OpR X (compareOp op) r)(ha:PE X a ta)(hb:PE X b tb)(hm:behindInMarks op b=false):PT X (.Compare a [op] [b] pos) (zu (tOp r ta tb)):=by
 intro pins s σ H Q I h
 refine wpAny_isTrue_Compare1 (thn (ha pins s σ H _ I h) fun v s1 ⟨x,H1,I1,r1,q1⟩=>thn (hb pins s1 σ H1 _ I1 q1) fun u s2 ⟨y,H2,I2,r2,q2⟩ =>
  thn (ho pins s2 σ H2 x y v u _ I2 r1 r2 q2) fun c s3 ⟨z,H3,I3,r3,k,e,q3⟩=>?_) hm
 subst e
 cases r3
 exact wpAny_truthy_bool ⟨H3,I3,q3⟩
def rj(r r':R2)(ta tb tc:TE):TE:=fun σ H Q=>ta σ H fun x H1=>tb σ H1 fun y H2=>r x y H2 fun z H3=>∃ k,z=.bl k /\
 (if k=true then tc σ H3 fun w' H4=>r' y w' H4 Q else Q (.bl false) H3)
theorem yZ{op op':CmpOp}{r r':R2}(ho:OpR X (compareOp op) r)(ho':OpR X (compareOp op') r')(ha:PE X a ta)(hb:PE X b tb)(hc:PE X c tc)
 (hm:lastMarks [op,op'] [b,c]=false:=by with_unfolding_all rfl):PE X (.Compare a [op,op'] [b,c] pos) (rj r r' ta tb tc):=by
 intro pins s σ H Q I h
 refine Compare_chain (thn (ha pins s σ H _ I h) fun v s1 ⟨x,H1,I1,r1,q1⟩=>chain_link (thn (hb pins s1 σ H1 _ I1 q1) fun u s2 ⟨y,H2,I2,r2,q2⟩ =>
  thn (ho pins s2 σ H2 x y v u _ I2 r1 r2 q2) fun d s3 ⟨z,H3,I3,r3,k,e,q3⟩=>?_)) hm
 subst e
 cases r3
 refine wpAny_truthy_bool ?_
 cases k with
 | false=>exact ite_ff ⟨.bl false,H3,I3,rfl,q3⟩
 | true=>exact ite_tt (chain_last (thn (hc pins s3 σ H3 _ I3 q3) fun w' s4 ⟨z',H4,I4,r4,q4⟩=>ho' pins s4 σ H4 y z' u w' Q I4 r2 r4 q4))
theorem zj{op op':CmpOp}{r r':R2}(ho:OpR X (compareOp op) r)(ho':OpR X (compareOp op') r')(ha:PE X a ta)(hb:PE X b tb)(hc:PE X c tc)
 (hm:lastMarks [op,op'] [b,c]=false:=by with_unfolding_all rfl):PT X (.Compare a [op,op'] [b,c] pos) (zu (rj r r' ta tb tc)):=by
 intro pins s σ H Q I h
 refine isTrue_chain (thn (ha pins s σ H _ I h) fun v s1 ⟨x,H1,I1,r1,q1⟩=>test_link (thn (hb pins s1 σ H1 _ I1 q1) fun u s2 ⟨y,H2,I2,r2,q2⟩ =>
  thn (ho pins s2 σ H2 x y v u _ I2 r1 r2 q2) fun d s3 ⟨z,H3,I3,r3,k,e,q3⟩=>?_)) hm
 subst e
 cases r3
 refine wpAny_truthy_bool ?_
 cases k with
 |false=>
  obtain⟨k',e',q'⟩:=q3
  cases e'
  exact ite_ff ⟨H3,I3,q'⟩
 |true=>
  refine ite_tt (test_last (thn (hc pins s3 σ H3 _ I3 q3) fun w' s4 ⟨z',H4,I4,r4,q4⟩=>thn (ho' pins s4 σ H4 y z' u w' _ I4 r2 r4 q4) fun d' s5 ⟨z2,H5,I5,r5,k2,e2,q5⟩=>?_))
  subst e2
  cases r5
  exact wpAny_truthy_bool ⟨H5,I5,q5⟩
def ud(K:PySem.W.Frag)(x:V)(H:Hp)(k:Bool):Prop :=
 match x with
 | .non=>k=false
 | .bl b=>k=b
 | .int i=>k=(i != 0)
 | .str y=>y.length<=sizeLine/\k=((y.length:Int) != 0)
 | .byt y=>y.size<=sizeLine/\k=((y.size:Int) != 0)
 | .ref p=>(∃ xs,SqL K H p xs/\k=!xs.isEmpty)\/(∃ xs,SqT K H p xs/\k=!xs.isEmpty)\/∃ kvs,H p=some (.dK kvs)/\k=!kvs.isEmpty
 | _=>False
theorem tW{κ:Type}{kvs:List (κ × V)}{vs:List (κ × Value)}(r:KV kvs vs):(!vs.isEmpty)=!kvs.isEmpty:=by
 cases r<;>rfl
theorem ma{xs:List V}{its:List Value}(r:Vals xs its):(!its.toArray.isEmpty)=!xs.isEmpty:=by
 cases r<;>simp
theorem iN:(sizeLine:Nat)<2 ^ 63:=by rw[sizeLine_eq];decide
theorem xr:Ha X (fun x H Q=>∃ k,ud X.K x H k/\Q k H):=by
 intro pins s σ H x v Q I rx h
 obtain⟨k,e,q⟩:=h
 have hl:=iN
 have hs:sizeLine=16777216:=sizeLine_eq
 cases x with
 |non=>
  cases rx
  have e':k=false:=e
  subst e'
  exact truthy_none ⟨H,I,q⟩
 |bl b=>
  cases rx
  have e':k=b:=e
  subst e'
  exact wpAny_truthy_bool ⟨H,I,q⟩
 |int i=>
  obtain⟨t,rfl⟩:=rx
  have e':k=(i != 0):=e
  subst e'
  exact PySem.P.truthy_int ⟨H,I,q⟩
 |str y=>
  obtain⟨t,rfl⟩:=rx
  obtain⟨hy,e'⟩:y.length<=sizeLine/\k=((y.length:Int) != 0):=e
  subst e'
  exact PySem.P.truthy_str (by lia) ⟨H,I.tok _,q⟩
 |byt y=>
  obtain⟨t,rfl⟩:=rx
  obtain⟨hy,e'⟩:y.size<=sizeLine/\k=((y.size:Int) != 0):=e
  subst e'
  exact PySem.W.truthy_bytes (by lia) ⟨H,I.tok _,q⟩
 |ref p=>
  cases rx
  have e':(∃ xs,SqL X.K H p xs/\k=!xs.isEmpty)\/(∃ xs,SqT X.K H p xs/\k=!xs.isEmpty)\/∃ kvs,H p=some (.dK kvs)/\k=!kvs.isEmpty:=e
  rcases e' with⟨xs,hx,e'⟩ | ⟨xs,hx,e'⟩ | ⟨kvs,hx,e'⟩
  ·subst e'
   obtain⟨its,r,pl,hz⟩:=I.list hx
   have hlen:=r.length
   exact wpAny_truthy_list pl.isList (by simp only[List.size_toArray];lia) ⟨H,I.tok _,by rw[ma r];exact q⟩
  ·subst e'
   obtain⟨its,r,pl,hz⟩:=I.tuple hx
   have hlen:=r.length
   exact truthy_tuple pl (by simp only[List.size_toArray];lia) ⟨H,I.tok _,by rw[ma r];exact q⟩
  ·subst e'
   obtain⟨hz,hS,vs,r,m⟩:kvs.length<=sizeLine/\(p == sysModules)=false/\∃ vs,KV kvs vs/\s.heap.DictOf (bY X.prog X.w) p vs:=I.hok p _ hx
   have hlen:kvs.length=vs.length:=Paired.length r
   exact wpAny_truthy_dict hS m (by lia) ⟨H,I.tok _,by rw[tW r];exact q⟩
 | _=>exact(show False from e).elim
theorem y8(ha:PE X a ta)(he:∀ whole,isTrue a X.env whole=(do let v <- whole;standAt a.pos;holding [v] (truthy v))) :
  PT X a (fun σ H Q=>ta σ H fun x H'=>∃ k,ud X.K x H' k/\Q k H'):=by
 intro pins s σ H Q I h
 exact isTrue_plain (thn (ha pins s σ H _ I h) fun v s1 ⟨x,H1,I1,r1,q1⟩=>xr pins s1 σ H1 x v Q I1 r1 q1) (he _)
theorem tX:OpR X (binaryOp .Add) (fun x y H Q=>∃ i j,x=.str i/\y=.str j/\i.length+j.length<=sizeLine/\Q (.str (i++j)) H):=by
 intro pins s σ H x y v u Q I rx ry h
 obtain⟨i,j,rfl,rfl,hz,q⟩:=h
 obtain⟨t,rfl⟩:=rx
 obtain⟨t',rfl⟩:=ry
 exact add_str (fun t' tk=>⟨.str (i++j),H,I.tok _,⟨_,rfl⟩,q⟩) hz
theorem vals1{x:V}{us:List Value}(r:Vals [x] us):∃ u,us=[u]/\RelV x u:=by
 cases r with
 | cons r1 r2=>cases r2;exact⟨_,rfl,r1⟩
theorem vals2{x y:V}{us:List Value}(r:Vals [x,y] us):∃ u w',us=[u,w']/\RelV x u/\RelV y w':=by
 cases r with
 |cons r1 r2=>
  cases r2 with
  | cons r3 r4=>cases r4;exact⟨_,_,rfl,r1,r3⟩
theorem xa(hc:X.calm=true):bJ X (.builtin "max") (fun xs H Q=>∃ i j,xs=[.int i,.int j]/\Q (.int (if j > i then j else i)) H):=by
 intro pins s σ H xs us Q I r h
 obtain⟨i,j,rfl,q⟩:=h
 obtain⟨u,w',rfl,⟨t,rfl⟩,⟨t',rfl⟩⟩:=vals2 r
 refine max_two_ints (I.ok.hd hc) fun h' tk k=>⟨_,H,I.kept k,?_,q⟩
 by_cases hj:j > i
 ·rw[if_pos hj,if_pos hj];exact⟨_,rfl⟩
 ·rw[if_neg hj,if_neg hj];exact⟨_,rfl⟩
theorem wG:bJ X (.type "int") (fun xs H Q=>(∃ i,xs=[.int i]/\Q (.int i) H)\/∃ k,xs=[.bl k]/\Q (.int (if k then 1 else 0)) H):=by
 intro pins s σ H xs us Q I r h
 rcases h with⟨i,rfl,q⟩ | ⟨k,rfl,q⟩
 ·obtain⟨u,rfl,t,rfl⟩:=vals1 r
  exact call_int_int ⟨.int i,H,I,⟨_,rfl⟩,q⟩
 ·obtain⟨u,rfl,r1⟩:=vals1 r
  cases r1
  exact call_int_bool ⟨.int (if k then 1 else 0),H,I.tok _,⟨_,rfl⟩,q⟩
def DK(K:PySem.W.Frag)(x:V)(H:Hp)(n:Nat):Prop :=
 match x with
 | .str y=>y.length<=sizeLine/\n=y.length
 | .byt y=>y.size<=sizeLine/\n=y.size
 | .ref p=>(∃ xs,SqL K H p xs/\n=xs.length)\/∃ xs,SqT K H p xs/\n=xs.length
 | _=>False
theorem xy:bJ X (.builtin "len") (fun xs H Q=>∃ x n,xs=[x]/\DK X.K x H n/\Q (.int n) H):=by
 intro pins s σ H xs us Q I r h
 obtain⟨x,n,rfl,e,q⟩:=h
 obtain⟨u,rfl,rx⟩:=vals1 r
 have hl:=iN
 have hs:sizeLine=16777216:=sizeLine_eq
 cases x with
 |str y=>
  obtain⟨t,rfl⟩:=rx
  obtain⟨hy,e'⟩:y.length<=sizeLine/\n=y.length:=e
  subst e'
  exact len_str (by lia) ⟨.int _,H,I.tok _,⟨_,rfl⟩,q⟩
 |byt y=>
  obtain⟨t,rfl⟩:=rx
  obtain⟨hy,e'⟩:y.size<=sizeLine/\n=y.size:=e
  subst e'
  exact PySem.W.len_bytes (by lia) ⟨.int _,H,I.tok _,⟨_,rfl⟩,q⟩
 |ref p=>
  cases rx
  have e':(∃ xs,SqL X.K H p xs/\n=xs.length)\/∃ xs,SqT X.K H p xs/\n=xs.length:=e
  rcases e' with⟨xs,hx,e'⟩ | ⟨xs,hx,e'⟩
  ·subst e'
   obtain⟨its,r',pl,hz⟩:=I.list hx
   have hlen:=r'.length
   exact Calls.call_len_list pl.isList (by simp only[List.size_toArray];lia) ⟨.int xs.length,H,I.tok _,⟨_,by simp only[List.size_toArray];rw[hlen]⟩,q⟩
  ·subst e'
   obtain⟨its,r',pl,hz⟩:=I.tuple hx
   have hlen:=r'.length
   exact len_tuple pl (by simp only[List.size_toArray];lia) ⟨.int xs.length,H,I.tok _,⟨_,by simp only[List.size_toArray];rw[hlen]⟩,q⟩
 | _=>exact(show False from e).elim
theorem sf:bJ X (.builtin "divmod") (fun xs H Q=>∃ i j,xs=[.int i,.int j]/\GU i j/\∀ p,H p=none->Q (.ref p) (upd H p (.tup [.int (i / j),.int (i%j)]))):=by
 intro pins s σ H xs us Q I r h
 obtain⟨i,j,rfl,⟨h1,h2⟩,q⟩:=h
 obtain⟨u,w',rfl,⟨t,rfl⟩,⟨t',rfl⟩⟩:=vals2 r
 refine divmod_int (by lia) ?_ (.inl (PyProof.noPylong_small (by omega)))
 rw[Int.fdiv_eq_ediv_of_nonneg i (by lia),Int.fmod_eq_emod_of_nonneg i (by lia)]
 have hn:H s.heap.objs.size=none:=I.hok.fresh (Nat.le_refl _)
 refine⟨.ref s.heap.objs.size,_,?_,rfl,q _ hn⟩
 refine I.laid (fun b o e=>Heap.get?_push_of_some _ e) (Nat.le_refl _) ⟨by simp only[List.length_cons,List.length_nil];rw[sizeLine_eq];decide,[.int (i / j) s.toks,.int (i%j) (s.toks+1)],.cons ⟨_,rfl⟩ (.cons ⟨_,rfl⟩ .nil),?_⟩
 exact⟨_,Heap.get?_push_size s.heap rfl,rfl,0,rfl⟩
end
structure x8(h:Heap)(x dx C:Addr)(mA:Str->Option Value):Prop where
 obj:h.get? x=some (PySem.W.instObj C dx)
 ns:h.Ns1 dx mA
 ne:dx≠x
theorem vJ{h:Heap}{dx:Addr}{mA:Str->Option Value}(n:h.Ns1 dx mA):∃ od,h.get? dx=some od/\∀ name,PySem.W.lookIn name od=some (mA name):=by
 obtain⟨o,es,ep,ho,hd,hk,_,hm⟩:=n
 refine⟨o,ho,fun name=>?_⟩
 have e:=hm name
 unfold nsFind findBy at e
 rw[<-Array.find?_toList]at e
 unfold PySem.W.lookIn
 rw[hd]
 dsimp only
 split
 ·rename_i y q
  rw[q]at e
  exact congrArg some e
 ·rename_i q
  rw[q]at e
  have a:es.toList.any (·.refKey)=false:=by
   rw[List.any_eq_false]
   intro y hy
   obtain⟨z,t,hkey⟩:=hk y (Array.mem_toList_iff.mp hy)
   simp[DictEntry.refKey,hkey]
  have a':¬ es.toList.any (·.refKey)=true:=by rw[a];exact Bool.false_ne_true
  rw[if_neg a']
  exact congrArg some e
theorem x8.look{h:Heap}{x dx C:Addr}{mA:Str->Option Value}(I:x8 h x dx C mA):∃ od,PySem.W.InstAt h x (PySem.W.instObj C dx) C (some od)/\∀ name,PySem.W.lookIn name od=some (mA name) :=
 let ⟨od,ho,hl⟩:=vJ I.ns
 ⟨od,⟨I.obj,rfl,rfl,ho⟩,hl⟩
section
variable{prog:Program}{w:World}{A:Around}{E:Value->Shared->Prop}{s:Shared}{K:PySem.W.Frag}{x dx C f:Addr}{mA:Str->Option Value}{name:Str}{v:Value}
end
theorem gz.some_of{v:V}{o:Option Value}(r:gz (some v) o):∃ u,o=some u/\RelV v u:=by
 cases o with
 | none=>exact(show False from r).elim
 | some u=>exact⟨u,rfl,r⟩
section
variable{P:Program}{w:World}{H H':Hp}{h h':Heap}{a C dx:Addr}{fs fs':List (Str × V)}
theorem Ab(hok:HOk P w H h)(e:H a=some (.ins C dx fs)):∃ mA,x8 h a dx C mA/\(∀ f,gz (fs.lookup f) (mA f))/\PySem.Within mA (fs.map (·.1))/\fs.length<=1000/\H dx=some (.own a):=by
 obtain⟨d,z,ne,ob,mA,n,r,q⟩:=(show bB P w H h a (.ins C dx fs)from hok a _ e)
 exact⟨mA,⟨ob,n,ne⟩,r,q,z,d⟩
end
structure Cls(K:PySem.W.Frag)(C:Addr):Prop where
 pg:PySem.W.plainGet K C Str.empty=true
 hd:PySem.W.hasDictIn K C=true
 po:PySem.W.plainOver K C=true
 sa:PySem.W.findIn K (.ref C) "__setattr__" = some (some (.builtin "object.__setattr__"))
theorem Cls.get{K:PySem.W.Frag}{C:Addr}(c:Cls K C)(f:Str):PySem.W.plainGet K C f=true:=c.pg
section
variable{X:Cx}{pins:List (Addr × Obj)}{σ:St}{H:Hp}{s:Shared}{a C dx:Addr}{fs:List (Str × V)}{f:Str}{v:V}{A:Around}{E:Value->Shared->Prop}
end
section
variable{X:Cx}{o e value:Expr}{f:Str}{pos pos' tpos:Pos}{ta tv:TE}
end
section
variable{X:Cx}{pins:List (Addr × Obj)}{σ:St}{H:Hp}{s:Shared}{A:Around}{E:Value->Shared->Prop}{Q:Value->Shared->Prop}{c:Value}{b:Bool}
inductive eO (K:PySem.W.Frag) (H:Hp):V->Value->Prop where
 | non:eO K H .non (.type "NoneType")
 | bl (x:Bool):eO K H (.bl x) (.type "bool")
 | int (i:Int):eO K H (.int i) (.type "int")
 | str (x:Str):eO K H (.str x) (.type "str")
 | flt (x:UInt64):eO K H (.flt x) (.type "float")
 | lst {a:Addr} {xs:List V} (e:H a=some (.lst xs)):eO K H (.ref a) (.type "list")
 | frz {a:Addr} {o:Obj} {xs:List V} (e:H a=some (.frz o (.lst xs))):eO K H (.ref a) (.type "list")
 | tup {a:Addr} {xs:List V} (e:H a=some (.tup xs)):eO K H (.ref a) (.type "tuple")
 | dK {a:Addr} {kvs:List (Key × V)} (e:H a=some (.dK kvs)):eO K H (.ref a) (.type "dict")
 | dT {a:Addr} {kvs:List (List Key × V)} (e:H a=some (.dT kvs)):eO K H (.ref a) (.type "dict")
 | ins {a C dx:Addr} {fs:List (Str × V)} (e:H a=some (.ins C dx fs)) (cl:Cls K C) (ha:PySem.W.findIn K (.ref C) "__class__" = some (some (.builtin "object.__class__")))
   (hn:PySem.W.specialIn K (.builtin "object.__class__") "__get__" = some (some (.builtin "getset_descriptor.__get__"))) (htk:PySem.W.takesIn K (.builtin "object.__class__")=some true)
   (hm:PySem.W.mroIn K C (.type "object")=some true):eO K H (.ref a) (.ref C)
theorem wU{x:V}{u t:Value}(I:Inv X pins σ H s)(rx:RelV x u)(ty:eO X.K H x t)(e:PySem.W.kitOne X.K t c=some b)(h:∀ tk,Q (.bool b) { s with toks:=tk }) :
  wpAny (model X.prog X.w) A (call (.builtin "isinstance") [u,c]) Q E s:=by
 cases ty with
 | non=>cases(show u=Value.none from rx);exact PySem.W.kia_one PySem.W.kitx_none I.kIn True.intro e (fun z=>nomatch z) h
 | bl y=>cases(show u=Value.bool y from rx);exact PySem.W.kia_one PySem.W.kitx_bool I.kIn True.intro e (fun z=>nomatch z) h
 | int i=>obtain⟨t,q⟩:=(show ∃ t,u=Value.int i t from rx);cases q;exact PySem.W.kia_one PySem.W.kitx_int I.kIn True.intro e (fun z=>nomatch z) h
 | str y=>obtain⟨t,q⟩:=(show ∃ t,u=Value.str y t from rx);cases q;exact PySem.W.kia_one PySem.W.kitx_str I.kIn True.intro e (fun z=>nomatch z) h
 | flt y=>obtain⟨t,q⟩:=(show ∃ t,u=Value.float y t from rx);cases q;exact PySem.W.kia_one PySem.W.kitx_float I.kIn True.intro e (fun z=>nomatch z) h
 |@lst a xs ea=>
  cases(show u=Value.ref a from rx)
  obtain⟨_,_,n,_,h1⟩:=(show bB X.prog X.w H s.heap a (.lst xs)from I.hok a _ ea)
  exact PySem.W.kia_one PySem.W.kitx_list I.kIn ⟨_,h1,rfl⟩ e (fun z=>nomatch z) h
 |@frz a ob xs ea=>
  cases(show u=Value.ref a from rx)
  obtain⟨_,_,_,n,_,h1⟩:=(show bB X.prog X.w H s.heap a (.frz ob (.lst xs))from I.hok a _ ea)
  exact PySem.W.kia_one PySem.W.kitx_list I.kIn ⟨_,h1,rfl⟩ e (fun z=>nomatch z) h
 |@tup a xs ea=>
  cases(show u=Value.ref a from rx)
  obtain⟨_,_,_,p⟩:=(show bB X.prog X.w H s.heap a (.tup xs)from I.hok a _ ea)
  obtain⟨o,h1,h2,_⟩:=p
  exact PySem.W.kia_one PySem.W.kitx_tuple I.kIn ⟨o,h1,h2⟩ e (fun z=>nomatch z) h
 |@dK a kvs ea=>
  cases(show u=Value.ref a from rx)
  obtain⟨_,_,vs,_,p⟩:=(show bB X.prog X.w H s.heap a (.dK kvs)from I.hok a _ ea)
  obtain⟨o,es,ep,h1,h2,_⟩:=p
  exact PySem.W.kia_one PySem.W.kitx_dict I.kIn ⟨o,h1,h2.1⟩ e (fun z=>nomatch z) h
 |@dT a kvs ea=>
  cases(show u=Value.ref a from rx)
  obtain⟨_,_,xs,_,o,es,ep,h1,h2,_⟩:=(show bB X.prog X.w H s.heap a (.dT kvs)from I.hok a _ ea)
  exact PySem.W.kia_one PySem.W.kitx_dict I.kIn ⟨o,h1,h2.1⟩ e (fun z=>nomatch z) h
 |@ins a C dx fs ea cl ha hn htk hm=>
  cases(show u=Value.ref a from rx)
  obtain⟨mA,O,_⟩:=Ab I.hok ea
  obtain⟨od,J,_⟩:=O.look
  exact PySem.W.kia_one (PySem.W.kitx_own (cl.get _) cl.hd ha hn htk hm) I.kIn J e (fun z=>nomatch z) h
end
structure dS(k:Nat)(A:Around):Prop where
 hd:A.handled=none
 dp:A.depth+3*k+5<recursionLimit
 un:A.units+16*k+200<cLine
theorem dS.deeper{k:Nat}{A:Around}(r:dS (k+1) A)(env:Env):dS k (A.deeper env) :=
 ⟨r.hd,by have:=r.dp;show A.depth+1+3*k+5<_;lia,by have:=r.un;show A.units+3+16*k+200<_;lia⟩
theorem dS.depth{k:Nat}{A:Around}(r:dS k A):A.depth<recursionLimit:=by have:=r.dp;lia
def uA:TA:=fun _ H Q=>Q [] H
def mf(ta:TE)(tr:TA):TA:=fun σ H Q=>ta σ H fun x H1=>tr σ H1 fun xs H2=>Q (x::xs) H2
section
variable{X:Cx}{e:Expr}{es:List Expr}{te:TE}{t:TA}{pos:Pos}
theorem dG:PA X [] uA:=fun _ _ _ _ H Q I h=>Calls.spliced_nil ⟨[],H,I,.nil,h⟩
theorem cb(ha:PE X e te)(hr:PA X es t)(hs:starEach (e::es) X.env=(false,eval e X.env)::starEach es X.env:=by rfl):PA X (e::es) (mf te t):=by
 intro pos pins s σ H Q I h
 rw[hs]
 show wpAny _ _ (spliced ((false,eval e X.env)::backTo pos (starEach es X.env))) _ _ s
 refine Calls.spliced_cons (thn (ha pins s σ H _ I h) fun u s1 ⟨x,H1,I1,r1,q1⟩=>?_)
 exact thn (hr pos pins s1 σ H1 _ I1 q1) fun us s2 ⟨xs,H2,I2,r2,q2⟩=>⟨x::xs,H2,I2,.cons r1 r2,q2⟩
def Gz(t:TA):TE:=fun σ H Q=>t σ H fun xs H1=>xs.length<=sizeLine/\∀ p,H1 p=none->Q (.ref p) (upd H1 p (.tup xs))
def GJ(t:TA):TE:=fun σ H Q=>t σ H fun xs H1=>xs.length<=sizeLine/\∀ p,H1 p=none->Q (.ref p) (upd H1 p (.lst xs))
theorem Co{x1}(h:PA X es t):PE X (.Tuple es x1 pos) (Gz t):=by
 intro pins s σ H Q I hq
 refine wpAny_Tuple_spliced (thn (h pos pins s σ H _ I hq) fun us s1 ⟨xs,H1,I1,r,z,q⟩=>⟨by rw[<-r.length];exact z,?_⟩)
 have hf:H1 s1.heap.objs.size=none:=I1.hok.fresh (Nat.le_refl _)
 refine⟨.ref s1.heap.objs.size,upd H1 s1.heap.objs.size (.tup xs),I1.laid (t':=s1.toks) (fun b u e=>Heap.get?_push_of_some _ e) (Nat.le_refl _) ?_,rfl,q _ hf⟩
 exact⟨z,us,r,⟨_,Heap.get?_push_size _ rfl,rfl,_,rfl⟩⟩
theorem BZ(h:PA X es t):PE X (.List es pos) (GJ t):=by
 intro pins s σ H Q I hq
 refine wpAny_List_spliced (thn (h pos pins s σ H _ I hq) fun us s1 ⟨xs,H1,I1,r,z,q⟩=>⟨by rw[<-r.length];exact z,?_⟩)
 have hf:H1 s1.heap.objs.size=none:=I1.hok.fresh (Nat.le_refl _)
 refine⟨.ref s1.heap.objs.size,upd H1 s1.heap.objs.size (.lst xs),I1.laid (t':=s1.toks) (fun b u e=>Heap.get?_push_of_some _ e) (Nat.le_refl _) ?_,rfl,q _ hf⟩
 exact⟨z,us,0,r,Heap.get?_push_size _ rfl⟩
end
abbrev Sp:=List V->Hp->VK->XK->Prop
abbrev CXT:=List Env->Hp->Shared->XK->Value->Shared->Prop
structure uq(P:Program)(w:World)(K:PySem.W.Frag)(mg:Str->Option Value)(base:Heap)(A:Around)(outer:List Env)(s:Shared)(H:Hp):Prop where
 frames:A.frames=some outer
 mod:Mod K mg base
 bs:∀ b o,base.get? b=some o->s.heap.get? b=some o/\H b=none
 bsz:base.objs.size<=s.heap.objs.size
 gA:s.heap.FunFrames base outer
 frf:∀ b∈frs outer,H b=none
 hok:HOk P w H s.heap
 bare:AllBare s.gens
def CE(outer:List Env)(P:Program)(w:World)(H:Hp)(s:Shared)(Q:VK)(u:Value)(s':Shared):Prop :=
 ∃ v H',s'.os=s.os/\AllBare s'.gens/\Un (frs outer) [] H H' s.heap s'.heap/\HOk P w H' s'.heap/\RelV v u/\Q v H'
def CR(CX:CXT)(outer:List Env)(P:Program)(w:World)(H:Hp)(s:Shared)(Q:VK)(E:XK)(r:Result)(s':Shared):Prop :=
 match r with
 | .ok (.ret u)=>CE outer P w H s Q u s'
 | .ok _=>False
 | .error e=>CX outer H s E e s'
structure ij(P:Program)(w:World)(K:PySem.W.Frag)(mg:Str->Option Value)(base:Heap)(CX:CXT)(k:Nat)(f:Addr)(fd:FuncData)(ps:List Str)(sp:Sp):Prop where
 len:∀ vs H Q E,sp vs H Q E->vs.length=ps.length
 run:∀ (A:Around) (outer:List Env) (s:Shared) (H:Hp) (args:Args) (us:List Value) (vs:List V) (Q:VK) (E:XK),dS k A->uq P w K mg base A outer s H->BindsTo s fd args (ps.zip us)->Vals vs us->sp vs H Q E ->
  codeAny (model P w) A (.call (.ref f) args) (CR CX outer P w H s Q E) s
section
variable{X:Cx}{pins:List (Addr × Obj)}{σ:St}{H:Hp}{s s':Shared}
theorem Inv.G6(I:Inv X pins σ H s):uq X.prog X.w X.K X.mg X.base X.A X.stack s H :=
 ⟨I.ok.frames,I.ok.mod,I.bs,Nat.le_trans I.ok.bsz I.sz,I.stack,I.sS,I.hok,I.bare⟩
theorem Inv.after{Q:VK}{u:Value}(I:Inv X pins σ H s)(h:CE X.stack X.prog X.w H s Q u s'):EP X pins σ Q u s':=by
 obtain⟨v,H',os,bare,un,hok,r,q⟩:=h
 obtain⟨hh,g,d,t,os'⟩:=s'
 obtain rfl:os'=s.os:=os
 exact⟨v,H',I.call (h':=hh) (g':=g) (d':=d) (t':=t) (ch:=[]) un hok bare (fun b z=>absurd z (by simp)),r,q⟩
end
def pI(sp:Sp)(dvs:List V)(E:XK)(t:TA):TE:=fun σ H Q=>t σ H fun vs H1=>sp (vs++dvs) H1 Q E
def Binds(K:PySem.W.Frag)(fd:FuncData)(ps:List Str)(ds:List Value):Prop :=
 ∀ (s:Shared) (us:List Value),K.In s.heap->(us++ds).length=ps.length->BindsTo s fd ⟨us,[]⟩ (ps.zip (us++ds))
theorem Binds.all{K:PySem.W.Frag}{fd:FuncData}{ps:List Str}(h:∀ us:List Value,us.length=ps.length->bindArgs fd ⟨us,[]⟩=pure (ps.zip us)):Binds K fd ps []:=fun s us _ hl=>by
 rw[List.append_nil]at hl ⊢
 exact .of_eq (h us hl)
def Passes(CX:CXT)(X:Cx)(E:XK):Prop:=∀ (pins:List (Addr × Obj)) (σ:St) (H:Hp) (s:Shared) (e:Value) (s':Shared),Inv X pins σ H s->CX X.stack H s E e s'->X.xe e s'
section
variable{X:Cx}{CX:CXT}{k:Nat}{f C:Addr}{fd:FuncData}{ps:List Str}{sp:Sp}{dvs:List V}{ds:List Value}{E:XK}{x m:Str}{p pos apos:Pos}{e o:Expr}{es:List Expr}{ta:TE}{t:TA}
theorem Ej{pins:List (Addr × Obj)}{σ:St}{H:Hp}{s:Shared}{Q:VK}{us:List Value}{vs:List V}(F:ij X.prog X.w X.K X.mg X.base CX k f fd ps sp)(hr:dS k X.A)(hb:Binds X.K fd ps ds)(hd:Vals dvs ds)(hx:Passes CX X E)
 (I:Inv X pins σ H s)(r:Vals vs us)(h:sp (vs++dvs) H Q E):wpAny (model X.prog X.w) X.A (call (.ref f) us) (EP X pins σ Q) X.xe s:=by
 have r2:Vals (vs++dvs) (us++ds):=r.append hd
 have hl:(us++ds).length=ps.length:=by rw[<-r2.length];exact F.len _ _ _ _ h
 refine wpAny_call (codeAny_mono (F.run X.A X.stack s H ⟨us,[]⟩ (us++ds) (vs++dvs) Q E hr I.G6 (hb s us I.kIn hl) r2 h) fun r s' hq=>?_)
 cases r with
 | error e=>exact hx pins σ H s e s' I hq
 |ok fl=>
  cases fl with
  | ret u=>exact I.after hq
  | next=>exact False.elim hq
  | brk=>exact False.elim hq
  | cont=>exact False.elim hq
theorem sY(F:ij X.prog X.w X.K X.mg X.base CX k f fd ps sp)(hr:dS k X.A)(hg:Gl X x)(hm:X.mg x=some (.ref f))(hk:PySem.W.keepIn X.K (.ref f)=true)(hb:Binds X.K fd ps ds)(hd:Vals dvs ds)(hx:Passes CX X E)
 (ha:PA X (e::es) t)(hdb:(x == ("__debug__" : Str))=false:=by decide)(he:starEach (e::es) X.env=(false,eval e X.env)::starEach es X.env:=by rfl)(hpl:(backTo pos (starEach es X.env)).any (·.1)=false:=by rfl) :
  PE X (.Call (.Name x p) (e::es) [] pos) (pI sp dvs E t):=by
 intro pins s σ H Q I h
 refine wpAny_Call_Name_kw (tq I hg hm ?_ hdb)
 refine PySem.W.callWith_K (h₀:=X.base) I.ok.mod.kin hk (thn (ha pos pins s σ H _ I h) fun us s1 ⟨vs,H1,I1,r,q⟩=>⟨I1.kIn,?_⟩) he hpl
 exact Ej F hr hb hd hx I1 r q
end
section
variable{X:Cx}{CX:CXT}{k:Nat}{f C:Addr}{fd:FuncData}{ps ks:List Str}{sp:Sp}{E:XK}{x m:Str}{p pos apos kpos:Pos}{e o:Expr}{es:List Expr}{kws:List Keyword}{te ta:TE}{t tk:TA}{nm:Option Str}
variable{g:List Value->List Value->List Value}{gV:List V->List V->List V}
end
structure kE(N P:List Str)(sc:Scope):Prop where
 kind:sc.kind=.function
 co:sc.isCoroutine=false
 gen:sc.isGenerator=false
 nd:N.Nodup
 pre:N.take P.length=P
 par:∀ x∈P,sc.names.lookup x=some .local\/sc.names.lookup x=some .cell
 En:∀ y∈sc.names,y.2≠.free
theorem oJ{kindOf:Str->Option NameKind}{x:Str}:∀ {binds:List (Str × Value)} {m:Str->Option Value},(∀ v,(x,v)∉binds)->bindL kindOf binds m x=m x
 | [],_,_=>rfl
 | (n,v)::r,m,h=>by
  unfold bindL
  rw[oJ fun w hw=>h w (List.mem_cons_of_mem _ hw)]
  split
  ·have:x≠n:=by rintro rfl;exact h v List.mem_cons_self
   simp[this]
  ·rfl
theorem oS{kindOf:Str->Option NameKind}{x:Str}:∀ {binds:List (Str × Value)} {m:Str->Option Value},(∀ v,(x,v)∉binds)->bindC kindOf binds m x=m x
 | [],_,_=>rfl
 | (n,v)::r,m,h=>by
  unfold bindC
  rw[oS fun w hw=>h w (List.mem_cons_of_mem _ hw)]
  split
  ·rfl
  ·have:x≠n:=by rintro rfl;exact h v List.mem_cons_self
   simp[this]
theorem oP{kindOf:Str->Option NameKind}{x:Str}{v:Value}:∀ {P:List Str} {vs:List Value} {i:Nat} {m:Str->Option Value},P.Nodup->P[i]?=some x->vs[i]?=some v->kindOf x=some .local ->
  bindL kindOf (P.zip vs) m x=some v
 | [],_,_,_,_,h,_,_=>by simp at h
 | _::_,[],_,_,_,_,h,_=>by simp at h
 | p::P,w::vs,0,m,nd,h1,h2,hk=>by
  simp at h1 h2;subst h1;subst h2
  show bindL kindOf ((p,w)::P.zip vs) m p=_
  unfold bindL
  rw[oJ fun v hv=>(List.nodup_cons.mp nd).1 (List.of_mem_zip hv).1,if_pos hk]
  simp
 | p::P,w::vs,i+1,m,nd,h1,h2,hk=>by
  show bindL kindOf ((p,w)::P.zip vs) m x=_
  unfold bindL
  exact oP (i:=i) (List.nodup_cons.mp nd).2 (by simpa using h1) (by simpa using h2) hk
theorem oV{kindOf:Str->Option NameKind}{x:Str}{v:Value}:∀ {P:List Str} {vs:List Value} {i:Nat} {m:Str->Option Value},P.Nodup->P[i]?=some x->vs[i]?=some v->kindOf x≠some .local ->
  bindC kindOf (P.zip vs) m x=some v
 | [],_,_,_,_,h,_,_=>by simp at h
 | _::_,[],_,_,_,_,h,_=>by simp at h
 | p::P,w::vs,0,m,nd,h1,h2,hk=>by
  simp at h1 h2;subst h1;subst h2
  show bindC kindOf ((p,w)::P.zip vs) m p=_
  unfold bindC
  rw[oS fun v hv=>(List.nodup_cons.mp nd).1 (List.of_mem_zip hv).1,if_neg hk]
  simp
 | p::P,w::vs,i+1,m,nd,h1,h2,hk=>by
  show bindC kindOf ((p,w)::P.zip vs) m x=_
  unfold bindC
  exact oV (i:=i) (List.nodup_cons.mp nd).2 (by simpa using h1) (by simpa using h2) hk
def start(N:List Str)(vs:List V):St:=vs.map some++List.replicate (N.length-vs.length) none
def lD(CX:CXT)(P:Program)(w:World)(K:PySem.W.Frag)(mg:Str->Option Value)(base:Heap)(N:List Str)(qual:Str)(scope:Scope)(f:Addr)(cd:Value)(A:Around)(outer:List Env)(s:Shared)(H:Hp)(E:XK):Cx where
 prog:=P
 w:=w
 K:=K
 mg:=mg
 base:=base
 A:=A.deeper (envOfC qual scope s.heap.objs.size f cd)
 N:=N
 s₀:=s
 H₀:=H
 env:=envOfC qual scope s.heap.objs.size f cd
 outer:=outer
 stack:=envOfC qual scope s.heap.objs.size f cd::outer
 ex:=[]
 calm:=true
 fn:=fun _=>true
 pn:=[]
 xe:=fun e s'=>wpAny (model P w) (A.deeper (envOfC qual scope s.heap.objs.size f cd)) (leaving (envOfC qual scope s.heap.objs.size f cd) e) (fun _ s''=>CX outer H s E e s'') (fun e' s''=>CX outer H s E e' s'') s'
theorem rF{sc:Scope}{n:Nat}{x:Str}(h:sc.names.lookup x=some .cell):∃ c,(cellsFrom n sc.names []).lookup x=some c:=by
 have q:=PySem.W.cellsFrom_some sc.names n [] (.inl h)
 exact Option.isSome_iff_exists.mp q
theorem vK{CX:CXT}{P:Program}{w:World}{K:PySem.W.Frag}{mg:Str->Option Value}{base:Heap}{N ps:List Str}{qual:Str}{scope:Scope}{f:Addr}{cd:Value}{A:Around}{outer:List Env}{s s1:Shared}{H:Hp}{E:XK}{us:List Value}{vs:List V}
 (S:kE N ps scope)(hd:A.handled=none)(e0:uq P w K mg base A outer s H)(hl:vs.length=ps.length)(r:Vals vs us)
 (x:InCallC s s.heap.objs.size (bindL (envOfC qual scope s.heap.objs.size f cd).kindOf (ps.zip us) fun _=>none) (cellsFrom (s.heap.objs.size+1) scope.names []) (bindC (envOfC qual scope s.heap.objs.size f cd).kindOf (ps.zip us) fun _=>none) s1) :
  Inv (lD CX P w K mg base N qual scope f cd A outer s H E) [] (start N vs) H s1:=by
 have hpl:ps.length<=N.length:=by have:=congrArg List.length S.pre;rw[List.length_take]at this;lia
 obtain⟨h1,tk,rfl,hk⟩:=x.done
 have noA:∀ b:Addr,b∉(lD CX P w K mg base N qual scope f cd A outer s H E).ex:=fun b z=>absurd (show b∈([]:List Addr)from z) (by simp)
 refine⟨⟨e0.mod,S.kind,rfl,rfl,Nat.le_refl _,fun y z c h1 h2=>?_,fun y hy=>?_,fun y c _ h=>?_,fun _=>hd,Around.frames_deeper e0.frames,.inr ⟨rfl,rfl⟩,fun b z=>absurd z (noA b),e0.bs,e0.bsz,fun b _ _=>noA b,fun b z=>absurd z (noA b),e0.gA,e0.frf⟩,
  rfl,e0.bare,Un.kept hk,⟨_,x.toInCall.ns,fun i y v h1 h2 h3=>?_⟩,fun y c h=>⟨_,x.cell y c h⟩,e0.hok.fresh (Nat.le_refl _),fun y c h=>?_,fun p hp=>absurd (show p∈([]:List (Addr × Obj))from hp) (by simp),e0.hok.kept hk,?_⟩
 ·exact name_of_addr x.apart (PySem.mem_of_lookup h1) (PySem.mem_of_lookup h2)
 ·have hy:scope.names.lookup y=some .cell\/scope.names.lookup y=some .free:=hy
  rcases hy with hy | hy
  ·exact rF hy
  ·exact absurd rfl (S.En _ (PySem.mem_of_lookup hy))
 ·exact Nat.le_of_lt (x.above y c (PySem.mem_of_lookup h))
 ·have hi:i<vs.length:=by
   unfold start at h2
   by_cases hi:i<vs.length
   ·exact hi
   ·rw[List.getElem?_append_right (by simpa using hi)]at h2
    rw[List.getElem?_replicate]at h2
    split at h2<;>cases h2
  have ha:vs[i]?=some v:=by
   unfold start at h2
   rw[List.getElem?_append_left (by simpa using hi),List.getElem?_map]at h2
   cases e:vs[i]? with
   | none=>rw[e]at h2;cases h2
   | some a=>rw[e]at h2;cases h2;rfl
  obtain⟨u,hu,rv⟩:=r.get ha
  have hp:ps[i]?=some y:=by
   rw[<-S.pre,List.getElem?_take_of_lt (by lia)];exact h1
  have ndP:ps.Nodup:=by rw[<-S.pre];exact S.nd.sublist (List.take_sublist _ _)
  refine⟨u,rv,?_⟩
  rcases S.par y (List.mem_of_getElem? hp)with k | k
  ·exact .inl ⟨k,oP ndP hp hu k⟩
  ·obtain⟨c,e⟩:=rF (n:=s.heap.objs.size+1) k
   refine .inr ⟨.inl k,c,e,?_⟩
   have q:=x.cell y c e
   rw[oV ndP hp hu (by show scope.names.lookup y≠_;rw[k];decide)]at q
   exact q
 ·exact e0.hok.fresh (Nat.le_of_lt (x.above y c (PySem.mem_of_lookup h)))
 ·unfold start
  show _=N.length
  rw[List.length_append,List.length_map,List.length_replicate]
  lia
theorem FI{CX:CXT}{P:Program}{w:World}{K:PySem.W.Frag}{mg:Str->Option Value}{base:Heap}{k:Nat}{f:Addr}{name qual:Str}{params:Arguments}{body:List Stmt}{scope:Scope}{dV kV doc pm cdv ct oc:Value}{an od:Option Addr}
 {osl:Array (Option Value)}{N ps:List Str}{sp:Sp}(lk:K.lookup f=some ⟨oc,od,.func (PySem.W.fnOf name qual params body scope dV kV doc pm an cdv ct),osl⟩)(hcd:PySem.W.codeIn K cdv qual=true)(S:kE N ps scope)
 (len:∀ vs H Q E,sp vs H Q E->vs.length=ps.length)
 (hbody:∀ (A:Around) (outer:List Env) (s:Shared) (H:Hp) (vs:List V) (Q:VK) (E:XK),dS k (A.deeper (envOfC qual scope s.heap.objs.size f cdv))->sp vs H Q E ->
   ∃ t,PSs (lD CX P w K mg base N qual scope f cdv A outer s H E) body t/\t { nx:=fun _ H'=>Q .non H',rt:=Q } (start N vs) H) :
  ij P w K mg base CX (k+1) f (PySem.W.fnOf name qual params body scope dV kV doc pm an cdv ct) ps sp:=by
 refine⟨len,fun A outer s H args us vs Q E hr e0 hb r hsp=>?_⟩
 have hl:=len _ _ _ _ hsp
 have KX:K.In s.heap:=e0.mod.kin.keeps fun b o e=>(e0.bs b o e).1
 have lim:s.heap.NoLimit:=e0.mod.nolimit.keeps fun b o e=>(e0.bs b o e).1
 have hkind:∀ y∈ps.zip us,scope.names.lookup y.1=some .local\/(scope.names.lookup y.1=some .cell/\((cellsFrom (s.heap.objs.size+1) scope.names []).lookup y.1).isSome=true):=fun⟨n,v⟩ hy=>by
  rcases S.par n (List.of_mem_zip hy).1 with q | q
  ·exact .inl q
  ·exact .inr ⟨q,PySem.W.cellsFrom_some _ _ _ (.inl q)⟩
 refine codeAny_call_function hr.depth (KX _ _ lk) rfl S.co S.gen rfl (PySem.W.codeRec_of KX hcd) (hb _ _ _ _ ?_)
 refine wpAny_newFunctionEnv_cells S.kind hkind fun env he s1 x=>?_
 subst he
 refine⟨lim.keeps x.toInCall.keep,codeAny_func ?_⟩
 obtain⟨t,ht,hq⟩:=hbody A outer s H vs Q E (hr.deeper _) hsp
 have I:Inv (lD CX P w K mg base N qual scope f cdv A outer s H E) [] (start N vs) H s1:=vK S hr.hd e0 hl r x
 refine wpAny_mono (ht [] s1 (start N vs) H _ I hq) (fun fl s' hs=>?_) fun e s' hs=>hs
 have fin:∀ {σ':St} {H':Hp} {v:V} {u:Value},Inv (lD CX P w K mg base N qual scope f cdv A outer s H E) [] σ' H' s'->RelV v u->Q v H'->CE outer P w H s Q u s' :=
  fun {σ' H' v u} J rv q=>⟨v,H',J.os,J.bare,J.base,J.hok,rv,q⟩
 cases fl with
 |ret u=>
  obtain⟨v,σ',H',J,rv,q⟩:=hs
  exact fin J rv q
 |next=>
  obtain⟨σ',H',J,q⟩:=hs
  exact fin (v:=V.non) (u:=Value.none) J rfl q
 |brk=>
  obtain⟨_,_,_,q⟩:=hs
  exact False.elim q
 |cont=>
  obtain⟨_,_,_,q⟩:=hs
  exact False.elim q
section
variable{X:Cx}{x:Str}{p pos:Pos}{e:Expr}{es:List Expr}{t:TA}{id T:String}{r:List V->Hp->VK->Prop}
def tCB(r:List V->Hp->VK->Prop)(t:TA):TE:=fun σ H Q=>t σ H fun vs H1=>r vs H1 Q
theorem gD(hc:bJ X (.builtin id) r)(hg:Gl X x)(hm:X.mg x=none)(hv:bootBuiltins x=some (.builtin id))(ha:PA X (e::es) t)(hn:x ≠ "__name__" := by decide)(hdb:(x == ("__debug__" : Str))=false:=by decide)
 (he:starEach (e::es) X.env=(false,eval e X.env)::starEach es X.env:=by rfl)(hpl:(backTo pos (starEach es X.env)).any (·.1)=false:=by rfl):PE X (.Call (.Name x p) (e::es) [] pos) (tCB r t):=by
 intro pins s σ H Q I h
 refine wpAny_Call_Name_kw (gF I hg hm hv ?_ hn hdb)
 exact PyProof.Rows.callWith_builtin1 (thn (ha pos pins s σ H _ I h) fun us s1 ⟨vs,H1,I1,r1,q1⟩=>hc pins s1 σ H1 vs us Q I1 r1 q1) he hpl
theorem cC(hc:bJ X (.type T) r)(hg:Gl X x)(hm:X.mg x=none)(hv:bootBuiltins x=some (.type T))(ha:PA X (e::es) t)(hn:x ≠ "__name__" := by decide)(hdb:(x == ("__debug__" : Str))=false:=by decide)
 (he:starEach (e::es) X.env=(false,eval e X.env)::starEach es X.env:=by rfl)(hpl:(backTo pos (starEach es X.env)).any (·.1)=false:=by rfl):PE X (.Call (.Name x p) (e::es) [] pos) (tCB r t):=by
 intro pins s σ H Q I h
 refine wpAny_Call_Name_kw (gF I hg hm hv ?_ hn hdb)
 exact PyProof.Rows.callWith_type1 (thn (ha pos pins s σ H _ I h) fun us s1 ⟨vs,H1,I1,r1,q1⟩=>hc pins s1 σ H1 vs us Q I1 r1 q1) he hpl
end
end L2
namespace HT
open PySem PyProof.Rows
section
open PySem.SeqAt
open PySem.AutoSeq1 (wpAny_loadPart')
open PySem.MeetsSeq PySem.MeetsSeq2 PySem.MeetsSeq3
end
section
variable{prog:Program}{w:World}{A:Around}{E:Value->Shared->Prop}{s:Shared}
theorem Bg{t b:Addr}{vs ws:List Value}{Q:Value->Shared->Prop}(ht:IsTup s.heap t vs.toArray)(hb:IsTup s.heap b ws.toArray)(hv:vs≠[])
 (h1:ws=[]->Q (.ref t) s)(h2:ws≠[]->Q (.ref s.heap.objs.size) { s with heap:=s.heap.push { cls:=.type "tuple",data:=.seq (vs++ws).toArray } })
 (hsz:vs.length+ws.length<=sizeLine):wpAny (model prog w) A (binaryOp .Add (.ref t) (.ref b)) Q E s:=by
 obtain⟨⟨cls,dd,data,sl⟩,ho,hc,n,hd⟩:=id ht
 obtain⟨⟨cls2,dd2,data2,sl2⟩,ho2,hc2,n2,hd2⟩:=id hb
 simp only at hc hd hc2 hd2
 subst hc hd hc2 hd2
 have e:vs.toArray++ws.toArray=(vs++ws).toArray:=by simp
 by_cases hw:ws=[]
 ·exact concat_meets ⟨_,ho,rfl⟩ ⟨_,ho2,rfl⟩ noFill_tuple_add seq_tuple_add PySem.F.slot_tuple_add PySem.F.entry_tuple_add (PySem.F.args_tuple_add_2 _ _)
   (tuple_addW1 t b vs.toArray ws.toArray n n2 dd dd2 sl sl2 (by simpa using hv) (by simp[hw])) ⟨ho,ho2,h1 hw⟩
 ·refine concat_meets ⟨_,ho,rfl⟩ ⟨_,ho2,rfl⟩ noFill_tuple_add seq_tuple_add PySem.F.slot_tuple_add PySem.F.entry_tuple_add (PySem.F.args_tuple_add_2 _ _)
   (tuple_addW2 t b vs.toArray ws.toArray n n2 dd dd2 sl sl2 (by simpa using hv) (by simpa using hw) (by rw[List.size_toArray,List.size_toArray];exact hsz)) ⟨ho,ho2,?_⟩
  rw[e]
  exact h2 hw
def sIx(n d:Nat):Option Int->Nat
 | none=>d
 | some v=>if v<0 then(v+(n:Int)).toNat else min v.toNat n
theorem yg(n d:Nat):sIx n d none=d:=rfl
theorem Cj(n d:Nat)(hd:d<=n)(o:Option Int):sIx n d o<=n:=by
 cases o with
 | none=>exact hd
 |some v=>
  show(if v<0 then(v+(n:Int)).toNat else min v.toNat n)<=n
  by_cases hv:v<0
  ·rw[if_pos hv];lia
  ·rw[if_neg hv];exact Nat.min_le_right _ _
theorem kW(v:Int)(n d:Nat):(if v<0 then max (v+(n:Int)) 0 else min v (n:Int))=((sIx n d (some v):Nat):Int):=by
 show(if v<0 then max (v+(n:Int)) 0 else min v (n:Int))=(((if v<0 then(v+(n:Int)).toNat else min v.toNat n):Nat):Int)
 by_cases hv:v<0
 ·simp only[if_pos hv];lia
 ·simp only[if_neg hv];lia
theorem tV(lo hi:Option Int)(n:Nat):Builtin.Slice.sliceAdjust lo hi 1 (n:Int)=(((sIx n 0 lo:Nat):Int),((sIx n n hi:Nat):Int)):=by
 have h1:¬ ((1:Int)<0):=by lia
 unfold Builtin.Slice.sliceAdjust
 simp only[h1,if_false]
 refine Prod.ext ?_ ?_
 ·cases lo with
  | none=>rfl
  | some v=>exact kW v n 0
 ·cases hi with
  | none=>rfl
  | some v=>exact kW v n n
theorem tR(i j:Nat):Builtin.Slice.slicePlaces (i:Int) (j:Int) 1=j-i:=by
 unfold Builtin.Slice.slicePlaces
 have h1:(1:Int) > 0:=by lia
 simp only[h1,if_true,Int.ediv_one]
 split<;>lia
theorem eL{v:Value}{o:Option Int}{Q:Option Int->Shared->Prop}(p:IsPart v o)(h:Q o s):wpAny (model prog w) A (Builtin.Slice.slicePartIndex v) Q E s:=by
 cases p with
 | none=>exact slicePart_none h
 | int i t=>exact slicePart_int h
theorem lK{sl:Addr}{vl vu:Value}{lo hi:Option Int}{n:Nat}{Q:Int × Int × Nat->Shared->Prop}(hs:s.heap.IsSliceOf sl vl vu .none)(pl:IsPart vl lo)(pu:IsPart vu hi)
 (h:Q (((sIx n 0 lo:Nat):Int),1,sIx n n hi-sIx n 0 lo) s):wpAny (model prog w) A (Builtin.Slice.sliceApplied (.ref sl) (pure (n:Int))) Q E s:=by
 obtain⟨os,hos,hcs,hds⟩:=id hs
 unfold Builtin.Slice.sliceApplied Builtin.Slice.sliceFields
 refine wpAny_bind (wpAny_bind (wpAny_field hos hds (x:=vl) rfl (wpAny_bind (wpAny_field hos hds (x:=vu) rfl (wpAny_bind (wpAny_field hos hds (x:=.none) rfl (wpAny_pure ?_)))))))
 refine wpAny_bind (slicePart_none ?_)
 show wpAny _ _ (if((1:Int) == 0)=true then _ else _) _ _ s
 rw[if_neg (by decide)]
 refine wpAny_bind (eL pl (wpAny_bind (eL pu (wpAny_bind (wpAny_pure ?_)))))
 show wpAny _ _ (match Builtin.Slice.sliceAdjust lo hi 1 (n:Int)with | (lo,hi)=>pure (lo,(1:Int),Builtin.Slice.slicePlaces lo hi 1)) _ _ s
 rw[tV lo hi n]
 show wpAny _ _ (pure (((sIx n 0 lo:Nat):Int),(1:Int),Builtin.Slice.slicePlaces ((sIx n 0 lo:Nat):Int) ((sIx n n hi:Nat):Int) 1)) _ _ s
 rw[tR]
 exact wpAny_pure h
theorem yU(xs:Array Value)(i k:Nat):((List.range k).filterMap fun(m:Nat)=>xs[((i:Int)+(m:Int)*1).toNat]?).toArray=((xs.toList.drop i).take k).toArray:=by
 have e:(fun(m:Nat)=>xs[((i:Int)+(m:Int)*1).toNat]?)=fun m=>xs[i+m]?:=by
  funext m
  have:((i:Int)+(m:Int)*1).toNat=i+m:=by lia
  rw[this]
 rw[e]
 have:=pick_run xs i k
 rw[List.filterMap_map]at this
 have e2:((fun x=>xs[x]?) ∘ fun x=>i+x)=fun m=>xs[i+m]?:=rfl
 rw[e2]at this
 rw[this]
theorem lh{t sl:Addr}{items:Array Value}{vl vu:Value}{lo hi:Option Int}{Q:Value->Shared->Prop}(ht:IsTup s.heap t items)(hs:s.heap.IsSliceOf sl vl vu .none)(pl:IsPart vl lo)(pu:IsPart vu hi)
 (hw:¬ (sIx items.size 0 lo=0/\sIx items.size items.size hi=items.size))
 (h:Q (.ref s.heap.objs.size) { s with heap:=s.heap.push { cls:=.type "tuple",data:=.seq ((items.toList.drop (sIx items.size 0 lo)).take (sIx items.size items.size hi-sIx items.size 0 lo)).toArray } })
 (hsz:items.size<=sizeLine):wpAny (model prog w) A (getItem (.ref t) (.ref sl)) Q E s:=by
 have htake:sizeOk (.seq ((items.toList.drop (sIx items.size 0 lo)).take (sIx items.size items.size hi-sIx items.size 0 lo)).toArray):=by
  show((items.toList.drop (sIx items.size 0 lo)).take (sIx items.size items.size hi-sIx items.size 0 lo)).toArray.size<=sizeLine
  rw[List.size_toArray,List.length_take,List.length_drop,Array.length_toList]
  omega
 have hj:sIx items.size items.size hi<=items.size:=Cj _ _ (Nat.le_refl _) hi
 obtain⟨os,hos,hcs,hds⟩:=id hs
 have hTs:s.TypeIs (.ref sl) "slice" := ⟨os,hos,hcs⟩
 unfold getItem
 try with_reducible refine wpAny_holding ?_
 first | refine wpAny_bind (wpAny_pure ?_) | skip
 refine wpAny_bind (wpAny_sequenceKey ht.typeIs (by decide) ?_)
 refine wpAny_bind (wpAny_callSpecial?_slot (name:=Str.ofString "__getitem__") ht.typeIs PyProof.Rows.slot_tuple_getitem
  (wpAny_call_entry PyProof.Rows.slot_tuple_getitem ht.typeIs entry_tuple_getitem ?_ (args_tuple_getitem _ _)))
 show wpAny _ _ (Builtin.Tuple.tupleItemsOf (.ref t) >>= _) _ _ s
 refine wpAny_bind (tupleItemsOf_ ht ?_)
 refine wpAny_bind (wpAny_typeOf hTs ?_)
 rw[if_pos (by decide)]
 refine wpAny_bind (lK hs pl pu ?_)
 have hno:¬ ((((sIx items.size 0 lo:Nat):Int) == 0&&(1:Int) == 1&&(sIx items.size items.size hi-sIx items.size 0 lo) == items.size)=true):=by
  intro q
  rw[Bool.and_eq_true,Bool.and_eq_true]at q
  have q1:((sIx items.size 0 lo:Nat):Int)=0:=eq_of_beq q.1.1
  have q2:sIx items.size items.size hi-sIx items.size 0 lo=items.size:=eq_of_beq q.2
  exact hw ⟨by lia,by lia⟩
 show wpAny _ _ (if(((sIx items.size 0 lo:Nat):Int) == 0&&(1:Int) == 1&&(sIx items.size items.size hi-sIx items.size 0 lo) == items.size)=true then _ else _) _ _ s
 rw[if_neg hno,yU]
 first
  | exact wpAny_bind (m:=Builtin.Tuple.tupleExact _) (wpAny_newObj_type (wpAny_pure ⟨_,rfl,wpAny_pure h⟩) htake)
  | exact wpAny_bind (m:=Builtin.Tuple.tupleExact _) (wpAny_newObj_type (wpAny_bind (wpAny_pure (wpAny_pure ⟨_,rfl,wpAny_pure h⟩))) htake)
  | exact wpAny_bind (wpAny_bind (m:=Builtin.Tuple.tupleExact _) (wpAny_newObj_type (wpAny_pure (wpAny_pure ⟨_,rfl,wpAny_pure h⟩)) htake))
  | exact wpAny_bind (wpAny_bind (m:=Builtin.Tuple.tupleExact _) (wpAny_newObj_type (wpAny_pure ⟨_,rfl,wpAny_pure h⟩) htake))
end
end HT
namespace L2
open PySem PySem.Spec PyProof.Rows
abbrev TO:=St->Hp->(Option Int->Hp->Prop)->Prop
def PO(X:Cx)(e:Option Expr)(t:TO):Prop :=
 ∀ (pins:List (Addr × Obj)) (s:Shared) (σ:St) (H:Hp) (Q:Option Int->Hp->Prop),Inv X pins σ H s->t σ H Q ->
  wpAny (model X.prog X.w) X.A (evalPart e X.env) (fun u s'=>∃ o H',Inv X pins σ H' s'/\IsPart u o/\Q o H') X.xe s
def B1:TO:=fun _ H Q=>Q none H
def F3(t:TE):TO:=fun σ H Q=>t σ H fun x H1=>∃ i,x=.int i/\Q (some i) H1
theorem intsAre_of{ns:List Int}:∀ {us:List Value},Vals (ns.map V.int) us->IntsAre us ns:=by
 induction ns with
 | nil=>intro us r;rw[List.map_nil]at r;cases r;exact .nil
 |cons n ns ih=>
  intro us r
  rw[List.map_cons]at r
  cases r with
  |cons r1 r2=>
   obtain⟨t,e⟩:=r1
   subst e
   exact .cons n t (ih r2)
section
variable{X:Cx}{e:Expr}{te:TE}{lo hi:Option Expr}{tl th:TO}{pos p2:Pos}
theorem Ao:PO X none B1:=by
 intro pins s σ H Q I h
 rw[evalPart_none]
 exact wpAny_pure ⟨none,H,I,.none,h⟩
theorem Ax(h:PE X e te):PO X (some e) (F3 te):=by
 intro pins s σ H Q I hw
 rw[evalPart_some]
 refine thn (h pins s σ H _ I hw) fun u s1 ⟨x,H1,I1,r1,q1⟩=>?_
 obtain⟨i,rfl,q⟩:=q1
 obtain⟨t,rfl⟩:=r1
 exact⟨some i,H1,I1,.int i t,q⟩
def SlR(X:Cx)(r:V->Option Int->Option Int->Hp->VK->Prop):Prop :=
 ∀ (pins:List (Addr × Obj)) (s:Shared) (σ:St) (H:Hp) (x:V) (v vl vu:Value) (lo hi:Option Int) (sl:Addr) (Q:VK),Inv X pins σ H s->RelV x v->s.heap.IsSliceOf sl vl vu .none->IsPart vl lo->IsPart vu hi->r x lo hi H Q ->
  ∃ T id,typeLookup (.type T) "__getitem__" = pure (some (.builtin id))/\s.TypeIs v T/\wpAny (model X.prog X.w) X.A (getItem v (.ref sl)) (EP X pins σ Q) X.xe s
theorem SlR.or{r r':V->Option Int->Option Int->Hp->VK->Prop}(h:SlR X r)(h':SlR X r'):SlR X (fun x lo hi H Q=>r x lo hi H Q\/r' x lo hi H Q):=by
 intro pins s σ H x v vl vu lo hi sl Q I rx hs pl pu q
 rcases q with q | q
 ·exact h pins s σ H x v vl vu lo hi sl Q I rx hs pl pu q
 ·exact h' pins s σ H x v vl vu lo hi sl Q I rx hs pl pu q
def tSl(r:V->Option Int->Option Int->Hp->VK->Prop)(te:TE)(tl th:TO):TE:=fun σ H Q=>te σ H fun x H1=>tl σ H1 fun l H2=>th σ H2 fun u H3=>r x l u H3 Q
theorem yN{r:V->Option Int->Option Int->Hp->VK->Prop}(hr:SlR X r)(he:PE X e te)(hl:PO X lo tl)(hu:PO X hi th):PE X (.Subscript e (.Slice lo hi none p2) pos) (tSl r te tl th):=by
 intro pins s σ H Q I h
 refine Subscript_ (thn (he pins s σ H _ I h) fun v s1 ⟨x,H1,I1,r1,q1⟩=>?_)
 refine wpAny_Slice (thn (hl pins s1 σ H1 _ I1 q1) fun vl s2 ⟨l,H2,I2,pl,q2⟩=>thn (hu pins s2 σ H2 _ I2 q2) fun vu s3 ⟨u,H3,I3,pu,q3⟩=>?_)
 rw[evalPart_none]
 refine wpAny_pure ?_
 have I4:Inv X pins σ H3 { s3 with heap:=s3.heap.push { cls:=.type "slice",data:=.fields #[vl,vu,.none] } }:=I3.kept (t':=s3.toks) fun b ob q=>Heap.get?_push_of_some _ q
 obtain⟨T,id,hT,ht,hg⟩:=hr pins { s3 with heap:=s3.heap.push { cls:=.type "slice",data:=.fields #[vl,vu,.none] } } σ H3 x v vl vu l u s3.heap.objs.size Q I4 r1 (Heap.IsSliceOf.new ..) pl pu q3
 show wpAny (model X.prog X.w) X.A (subscriptTail e (.Slice lo hi none p2) v (.ref s3.heap.objs.size)) (EP X pins σ Q) X.xe { s3 with heap:=s3.heap.push { cls:=.type "slice",data:=.fields #[vl,vu,.none] } }
 exact tail_any (ops:=[.ref s3.heap.objs.size,v]) ht hT hg (by with_unfolding_all rfl)
def iQ(xs:List V)(lo hi:Option Int):List V:=(xs.drop (HT.sIx xs.length 0 lo)).take (HT.sIx xs.length xs.length hi-HT.sIx xs.length 0 lo)
theorem l6(xs:List V)(lo hi:Option Int):(iQ xs lo hi).length<=xs.length:=by
 unfold iQ
 rw[List.length_take,List.length_drop]
 lia
def G0(K:PySem.W.Frag):V->Option Int->Option Int->Hp->VK->Prop:=fun x lo hi H Q=>∃ a xs,x=.ref a/\SqT K H a xs /\
 ¬ (HT.sIx xs.length 0 lo=0/\HT.sIx xs.length xs.length hi=xs.length)/\∀ p,H p=none->Q (.ref p) (upd H p (.tup (iQ xs lo hi)))
theorem EL:SlR X (G0 X.K):=by
 intro pins s σ H x v vl vu lo hi sl Q I rx hs pl pu h
 obtain⟨a,xs,rfl,hx,hw,q⟩:=h
 cases rx
 obtain⟨its,r,ht,hz⟩:=I.tuple hx
 have hlen:its.toArray.size=xs.length:=by rw[List.size_toArray];exact r.length.symm
 refine⟨"tuple",_,PyProof.Rows.slot_tuple_getitem.lookup,ht.typeIs,?_⟩
 refine HT.lh ht hs pl pu (by rw[hlen];exact hw) ?_ (by rw[hlen];exact hz)
 rw[hlen]
 refine⟨.ref s.heap.objs.size,_,I.laid (t':=s.toks) (o:=.tup (iQ xs lo hi)) (fun b ob q=>Heap.get?_push_of_some _ q) (Nat.le_refl _) ?_,rfl,q _ (I.hok.fresh (Nat.le_refl _))⟩
 exact⟨Nat.le_trans (l6 xs lo hi) hz,_,(r.drop (HT.sIx xs.length 0 lo)).take (HT.sIx xs.length xs.length hi-HT.sIx xs.length 0 lo),IsTup.new _ _⟩
def FP(K:PySem.W.Frag):R2:=fun x y H Q=>∃ a b xs ys,x=.ref a/\y=.ref b/\SqT K H a xs/\SqT K H b ys/\xs≠[]/\xs.length+ys.length<=sizeLine /\
 (ys=[]->Q (.ref a) H)/\(ys≠[]->∀ p,H p=none->Q (.ref p) (upd H p (.tup (xs++ys))))
theorem Vals.og{xs:List V}{us:List Value}(r:Vals xs us):us=[]↔xs=[]:=by
 cases r with
 | nil=>simp
 | cons _ _=>simp
theorem A4:OpR X (binaryOp .Add) (FP X.K):=by
 intro pins s σ H x y v u Q I rx ry h
 obtain⟨a,b,xs,ys,rfl,rfl,ha,hb,hx,hz,q1,q2⟩:=h
 cases rx
 cases ry
 obtain⟨its,r1,p1,_⟩:=I.tuple ha
 obtain⟨its2,r2,p2,_⟩:=I.tuple hb
 refine HT.Bg p1 p2 (fun z=>hx (r1.og.mp z)) (fun z=>⟨.ref a,H,I,rfl,q1 (r2.og.mp z)⟩) (fun z=>?_) (by rw[<-r1.length,<-r2.length];exact hz)
 refine⟨.ref s.heap.objs.size,_,I.laid (t':=s.toks) (o:=.tup (xs++ys)) (fun b ob q=>Heap.get?_push_of_some _ q) (Nat.le_refl _) ?_,rfl,q2 (fun w=>z (r2.og.mpr w)) _ (I.hok.fresh (Nat.le_refl _))⟩
 exact⟨by rw[List.length_append];exact hz,_,r1.append r2,IsTup.new _ _⟩
end
def ixN(n:Nat)(i:Int):Option Nat:=if 0<=i then(if i<n then some i.toNat else none)else if -(n:Int)<=i then some (i+n).toNat else none
def atI{α:Type}(xs:List α)(i:Int):Option α:=(ixN xs.length i).bind fun j=>xs[j]?
theorem tm{n:Nat}{i:Int}{j:Nat}(h:ixN n i=some j):seqIndex? i n=some j/\j<n/\-(n:Int)<=i/\i<n:=by
 unfold ixN at h
 by_cases h0:0<=i
 ·rw[if_pos h0]at h
  by_cases h1:i<n
  ·rw[if_pos h1]at h
   have e:i.toNat=j:=Option.some.inj h
   exact⟨by rw[seqIndex_of h0 h1,e],by lia,by lia,h1⟩
  ·rw[if_neg h1]at h;cases h
 ·rw[if_neg h0]at h
  by_cases h1:-(n:Int)<=i
  ·rw[if_pos h1]at h
   have e:(i+n).toNat=j:=Option.some.inj h
   exact⟨by rw[seqIndex_neg (by lia) h1,e],by lia,h1,by lia⟩
  ·rw[if_neg h1]at h;cases h
theorem nr{α:Type}{xs:List α}{i:Int}{v:α}(h:atI xs i=some v):∃ j,seqIndex? i xs.length=some j/\xs[j]?=some v/\j<xs.length/\-(xs.length:Int)<=i/\i<xs.length:=by
 unfold atI at h
 cases e:ixN xs.length i with
 | none=>rw[e]at h;cases h
 |some j=>
  rw[e]at h
  obtain⟨h1,h2,h3,h4⟩:=tm e
  exact⟨j,h1,h,h2,h3,h4⟩
def tO(b:Expr):Prop:=∀ o i,subscripted b false o i=operate [o,i] (getItem o i)
def IxR(X:Cx)(r:R2):Prop :=
 ∀ (value slice:Expr) (pins:List (Addr × Obj)) (s:Shared) (σ:St) (H:Hp) (x y:V) (v u:Value) (Q:VK),Inv X pins σ H s->RelV x v->RelV y u->r x y H Q ->
  subscripted slice false v u=operate [v,u] (getItem v u)->wpAny (model X.prog X.w) X.A (subscriptTail value slice v u) (EP X pins σ Q) X.xe s
def MtR(X:Cx)(id:String)(r:V->List V->Hp->VK->Prop):Prop :=
 ∀ (pins:List (Addr × Obj)) (s:Shared) (σ:St) (H:Hp) (x:V) (xs:List V) (v:Value) (us:List Value) (Q:VK),Inv X pins σ H s->RelV x v->Vals xs us->r x xs H Q ->
  wpAny (model X.prog X.w) X.A (call (.builtin id) (v::us)) (EP X pins σ Q) X.xe s
section
variable{X:Cx}{a b:Expr}{ta tb:TE}{pos:Pos}
theorem IxR.or{r r':R2}(h:IxR X r)(h':IxR X r'):IxR X (fun x y H Q=>r x y H Q\/r' x y H Q):=by
 intro value slice pins s σ H x y v u Q I rx ry q hs
 rcases q with q | q
 ·exact h value slice pins s σ H x y v u Q I rx ry q hs
 ·exact h' value slice pins s σ H x y v u Q I rx ry q hs
theorem FQ{r:R2}(hr:IxR X r)(ha:PE X a ta)(hb:PE X b tb)(hs:tO b):PE X (.Subscript a b pos) (tOp r ta tb):=by
 intro pins s σ H Q I h
 exact Subscript_ (yi ha hb I h fun v u s2 x y H2 I2 rx ry q=>hr a b pins s2 σ H2 x y v u Q I2 rx ry q (hs _ _))
def D4(K:PySem.W.Frag):R2:=fun x y H Q=>∃ p xs i v,x=.ref p/\y=.int i/\SqL K H p xs/\atI xs i=some v/\Q v H
def D9(K:PySem.W.Frag):R2:=fun x y H Q=>∃ p xs i v,x=.ref p/\y=.int i/\SqT K H p xs/\atI xs i=some v/\Q v H
def EO:R2:=fun x y H Q=>∃ z i c,x=.str z/\y=.int i/\z.length<=sizeLine/\atI z.cps.toList i=some c/\Q (.str ⟨#[c]⟩) H
theorem AH:IxR X (D4 X.K):=by
 intro value slice pins s σ H x y v u Q I rx ry h hs
 obtain⟨p,xs,i,z,rfl,rfl,hq,he,q⟩:=h
 cases rx
 obtain⟨t,rfl⟩:=ry
 obtain⟨its,r,pl,hz⟩:=I.list hq
 obtain⟨j,h1,h2,h3,h4,h5⟩:=nr he
 obtain⟨w,ew,rw'⟩:=r.get h2
 have hl:=r.length
 have hn:=iN
 have fin:EP X pins σ Q w s:=⟨z,H,I,rw',q⟩
 by_cases h0:0<=i
 ·have hj:i.toNat=j:=by
   rw[seqIndex_of h0 h5]at h1
   exact Option.some.inj h1
  exact item_listR pl.isList h0 (by lia) (by rw[hj];simpa using ew) fin hs
 ·have hj:(i+(its.toArray.size:Int)).toNat=j:=by
   rw[seqIndex_neg (by lia) h4]at h1
   rw[List.size_toArray,<-hl]
   exact Option.some.inj h1
  exact subscriptTail_builtinR (x:=w) pl.isList.typeIs slot_list_getitem.lookup
   (wpAny_getItem_list_neg (Q:=fun r s'=>r=w/\EP X pins σ Q r s') pl.isList (by lia) (by rw[List.size_toArray]<;>lia) (by lia) (by rw[hj];simpa using ew) ⟨rfl,fin⟩) hs
theorem eD:IxR X (D9 X.K):=by
 intro value slice pins s σ H x y v u Q I rx ry h hs
 obtain⟨p,xs,i,z,rfl,rfl,hq,he,q⟩:=h
 cases rx
 obtain⟨t,rfl⟩:=ry
 obtain⟨its,r,pl,hz⟩:=I.tuple hq
 obtain⟨j,h1,h2,h3,h4,h5⟩:=nr he
 obtain⟨w,ew,rw'⟩:=r.get h2
 have hl:=r.length
 have hn:=iN
 have fin:EP X pins σ Q w s:=⟨z,H,I,rw',q⟩
 exact subscriptTail_builtinR (x:=w) pl.typeIs slot_tuple_getitem.lookup
  (getItem_tuple (j:=j) (Q:=fun r s'=>r=w/\EP X pins σ Q r s') pl (by lia) (by lia) (by rw[List.size_toArray,<-hl];exact h1) (by simpa using ew) ⟨rfl,fin⟩) hs
theorem Ew:IxR X EO:=by
 intro value slice pins s σ H x y v u Q I rx ry h hs
 obtain⟨z,i,c,rfl,rfl,hz,he,q⟩:=h
 obtain⟨t,rfl⟩:=rx
 obtain⟨t',rfl⟩:=ry
 obtain⟨j,h1,h2,h3,h4,h5⟩:=nr he
 have hl:z.cps.toList.length=z.length:=by simp[Str.length]
 rw[hl]at h1 h4 h5
 have hn:=iN
 exact tail_any (typeIs_str s z t) slot_str_getitem.lookup (getItem_str (c:=c) (by
  have e1:decide (i < -(2 ^ 63:Int))=false:=decide_eq_false (by lia)
  have e2:decide (i≥2 ^ 63)=false:=decide_eq_false (by lia)
  rw[e1,e2,Bool.or_false]) (by rw[h1];simpa using h2) ⟨.str ⟨#[c]⟩,H,I.tok _,⟨_,rfl⟩,q⟩) hs
def rIx(K:PySem.W.Frag):R2:=fun x y H Q=>D4 K x y H Q\/D9 K x y H Q\/EO x y H Q
theorem Cq:IxR X (rIx X.K):=AH.or (eD.or Ew)
theorem uf(its:List Value)(n j:Nat)(u:Value):Obj.mapSeq (·.setIfInBounds j u) { cls:=.type "list",data:=.seq its.toArray n }={ cls:=.type "list",data:=.seq (its.set j u).toArray n }:=by
 simp[Obj.mapSeq]
theorem Inv.lst{pins:List (Addr × Obj)}{σ:St}{H:Hp}{s:Shared}{p:Addr}{xs:List V}(I:Inv X pins σ H s)(h:H p=some (.lst xs)) :
  ∃ (its:List Value) (n:Nat),Vals xs its/\s.heap.get? p=some { cls:=.type "list",data:=.seq its.toArray n }/\xs.length<=sizeLine:=by
 obtain⟨z,its,n,r,e⟩:=I.hok p _ h
 exact⟨its,n,r,e,z⟩
theorem Inv.CK{pins:List (Addr × Obj)}{σ:St}{H:Hp}{s:Shared}{p:Addr}{xs ys:List V}{its its':List Value}{n n':Nat}{f:Obj->Obj}(I:Inv X pins σ H s)(h:H p=some (.lst xs))
 (ho:s.heap.get? p=some { cls:=.type "list",data:=.seq its.toArray n })(hf:f { cls:=.type "list",data:=.seq its.toArray n }={ cls:=.type "list",data:=.seq its'.toArray n' })(r:Vals ys its')(hz:ys.length<=sizeLine)(t:Nat) :
  Inv X pins σ (upd H p (.lst ys)) { s with heap:=s.heap.update p f,toks:=t }:=by
 have e:(s.heap.update p f).get? p=some { cls:=.type "list",data:=.seq its'.toArray n' }:=by
  rw[Heap.get?_update_self f ho (by rw[hf]<;>rfl),hf]
 refine I.write (x:=p) (e:=p) (by rw[h];trivial) (.inl rfl) (fun b u hb q=>(Heap.get?_update_other _ _ (Ne.symm hb)).trans q) ⟨_,e⟩ ?_
 exact⟨hz,its',n',r,e⟩
def uL:V->V->V->Hp->(Hp->Prop)->Prop:=fun o i v H Q=>∃ p xs k j,o=.ref p/\i=.int k/\H p=some (.lst xs)/\ixN xs.length k=some j/\Q (upd H p (.lst (xs.set j v)))
theorem set_list:DM X uL:=by
 intro pins s σ H o i v ov iv u Q I ro ri rv h
 obtain⟨p,xs,k,j,rfl,rfl,hp,hj,q⟩:=h
 cases ro
 obtain⟨t,rfl⟩:=ri
 obtain⟨its,n,r,ho,hz⟩:=I.lst hp
 obtain⟨h1,h2,h3,h4⟩:=tm hj
 have hl:=r.length
 have hn:=iN
 have I':Inv X pins σ (upd H p (.lst (xs.set j v))) { s with heap:=s.heap.update p (Obj.mapSeq (·.setIfInBounds j u)) } :=
  I.CK hp ho (uf its n j u) (r.set rv j) (by rw[List.length_set];exact hz) s.toks
 by_cases h0:0<=k
 ·have hk:k.toNat=j:=by
   rw[seqIndex_of h0 h4]at h1
   exact Option.some.inj h1
  exact PySem.W.ki_setAt ho h0 (by lia) (by rw[List.size_toArray,<-hl];exact h4) (by rw[hk];exact⟨_,I',q⟩)
 ·have hk:(k+(its.toArray.size:Int)).toNat=j:=by
   rw[seqIndex_neg (by lia) h3]at h1
   rw[List.size_toArray,<-hl]
   exact Option.some.inj h1
  exact PySem.W.ki_setBack ho (by lia) (by rw[List.size_toArray,<-hl];exact h3) (by lia) (by rw[hk];exact⟨_,I',q⟩)
theorem qa(lo hi:Option Int)(n:Nat):(sliceBounds lo hi none n).1=((HT.sIx n 0 lo:Nat):Int)/\(sliceBounds lo hi none n).2.1=((HT.sIx n n hi:Nat):Int)/\(sliceBounds lo hi none n).2.2=1:=by
 refine⟨?_,?_,rfl⟩
 ·cases lo with
  | none=>simp[sliceBounds,HT.sIx]
  |some i=>
   simp only[sliceBounds,HT.sIx,Option.getD_none,show(1:Int) > 0 by decide,if_true]
   by_cases h:i<0
   ·simp only[h,if_true]<;>lia
   ·simp only[h,if_false]<;>lia
 ·cases hi with
  | none=>simp[sliceBounds,HT.sIx]
  |some i=>
   simp only[sliceBounds,HT.sIx,Option.getD_none,show(1:Int) > 0 by decide,if_true]
   by_cases h:i<0
   ·simp only[h,if_true]<;>lia
   ·simp only[h,if_false]<;>lia
theorem pE(its:List Value)(lo hi:Option Int):slicePick its.toArray lo hi none=((its.drop (HT.sIx its.length 0 lo)).take (HT.sIx its.length its.length hi-HT.sIx its.length 0 lo)).toArray:=by
 obtain⟨h1,h2,h3⟩:=qa lo hi its.toArray.size
 unfold slicePick
 rw[h1,h2,h3]
 simp only[sliceRange_one,pick_run,List.size_toArray]<;>rfl
def FW(K:PySem.W.Frag):V->Option Int->Option Int->Hp->VK->Prop:=fun x lo hi H Q=>∃ a xs,x=.ref a/\SqL K H a xs/\∀ p,H p=none->Q (.ref p) (upd H p (.lst (iQ xs lo hi)))
theorem AO:SlR X (FW X.K):=by
 intro pins s σ H x v vl vu lo hi sl Q I rx hs pl pu h
 obtain⟨a,xs,rfl,hx,q⟩:=h
 cases rx
 obtain⟨its,r,ht,hz⟩:=I.list hx
 have hlen:=r.length
 refine⟨"list",_,slot_list_getitem.lookup,ht.isList.typeIs,?_⟩
 refine wpAny_getItem_list_slice ht.isList hs pl pu .none (by simp) ?_ (by rw[List.size_toArray]<;>lia)
 rw[pE,<-hlen]
 refine⟨.ref s.heap.objs.size,_,I.laid (t':=s.toks) (o:=.lst (iQ xs lo hi)) (fun b ob q=>Heap.get?_push_of_some _ q) (Nat.le_refl _) ?_,rfl,q _ (I.hok.fresh (Nat.le_refl _))⟩
 exact⟨Nat.le_trans (l6 xs lo hi) hz,_,0,(r.drop (HT.sIx xs.length 0 lo)).take (HT.sIx xs.length xs.length hi-HT.sIx xs.length 0 lo),Heap.get?_push_size _ rfl⟩
def fA:V->Bool
 | .non=>true
 | .bl _=>true
 | .int _=>true
 | .str _=>true
 | _=>false
def eqV:V->V->Bool
 | .non,.non=>true
 | .bl a,.bl b=>a == b
 | .bl a,.int b=>(if a then 1 else 0) == b
 | .int a,.bl b=>a == (if b then 1 else 0)
 | .int a,.int b=>a == b
 | .str a,.str b=>a == b
 | _,_=>false
theorem DZ{A:Around}{s:Shared}{y x:V}{u v:Value}(ry:RelV y u)(rx:RelV x v)(fy:fA y=true)(fx:fA x=true):SeqAt.EqAt A s u v (eqV y x):=by
 cases y with
 |non=>
  cases ry
  cases x with
  | non=>cases rx;exact SeqAt.EqAt.same _
  | bl b=>cases rx;exact SeqAt.EqAt.none_bool b
  | int b=>obtain⟨t,rfl⟩:=rx;exact SeqAt.EqAt.none_int b t
  | str b=>obtain⟨t,rfl⟩:=rx;exact SeqAt.EqAt.none_str b t
  | _=>exact absurd (show false=true from fx) Bool.false_ne_true
 |bl a=>
  cases ry
  cases x with
  | non=>cases rx;exact SeqAt.EqAt.bool_none a
  | bl b=>cases rx;exact SeqAt.EqAt.bool_bool a b
  | int b=>obtain⟨t,rfl⟩:=rx;exact SeqAt.EqAt.bool_int a b t
  | str b=>obtain⟨t,rfl⟩:=rx;exact SeqAt.EqAt.bool_str a b t
  | _=>exact absurd (show false=true from fx) Bool.false_ne_true
 |int a=>
  obtain⟨t',rfl⟩:=ry
  cases x with
  | non=>cases rx;exact SeqAt.EqAt.int_none a t'
  | bl b=>cases rx;exact SeqAt.EqAt.int_bool a t' b
  | int b=>obtain⟨t,rfl⟩:=rx;exact SeqAt.EqAt.int_int a t' b t
  | str b=>obtain⟨t,rfl⟩:=rx;exact SeqAt.EqAt.int_str a t' b t
  | _=>exact absurd (show false=true from fx) Bool.false_ne_true
 |str a=>
  obtain⟨t',rfl⟩:=ry
  cases x with
  | non=>cases rx;exact SeqAt.EqAt.str_none a t'
  | bl b=>cases rx;exact SeqAt.EqAt.str_bool a t' b
  | int b=>obtain⟨t,rfl⟩:=rx;exact SeqAt.EqAt.str_int a t' b t
  | str b=>obtain⟨t,rfl⟩:=rx;exact SeqAt.EqAt.str_str a t' b t
  | _=>exact absurd (show false=true from fx) Bool.false_ne_true
 | _=>exact absurd (show false=true from fy) Bool.false_ne_true
def eqU(x:V)(u:Value):Bool:=match u with
 | .none=>eqV .non x
 | .bool b=>eqV (.bl b) x
 | .int i _=>eqV (.int i) x
 | .str z _=>eqV (.str z) x
 | _=>false
theorem vW{x y:V}{u:Value}(r:RelV y u)(f:fA y=true):eqU x u=eqV y x:=by
 cases y with
 | non=>cases r;rfl
 | bl b=>cases r;rfl
 | int i=>obtain⟨t,rfl⟩:=r;rfl
 | str z=>obtain⟨t,rfl⟩:=r;rfl
 | _=>exact absurd (show false=true from f) Bool.false_ne_true
theorem iM{x:V}:∀ {xs:List V} {us:List Value},Vals xs us->xs.all fA=true->us.any (eqU x)=xs.any fun y=>eqV y x
 | _,_,.nil,_=>rfl
 | y::xs,u::us,.cons r t,f=>by
  rw[List.all_cons,Bool.and_eq_true]at f
  rw[List.any_cons,List.any_cons,vW r f.1,iM t f.2]
theorem gL{A:Around}{s:Shared}{x:V}{v:Value}(rx:RelV x v)(fx:fA x=true):∀ {xs:List V} {us:List Value},Vals xs us->xs.all fA=true->∀ u∈us,SeqAt.EqAt A s u v (eqU x u)
 | _,_,.nil,_=>fun u hu=>by cases hu
 | y::xs,u::us,.cons r t,f=>fun u' hu=>by
  rw[List.all_cons,Bool.and_eq_true]at f
  rcases List.mem_cons.mp hu with rfl | hu
  ·rw[vW r f.1];exact DZ r rx f.1 fx
  ·exact gL rx fx t f.2 u' hu
def inV(x:V)(xs:List V):Bool:=xs.any fun y=>eqV y x
def rIn(K:PySem.W.Frag)(neg:Bool):R2:=fun x y H Q=>∃ p xs,y=.ref p/\(SqL K H p xs\/SqT K H p xs)/\fA x=true/\xs.all fA=true/\Q (.bl (if neg then !inV x xs else inV x xs)) H
theorem vp:OpR X (compareOp .In) (rIn X.K false):=by
 intro pins s σ H x y v u Q I rx ry h
 obtain⟨p,xs,rfl,hq,fx,fs,q⟩:=h
 cases ry
 rcases hq with hq | hq
 ·obtain⟨its,r,pl,hz⟩:=I.list hq
  refine SeqAt.in_listAt (eqU x) pl.isList (fun w hw=>gL rx fx r fs w (by simpa using hw)) ⟨.bl _,H,I,rfl,?_⟩
  rw[show its.toArray.any (eqU x)=its.any (eqU x) by simp,iM r fs]
  exact q
 ·obtain⟨its,r,pl,hz⟩:=I.tuple hq
  refine SeqAt.in_tupleAt (eqU x) pl (fun w hw=>gL rx fx r fs w (by simpa using hw)) ⟨.bl _,H,I,rfl,?_⟩
  rw[show its.toArray.any (eqU x)=its.any (eqU x) by simp,iM r fs]
  exact q
theorem qO:OpR X (compareOp .NotIn) (rIn X.K true):=by
 intro pins s σ H x y v u Q I rx ry h
 obtain⟨p,xs,rfl,hq,fx,fs,q⟩:=h
 cases ry
 rcases hq with hq | hq
 ·obtain⟨its,r,pl,hz⟩:=I.list hq
  refine SeqAt.notIn_listAt (eqU x) pl.isList (fun w hw=>gL rx fx r fs w (by simpa using hw)) ⟨.bl _,H,I,rfl,?_⟩
  rw[show its.toArray.any (eqU x)=its.any (eqU x) by simp,iM r fs]
  exact q
 ·obtain⟨its,r,pl,hz⟩:=I.tuple hq
  refine SeqAt.notIn_tupleAt (eqU x) pl (fun w hw=>gL rx fx r fs w (by simpa using hw)) ⟨.bl _,H,I,rfl,?_⟩
  rw[show its.toArray.any (eqU x)=its.any (eqU x) by simp,iM r fs]
  exact q
theorem bJ.or{f:Value}{r r':List V->Hp->VK->Prop}(h:bJ X f r)(h':bJ X f r'):bJ X f (fun xs H Q=>r xs H Q\/r' xs H Q):=by
 intro pins s σ H xs us Q I rs q
 rcases q with q | q
 ·exact h pins s σ H xs us Q I rs q
 ·exact h' pins s σ H xs us Q I rs q
theorem qL:bJ X (.type "list") (fun xs H Q=>∃ p ys,xs=[.ref p]/\(SqL X.K H p ys\/SqT X.K H p ys)/\∀ l,H l=none->Q (.ref l) (upd H l (.lst ys))):=by
 intro pins s σ H xs us Q I r h
 obtain⟨p,ys,rfl,hq,q⟩:=h
 obtain⟨u,rfl,rx⟩:=vals1 r
 cases rx
 have fin:∀ (its:List Value),Vals ys its->ys.length<=sizeLine->∀ (h':Heap) (c':Nat),(∀ b o',s.heap.get? b=some o'->h'.get? b=some o') ->
   h'.get? s.heap.objs.size=some { cls:=.type "list",dict:=none,data:=.seq its.toArray c',slots:=#[] }->EP X pins σ Q (.ref s.heap.objs.size) { s with heap:=h' }:=fun its r' hz h' c' kp e =>
  ⟨.ref s.heap.objs.size,_,I.laid (t':=s.toks) kp (Nat.le_refl _) (show bB X.prog X.w _ h' _ (.lst ys)from⟨hz,its,c',r',e⟩),rfl,q _ (I.hok.fresh (Nat.le_refl _))⟩
 rcases hq with hq | hq
 ·obtain⟨its,r',pl,hz⟩:=I.list hq
  have hlen:=r'.length
  obtain⟨o,ho,hc,n,hd⟩:=pl.isList
  exact call_list_seq p (.inl rfl) ho hc hd (fun h' c' kp e=>fin its r' hz h' c' kp e) (by simp only[List.size_toArray]<;>lia)
 ·obtain⟨its,r',pl,hz⟩:=I.tuple hq
  have hlen:=r'.length
  obtain⟨o,ho,hc,n,hd⟩:=pl
  exact call_list_seq p (.inr rfl) ho hc hd (fun h' c' kp e=>fin its r' hz h' c' kp e) (by simp only[List.size_toArray]<;>lia)
theorem pD:bJ X (.type "tuple") (fun xs H Q=>∃ p ys,xs=[.ref p]/\((SqL X.K H p ys/\∀ l,H l=none->Q (.ref l) (upd H l (.tup ys)))\/(SqT X.K H p ys/\Q (.ref p) H))):=by
 intro pins s σ H xs us Q I r h
 obtain⟨p,ys,rfl,h⟩:=h
 obtain⟨u,rfl,rx⟩:=vals1 r
 cases rx
 rcases h with⟨hq,q⟩ | ⟨hq,q⟩
 ·obtain⟨its,r',pl,hz⟩:=I.list hq
  have hlen:=r'.length
  refine call_tuple_list pl.isList (fun h' kp=>?_) (by simp only[List.size_toArray]<;>lia)
  have I1:Inv X pins σ H { s with heap:=h' }:=I.kept (t':=s.toks) kp
  have I2:Inv X pins σ (upd H h'.objs.size (.tup ys)) { s with heap:=h'.push { cls:=.type "tuple",data:=.seq its.toArray } } :=
   I1.laid (t':=s.toks) (fun b o e=>Heap.get?_push_of_some _ e) (Nat.le_refl _) (show bB X.prog X.w _ _ _ (.tup ys)from⟨hz,its,r',IsTup.new _ _⟩)
  exact⟨.ref h'.objs.size,_,I2,rfl,q _ (I1.hok.fresh (Nat.le_refl _))⟩
 ·obtain⟨its,r',pl,hz⟩:=I.tuple hq
  exact call_tuple_same pl ⟨.ref p,H,I,rfl,q⟩
def tyV(K:PySem.W.Frag)(T:String)(x:V)(H:Hp):Prop:=match x with
 | .str _=>T = "str"
 | .int _=>T = "int"
 | .ref p=>(T = "list" /\ ∃ xs,SqL K H p xs)\/(T = "tuple" /\ ∃ o,K.lookup p=some o/\o.cls=.type "tuple" /\ o.dict=none) \/
   (T = "dict" /\ ((∃ kvs,H p=some (.dK kvs))\/∃ kvs,H p=some (.dT kvs)))\/(T = "set" /\ ∃ S n,H p=some (.set S n))
 | _=>False
theorem vL{pins:List (Addr × Obj)}{σ:St}{H:Hp}{s:Shared}{T:String}{x:V}{v:Value}(I:Inv X pins σ H s)(r:RelV x v)(ty:tyV X.K T x H) :
  s.TypeIs v T/\∀ a,v=.ref a->∃ ob,s.heap.get? a=some ob/\ob.dict=none:=by
 cases x with
 |str z=>
  obtain⟨t,rfl⟩:=r
  cases(show T = "str" from ty)
  exact⟨typeIs_str s z t,fun _ e=>nomatch e⟩
 |int i=>
  obtain⟨t,rfl⟩:=r
  cases(show T = "int" from ty)
  exact⟨typeIs_int s i t,fun _ e=>nomatch e⟩
 |ref p=>
  cases r
  rcases ty with⟨rfl,xs,hq⟩ | ⟨rfl,o,hk,hc,hd⟩ | ⟨rfl,hk⟩ | ⟨rfl,S,n,hk⟩
  ·obtain⟨its,_,pl,_⟩:=I.list hq
   refine⟨pl.isList.typeIs,fun a e=>?_⟩
   cases e
   obtain⟨o,n,e,c,hd,_⟩:=pl
   exact⟨o,e,hd⟩
  ·refine⟨⟨o,I.kIn p o hk,hc⟩,fun a e=>?_⟩
   cases e
   exact⟨o,I.kIn _ o hk,hd⟩
  ·have z:∃ o,s.heap.get? p=some o/\o.ExactDict:=by
    rcases hk with⟨kvs,hk⟩ | ⟨kvs,hk⟩
    ·obtain⟨_,_,_,_,o,_,_,e,ex,_⟩:=I.hok p _ hk
     exact⟨o,e,ex⟩
    ·obtain⟨_,_,_,_,o,_,_,e,ex,_⟩:=I.hok p _ hk
     exact⟨o,e,ex⟩
   obtain⟨o,e,ex⟩:=z
   refine⟨⟨o,e,ex.1⟩,fun a e2=>?_⟩
   cases e2
   exact⟨o,e,ex.2.1⟩
  ·obtain⟨o,_,_,_,e,ex,_⟩:=I.hok p _ hk
   refine⟨⟨o,e,ex.1⟩,fun a e2=>?_⟩
   cases e2
   exact⟨o,e,ex.2.1⟩
 | _=>exact False.elim ty
def xV(K:PySem.W.Frag)(T:String)(r:V->List V->Hp->VK->Prop)(to:TE):TE:=fun σ H Q=>to σ H fun x H1=>tyV K T x H1/\r x [] H1 Q
def tBM(K:PySem.W.Frag)(T:String)(r:V->List V->Hp->VK->Prop)(to:TE)(t:TA):TE:=fun σ H Q=>to σ H fun x H1=>tyV K T x H1/\t σ H1 fun xs H2=>r x xs H2 Q
variable{o e:Expr}{es:List Expr}{to:TE}{t:TA}{name:Str}{apos cpos:Pos}{T id:String}{r:V->List V->Hp->VK->Prop}
theorem uR(pa:PlainAttrs T)(slot:Slot T name id)(hty:typeOf (.builtin id)=pure (.type "method_descriptor"))(hm:MtR X id r)(ho:PE X o to)
 (hbase:attributeBase o name X.env (eval o X.env)=eval o X.env:=by rfl)(hline:(apos.endLine == cpos.line)=true:=by rfl):PE X (.Call (.Attribute o name apos) [] [] cpos) (xV X.K T r to):=by
 intro pins s σ H Q I h
 refine wpAny_Call_method0_late hbase hline (thn (ho pins s σ H _ I h) fun v s1 ⟨x,H1,I1,r1,ty,q1⟩=>?_)
 obtain⟨h1,h2⟩:=vL I1 r1 ty
 exact⟨T,id,pa,slot,hty,h1,h2,Calls.callWith_builtin rfl (PySem.evalArgs_none (hm pins s1 σ H1 x [] v [] Q I1 r1 .nil q1))⟩
theorem F5(pa:PlainAttrs T)(slot:Slot T name id)(hty:typeOf (.builtin id)=pure (.type "method_descriptor"))(hm:MtR X id r)(ho:PE X o to)(ha:PA X (e::es) t)
 (hbase:attributeBase o name X.env (eval o X.env)=eval o X.env:=by rfl)
 (hfew:((backTo cpos (starEach (e::es) X.env)).all (fun x=>!x.1)&&(backToKw cpos (keywordEach [] X.env)).all (fun x=>x.1.isSome)
   && decide ((e::es).length+([]:List Keyword).length+(if([]:List Keyword).isEmpty then 0 else 1)<30))=true:=by rfl)
 (hline:(apos.endLine == cpos.line)=true:=by rfl)(hs:starEach (e::es) X.env=(false,eval e X.env)::starEach es X.env:=by rfl)(hplain:(backTo cpos (starEach es X.env)).any (·.1)=false:=by rfl) :
  PE X (.Call (.Attribute o name apos) (e::es) [] cpos) (tBM X.K T r to t):=by
 intro pins s σ H Q I h
 refine wpAny_Call_method_late hbase hfew hline rfl (thn (ho pins s σ H _ I h) fun v s1 ⟨x,H1,I1,r1,ty,q1⟩=>?_)
 obtain⟨h1,h2⟩:=vL I1 r1 ty
 refine⟨T,id,pa,slot,hty,h1,h2,?_⟩
 have hA:=ha cpos pins s1 σ H1 _ I1 q1
 rw[hs]at hA ⊢
 refine Calls.callWith_builtin (by show(false || (backTo cpos (starEach es X.env)).any (·.1))=false;rw[hplain]<;>rfl) (Calls.evalArgs_plain ?_)
 exact thn hA fun us s2 ⟨vs,H2,I2,r2,q2⟩=>hm pins s2 σ H2 x vs v us Q I2 r1 r2 q2
end
def MtM(X:Cx)(id:String)(r:V->List V->Hp->VK->Prop):Prop :=
 ∀ (pins:List (Addr × Obj)) (s:Shared) (σ:St) (H:Hp) (x:V) (xs:List V) (v:Value) (us:List Value) (Q:VK),Inv X pins σ H s->RelV x v->Vals xs us->r x xs H Q ->
  wpAny (model X.prog X.w) X.A (call (.builtin id) (v::us)) (EP X pins σ Q) X.xe s
theorem Vals.one:∀ {x:V} {us:List Value},Vals [x] us->∃ u,us=[u]/\RelV x u
 | _,_,.cons r .nil=>⟨_,rfl,r⟩
theorem Vals.zero:∀ {us:List Value},Vals [] us->us=[]
 | _,.nil=>rfl
theorem Vals.dropLast{xs:List V}{us:List Value}(h:Vals xs us):Vals xs.dropLast us.dropLast:=by
 induction h with
 | nil=>exact .nil
 |cons r t ih=>
  cases t with
  | nil=>exact .nil
  | cons q t'=>exact .cons r ih
theorem Vals.reverse{xs:List V}{us:List Value}(h:Vals xs us):Vals xs.reverse us.reverse:=by
 induction h with
 | nil=>exact .nil
 | cons r t ih=>rw[List.reverse_cons,List.reverse_cons];exact Vals.append ih (.cons r .nil)
theorem Vals.rep{xs:List V}{us:List Value}(h:Vals xs us):∀ k:Nat,Vals (List.replicate k xs).flatten (List.replicate k us).flatten
 | 0=>.nil
 | k+1=>by
  rw[List.replicate_succ,List.replicate_succ,List.flatten_cons,List.flatten_cons]
  exact Vals.append h (Vals.rep h k)
theorem u7{α:Type}(l:List α):l.eraseIdx (l.length-1)=l.dropLast:=by
 induction l with
 | nil=>rfl
 |cons a r ih=>
  cases r with
  | nil=>rfl
  |cons b r=>
   have e:(a::b::r).length-1=((b::r).length-1)+1:=by
    have h1:(a::b::r).length=r.length+2:=rfl
    have h2:(b::r).length=r.length+1:=rfl
    lia
   rw[e,List.eraseIdx_cons_succ,ih]
   all_goals rfl
theorem foldl_rep(its:List Value):∀ (k:Nat) (acc:List Value),
  List.foldl (fun x1 x2=>x1++x2) acc.toArray (List.replicate k its.toArray)=(acc++(List.replicate k its).flatten).toArray
 | 0,acc=>by simp
 | k+1,acc=>by
  have e:acc.toArray++its.toArray=(acc++its).toArray:=by simp
  have e2:(acc++its)++(List.replicate k its).flatten=acc++(List.replicate (k+1) its).flatten:=by
   rw[List.replicate_succ,List.flatten_cons,List.append_assoc]
  rw[<-e2,<-foldl_rep its k (acc++its),<-e,List.replicate_succ,List.foldl_cons]
section
variable{X:Cx}{pins:List (Addr × Obj)}{σ:St}{H:Hp}{s:Shared}{l b:Addr}{xs ys zs:List V}
theorem Inv.Ed{its its':List Value}{n:Nat}{f:Array Value->Array Value}{t':Nat}(I:Inv X pins σ H s)(hH:H l=some (.lst xs))
 (e:s.heap.get? l=some { cls:=.type "list",data:=.seq its.toArray n })(hf:f its.toArray=its'.toArray)(hv:Vals ys its')(hz:ys.length<=sizeLine) :
  Inv X pins σ (upd H l (.lst ys)) { s with heap:=s.heap.update l (Obj.mapSeq f),toks:=t' }:=by
 have q:=PySem.IsL.update e f
 rw[hf]at q
 refine I.write (x:=l) (e:=l) (by rw[hH];exact trivial) (.inl rfl) (fun b' u hb hu=>(Heap.get?_update_other s.heap (Obj.mapSeq f) (Ne.symm hb)).trans hu) ⟨_,q⟩ ?_
 exact⟨hz,its',_,hv,q⟩
theorem Inv.C6{its:List Value}{t':Nat}(I:Inv X pins σ H s)(hv:Vals ys its)(hz:ys.length<=sizeLine) :
  Inv X pins σ (upd H s.heap.objs.size (.lst ys)) { s with heap:=s.heap.push { cls:=.type "list",data:=.seq its.toArray },toks:=t' } :=
 I.laid (fun _ _ q=>Heap.get?_push_of_some _ q) (Nat.le_refl _) ⟨hz,its,0,hv,Heap.get?_push_size _ rfl⟩
theorem Inv.fresh(I:Inv X pins σ H s):H s.heap.objs.size=none:=I.hok.fresh (Nat.le_refl _)
theorem Inv.qe(I:Inv X pins σ H s)(hH:H l=some (.lst xs)):xs.length<=sizeLine/\∃ (its:List Value) (n:Nat),Vals xs its/\xs.length=its.length/\s.heap.get? l=some { cls:=.type "list",data:=.seq its.toArray n }:=by
 obtain⟨z,its,n,r,e⟩:=I.hok l _ hH
 exact⟨z,its,n,r,r.length,e⟩
theorem yb{n:Nat}(h:n<=sizeLine):Builtin.List.listTooLong n=false:=by
 unfold Builtin.List.listTooLong
 exact decide_eq_false (by lia)
end
section
variable{X:Cx}
def tF:V->List V->Hp->VK->Prop:=fun x vs H Q=>∃ l xs y,x=.ref l/\vs=[y]/\H l=some (.lst xs)/\xs.length<sizeLine/\Q .non (upd H l (.lst (xs++[y])))
theorem oU:MtM X "list.append" tF:=by
 intro pins s σ H x vs v us Q I rx rv h
 obtain⟨l,xs,y,rfl,rfl,hH,hz,q⟩:=h
 cases rx
 obtain⟨u,rfl,ru⟩:=rv.one
 obtain⟨z,its,n,r,hl,e⟩:=I.qe hH
 refine call_meets F.slot_list_append ⟨_,e,rfl⟩ F.entry_list_append (F.args_list_append_2 _ _) (PySem.list_append l its.toArray n u (by rw[List.size_toArray];lia)) ⟨e,?_⟩
 refine⟨.non,_,I.Ed (its':=its++[u]) hH e (by simp) (r.append (.cons ru .nil)) ?_,rfl,q⟩
 rw[List.length_append,List.length_singleton]
 lia
def yC:V->List V->Hp->VK->Prop:=fun x vs H Q=>∃ l xs y,x=.ref l/\vs=[]/\H l=some (.lst xs)/\xs[xs.length-1]?=some y/\Q y (upd H l (.lst xs.dropLast))
theorem vQ:MtM X "list.pop" yC:=by
 intro pins s σ H x vs v us Q I rx rv h
 obtain⟨l,xs,y,rfl,rfl,hH,hy,q⟩:=h
 cases rx
 have hus:=rv.zero
 subst hus
 obtain⟨z,its,n,r,hl,e⟩:=I.qe hH
 obtain⟨u,hu,ru⟩:=r.get hy
 have hy':its.toArray[its.toArray.size-1]?=some u:=by
  show its.toArray[its.length-1]?=some u
  rw[<-Array.getElem?_toList,<-hl]
  exact hu
 refine call_meets F.slot_list_pop ⟨_,e,rfl⟩ F.entry_list_pop (F.args_list_pop_1 _) (MeetsSeq.list_pop_last l its.toArray n u hy' (by rw[List.size_toArray];lia)) ⟨e,?_⟩
 refine⟨y,_,I.Ed (its':=its.dropLast) hH e ?_ r.dropLast ?_,ru,q⟩
 ·show its.toArray.eraseIdxIfInBounds (its.toArray.size-1)=its.dropLast.toArray
  rw[List.size_toArray,List.eraseIdxIfInBounds_toArray,u7]
 ·rw[List.length_dropLast]
  lia
def G1:R2:=fun x y H Q=>∃ l b xs zs,x=.ref l/\y=.ref b/\H l=some (.lst xs)/\H b=some (.lst zs)/\xs.length+zs.length<=sizeLine/\∀ p,H p=none->Q (.ref p) (upd H p (.lst (xs++zs)))
theorem Dm:OpR X (binaryOp .Add) G1:=by
 intro pins s σ H x y v u Q I rx ry h
 obtain⟨l,b,xs,zs,rfl,rfl,hH,hB,hz,q⟩:=h
 cases rx
 cases ry
 obtain⟨z,its,n,r,hl,e⟩:=I.qe hH
 obtain⟨z2,its2,n2,r2,hl2,e2⟩:=I.qe hB
 refine PySem.P.add_list e e2 ?_ (by rw[List.size_toArray,List.size_toArray];lia)
 have ea:its.toArray++its2.toArray=(its++its2).toArray:=by simp
 rw[ea]
 exact⟨.ref _,_,I.C6 (t':=s.toks) (r.append r2) (by rw[List.length_append];lia),rfl,q _ I.fresh⟩
def Gg:R2:=fun x y H Q=>∃ l k xs,x=.ref l/\y=.int k/\H l=some (.lst xs)/\-(2 ^ 63)<=k/\k<2 ^ 63/\xs.length*k.toNat<=sizeLine /\
 ∀ p,H p=none->Q (.ref p) (upd H p (.lst (List.replicate k.toNat xs).flatten))
theorem len_rep{α:Type}(xs:List α)(k:Nat):(List.replicate k xs).flatten.length=k*xs.length:=by
 induction k with
 | zero=>simp
 | succ k ih=>rw[List.replicate_succ,List.flatten_cons,List.length_append,ih,Nat.succ_mul,Nat.add_comm]
theorem DA:OpR X (binaryOp .Mult) Gg:=by
 intro pins s σ H x y v u Q I rx ry h
 obtain⟨l,k,xs,rfl,rfl,hH,h1,h2,hz,q⟩:=h
 cases rx
 obtain⟨t,rfl⟩:=ry
 obtain⟨z,its,n,r,hl,e⟩:=I.qe hH
 have hlen:its.toArray.size*k.toNat<=sizeLine:=by rw[List.size_toArray,<-hl];exact hz
 have hcap:¬ its.toArray.size*k.toNat > (2 ^ 63-1) / 8:=by
  have:(sizeLine:Nat)<=(2 ^ 63-1) / 8:=by decide
  lia
 have hfit:¬ (!Builtin.List.listFitsIndex k)=true:=by
  rw[fitsIndex_both h1 h2]
  exact Bool.false_ne_true
 have hlong:¬ Builtin.List.listTooLong (its.toArray.size*k.toNat)=true:=by
  rw[yb hlen]
  exact Bool.false_ne_true
 have hnew:List.foldl (fun x1 x2=>x1++x2) #[] (List.replicate (if its.toArray.isEmpty=true then 0 else k.toNat) its.toArray)=(List.replicate k.toNat its).flatten.toArray:=by
  have f0:∀ m:Nat,List.foldl (fun x1 x2=>x1++x2) #[] (List.replicate m its.toArray)=(List.replicate m its).flatten.toArray:=fun m=>by
   have:=foldl_rep its m []
   rw[List.nil_append]at this
   exact this
  rw[f0]
  cases its with
  | nil=>simp
  | cons a r'=>rw[if_neg (by simp)]
 refine wpAny_binaryOp_repeat_ref (T := "list") (U := "int") (by decide) ⟨_,e,rfl⟩ (fun s'=>typeIs_int s' k t) noFill_list_mul F.fills_int_mul F.slot_int_rmul repeat_list F.slot_int_index.lookup
  (call_meets F.slot_int_rmul (typeIs_int s k t) F.entry_int_rmul (F.args_int_rmul_2 _ _) (int___rmul___int_list k t l its.toArray n)
   ⟨e,rfl,⟨_,e,rfl⟩,call_meets F.slot_list_mul ⟨_,e,rfl⟩ F.entry_list_mul (F.args_list_mul_2 _ _) (AutoListH.list___mul___list_int_3 l its.toArray n k t hfit hcap hlong) ⟨e,?_⟩⟩)
 rw[hnew]
 exact⟨.ref _,_,I.C6 (t':=s.toks) (r.rep k.toNat) (by rw[len_rep,Nat.mul_comm];exact hz),rfl,q _ I.fresh⟩
end
section
variable{prog:Program}{w:World}{A:Around}{E:Value->Shared->Prop}{s:Shared}
set_option maxRecDepth 100000 in
end
section
variable{X:Cx}
end
section
variable{κ:Type} [DecidableEq κ]
def eK(kvs:List (κ × V))(k:κ):Option V:=(kvs.find? fun kv=>decide (kv.1=k)).map (·.2)
def putK(kvs:List (κ × V))(k:κ)(v:V):List (κ × V) :=
 if(kvs.any fun kv=>decide (kv.1=k))=true then kvs.map (fun kv=>if kv.1=k then(kv.1,v)else kv)else kvs++[(k,v)]
theorem jk{p:κ × V}{r:List (κ × V)}{k:κ}(e:p.1=k):eK (p::r) k=some p.2:=by simp[eK,List.find?_cons,e]
theorem j0{p:κ × V}{r:List (κ × V)}{k:κ}(e:¬ p.1=k):eK (p::r) k=eK r k:=by simp[eK,List.find?_cons,e]
theorem qb(k:κ):∀ kvs:List (κ × V),(kvs.any fun kv=>decide (kv.1=k))=(eK kvs k).isSome
 | []=>rfl
 | p::r=>by
  rw[List.any_cons]
  by_cases e:p.1=k
  ·simp only[jk e,decide_eq_true e,Bool.true_or,Option.isSome_some]
  ·rw[j0 e,decide_eq_false e,Bool.false_or];exact qb k r
theorem l5(kvs:List (κ × V))(k:κ)(v:V):(putK kvs k v).length<=kvs.length+1:=by
 unfold putK
 split
 ·rw[List.length_map];lia
 ·rw[List.length_append,List.length_cons,List.length_nil];lia
theorem gz.fI{o:Option V}{u:Option Value}(r:gz o u):o.isSome=u.isSome:=by
 cases o with
 | none=>cases u with
  | none=>rfl
  | some _=>exact(show False from r).elim
 | some _=>cases u with
  | none=>exact(show False from r).elim
  | some _=>rfl
theorem KV.val{kvs:List (κ × V)}{vs:List (κ × Value)}(r:KV kvs vs)(k:κ):gz (eK kvs k) (valueAt vs k):=by
 unfold KV at r
 induction r with
 | nil=>exact True.intro
 |@cons p q ps qs h t ih=>
  obtain⟨h1,h2⟩:=h
  by_cases e:p.1=k
  ·have e':q.1=k:=h1.symm.trans e
   have b:valueAt (q::qs) k=some q.2:=by simp[valueAt,List.find?_cons,e']
   rw[jk e,b];exact h2
  ·have e':¬ q.1=k:=fun z=>e (h1.trans z)
   have b:valueAt (q::qs) k=valueAt qs k:=by simp[valueAt,List.find?_cons,e']
   rw[j0 e,b];exact ih
theorem KV.any{kvs:List (κ × V)}{vs:List (κ × Value)}(r:KV kvs vs)(k:κ):(kvs.any fun kv=>decide (kv.1=k))=vs.any fun kv=>decide (kv.1=k):=by
 unfold KV at r
 induction r with
 | nil=>rfl
 | cons h t ih=>rw[List.any_cons,List.any_cons,ih,h.1]
theorem KV.yu{kvs:List (κ × V)}{vs:List (κ × Value)}(r:KV kvs vs)(k:κ){y:V}{u:Value}(ry:RelV y u) :
  KV (kvs.map fun kv=>if kv.1=k then(kv.1,y)else kv) (vs.map fun kv=>if kv.1=k then(kv.1,u)else kv):=by
 unfold KV at r ⊢
 induction r with
 | nil=>exact .nil
 |@cons p q ps qs h t ih=>
  rw[List.map_cons,List.map_cons]
  refine .cons ?_ ih
  obtain⟨h1,h2⟩:=h
  by_cases e:p.1=k
  ·rw[if_pos e,if_pos (h1.symm.trans e)];exact⟨h1,ry⟩
  ·rw[if_neg e,if_neg (fun z=>e (h1.trans z))];exact⟨h1,h2⟩
theorem KV.put{kvs:List (κ × V)}{vs:List (κ × Value)}(r:KV kvs vs)(k:κ){y:V}{u:Value}(ry:RelV y u):KV (putK kvs k y) (stored vs k u):=by
 unfold putK stored
 rw[r.any k]
 by_cases e:(vs.any fun kv=>decide (kv.1=k))=true
 ·rw[if_pos e,if_pos e];exact r.yu k ry
 ·rw[if_neg e,if_neg e];exact Paired.snoc r ⟨rfl,ry⟩
theorem KV.length{kvs:List (κ × V)}{vs:List (κ × Value)}(r:KV kvs vs):kvs.length=vs.length:=Paired.length r
end
theorem mF{P:Program}{w:World}{k:Key}{u:Value}(r:RelV (kV k) u):(bY P w).is k u=true:=by
 cases k with
 | inl i=>obtain⟨t,e⟩:=(show ∃ t,u=Value.int i t from r);subst e;exact rZ P w i t
 | inr x=>obtain⟨t,e⟩:=(show ∃ t,u=Value.str x t from r);subst e;exact sh P w x t
theorem pb{P:Program}{w:World}:∀ {ks:List Key} {us:List Value},Vals (ks.map kV) us->ItemsAre (bY P w) ks us
 | [],_,r=>by rw[List.map_nil]at r;cases r;exact .nil
 | k::ks,_,r=>by
  rw[List.map_cons]at r
  cases r with
  | cons h t=>exact .cons (mF h) (pb t)
abbrev KT(H:Hp):List (List Key × V)->List (List Key × Addr × Value)->Prop:=Paired fun p q=>p.1=q.1/\H q.2.1=some (.tup (p.1.map kV))/\RelV p.2 q.2.2
theorem KT.val{H:Hp}{kvs:List (List Key × V)}{xs:List (List Key × Addr × Value)}(r:KT H kvs xs)(k:List Key):gz (eK kvs k) ((atKey xs k).map (·.2)):=by
 induction r with
 | nil=>exact True.intro
 |@cons p q ps qs h t ih=>
  obtain⟨h1,_,h2⟩:=h
  by_cases e:p.1=k
  ·have e':q.1=k:=h1.symm.trans e
   have b:atKey (q::qs) k=some q.2:=by simp[atKey,List.find?_cons,e']
   rw[jk e,b];exact h2
  ·have e':¬ q.1=k:=fun z=>e (h1.trans z)
   have b:atKey (q::qs) k=atKey qs k:=by simp[atKey,List.find?_cons,e']
   rw[j0 e,b];exact ih
theorem KT.yu{H:Hp}{kvs:List (List Key × V)}{xs:List (List Key × Addr × Value)}(r:KT H kvs xs)(k:List Key){y:V}{u:Value}(ry:RelV y u) :
  KT H (kvs.map fun kv=>if kv.1=k then(kv.1,y)else kv) (xs.map (putAt k u)):=by
 induction r with
 | nil=>exact .nil
 |@cons p q ps qs h t ih=>
  rw[List.map_cons,List.map_cons]
  refine .cons ?_ ih
  obtain⟨h1,h2,h3⟩:=h
  unfold putAt
  by_cases e:p.1=k
  ·rw[if_pos e,if_pos (h1.symm.trans e)];exact⟨h1,h2,ry⟩
  ·rw[if_neg e,if_neg (fun z=>e (h1.trans z))];exact⟨h1,h2,h3⟩
theorem KT.put{H:Hp}{kvs:List (List Key × V)}{xs:List (List Key × Addr × Value)}(r:KT H kvs xs)(k:List Key){b:Addr}{y:V}{u:Value}(hb:H b=some (.tup (k.map kV)))(ry:RelV y u) :
  KT H (putK kvs k y) (storedH xs k b u):=by
 have e:(kvs.any fun kv=>decide (kv.1=k))=(atKey xs k).isSome:=by
  rw[qb,(r.val k).fI,Option.isSome_map]
 unfold putK storedH
 rw[e]
 by_cases q:(atKey xs k).isSome=true
 ·rw[if_pos q,if_pos q];exact r.yu k ry
 ·rw[if_neg q,if_neg q];exact Paired.snoc r ⟨rfl,hb,ry⟩
theorem KT.keeps{H H':Hp}{kvs:List (List Key × V)}{xs:List (List Key × Addr × Value)}(r:KT H kvs xs)(ht:∀ b ys,H b=some (.tup ys)->H' b=some (.tup ys)):KT H' kvs xs :=
 Paired.xw r fun _ _ z=>⟨z.1,ht _ _ z.2.1,z.2.2⟩
section
variable{P:Program}{w:World}{H:Hp}{h:Heap}{a:Addr}
theorem zr{u:HO}(ok:HOk P w H h)(e:Rd H a u):bB P w H h a u:=e.ok ok
theorem kC{kvs:List (Key × V)}(ok:HOk P w H h)(e:Rd H a (.dK kvs)):kvs.length<=sizeLine/\(a == sysModules)=false/\∃ vs,KV kvs vs/\h.DictOf (bY P w) a vs :=
 show bB P w H h a (.dK kvs)from zr ok e
theorem Fp{kvs:List (Key × V)}(ok:HOk P w H h)(e:H a=some (.dK kvs)):kvs.length<=sizeLine/\(a == sysModules)=false/\∃ vs,KV kvs vs/\h.DictOf (bY P w) a vs:=kC ok (.inl e)
theorem ke{ks:List Key}(ok:HOk P w H h)(e:H a=some (.tup (ks.map kV))):(tupleKind (bY P w)).is h ks a:=by
 obtain⟨_,its,r,o,h1,h2,n,h3⟩:=(show bB P w H h a (.tup (ks.map kV))from ok a _ e)
 exact⟨o,its.toArray,n,h1,h2,h3,by simpa using pb r⟩
theorem mX{kvs:List (List Key × V)}(ok:HOk P w H h)(e:Rd H a (.dT kvs)):kvs.length<=sizeLine/\(a == sysModules)=false /\
  ∃ xs,KT H kvs xs/\h.DictOfH (tupleKind (bY P w)) a xs:=by
 obtain⟨z,y,xs,r,o,es,ep,h1,h2,h3,h4,h5⟩:=(show bB P w H h a (.dT kvs)from zr ok e)
 refine⟨z,y,xs,r,o,es,ep,h1,h2,h3,h4,fun x hx=>?_,h5⟩
 have all:∀ {l:List (List Key × V)} {m:List (List Key × Addr × Value)},KT H l m->∀ x∈m,(tupleKind (bY P w)).is h x.1 x.2.1:=by
  intro l m q
  induction q with
  | nil=>intro x hx;exact nomatch hx
  |@cons p q ps qs hq t ih=>
   intro x hx
   rcases List.mem_cons.mp hx with e | hx
   ·subst e
    exact ke ok (by rw[<-hq.1];exact hq.2.1)
   ·exact ih x hx
 exact all r x hx
theorem EU{kvs:List (List Key × V)}(ok:HOk P w H h)(e:H a=some (.dT kvs)):kvs.length<=sizeLine/\(a == sysModules)=false /\
  ∃ xs,KT H kvs xs/\h.DictOfH (tupleKind (bY P w)) a xs:=mX ok (.inl e)
end
def eI(H:Hp)(a:Addr)(y:V)(r:Option V):Prop :=
 (∃ kvs k,Rd H a (.dK kvs)/\y=kV k/\r=eK kvs k)\/∃ kvs k b,Rd H a (.dT kvs)/\y=.ref b/\H b=some (.tup (k.map kV))/\r=eK kvs k
def jS(H:Hp)(a:Addr)(y v:V)(H':Hp):Prop :=
 (∃ kvs k,H a=some (.dK kvs)/\y=kV k/\kvs.length<sizeLine/\H'=upd H a (.dK (putK kvs k v))) \/
 ∃ kvs k b,H a=some (.dT kvs)/\y=.ref b/\H b=some (.tup (k.map kV))/\kvs.length<sizeLine/\H'=upd H a (.dT (putK kvs k v))
theorem eI.k{H:Hp}{a:Addr}{kvs:List (Key × V)}{k:Key}(e:H a=some (.dK kvs)):eI H a (kV k) (eK kvs k):=.inl ⟨kvs,k,.inl e,rfl,rfl⟩
theorem eI.t{H:Hp}{a b:Addr}{kvs:List (List Key × V)}{k:List Key}(e:H a=some (.dT kvs))(eb:H b=some (.tup (k.map kV))):eI H a (.ref b) (eK kvs k):=.inr ⟨kvs,k,b,.inl e,rfl,eb,rfl⟩
theorem jS.k{H:Hp}{a:Addr}{kvs:List (Key × V)}{k:Key}{v:V}(e:H a=some (.dK kvs))(hl:kvs.length<sizeLine):jS H a (kV k) v (upd H a (.dK (putK kvs k v))):=.inl ⟨kvs,k,e,rfl,hl,rfl⟩
theorem jS.t{H:Hp}{a b:Addr}{kvs:List (List Key × V)}{k:List Key}{v:V}(e:H a=some (.dT kvs))(eb:H b=some (.tup (k.map kV)))(hl:kvs.length<sizeLine) :
  jS H a (.ref b) v (upd H a (.dT (putK kvs k v))):=.inr ⟨kvs,k,b,e,rfl,eb,hl,rfl⟩
section
variable{X:Cx}{pins:List (Addr × Obj)}{σ:St}{H:Hp}{s:Shared}{a:Addr}{y v:V}{u r:Value}{o:Option V}{A:Around}{E:Value->Shared->Prop}
theorem Inv.big(I:Inv X pins σ H s):sysModules<s.heap.objs.size:=by
 have h:mainGlobals<s.heap.objs.size:=(I.mod.glob.keeps I.bk).lt
 exact Nat.lt_trans (by decide) h
theorem wY{Q:Value->Shared->Prop}(hu:A.units+1<cLine)(I:Inv X pins σ H s)(g:eI H a y (some v))(ry:RelV y u)(h:∀ w' s',Inv X pins σ H s'->RelV v w'->Q w' s') :
  wpAny (model X.prog X.w) A (getItem (.ref a) u) Q E s:=by
 rcases g with⟨kvs,k,e,ey,l⟩ | ⟨kvs,k,b,e,ey,eb,l⟩
 ·subst ey
  obtain⟨z,hd,vs,rel,dd⟩:=kC I.hok e
  obtain⟨w',hw,rw'⟩:=gz.some_of (v:=v) (o:=valueAt vs k) (by rw[l];exact rel.val k)
  exact wpAny_getItem_of (mF ry) dd.mapOf hw (h w' _ (I.tok _) rw')
 ·subst ey
  cases(show u=Value.ref b from ry)
  obtain⟨z,hd,xs,rel,dd⟩:=mX I.hok e
  obtain⟨w',hw,rw'⟩:=gz.some_of (v:=v) (o:=(atKey xs k).map (·.2)) (by rw[l];exact rel.val k)
  obtain⟨p,hp,hp2⟩:=Option.map_eq_some_iff.mp hw
  refine wpAny_getItem_heap (tupleKind_room_in1 hu) (ke I.hok eb) dd hp ?_
  rw[hp2]
  exact h w' _ (I.tok _) rw'
theorem Gv{Q:Value->Shared->Prop}(hu:A.units+1<cLine)(I:Inv X pins σ H s)(g:eI H a y o)(ry:RelV y u)(h:∀ s',Inv X pins σ H s'->Q (.bool o.isSome) s') :
  wpAny (model X.prog X.w) A (compareOp .In u (.ref a)) Q E s:=by
 rcases g with⟨kvs,k,e,ey,l⟩ | ⟨kvs,k,b,e,ey,eb,l⟩
 ·subst ey
  obtain⟨z,hd,vs,rel,dd⟩:=kC I.hok e
  refine wpAny_in_of (mF ry) hd dd.mapOf ?_
  rw[<-(rel.val k).fI,<-l]
  exact h _ (I.tok _)
 ·subst ey
  cases(show u=Value.ref b from ry)
  obtain⟨z,hd,xs,rel,dd⟩:=mX I.hok e
  refine wpAny_in_heap (tupleKind_room_in1 hu) (ke I.hok eb) hd dd ?_
  have q:=(rel.val k).fI
  rw[Option.isSome_map]at q
  rw[<-q,<-l]
  exact h _ (I.tok _)
theorem Bp{Q:Value->Shared->Prop}(hu:A.units+1<cLine)(I:Inv X pins σ H s)(g:eI H a y o)(ry:RelV y u)(h:∀ s',Inv X pins σ H s'->Q (.bool (!o.isSome)) s') :
  wpAny (model X.prog X.w) A (compareOp .NotIn u (.ref a)) Q E s:=by
 rcases g with⟨kvs,k,e,ey,l⟩ | ⟨kvs,k,b,e,ey,eb,l⟩
 ·subst ey
  obtain⟨z,hd,vs,rel,dd⟩:=kC I.hok e
  refine wpAny_notIn_of (mF ry) hd dd.mapOf ?_
  rw[<-(rel.val k).fI,<-l]
  exact h _ (I.tok _)
 ·subst ey
  cases(show u=Value.ref b from ry)
  obtain⟨z,hd,xs,rel,dd⟩:=mX I.hok e
  refine wpAny_notIn_heap (tupleKind_room_in1 hu) (ke I.hok eb) hd dd ?_
  have q:=(rel.val k).fI
  rw[Option.isSome_map]at q
  rw[<-q,<-l]
  exact h _ (I.tok _)
theorem sU{h':Heap}{t':Nat}{ob:HO}(I:Inv X pins σ H s)(mu:Mut (H a))(hs:Heap.SameBut a s.heap h')(he:∃ q,h'.get? a=some q)(new:bB X.prog X.w (upd H a ob) h' a ob) :
  Inv X pins σ (upd H a ob) { s with heap:=h',toks:=t' } :=
 I.write (x:=a) (e:=a) mu (.inl rfl) (fun b q hb z=>(hs.2 b hb).trans z) he new
theorem DC{P:Program}{w:World}{H':Hp}{h':Heap}{kvs:List (Key × V)}{vs:List (Key × Value)}(z:kvs.length<=sizeLine)(hd:(a == sysModules)=false)(rel:KV kvs vs)(dd:h'.DictOf (bY P w) a vs) :
  bB P w H' h' a (.dK kvs):=⟨z,hd,vs,rel,dd⟩
theorem vv{H':Hp}{Q:Unit->Shared->Prop}(hu:A.units+1<cLine)(I:Inv X pins σ H s)(g:jS H a y v H')(ry:RelV y u)(rv:RelV v r)(h:∀ s',Inv X pins σ H' s'->Q () s') :
  wpAny (model X.prog X.w) A (setItem (.ref a) u r) Q E s:=by
 rcases g with⟨kvs,k,e,ey,l,eH⟩ | ⟨kvs,k,b,e,ey,eb,l,eH⟩
 ·subst ey eH
  obtain⟨z,hd,vs,rel,dd⟩:=Fp I.hok e
  have hz:vs.length<=sizeLine:=by rw[<-rel.length];exact z
  have hl:(putK kvs k v).length<=sizeLine:=by have:=l5 kvs k v;lia
  refine wpAny_setItem_pairs (hsz:=hz) (mF ry) dd fun h' dd' hs=>h _ ?_
  have he:∃ q,h'.get? a=some q:=let ⟨q,_,_,hq,_⟩:=dd';⟨q,hq⟩
  exact sU I (by rw[e];exact True.intro) hs he (DC hl hd (rel.put k rv) dd')
 ·subst ey eH
  cases(show u=Value.ref b from ry)
  obtain⟨z,hd,xs,rel,dd⟩:=EU I.hok e
  have hz:xs.length<=sizeLine:=by rw[<-Paired.length rel];exact z
  have hl:(putK kvs k v).length<=sizeLine:=by have:=l5 kvs k v;lia
  refine wpAny_setItem_heap (hsz:=hz) (tupleKind_room_in1 hu) (ke I.hok eb) dd fun h' dd' hs=>h _ ?_
  obtain⟨q,es,ep,hq,h2,h3,h4,_,h5⟩:=dd'
  refine sU I (by rw[e];exact True.intro) hs ⟨q,hq⟩ ⟨hl,hd,_,(rel.put k eb rv).keeps fun c ys ec=>?_,q,es,ep,hq,h2,h3,h4,h5⟩
  rw[aR (uH ec e (fun z=>nomatch z))]
  exact ec
end
section
variable{X:Cx}{pins:List (Addr × Obj)}{σ:St}{H:Hp}{s:Shared}{a:Addr}{kvs:List (Key × V)}{k:Key}{u:Value}{A:Around}{E:Value->Shared->Prop}
theorem F8{Q:Value->Shared->Prop}(I:Inv X pins σ H s)(e:Rd H a (.dK kvs))(h:∀ t s',Inv X pins σ H s'->Q (.int kvs.length t) s'):wpAny (model X.prog X.w) A (call (.builtin "len") [.ref a]) Q E s:=by
 obtain⟨z,hd,vs,rel,dd⟩:=kC I.hok e
 refine call_len_dict hd dd (by rw[<-rel.length];rw[sizeLine_eq]at z;lia) ?_
 rw[<-rel.length]
 exact h _ _ (I.tok _)
end
def uD(i:Expr):Prop:=∀ ov iv,subscripted i false ov iv=operate [ov,iv] (getItem ov iv)
theorem Af{prog:Program}{w:World}{A:Around}{E:Value->Shared->Prop}{s:Shared}{env:Env}{value slice:Expr}{pos:Pos}{T id:String}{Q:Value->Shared->Prop}
 (hl:typeLookup (.type T) "__getitem__" = pure (some (.builtin id)))(hs:uD slice)
 (h:wpAny (model prog w) A (eval value env) (fun o s₁=>wpAny (model prog w) A (eval slice env) (fun i s₂=>s₂.TypeIs o T/\wpAny (model prog w) A (getItem o i) Q E s₂) E s₁) E s) :
  wpAny (model prog w) A (eval (.Subscript value slice pos) env) Q E s:=by
 refine Subscript_ (wpAny_mono h (fun o s₁ h₁=>wpAny_mono h₁ (fun i s₂ h₂=>?_) fun _ _ x=>x) fun _ _ x=>x)
 obtain⟨hT,h₂⟩:=h₂
 unfold subscriptTail
 refine wpAny_bind ?_
 rw[getitemInPython_of_ne hT.not_modules]
 refine wpAny_bind (wpAny_specialOf hT hl ?_)
 have fin:wpAny (model prog w) A (subscripted slice false o i) (fun r s₃=>wpAny (model prog w) A (letTemporaryGo value o r >>= fun _=>pure r) Q E s₃) E s₂:=by
  rw[hs o i]
  exact wpAny_operating (wpAny_mono h₂ (fun r s₃ h₃=>wpAny_bind (wpAny_letTemporaryGo (wpAny_pure h₃))) fun _ _ x=>x)
 first
  | exact wpAny_pure (wpAny_bind fin)
  | exact wpAny_bind (wpAny_pure (wpAny_bind fin))
  | exact wpAny_bind fin
theorem rX{X:Cx}{pins:List (Addr × Obj)}{σ:St}{H:Hp}{s:Shared}{a:Addr}{y:V}{o:Option V}(I:Inv X pins σ H s)(g:eI H a y o):s.TypeIs (.ref a) "dict" := by
 rcases g with⟨kvs,k,e,_,_⟩ | ⟨kvs,k,b,e,_,_,_⟩
 ·obtain⟨_,_,vs,_,dd⟩:=kC I.hok e
  exact dd.typeIs
 ·obtain⟨_,_,xs,_,dd⟩:=mX I.hok e
  exact dd.typeIs
def FG(td ty:TE):TE:=fun σ H Q=>td σ H fun x H1=>ty σ H1 fun y H2=>∃ a v,x=.ref a/\eI H2 a y (some v)/\Q v H2
def Dq(ty td:TE):TE:=fun σ H Q=>ty σ H fun y H1=>td σ H1 fun x H2=>∃ a o,x=.ref a/\eI H2 a y o/\Q (.bl o.isSome) H2
def t5(ty td:TE):TE:=fun σ H Q=>ty σ H fun y H1=>td σ H1 fun x H2=>∃ a o,x=.ref a/\eI H2 a y o/\Q (.bl (!o.isSome)) H2
def tZ(td ty tv:TE):TS:=fun D σ H=>tv σ H fun v H1=>td σ H1 fun x H2=>ty σ H2 fun y H3=>∃ a H4,x=.ref a/\jS H3 a y v H4/\D.nx σ H4
section
variable{X:Cx}{o i e value:Expr}{pos pos' tpos:Pos}{td ty tv:TE}
theorem Ae(hu:X.A.units+1<cLine)(ho:PE X o td)(hi:PE X i ty)(hs:uD i):PE X (.Subscript o i pos) (FG td ty):=by
 intro pins s σ H Q I h
 refine Af PySem.F.slot_dict_getitem.lookup hs (thn (ho pins s σ H _ I h) fun u s1 ⟨x,H1,I1,rx,q1⟩=>thn (hi pins s1 σ H1 _ I1 q1) fun iv s2 ⟨y,H2,I2,ry,a,v,ex,g,q2⟩=>?_)
 subst ex
 obtain rfl:u=Value.ref a:=rx
 exact⟨rX I2 g,wY hu I2 g ry fun w' s3 I3 rw'=>⟨v,H2,I3,rw',q2⟩⟩
theorem Dz(hu:X.A.units+1<cLine)(hi:PE X i ty)(ho:PE X o td):PC X .In i o (Dq ty td):=by
 intro pins s σ H Q I h
 refine thn (hi pins s σ H _ I h) fun iv s1 ⟨y,H1,I1,ry,q1⟩=>thn (ho pins s1 σ H1 _ I1 q1) fun u s2 ⟨x,H2,I2,rx,a,ov,ex,g,q2⟩=>?_
 subst ex
 obtain rfl:u=Value.ref a:=rx
 exact Gv hu I2 g ry fun s3 I3=>⟨.bl ov.isSome,H2,I3,rfl,q2⟩
theorem xk(hu:X.A.units+1<cLine)(hi:PE X i ty)(ho:PE X o td):PC X .NotIn i o (t5 ty td):=by
 intro pins s σ H Q I h
 refine thn (hi pins s σ H _ I h) fun iv s1 ⟨y,H1,I1,ry,q1⟩=>thn (ho pins s1 σ H1 _ I1 q1) fun u s2 ⟨x,H2,I2,rx,a,ov,ex,g,q2⟩=>?_
 subst ex
 obtain rfl:u=Value.ref a:=rx
 exact Bp hu I2 g ry fun s3 I3=>⟨.bl (!ov.isSome),H2,I3,rfl,q2⟩
theorem AV(hu:X.A.units+1<cLine)(ho:PE X o td)(hi:PE X i ty)(hv:PE X value tv)(hs:swapsWith value (some (.Subscript o i pos')) pos.line X.env=pure false) :
  PS X (.Assign [.Subscript o i pos'] value pos) (tZ td ty tv):=by
 intro pins s σ H D I h
 refine wpAny_Assign_Subscript (thn (hv pins s σ H _ I h) fun r s1 ⟨v,H1,I1,rv,q1⟩=>thn (ho pins s1 σ H1 _ I1 q1) fun u s2 ⟨x,H2,I2,rx,q2⟩=>thn (hi pins s2 σ H2 _ I2 q2) fun iv s3 ⟨y,H3,I3,ry,a,H4,ex,g,q3⟩=>?_) hs
 subst ex
 obtain rfl:u=Value.ref a:=rx
 exact vv hu I3 g ry rv fun s4 I4=>⟨σ,H4,I4,q3⟩
end
theorem yo{P:Program}{w:World}{H:Hp}(h:Heap)(hb:sysModules<h.objs.size):bB P w H (h.push { cls:=.type "dict",data:=.dict #[] }) h.objs.size (.dK []) :=
 ⟨Nat.zero_le _,beq_eq_false_iff_ne.mpr (Ne.symm (Nat.ne_of_lt hb)),[],.nil,Heap.DictOf.new h⟩
theorem yf{P:Program}{w:World}{H:Hp}(h:Heap)(hb:sysModules<h.objs.size):bB P w H (h.push { cls:=.type "dict",data:=.dict #[] }) h.objs.size (.dT []) :=
 ⟨Nat.zero_le _,beq_eq_false_iff_ne.mpr (Ne.symm (Nat.ne_of_lt hb)),[],.nil,_,#[],0,Heap.get?_push_size _ rfl,⟨rfl,rfl,rfl⟩,rfl,rfl,List.nodup_nil⟩
def BH:TE:=fun _ H Q=>∀ p,H p=none->Q (.ref p) (upd H p (.dK []))
def DL:TE:=fun _ H Q=>∀ p,H p=none->Q (.ref p) (upd H p (.dT []))
section
variable{X:Cx}{pos:Pos}
theorem zc:PE X (.Dict [] [] pos) BH:=fun pins s σ H Q I h =>
 wpAny_Dict_empty ⟨.ref s.heap.objs.size,_,I.laid (a:=s.heap.objs.size) (o:=.dK []) (t':=s.toks) (fun _ _ q=>Heap.get?_push_of_some _ q) (Nat.le_refl _) (yo s.heap I.big),rfl,h _ (I.hok.fresh (Nat.le_refl _))⟩
theorem xM:PE X (.Dict [] [] pos) DL:=fun pins s σ H Q I h =>
 wpAny_Dict_empty ⟨.ref s.heap.objs.size,_,I.laid (a:=s.heap.objs.size) (o:=.dT []) (t':=s.toks) (fun _ _ q=>Heap.get?_push_of_some _ q) (Nat.le_refl _) (yf s.heap I.big),rfl,h _ (I.hok.fresh (Nat.le_refl _))⟩
end
section
variable{X:Cx}{pins:List (Addr × Obj)}{σ:St}{H:Hp}{s:Shared}{a:Addr}{y d:V}{u r:Value}{o:Option V}{A:Around}{E:Value->Shared->Prop}
end
section
variable{X:Cx}{o e f:Expr}{apos cpos:Pos}{td ty tx:TE}
end
section
variable{X:Cx}{pins:List (Addr × Obj)}{σ:St}{H:Hp}{s:Shared}{a:Addr}{kvs:List (Key × V)}{A:Around}{E:Value->Shared->Prop}
end
section
variable{X:Cx}{pins:List (Addr × Obj)}{σ:St}{H:Hp}{s:Shared}{a:Addr}{y:V}{u:Value}{A:Around}{E:Value->Shared->Prop}
end
end L2
namespace Att
open PySem PySem.W PySem.Calls PyProof.Rows
theorem mU{P:Params}{h:Heap}:∀ (ns:List Int) (vs:List Value),WellAll P h vs (ns.map WData.int)->IntsAre vs ns:=by
 intro ns
 induction ns with
 |nil=>
  intro vs w
  rw[List.map_nil]at w
  cases w
  exact .nil
 |cons n ns ih=>
  intro vs w
  rw[List.map_cons]at w
  cases w with
  |cons a b=>
   cases a
   exact .cons _ _ (ih _ b)
theorem vB{l:OpenLaw}{n:Nat}(hn:l.most=some n){P:Params}{h:Heap}{args:List WData}{vals:List Value}
 (hpre:l.row.toRowW.claim.pre args=true)(hwl:WellAll P h vals args) :
  ∃ a vs ns,vals=[Value.ref a]/\args=[WData.list (ns.map WData.int)]/\h.get? a=some { cls:=.type "list",data:=.seq vs.toArray }/\IntsAre vs ns/\ns.length<=n:=by
 have hsh:WShape.hasAll [] args [.list .int]=true:=(pre_splitW hpre).1
 have hc:l.pre.holds [] { args:=args }=true:=(pre_splitW hpre).2
 obtain⟨d,r,rfl,h1,h2⟩:=hasAllW_cons hsh
 obtain rfl:=hasAllW_nil h2
 obtain⟨xs,rfl,h3⟩:=hasW_list h1
 obtain⟨ns,rfl⟩:=items_int h3
 have hlen:ns.length<=n:=by
  unfold OpenLaw.pre at hc
  have h4:(WTm.not (.lt (.lit (.int (n:Int))) (.len (.arg 0)))).holds [] { args:=[.list (ns.map .int)] }=true:=by
   have h4:=(holds_andW hc).1
   rw[hn]at h4
   exact h4
  have h5:=condW_of h4 (w_not (w_lt w_lit (w_len_list (w_arg rfl))))
  rw[List.length_map]at h5
  refine Nat.le_of_not_lt fun q=>?_
  have q':(n:Int)<((ns.length:Nat):Int):=by omega
  first
   | (rw[decide_eq_true q']at h5;exact absurd h5 (by decide))
   | (simp at h5;omega)
 cases hwl with
 |cons w1 w2=>
  cases w2
  cases w1 with
  | list ho hall=>exact⟨_,_,ns,rfl,rfl,ho,mU ns _ hall,hlen⟩
theorem uW(l:OpenLaw)(args:List WData):l.row.toRowW.claim.post args (.bool true) args=true :=
 postW_of (r:=l.row.toRowW) (X:=(true == true))
  (show WShape.has [] (.bool true) .bool=true by first | rfl | decide | simp[WShape.has,WShape.arms,WShape.armsAll])
  (show(WTm.eq .res (.lit (.bool true))).value [] { args:=args,res:=some (.bool true),after:=args }=some (.bool (true == true))from w_eq_bool (w_res rfl) w_lit) rfl
theorem sj{l:OpenLaw}{n:Nat}{q:Program}{loose:List Str}{XP:(Str->Option Value)->Heap->Prop}{YP:World->Heap->Prop}{d:DefRec}
 (hn:l.most=some n)(hdf:d.params.defaults=[])
 (call:∀ (w:World) (s₀ s₁:Shared) (mg mb:Str->Option Value) (fa:Addr) (o:Obj) (pm cd doc:Value) (a:Addr) (vs:List Value) (ns:List Int),
   Ground q loose [] XP w s₀ mg mb s₁.heap->YP w s₁.heap ->
   s₁.heap.get? fa=some o->o.data=.func (docDef d.name d.params d.body d.scope pm cd doc)->s₁.heap.CodeRec cd d.name->mg d.name=some (.ref fa) ->
   s₁.heap.get? a=some { cls:=.type "list",data:=.seq vs.toArray }->IntsAre vs ns->ns.length<=n->s₁.gens=#[] ->
   codeAny (model l.prog w) callerA (.call (.ref fa) ⟨[.ref a],[]⟩) (fun r s'=>r=.ok (.ret (.bool true))/\OldK s₁.heap s'.heap/\s'.os=s₁.os/\AllBare s'.gens) s₁) :
  WalkO q loose XP YP l.row.toRowW d [] (fun f vs=>PySem.call f vs):=by
 intro w s₀ s₁ mg mb G Y fa o pm cd doc dV kV ho hd hcd hD hmg hg args vals as hpre hlay hrd hwl hlo
 obtain rfl:dV=.none:=Dflts.none hD hdf
 obtain rfl:kV=.none:=Dflts.noKw hD
 obtain⟨a,vs,ns,rfl,rfl,hobj,hints,hlen⟩:=vB hn hpre hwl
 refine enter_call (codeAny_mono (call w s₀ s₁ mg mb fa o pm cd doc a vs ns G Y ho (fd_plain hd) hcd hmg hobj hints hlen hg) fun r s' hq=>?_)
 obtain⟨rfl,h2,h3,h4⟩:=hq
 exact⟨.inl ⟨.bool true,.bool true,[],rfl,fun _=>rfl,.bool true,uW l _,fun _=>⟨List.Pairwise.nil,fun _ hm=>(nomatch hm)⟩⟩,h2,h3,h4⟩
section
variable{prog:Program}{w:World}{A:Around}{E:Value->Shared->Prop}{s:Shared}{K:Frag}
end
end Att
namespace L2
open PySem PySem.Spec PyProof.Rows
theorem oK:∀ {vs:List Value} {ns:List Int},IntsAre vs ns->Vals (ns.map V.int) vs
 | _,_,.nil=>.nil
 | _,_,.cons n t h=>.cons ⟨t,rfl⟩ (oK h)
def rC(H:Hp):Prop:=∀ b,H b=none\/∃ o xs,H b=some (.frz o (.lst xs))
theorem xJ{P:Program}{w:World}{K:PySem.W.Frag}{mg mb:Str->Option Value}{CX:CXT}{k:Nat}{fa a:Addr}{fd:FuncData}{x:Str}{sp:Sp}{s₁:Shared}{vs:List Value}{ns:List Int}
 (KX:K.In s₁.heap)(hns:s₁.heap.Ns mainGlobals mg)(hb:s₁.heap.Ns builtinsNs mb)(hbb:∀ x:Str,x ≠ "__name__" -> mb x=bootBuiltins x)(hlim:s₁.heap.NoLimit)(hg:s₁.gens=#[])
 (ha:s₁.heap.get? a=some { cls:=.type "list",data:=.seq vs.toArray })(hi:IntsAre vs ns)(hl:ns.length<=sizeLine)(hr:dS k callerA)
 (F:∀ base:Heap,K.In base->base.Ns mainGlobals mg->ij P w K mg base CX k fa fd [x] sp)(hbind:∀ (s:Shared) (u:Value),BindsTo s fd ⟨[u],[]⟩ [(x,u)])
 (hsp:∀ H:Hp,rC H->SqL K H a (ns.map V.int)->sp [.ref a] H (fun v _=>v=.bl true) fun _ _ _=>False)
 (hCX:∀ H e s',CX [] H s₁ (fun _ _ _=>False) e s'->False) :
  codeAny (model P w) callerA (.call (.ref fa) ⟨[.ref a],[]⟩) (fun r s'=>r=.ok (.ret (.bool true))/\OldK s₁.heap s'.heap/\s'.os=s₁.os/\AllBare s'.gens) s₁:=by
 have rv:=oK hi
 have lenV:=hi.length
 have core:∀ H:Hp,rC H->SqL K H a (ns.map V.int)->HOk P w H s₁.heap->(∀ b,H b≠none->b=a)->(H a≠none->K.lookup a=none) ->
   codeAny (model P w) callerA (.call (.ref fa) ⟨[.ref a],[]⟩) (fun r s'=>r=.ok (.ret (.bool true))/\OldK s₁.heap s'.heap/\s'.os=s₁.os/\AllBare s'.gens) s₁:=by
  intro H hO hS hok hA hK
  have base_of:∀ {b:Addr} {o:Obj},s₁.heap.get? b=some o->H b=none->(iX s₁.heap H).get? b=some o:=fun e n=>zg e n
  have noA:∀ {b:Addr} {o:Obj} {es:Array DictEntry} {ep:Nat},s₁.heap.get? b=some o->o.data=.dict es ep->H b=none:=fun {b o es ep} e d=>by
   cases q:H b with
   | none=>rfl
   |some u=>
    have e':b=a:=hA b (by rw[q];simp)
    subst e'
    rw[ha]at e;cases e
    have d':Data.seq vs.toArray _=Data.dict es ep:=d
    cases d'
  have nsK:∀ {b:Addr} {m:Str->Option Value},s₁.heap.Ns b m->(iX s₁.heap H).Ns b m:=fun {b m} ⟨o,es,ep,e,d,r⟩=>⟨o,es,ep,base_of e (noA e d),d,r⟩
  have hKb:K.In (iX s₁.heap H):=fun b o e=>base_of (KX b o e) (by
   cases q:H b with
   | none=>rfl
   |some u=>
    have e':b=a:=hA b (by rw[q];simp)
    subst e'
    rw[hK (by rw[q];simp)]at e;cases e)
  have hM:Mod K mg (iX s₁.heap H):=⟨hKb,nsK hns,⟨mb,nsK hb,hbb⟩,let ⟨mc,h1,h2⟩:=hlim;⟨mc,nsK h1,h2⟩⟩
  have e0:uq P w K mg (iX s₁.heap H) callerA [] s₁ H:=⟨rfl,hM,fun b o e=>Aj e,Nat.le_of_eq (wm _ _),trivial,fun b hb=>absurd (show b∈([]:List Addr)from hb) (by simp),hok,.of_eq hg⟩
  refine codeAny_mono ((F _ hKb (nsK hns)).run callerA [] s₁ H ⟨[.ref a],[]⟩ [.ref a] [.ref a] _ _ hr e0 (hbind s₁ (.ref a)) (.cons rfl .nil) (hsp H hO hS)) fun r s' h=>?_
  cases r with
  | error e=>exact(hCX H e s' h).elim
  |ok fl=>
   cases fl with
   | next=>exact False.elim h
   | brk=>exact False.elim h
   | cont=>exact False.elim h
   |ret u=>
    obtain⟨v,H',os,bare,un,hok',r',q⟩:=h
    have q':v=.bl true:=q
    subst q'
    obtain rfl:u=Value.bool true:=r'
    refine⟨rfl,OldK.of_keep fun b o e=>?_,os,bare⟩
    cases q:H b with
    | none=>exact un.keep b o e q (by intro z;exact absurd (show b∈([]:List Addr)from z) (by simp)) (by simp)
    |some u=>
     rcases hO b with z | ⟨ob,xs,z⟩
     ·rw[q]at z;cases z
     ·have z2:=un.iY b ob _ z
      obtain⟨e1,_⟩:=hok b _ z
      obtain⟨e2,_⟩:=hok' b _ z2
      rw[e]at e1;cases e1
      exact e2
 cases hk:K.lookup a with
 |some o=>
  have e:=KX a o hk
  rw[ha]at e
  cases e
  refine core (fun _=>none) (fun _=>.inl rfl) (.inr ⟨_,vs.toArray,_,hk,rfl,rfl,rfl,by rw[List.size_toArray,lenV];exact hl,by simpa using rv⟩) (fun b u z=>by have z':(none:Option HO)=some u:=z;cases z') (fun b z=>absurd rfl z) fun z=>absurd rfl z
 |none=>
  refine core (fun b=>if b=a then some (.frz { cls:=.type "list",data:=.seq vs.toArray } (.lst (ns.map V.int)))else none) (fun b=>?_) (.inl (.inr ⟨{ cls:=.type "list",data:=.seq vs.toArray },if_pos rfl⟩)) (fun b u z=>?_) (fun b z=>?_) fun _=>hk
  ·by_cases hb:b=a
   ·exact .inr ⟨_,_,if_pos hb⟩
   ·exact .inl (if_neg hb)
  ·by_cases hb:b=a
   ·have z':=(if_pos hb).symm.trans z
    cases z'
    subst hb
    exact⟨ha,by rw[List.length_map];exact hl,vs,_,rv,ha⟩
   ·have z':=(if_neg hb).symm.trans z
    cases z'
  ·by_cases hb:b=a
   ·exact hb
   ·exact absurd (if_neg hb) z
abbrev KOf{K:PySem.W.Frag}{h:Heap}(_:K.In h):PySem.W.Frag:=K
theorem sJ{l:PySem.W.OpenLaw}{n k:Nat}{q:Program}{loose:List Str}{XP:(Str->Option Value)->Heap->Prop}{YP:World->Heap->Prop}{d:DefRec}{K:Params->PySem.W.Frag}{CX:World->CXT}{sp:World->Sp}{x:Str}
 (hn:l.most=some n)(hn2:n<=sizeLine)(hdf:d.params.defaults=[])(hr:dS k callerA)
 (hY:∀ (w:World) (h:Heap),YP w h->(K w.params).In h)
 (F:∀ (w:World) (mg:Str->Option Value) (fa:Addr) (h:Heap),(K w.params).In h->h.Ns mainGlobals mg->mg d.name=some (.ref fa) ->
   ∃ fd:FuncData,(∀ (s:Shared) (u:Value),BindsTo s fd ⟨[u],[]⟩ [(x,u)]) /\
    ∀ base:Heap,(K w.params).In base->base.Ns mainGlobals mg->ij l.prog w (K w.params) mg base (CX w) k fa fd [x] (sp w))
 (hsp:∀ (w:World) (H:Hp) (a:Addr) (ns:List Int),ns.length<=n->rC H->SqL (K w.params) H a (ns.map V.int)->sp w [.ref a] H (fun v _=>v=.bl true) fun _ _ _=>False)
 (hCX:∀ (w:World) (H:Hp) (s:Shared) (e:Value) (s':Shared),CX w [] H s (fun _ _ _=>False) e s'->False) :
  PySem.W.WalkO q loose XP YP l.row.toRowW d [] (fun f vs=>PySem.call f vs):=by
 refine Att.sj hn hdf fun w s₀ s₁ mg mb fa o pm cd doc a vs ns G Y ho hd hcd hmg hobj hints hlen hg=>?_
 have KX:=hY w _ Y
 obtain⟨fd,hb,hF⟩:=F w mg fa _ KX G.T.g hmg
 exact xJ KX G.T.g G.T.b G.T.builtins G.T.nolimit hg hobj hints (Nat.le_trans hlen hn2) hr hF hb (fun H hO hS=>hsp w H a ns hlen hO hS) fun H e s'=>hCX w H s₁ e s'
theorem zb{l:PySem.W.OpenLaw}{n k:Nat}{q:Program}{loose:List Str}{XP:(Str->Option Value)->Heap->Prop}{YP:World->Heap->Prop}{d:DefRec}{K:Params->PySem.W.Frag}{CX:CXT}{sp:PySem.W.Frag->Sp}{x:Str}
 (hn:l.most=some n)(hn2:n<=sizeLine)(hdf:d.params.defaults=[])(hr:dS k callerA)
 (hY:∀ (w:World) (h:Heap),YP w h->(K w.params).In h)
 (F:∀ (w:World) (mg:Str->Option Value) (fa:Addr) (h:Heap),(K w.params).In h->h.Ns mainGlobals mg->mg d.name=some (.ref fa) ->
   ∃ fd:FuncData,(∀ (s:Shared) (u:Value),BindsTo s fd ⟨[u],[]⟩ [(x,u)]) /\
    ∀ base:Heap,(K w.params).In base->base.Ns mainGlobals mg->ij l.prog w (K w.params) mg base CX k fa fd [x] (sp (K w.params)))
 (hsp:∀ (K:PySem.W.Frag) (H:Hp) (a:Addr) (ns:List Int),ns.length<=n->rC H->SqL K H a (ns.map V.int)->sp K [.ref a] H (fun v _=>v=.bl true) fun _ _ _=>False)
 (hCX:∀ (H:Hp) (s:Shared) (e:Value) (s':Shared),CX [] H s (fun _ _ _=>False) e s'->False) :
  PySem.W.WalkO q loose XP YP l.row.toRowW d [] (fun f vs=>PySem.call f vs) :=
 sJ (K:=K) (CX:=fun _=>CX) (sp:=fun w=>sp (K w.params)) hn hn2 hdf hr hY F (fun w H a ns h1 h2 h3=>hsp (K w.params) H a ns h1 h2 h3) fun _ H s e s'=>hCX H s e s'
def iA(s:Stmt):Arguments:=match s with
 | .FunctionDef _ a _ _ _ _ _ _ _ _=>a
 | _=>{ posonlyargs:=[],args:=[],vararg:=none,kwonlyargs:=[],kw_defaults:=[],kwarg:=none,defaults:=[] }
def eX(s:Stmt):List Stmt:=match s with
 | .FunctionDef _ _ b _ _ _ _ _ _ _=>b
 | _=>[]
def c8(s:Stmt):Scope:=match s with
 | .FunctionDef _ _ _ _ _ _ sc _ _ _=>sc
 | _=>{ kind:=.function,names:=[],isGenerator:=false,isCoroutine:=false }
abbrev CX0:CXT:=fun _ _ _ _ _ _=>False
abbrev E0:XK:=fun _ _ _=>False
theorem zW{X:Cx}:Passes CX0 X E0:=fun _ _ _ _ _ _ _ h=>h.elim
structure Fun(K:PySem.W.Frag)(x qual:Str)(st:Stmt)(f:Addr)(fd:FuncData):Prop where
 ex:∃ (oc:Value) (od:Option Addr) (kV doc pm:Value) (an:Option Addr) (cdv ct:Value) (osl:Array (Option Value)),
  fd=PySem.W.fnOf x qual (iA st) (eX st) (c8 st) .none kV doc pm an cdv ct/\K.lookup f=some ⟨oc,od,.func fd,osl⟩/\PySem.W.codeIn K cdv qual=true
 kp:PySem.W.keepIn K (.ref f)=true
section
variable{P:Program}{w:World}{K:PySem.W.Frag}{mg:Str->Option Value}{base:Heap}
theorem Fun.ok{x qual:Str}{st:Stmt}{f:Addr}{fd:FuncData}{N ps:List Str}{k:Nat}{sp:Sp}(F:Fun K x qual st f fd)(S:kE N ps (c8 st))(len:∀ vs H Q E,sp vs H Q E->vs.length=ps.length)
 (hbody:∀ (cdv:Value) (A:Around) (outer:List Env) (s:Shared) (H:Hp) (vs:List V) (Q:VK) (E:XK),dS k (A.deeper (envOfC qual (c8 st) s.heap.objs.size f cdv))->sp vs H Q E ->
   ∃ t,PSs (lD CX0 P w K mg base N qual (c8 st) f cdv A outer s H E).nox (eX st) t/\t { nx:=fun _ H'=>Q .non H',rt:=Q } (start N vs) H):ij P w K mg base CX0 (k+1) f fd ps sp:=by
 obtain⟨oc,od,kV,doc,pm,an,cdv,ct,osl,rfl,lk,hcd⟩:=F.ex
 refine FI lk hcd S len fun A outer s H vs Q E hr hsp=>?_
 obtain⟨t,h,q⟩:=hbody cdv A outer s H vs Q E hr hsp
 exact⟨t,h.nox,q⟩
theorem Fun.binds{x qual:Str}{st:Stmt}{f:Addr}{fd:FuncData}{ps:List Str}(F:Fun K x qual st f fd)
 (h:∀ (kV doc pm:Value) (an:Option Addr) (cdv ct:Value) (us:List Value),us.length=ps.length->bindArgs (PySem.W.fnOf x qual (iA st) (eX st) (c8 st) .none kV doc pm an cdv ct) ⟨us,[]⟩=pure (ps.zip us)):Binds K fd ps []:=by
 obtain⟨oc,od,kV,doc,pm,an,cdv,ct,osl,rfl,lk,hcd⟩:=F.ex
 exact .all (h kV doc pm an cdv ct)
theorem E9{x qual:Str}{st:Stmt}{f:Addr}{oc:Value}{od an:Option Addr}{osl:Array (Option Value)}{kV doc pm cdv ct:Value}(l:K.lookup f=some ⟨oc,od,.func (PySem.W.fnOf x qual (iA st) (eX st) (c8 st) .none kV doc pm an cdv ct),osl⟩)
 (c:PySem.W.codeIn K cdv qual=true)(k:PySem.W.keepIn K (.ref f)=true):Fun K x qual st f (PySem.W.fnOf x qual (iA st) (eX st) (c8 st) .none kV doc pm an cdv ct):=⟨⟨oc,od,kV,doc,pm,an,cdv,ct,osl,rfl,l,c⟩,k⟩
end
theorem oI{n:Nat}(h:n<=1000):n<sizeLine:=Nat.lt_of_le_of_lt h (by decide)
section
variable{X:Cx}
end
theorem fM{A B:Prop}(h:B):if false=true then A else B:=by
 rw[if_neg Bool.false_ne_true]
 exact h
theorem eZ{A B:Prop}(h:A):if true=true then A else B:=by
 rw[if_pos rfl]
 exact h
def a6(H H':Hp):Prop:=∀ b o,H b=some o->H' b=some o
theorem a6.refl(H:Hp):a6 H H:=fun _ _ h=>h
theorem a6.trans{H H1 H2:Hp}(a:a6 H H1)(b:a6 H1 H2):a6 H H2:=fun c o h=>b c o (a c o h)
theorem a6.free{H H':Hp}(e:a6 H H'){l:Addr}(h:H' l=Option.none):H l=Option.none:=by
 cases q:H l with
 | none=>rfl
 |some o=>
  rw[e l o q]at h
  cases h
section
variable{X:Cx}
theorem wo:bJ X (.builtin "len") (fun xs H Q=>∃ a kvs,xs=[V.ref a]/\H a=some (.dK kvs)/\Q (.int kvs.length) H):=by
 intro pins s σ H xs us Q I r h
 obtain⟨a,kvs,rfl,ha,q⟩:=h
 obtain⟨u,rfl,ru⟩:=vals1 r
 cases ru
 exact F8 I (.inl ha) fun t s' I'=>⟨.int kvs.length,H,I',⟨t,rfl⟩,q⟩
end
section
variable{κ:Type} [DecidableEq κ]
end
end L2
namespace RS
open PySem PySem.Spec PyProof.Rows L2
noncomputable def nP:Addr->Prop:=fun _=>False
noncomputable def jO(K:PySem.W.Frag)(H:Hp)(a:Addr)(xs:List V):Prop:=(∃ o,H a=some (.frz o (.lst xs)))\/SqL K (fun _=>none) a xs
theorem jO.seq{K:PySem.W.Frag}{H:Hp}{a:Addr}{xs:List V}(h:jO K H a xs):SqL K H a xs:=by
 rcases h with⟨o,h⟩ | (h | ⟨o,h⟩) | h
 ·exact .inl (.inr ⟨o,h⟩)
 ·cases h
 ·cases h
 ·exact .inr h
theorem jO.same{K:PySem.W.Frag}{H H':Hp}{a:Addr}{xs:List V}(e:a6 H H')(h:jO K H a xs):jO K H' a xs:=by
 rcases h with⟨o,h⟩ | h
 ·exact .inl ⟨o,e _ _ h⟩
 ·exact .inr h
mutual
noncomputable def Rep(P:Addr->Prop)(K:PySem.W.Frag)(H:Hp):RL.D->V->Prop
 | .non,v=>v=.non
 | .bl b,v=>v=.bl b
 | .int i,v=>v=.int i
 | .str x,v=>v=.str x
 | .tup ds,v=>∃ a xs,v=.ref a/\H a=some (.tup xs)/\ab P K H ds xs
 | .lst ds,v=>∃ a xs,v=.ref a/\¬ P a/\H a=some (.lst xs)/\ab P K H ds xs
 | .dK ks ds,v=>∃ a xs,v=.ref a/\¬ P a/\H a=some (.dK (ks.zip xs))/\ks.length=ds.length/\ab P K H ds xs
 | .dT ks ds,v=>∃ a xs,v=.ref a/\¬ P a/\H a=some (.dT (ks.zip xs))/\ks.length=ds.length/\ab P K H ds xs
 | .scr ds,v=>∃ a xs,v=.ref a/\jO K H a xs/\ab P K H ds xs
noncomputable def ab(P:Addr->Prop)(K:PySem.W.Frag)(H:Hp):List RL.D->List V->Prop
 | [],xs=>xs=[]
 | d::r,xs=>∃ x t,xs=x::t/\Rep P K H d x/\ab P K H r t
end
mutual
theorem Rep.same{P:Addr->Prop}{K:PySem.W.Frag}{H H':Hp}(e:a6 H H'):∀ {d:RL.D} {v:V},Rep P K H d v->Rep P K H' d v
 | .non,v,h=>by simpa[Rep]using h
 | .bl _,v,h=>by simpa[Rep]using h
 | .int _,v,h=>by simpa[Rep]using h
 | .str _,v,h=>by simpa[Rep]using h
 | .tup ds,v,h=>by
  rw[Rep]at h ⊢
  obtain⟨a,xs,e1,e2,e3⟩:=h
  exact⟨a,xs,e1,e _ _ e2,ab.same e e3⟩
 | .lst ds,v,h=>by
  rw[Rep]at h ⊢
  obtain⟨a,xs,e1,e0,e2,e3⟩:=h
  exact⟨a,xs,e1,e0,e _ _ e2,ab.same e e3⟩
 | .dK ks ds,v,h=>by
  rw[Rep]at h ⊢
  obtain⟨a,xs,e1,e0,e2,el,e3⟩:=h
  exact⟨a,xs,e1,e0,e _ _ e2,el,ab.same e e3⟩
 | .dT ks ds,v,h=>by
  rw[Rep]at h ⊢
  obtain⟨a,xs,e1,e0,e2,el,e3⟩:=h
  exact⟨a,xs,e1,e0,e _ _ e2,el,ab.same e e3⟩
 | .scr ds,v,h=>by
  rw[Rep]at h ⊢
  obtain⟨a,xs,e1,e2,e3⟩:=h
  exact⟨a,xs,e1,jO.same e e2,ab.same e e3⟩
theorem ab.same{P:Addr->Prop}{K:PySem.W.Frag}{H H':Hp}(e:a6 H H'):∀ {ds:List RL.D} {xs:List V},ab P K H ds xs->ab P K H' ds xs
 | [],xs,h=>by rw[ab]at h ⊢;exact h
 | d::r,xs,h=>by
  rw[ab]at h ⊢
  obtain⟨x,t,e1,e2,e3⟩:=h
  exact⟨x,t,e1,Rep.same e e2,ab.same e e3⟩
end
mutual
theorem Rep.weak{P P':Addr->Prop}{K:PySem.W.Frag}{H:Hp}(e:∀ a,P' a->P a):∀ {d:RL.D} {v:V},Rep P K H d v->Rep P' K H d v
 | .non,v,h=>by simpa[Rep]using h
 | .bl _,v,h=>by simpa[Rep]using h
 | .int _,v,h=>by simpa[Rep]using h
 | .str _,v,h=>by simpa[Rep]using h
 | .tup ds,v,h=>by
  rw[Rep]at h ⊢
  obtain⟨a,xs,e1,e2,e3⟩:=h
  exact⟨a,xs,e1,e2,ab.weak e e3⟩
 | .lst ds,v,h=>by
  rw[Rep]at h ⊢
  obtain⟨a,xs,e1,e0,e2,e3⟩:=h
  exact⟨a,xs,e1,fun z=>e0 (e a z),e2,ab.weak e e3⟩
 | .dK ks ds,v,h=>by
  rw[Rep]at h ⊢
  obtain⟨a,xs,e1,e0,e2,el,e3⟩:=h
  exact⟨a,xs,e1,fun z=>e0 (e a z),e2,el,ab.weak e e3⟩
 | .dT ks ds,v,h=>by
  rw[Rep]at h ⊢
  obtain⟨a,xs,e1,e0,e2,el,e3⟩:=h
  exact⟨a,xs,e1,fun z=>e0 (e a z),e2,el,ab.weak e e3⟩
 | .scr ds,v,h=>by
  rw[Rep]at h ⊢
  obtain⟨a,xs,e1,e2,e3⟩:=h
  exact⟨a,xs,e1,e2,ab.weak e e3⟩
theorem ab.weak{P P':Addr->Prop}{K:PySem.W.Frag}{H:Hp}(e:∀ a,P' a->P a):∀ {ds:List RL.D} {xs:List V},ab P K H ds xs->ab P' K H ds xs
 | [],xs,h=>by rw[ab]at h ⊢;exact h
 | d::r,xs,h=>by
  rw[ab]at h ⊢
  obtain⟨x,t,e1,e2,e3⟩:=h
  exact⟨x,t,e1,Rep.weak e e2,ab.weak e e3⟩
end
theorem Rep.none{P:Addr->Prop}{K:PySem.W.Frag}{H:Hp}{d:RL.D}{v:V}(h:Rep P K H d v):Rep nP K H d v:=h.weak fun _ z=>z.elim
mutual
theorem Rep.imm{P P':Addr->Prop}{K:PySem.W.Frag}{H:Hp}:∀ {d:RL.D} {v:V},d.imm=true->Rep P K H d v->Rep P' K H d v
 | .non,v,_,h=>by simpa[Rep]using h
 | .bl _,v,_,h=>by simpa[Rep]using h
 | .int _,v,_,h=>by simpa[Rep]using h
 | .str _,v,_,h=>by simpa[Rep]using h
 | .tup ds,v,i,h=>by
  rw[Rep]at h ⊢
  rw[RL.D.imm]at i
  obtain⟨a,xs,e1,e2,e3⟩:=h
  exact⟨a,xs,e1,e2,ab.imm i e3⟩
 | .lst ds,v,i,h=>by rw[RL.D.imm]at i;cases i
 | .dK ks ds,v,i,h=>by rw[RL.D.imm]at i;cases i
 | .dT ks ds,v,i,h=>by rw[RL.D.imm]at i;cases i
 | .scr ds,v,i,h=>by
  rw[Rep]at h ⊢
  rw[RL.D.imm]at i
  obtain⟨a,xs,e1,e2,e3⟩:=h
  exact⟨a,xs,e1,e2,ab.imm i e3⟩
theorem ab.imm{P P':Addr->Prop}{K:PySem.W.Frag}{H:Hp}:∀ {ds:List RL.D} {xs:List V},RL.au ds=true->ab P K H ds xs->ab P' K H ds xs
 | [],xs,_,h=>by rw[ab]at h ⊢;exact h
 | d::r,xs,i,h=>by
  rw[ab]at h ⊢
  rw[RL.au,Bool.and_eq_true]at i
  obtain⟨x,t,e1,e2,e3⟩:=h
  exact⟨x,t,e1,Rep.imm i.1 e2,ab.imm i.2 e3⟩
end
noncomputable def cI(o:HO):Prop:=(∃ xs,o=.lst xs)\/(∃ kvs,o=.dK kvs)\/(∃ kvs,o=.dT kvs)
mutual
theorem Rep.upd{P:Addr->Prop}{K:PySem.W.Frag}{H:Hp}{a:Addr}{o o':HO}(ha:H a=some o)(m:cI o)(p:P a):∀ {d:RL.D} {v:V},Rep P K H d v->Rep P K (upd H a o') d v
 | .non,v,h=>by simpa[Rep]using h
 | .bl _,v,h=>by simpa[Rep]using h
 | .int _,v,h=>by simpa[Rep]using h
 | .str _,v,h=>by simpa[Rep]using h
 | .tup ds,v,h=>by
  rw[Rep]at h ⊢
  obtain⟨b,xs,e1,e2,e3⟩:=h
  have n:b≠a:=uH e2 ha (by rcases m with⟨z,rfl⟩ | ⟨z,rfl⟩ | ⟨z,rfl⟩<;>(intro q;cases q))
  exact⟨b,xs,e1,by rw[L2.aR n];exact e2,ab.upd ha m p e3⟩
 | .lst ds,v,h=>by
  rw[Rep]at h ⊢
  obtain⟨b,xs,e1,e0,e2,e3⟩:=h
  have n:b≠a:=fun z=>e0 (z▸p)
  exact⟨b,xs,e1,e0,by rw[L2.aR n];exact e2,ab.upd ha m p e3⟩
 | .dK ks ds,v,h=>by
  rw[Rep]at h ⊢
  obtain⟨b,xs,e1,e0,e2,el,e3⟩:=h
  have n:b≠a:=fun z=>e0 (z▸p)
  exact⟨b,xs,e1,e0,by rw[L2.aR n];exact e2,el,ab.upd ha m p e3⟩
 | .dT ks ds,v,h=>by
  rw[Rep]at h ⊢
  obtain⟨b,xs,e1,e0,e2,el,e3⟩:=h
  have n:b≠a:=fun z=>e0 (z▸p)
  exact⟨b,xs,e1,e0,by rw[L2.aR n];exact e2,el,ab.upd ha m p e3⟩
 | .scr ds,v,h=>by
  rw[Rep]at h ⊢
  obtain⟨b,xs,e1,e2,e3⟩:=h
  refine⟨b,xs,e1,?_,ab.upd ha m p e3⟩
  rcases e2 with⟨q,e2⟩ | e2
  ·have n:b≠a:=uH e2 ha (by rcases m with⟨z,rfl⟩ | ⟨z,rfl⟩ | ⟨z,rfl⟩<;>(intro q;cases q))
   exact .inl ⟨q,by rw[L2.aR n];exact e2⟩
  ·exact .inr e2
theorem ab.upd{P:Addr->Prop}{K:PySem.W.Frag}{H:Hp}{a:Addr}{o o':HO}(ha:H a=some o)(m:cI o)(p:P a):∀ {ds:List RL.D} {xs:List V},ab P K H ds xs->ab P K (upd H a o') ds xs
 | [],xs,h=>by rw[ab]at h ⊢;exact h
 | d::r,xs,h=>by
  rw[ab]at h ⊢
  obtain⟨x,t,e1,e2,e3⟩:=h
  exact⟨x,t,e1,Rep.upd ha m p e2,ab.upd ha m p e3⟩
end
section lists
variable{P:Addr->Prop}{K:PySem.W.Frag}{H:Hp}
theorem ab.nil:ab P K H [] []:=by rw[ab]
theorem ab.cons{d:RL.D}{ds:List RL.D}{x:V}{xs:List V}(h:Rep P K H d x)(t:ab P K H ds xs):ab P K H (d::ds) (x::xs):=by rw[ab];exact⟨x,xs,rfl,h,t⟩
theorem ab.length:∀ {ds:List RL.D} {xs:List V},ab P K H ds xs->ds.length=xs.length
 | [],xs,h=>by rw[ab]at h;rw[h];rfl
 | d::r,xs,h=>by
  rw[ab]at h
  obtain⟨x,t,rfl,_,e3⟩:=h
  rw[List.length_cons,List.length_cons,ab.length e3]
theorem ab.append:∀ {ds es:List RL.D} {xs ys:List V},ab P K H ds xs->ab P K H es ys->ab P K H (ds++es) (xs++ys)
 | [],_,xs,_,h,k=>by rw[ab]at h;rw[h];exact k
 | d::r,_,xs,_,h,k=>by
  rw[ab]at h
  obtain⟨x,t,rfl,e2,e3⟩:=h
  exact ab.cons e2 (ab.append e3 k)
theorem ab.get:∀ {ds:List RL.D} {xs:List V} {i:Nat} {d:RL.D},ab P K H ds xs->ds[i]?=some d->∃ x,xs[i]?=some x/\Rep P K H d x
 | [],_,i,d,_,e=>by simp at e
 | d::r,xs,0,d',h,e=>by
  rw[ab]at h
  obtain⟨x,t,rfl,e2,_⟩:=h
  simp at e;subst e
  exact⟨x,rfl,e2⟩
 | d::r,xs,i+1,d',h,e=>by
  rw[ab]at h
  obtain⟨x,t,rfl,_,e3⟩:=h
  obtain⟨y,h1,h2⟩:=ab.get (i:=i) e3 (by simpa using e)
  exact⟨y,by simpa using h1,h2⟩
theorem ab.set:∀ {ds:List RL.D} {xs:List V} (i:Nat) {d:RL.D} {x:V},ab P K H ds xs->Rep P K H d x->ab P K H (ds.set i d) (xs.set i x)
 | [],xs,_,_,_,h,_=>by rw[ab]at h;rw[h];exact ab.nil
 | d::r,xs,0,_,_,h,k=>by
  rw[ab]at h
  obtain⟨x,t,rfl,_,e3⟩:=h
  exact ab.cons k e3
 | d::r,xs,i+1,_,_,h,k=>by
  rw[ab]at h
  obtain⟨x,t,rfl,e2,e3⟩:=h
  exact ab.cons e2 (ab.set i e3 k)
theorem ab.take:∀ {ds:List RL.D} {xs:List V} (n:Nat),ab P K H ds xs->ab P K H (ds.take n) (xs.take n)
 | _,_,0,_=>by simpa using ab.nil
 | [],xs,n+1,h=>by rw[ab]at h;rw[h];simpa using ab.nil
 | d::r,xs,n+1,h=>by
  rw[ab]at h
  obtain⟨x,t,rfl,e2,e3⟩:=h
  exact ab.cons e2 (ab.take n e3)
theorem ab.rev{ds:List RL.D}{xs:List V}(h:ab P K H ds xs):ab P K H ds.reverse xs.reverse:=by
 induction ds generalizing xs with
 | nil=>rw[ab]at h;rw[h];exact ab.nil
 |cons d r ih=>
  rw[ab]at h
  obtain⟨x,t,rfl,e2,e3⟩:=h
  rw[List.reverse_cons,List.reverse_cons]
  exact ab.append (ih e3) (ab.cons e2 ab.nil)
theorem ab.rep{ds:List RL.D}{xs:List V}(h:ab P K H ds xs):∀ n:Nat,ab P K H (List.replicate n ds).flatten (List.replicate n xs).flatten
 | 0=>ab.nil
 | n+1=>by
  rw[List.replicate_succ,List.replicate_succ,List.flatten_cons,List.flatten_cons]
  exact ab.append h (ab.rep h n)
end lists
noncomputable def RV0(K:PySem.W.Frag)(σD:RL.St)(σ:L2.St)(H:Hp):Prop:=σD.length<=σ.length/\∀ (i:Nat) (d:RL.D),σD[i]?=some (some d)->∃ v,σ[i]?=some (some v)/\Rep nP K H d v
theorem RV0.same{K:PySem.W.Frag}{σD:RL.St}{σ:L2.St}{H H':Hp}(h:RV0 K σD σ H)(e:a6 H H'):RV0 K σD σ H':=⟨h.1,fun i d q=>by
 obtain⟨v,h1,h2⟩:=h.2 i d q
 exact⟨v,h1,h2.same e⟩⟩
noncomputable def lQ:RL.D->Bool
 | .lst _=>true
 | .dK _ _=>true
 | .dT _ _=>true
 | _=>false
structure Res(K:PySem.W.Frag)(σD:RL.St)(σ:L2.St)(H:Hp)(e:RL.E)(d:RL.D)(v:V)(H':Hp):Prop where
 same:a6 H H'
 rep:Rep nP K H' d v
 fresh:RL.aF e=true->lQ d=true->∀ a,v=.ref a->H a=none
 av:∀ M,RL.avE M e=true->∀ P:Addr->Prop,(∀ a,P a->H a≠none)->(∀ (j:Nat) (dj:RL.D) (vj:V),M.contains j=false->σD[j]?=some (some dj)->σ[j]?=some (some vj)->Rep P K H dj vj)->Rep P K H' d v
noncomputable def tE(K:PySem.W.Frag)(cl:RL.Cl)(e:RL.E):TE:=fun σ H Q=>∃ σD d,RV0 K σD σ H/\RL.ev cl σD e=some d/\∀ v H',Res K σD σ H e d v H'->Q v H'
noncomputable def SE(X:Cx)(cl:RL.Cl)(e:Expr)(e':RL.E):Prop:=PE X e (tE X.K cl e')
theorem PE.weak{X:Cx}{e:Expr}{t t':TE}(h:PE X e t)(w:∀ σ H Q,t' σ H Q->t σ H Q):PE X e t':=fun pins s σ H Q I q=>h pins s σ H Q I (w σ H Q q)
noncomputable def tEs(K:PySem.W.Frag)(cl:RL.Cl)(es:RL.Es):TA:=fun σ H Q=>∃ σD ds,RV0 K σD σ H/\RL.evs cl σD es=some ds/\∀ vs H',a6 H H'->ab nP K H' ds vs->Q vs H'
noncomputable def SEs(X:Cx)(cl:RL.Cl)(es:List Expr)(es':RL.Es):Prop:=PA X es (tEs X.K cl es')
section rules
variable{X:Cx}{cl:RL.Cl}{a b c:Expr}{a' b' c':RL.E}{pos:Pos}
theorem two{σD:RL.St}{σ:L2.St}{H:Hp}{x y:RL.D}{R:V->V->Hp->Prop}(rv:RV0 X.K σD σ H)(ea:RL.ev cl σD a'=some x)(eb:RL.ev cl σD b'=some y)
 (k:∀ v u H1 H2,a6 H H1->a6 H1 H2->Rep nP X.K H2 x v->Rep nP X.K H2 y u->Res X.K σD σ H a' x v H1->Res X.K σD σ H1 b' y u H2->R v u H2) :
  tE X.K cl a' σ H fun v H1=>tE X.K cl b' σ H1 fun u H2=>R v u H2 :=
 ⟨σD,x,rv,ea,fun v H1 r1=>⟨σD,y,rv.same r1.same,eb,fun u H2 r2=>k v u H1 H2 r1.same r2.same (r1.rep.same r2.same) r2.rep r1 r2⟩⟩
theorem bind_some{α β:Type}{o:Option α}{f:α->Option β}{y:β}(h:o.bind f=some y):∃ x,o=some x/\f x=some y:=by
 cases o with
 | none=>cases h
 | some x=>exact⟨x,rfl,h⟩
theorem map_some{α β:Type}{o:Option α}{f:α->β}{y:β}(h:o.map f=some y):∃ x,o=some x/\f x=y:=by
 cases o with
 | none=>cases h
 | some x=>exact⟨x,rfl,Option.some.inj h⟩
theorem cm:RL.most<=sizeLine:=by decide
theorem a6.bP{H:Hp}{p:Addr}{o:HO}(hn:H p=none):a6 H (upd H p o):=fun b u e=>by rw[aR (aQ e hn)];exact e
theorem DU{i:Nat}{x:Str}(hN:X.N[i]?=some x)(hv:Vis X.env.scope x)(hd:(x == ("__debug__" : Str))=false)(hcd:(x == ("__classdict__" : Str))=false):SE X cl (.Name x pos) (.var i):=by
 refine PE.weak (gN hN hv hd hcd) fun σ H Q h=>?_
 obtain⟨σD,d,rv,e,k⟩:=h
 have e':σD[i]?=some (some d):=by
  rw[RL.ev]at e
  obtain⟨o,h1,h2⟩:=bind_some e
  cases o with
  | none=>cases h2
  | some z=>cases h2;exact h1
 obtain⟨v,h1,h2⟩:=rv.2 i d e'
 refine⟨v,h1,k v H ⟨a6.refl H,h2,fun z=>(by cases z),fun M z P hP av=>?_⟩⟩
 rw[RL.avE]at z
 exact av i d v (by simpa using z) e' h1
theorem mW{j:Nat}{k:Const}{d:RL.D}{v:V}(h:PE X (.Constant k j pos) (tC v))(r:∀ P H,Rep P X.K H d v)(hm:lQ d=false):SE X cl (.Constant k j pos) (.cst d):=by
 refine PE.weak h fun σ H Q q=>?_
 obtain⟨σD,d',rv,e,k⟩:=q
 rw[RL.ev]at e
 cases e
 exact k v H ⟨a6.refl H,r _ _,fun z=>(by cases z),fun M z=>nomatch (show false=true from z)⟩
theorem B9{x:Str}{i:Int}{u:Value}(h:PE X (.Name x pos) (tC (.int i))):SE X cl (.Name x pos) (.glb x i):=by
 refine PE.weak h fun σ H Q q=>?_
 obtain⟨σD,d',rv,e,k⟩:=q
 rw[RL.ev]at e
 cases e
 exact k _ H ⟨a6.refl H,(by rw[Rep]),fun z=>(by cases z),fun M z=>nomatch (show false=true from z)⟩
end rules
section rules
variable{X:Cx}{cl:RL.Cl}{a b c:Expr}{a' b' c':RL.E}{pos:Pos}
theorem cZ{σD:RL.St}{σ:L2.St}{H H':Hp}{e:RL.E}{d:RL.D}{v:V}(sm:a6 H H')(r:Rep nP X.K H' d v)(im:d.imm=true):Res X.K σD σ H e d v H' where
 same:=sm
 rep:=r
 fresh:=fun _ m=>by
  cases d with
  | lst _=>cases im
  | dK _ _=>cases im
  | dT _ _=>cases im
  | _=>cases m
 av:=fun M _ P _ _=>r.imm im
theorem xx:OpR X (binaryOp .FloorDiv) (rI (fun _ j=>0<j/\j<2 ^ 200) fun i j=>.int (i / j)):=opI fun i j _ _ _ _ _ hc q=>by
 refine floordiv_int (by lia) ?_ (.inl (PyProof.noPylong_of_log2 ?_))
 ·rw[Int.fdiv_eq_ediv_of_nonneg _ (by lia)]
  exact q
 ·have h0:j.natAbs≠0:=by lia
  have h1:j.natAbs<2 ^ 200:=by
   have:=hc.2
   omega
  have h2:j.natAbs.log2<200:=(Nat.log2_lt h0).mpr h1
  lia
theorem dZ{σD:RL.St}{σ:L2.St}{H H1:Hp}{e:RL.E}{ds:List RL.D}{xs:List V}{p:Addr}(sm:a6 H H1)(hn:H1 p=none)(r:ab nP X.K H1 ds xs)(hav:∀ M,RL.avE M e=false):Res X.K σD σ H e (.lst ds) (.ref p) (upd H1 p (.lst xs)) where
 same:=sm.trans (a6.bP hn)
 rep:=by
  rw[Rep]
  exact⟨p,xs,rfl,fun z=>z,bC,r.same (a6.bP hn)⟩
 fresh:=fun _ _ a z=>by
  cases z
  exact sm.free hn
 av:=fun M z=>by rw[hav M]at z;cases z
theorem fh{σD:RL.St}{σ:L2.St}{H H1:Hp}{e:RL.E}{ds:List RL.D}{xs:List V}{p:Addr}(sm:a6 H H1)(hn:H1 p=none)(r:ab nP X.K H1 ds xs)(hav:∀ M,RL.avE M e=false):Res X.K σD σ H e (.tup ds) (.ref p) (upd H1 p (.tup xs)) where
 same:=sm.trans (a6.bP hn)
 rep:=by
  rw[Rep]
  exact⟨p,xs,rfl,bC,r.same (a6.bP hn)⟩
 fresh:=fun _ m=>by cases m
 av:=fun M z=>by rw[hav M]at z;cases z
noncomputable def q0:RL.Bop->Operator
 | .add=>.Add
 | .sub=>.Sub
 | .mul=>.Mult
 | .fdiv=>.FloorDiv
 | .mod=>.Mod
 | .pow=>.Pow
theorem aS{P:Addr->Prop}{K:PySem.W.Frag}{H:Hp}{i:Int}:Rep P K H (.int i) (.int i):=by rw[Rep]
theorem qi{P:Addr->Prop}{K:PySem.W.Frag}{H:Hp}{i:Bool}:Rep P K H (.bl i) (.bl i):=by rw[Rep]
theorem iH{P:Addr->Prop}{K:PySem.W.Frag}{H:Hp}{i:Str}:Rep P K H (.str i) (.str i):=by rw[Rep]
theorem ag{P:Addr->Prop}{K:PySem.W.Frag}{H:Hp}{i:Int}{v:V}(h:Rep P K H (.int i) v):v=.int i:=by rw[Rep]at h;exact h
theorem aX{P:Addr->Prop}{K:PySem.W.Frag}{H:Hp}{i:Bool}{v:V}(h:Rep P K H (.bl i) v):v=.bl i:=by rw[Rep]at h;exact h
theorem aN{P:Addr->Prop}{K:PySem.W.Frag}{H:Hp}{i:Str}{v:V}(h:Rep P K H (.str i) v):v=.str i:=by rw[Rep]at h;exact h
noncomputable def mV(X:Cx)(o:RL.Bop)(r:R2):Prop :=
 ∀ (σD:RL.St) (σ:L2.St) (H H2:Hp) (e:RL.E) (x y d:RL.D) (v u:V) (Q:VK),a6 H H2->Rep nP X.K H2 x v->Rep nP X.K H2 y u->RL.a8 o x y=some d->(∀ M,RL.avE M e=false) ->
  (∀ w H',Res X.K σD σ H e d w H'->Q w H')->r v u H2 Q
theorem gq{o:RL.Bop}{r:R2}(ho:OpR X (binaryOp (q0 o)) r)(ok:mV X o r)(ha:SE X cl a a')(hb:SE X cl b b'):SE X cl (.BinOp a (q0 o) b pos) (.bin o a' b'):=by
 refine PE.weak (Fi ho ha hb) fun σ H Q h=>?_
 obtain⟨σD,d,rv,e,k⟩:=h
 rw[RL.ev]at e
 obtain⟨x,ea,e⟩:=bind_some e
 obtain⟨y,eb,e⟩:=bind_some e
 refine two rv ea eb fun v u H1 H2 s1 s2 rx ry _ _=>?_
 exact ok σD σ H H2 _ x y d v u Q (s1.trans s2) rx ry e (fun _=>rfl) k
end rules
section rules
variable{X:Cx}{cl:RL.Cl}{a b c:Expr}{a' b' c':RL.E}{pos:Pos}
theorem cN{α:Type}{c:Prop} [Decidable c]{a d:α}(h:(if c then some a else none)=some d):c/\d=a:=by
 by_cases hc:c
 ·rw[if_pos hc]at h
  exact⟨hc,(Option.some.inj h).symm⟩
 ·rw[if_neg hc]at h
  cases h
theorem noN{α:Type}{o:Option α}{d:α}{p:Prop}(e:o=none)(h:o=some d):p:=by rw[e]at h;cases h
theorem yG{x y d:RL.D}(h:RL.a8 .add x y=some d):(∃ i j,x=.int i/\y=.int j/\d=.int (i+j))\/(∃ i j:Str,x=.str i/\y=.str j/\i.length+j.length<=RL.most/\d=.str (i++j)) \/
  (∃ i j,x=.lst i/\y=.lst j/\i.length+j.length<=RL.most/\d=.lst (i++j)) \/
  (∃ i j,x=.tup i/\y=.tup j/\(i.length+j.length<=RL.most/\0<i.length)/\d=.tup (i++j)):=by
 cases x with
 | int i=>cases y with
  | int j=>cases h;exact .inl ⟨i,j,rfl,rfl,rfl⟩
  | _=>exact noN rfl h
 | str i=>cases y with
  |str j=>
   obtain⟨hc,e⟩:=cN h
   exact .inr (.inl ⟨i,j,rfl,rfl,hc,e⟩)
  | _=>exact noN rfl h
 | lst i=>cases y with
  |lst j=>
   obtain⟨hc,e⟩:=cN h
   exact .inr (.inr (.inl ⟨i,j,rfl,rfl,hc,e⟩))
  | _=>exact noN rfl h
 | tup i=>cases y with
  |tup j=>
   obtain⟨hc,e⟩:=cN h
   exact .inr (.inr (.inr ⟨i,j,rfl,rfl,hc,e⟩))
  | _=>exact noN rfl h
 | _=>exact noN rfl h
theorem zi{x y d:RL.D}(h:RL.a8 .mul x y=some d):(∃ i j,x=.int i/\y=.int j/\uv i j/\d=.int (i*j)) \/
  (∃ i j,x=.lst i/\y=.int j/\(0<=j/\j<=RL.most/\i.length*j.toNat<=RL.most)/\d=.lst (List.replicate j.toNat i).flatten):=by
 cases x with
 | int i=>cases y with
  |int j=>
   obtain⟨hc,e⟩:=cN h
   exact .inl ⟨i,j,rfl,rfl,hc,e⟩
  | _=>exact noN rfl h
 | lst i=>cases y with
  |int j=>
   obtain⟨hc,e⟩:=cN h
   exact .inr ⟨i,j,rfl,rfl,hc,e⟩
  | _=>exact noN rfl h
 | _=>exact noN rfl h
theorem gW{o:RL.Bop}{x y d:RL.D}(h:RL.a8 o x y=some d)(ho:o≠.add)(hm:o≠.mul):∃ i j,x=.int i/\y=.int j/\RL.a8 o (.int i) (.int j)=some d:=by
 have no:∀ {a b:RL.D},RL.a8 .sub a b=none->RL.a8 .fdiv a b=none->RL.a8 .mod a b=none->RL.a8 .pow a b=none->RL.a8 o a b=some d->False:=fun e1 e2 e3 e4 h=>by
  cases o with
  | add=>exact ho rfl
  | mul=>exact hm rfl
  | sub=>rw[e1]at h;cases h
  | fdiv=>rw[e2]at h;cases h
  | mod=>rw[e3]at h;cases h
  | pow=>rw[e4]at h;cases h
 cases x with
 | int i=>cases y with
  | int j=>exact⟨i,j,rfl,rfl,h⟩
  | _=>exact(no rfl rfl rfl rfl h).elim
 | _=>exact(no rfl rfl rfl rfl h).elim
theorem xu{x y d:RL.D}(h:RL.a8 .sub x y=some d):∃ i j,x=.int i/\y=.int j/\d=.int (i-j):=by
 obtain⟨i,j,e1,e2,h⟩:=gW h (by decide) (by decide)
 cases h
 exact⟨i,j,e1,e2,rfl⟩
theorem wN{x y d:RL.D}(h:RL.a8 .fdiv x y=some d):∃ i j,x=.int i/\y=.int j/\(0<j/\j<2 ^ 200)/\d=.int (i / j):=by
 obtain⟨i,j,e1,e2,h⟩:=gW h (by decide) (by decide)
 obtain⟨hc,e⟩:=cN h
 exact⟨i,j,e1,e2,hc,e⟩
theorem xZ{x y d:RL.D}(h:RL.a8 .mod x y=some d):∃ i j,x=.int i/\y=.int j/\0<j/\d=.int (i%j):=by
 obtain⟨i,j,e1,e2,h⟩:=gW h (by decide) (by decide)
 obtain⟨hc,e⟩:=cN h
 exact⟨i,j,e1,e2,hc,e⟩
theorem xR{x y d:RL.D}(h:RL.a8 .pow x y=some d):∃ i j,x=.int i/\y=.int j/\(0<=j/\j<=1000/\i.natAbs<2 ^ 64)/\d=.int (i ^ j.toNat):=by
 obtain⟨i,j,e1,e2,h⟩:=gW h (by decide) (by decide)
 obtain⟨hc,e⟩:=cN h
 exact⟨i,j,e1,e2,hc,e⟩
theorem aH{P:Addr->Prop}{K:PySem.W.Frag}{H:Hp}{ds:List RL.D}{v:V}(h:Rep P K H (.lst ds) v):∃ a xs,v=.ref a/\¬ P a/\H a=some (.lst xs)/\ab P K H ds xs:=by rw[Rep]at h;exact h
theorem bw{P:Addr->Prop}{K:PySem.W.Frag}{H:Hp}{ds:List RL.D}{v:V}(h:Rep P K H (.tup ds) v):∃ a xs,v=.ref a/\H a=some (.tup xs)/\ab P K H ds xs:=by rw[Rep]at h;exact h
theorem EJ:mV X .sub (rI0 fun i j=>.int (i-j)):=by
 intro σD σ H H2 e x y d v u Q sm rx ry h hav k
 obtain⟨i,j,rfl,rfl,rfl⟩:=xu h
 exact⟨i,j,ag rx,ag ry,k _ _ (cZ sm aS rfl)⟩
theorem Bu:mV X .fdiv (rI (fun _ j=>0<j/\j<2 ^ 200) fun i j=>.int (i / j)):=by
 intro σD σ H H2 e x y d v u Q sm rx ry h hav k
 obtain⟨i,j,rfl,rfl,hc,rfl⟩:=wN h
 exact⟨i,j,ag rx,ag ry,hc,k _ _ (cZ sm aS rfl)⟩
theorem Ce:mV X .mod (rI (fun _ j=>0<j) fun i j=>.int (i%j)):=by
 intro σD σ H H2 e x y d v u Q sm rx ry h hav k
 obtain⟨i,j,rfl,rfl,hc,rfl⟩:=xZ h
 exact⟨i,j,ag rx,ag ry,hc,k _ _ (cZ sm aS rfl)⟩
theorem D5:mV X .pow (rI E4 fun i j=>.int (i ^ j.toNat)):=by
 intro σD σ H H2 e x y d v u Q sm rx ry h hav k
 obtain⟨i,j,rfl,rfl,hc,rfl⟩:=xR h
 exact⟨i,j,ag rx,ag ry,⟨hc.1,Int.le_trans hc.2.1 (by decide),hc.2.2⟩,k _ _ (cZ sm aS rfl)⟩
theorem EC(ha:SE X cl a a')(hb:SE X cl b b'):SE X cl (.BinOp a .Add b pos) (.bin .add a' b'):=by
 refine gq (o:=.add) (DX.or (tX.or (Dm.or A4))) ?_ ha hb
 intro σD σ H H2 e x y d v u Q sm rx ry h hav k
 rcases yG h with⟨i,j,rfl,rfl,rfl⟩ | ⟨i,j,rfl,rfl,hc,rfl⟩ | ⟨i,j,rfl,rfl,hc,rfl⟩ | ⟨i,j,rfl,rfl,⟨hc,ha⟩,rfl⟩
 ·exact .inl ⟨i,j,ag rx,ag ry,k _ _ (cZ sm aS rfl)⟩
 ·exact .inr (.inl ⟨i,j,aN rx,aN ry,Nat.le_trans hc cm,k _ _ (cZ sm iH rfl)⟩)
 ·obtain⟨p,xs,e1,_,e2,e3⟩:=aH rx
  obtain⟨q,ys,f1,_,f2,f3⟩:=aH ry
  refine .inr (.inr (.inl ⟨p,q,xs,ys,e1,f1,e2,f2,?_,fun l hl=>k _ _ (dZ sm hl (e3.append f3) hav)⟩))
  rw[<-e3.length,<-f3.length]
  exact Nat.le_trans hc cm
 ·obtain⟨p,xs,e1,e2,e3⟩:=bw rx
  obtain⟨q,ys,f1,f2,f3⟩:=bw ry
  refine .inr (.inr (.inr ⟨p,q,xs,ys,e1,f1,SqT.of e2,SqT.of f2,fun z=>?_,?_,fun z=>?_,fun _ l hl=>k _ _ (fh sm hl (e3.append f3) hav)⟩))
  ·rw[e3.length,z]at ha
   exact absurd ha (by decide)
  ·rw[<-e3.length,<-f3.length]
   exact Nat.le_trans hc cm
  ·have hj:j=[]:=by
    have:=f3.length
    rw[z]at this
    exact List.length_eq_zero_iff.mp this
   subst hj
   rw[List.append_nil]at k
   exact k _ _ ⟨sm,e1▸rx,fun _ m=>(by cases m),fun M z=>by rw[hav M]at z;cases z⟩
theorem Cp(ha:SE X cl a a')(hb:SE X cl b b'):SE X cl (.BinOp a .Mult b pos) (.bin .mul a' b'):=by
 refine gq (o:=.mul) (DW.or DA) ?_ ha hb
 intro σD σ H H2 e x y d v u Q sm rx ry h hav k
 rcases zi h with⟨i,j,rfl,rfl,hc,rfl⟩ | ⟨i,j,rfl,rfl,hc,rfl⟩
 ·exact .inl ⟨i,j,ag rx,ag ry,hc,k _ _ (cZ sm aS rfl)⟩
 ·obtain⟨p,xs,e1,_,e2,e3⟩:=aH rx
  refine .inr ⟨p,j,xs,e1,ag ry,e2,?_,?_,?_,fun l hl=>k _ _ (dZ sm hl (e3.rep _) hav)⟩
  ·exact Int.le_trans (by decide) hc.1
  ·exact Int.lt_of_le_of_lt hc.2.1 (by decide)
  ·rw[<-e3.length]
   exact Nat.le_trans hc.2.2 cm
theorem BQ{o:RL.Bop}(ha:SE X cl a a')(hb:SE X cl b b'):SE X cl (.BinOp a (q0 o) b pos) (.bin o a' b'):=by
 cases o with
 | add=>exact EC ha hb
 | mul=>exact Cp ha hb
 | sub=>exact gq (o:=.sub) BG EJ ha hb
 | fdiv=>exact gq (o:=.fdiv) xx Bu ha hb
 | mod=>exact gq (o:=.mod) ER Ce ha hb
 | pow=>exact gq (o:=.pow) EA D5 ha hb
theorem dD{σD:RL.St}{σ:L2.St}{H H':Hp}{e:RL.E}{k:Bool}(sm:a6 H H'):Res X.K σD σ H e (.bl k) (.bl k) H':=cZ sm qi rfl
theorem Ct{rest:List Expr}(ha:SE X cl a a')(hb:SE X cl (.BoolOp .And (b::rest) pos) b'):SE X cl (.BoolOp .And (a::b::rest) pos) (.and a' b'):=by
 refine PE.weak (EK ha hb) fun σ H Q h=>?_
 obtain⟨σD,d,rv,e,k⟩:=h
 rw[RL.ev]at e
 obtain⟨x,ea,e⟩:=bind_some e
 refine⟨σD,x,rv,ea,fun v H1 r1=>?_⟩
 cases x with
 |bl t=>
  refine⟨t,aX r1.rep,?_⟩
  cases t with
  |true=>
   refine eZ ?_
   refine⟨σD,d,rv.same r1.same,e,fun w H2 r2=>k w H2 ?_⟩
   exact⟨r1.same.trans r2.same,r2.rep,fun z=>(by cases z),fun M z=>nomatch (show false=true from z)⟩
  |false=>
   refine fM ?_
   cases e
   exact k _ _ (dD r1.same)
 | _=>cases e
theorem F4{rest:List Expr}(ha:SE X cl a a')(hb:SE X cl (.BoolOp .Or (b::rest) pos) b'):SE X cl (.BoolOp .Or (a::b::rest) pos) (.or a' b'):=by
 refine PE.weak (FH ha hb) fun σ H Q h=>?_
 obtain⟨σD,d,rv,e,k⟩:=h
 rw[RL.ev]at e
 obtain⟨x,ea,e⟩:=bind_some e
 refine⟨σD,x,rv,ea,fun v H1 r1=>?_⟩
 cases x with
 |bl t=>
  refine⟨t,aX r1.rep,?_⟩
  cases t with
  |false=>
   refine fM ?_
   refine⟨σD,d,rv.same r1.same,e,fun w H2 r2=>k w H2 ?_⟩
   exact⟨r1.same.trans r2.same,r2.rep,fun z=>(by cases z),fun M z=>nomatch (show false=true from z)⟩
  |true=>
   refine eZ ?_
   cases e
   exact k _ _ (dD r1.same)
 | _=>cases e
theorem vz{op}(ha:SE X cl a a'):SE X cl (.BoolOp op [a] pos) a':=BO ha
noncomputable def tT(K:PySem.W.Frag)(cl:RL.Cl)(e:RL.E):TT:=fun σ H Q=>∃ σD k,RV0 K σD σ H/\(RL.ev cl σD e).bind RL.truth=some k/\∀ H',a6 H H'->Q k H'
noncomputable def ST(X:Cx)(cl:RL.Cl)(e:Expr)(e':RL.E):Prop:=PT X e (tT X.K cl e')
noncomputable def SW(X:Cx)(cl:RL.Cl)(e:Expr)(e':RL.E):Prop:=PW X e (tT X.K cl e')
theorem PT.weak{e:Expr}{t t':TT}(h:PT X e t)(w:∀ σ H Q,t' σ H Q->t σ H Q):PT X e t':=fun pins s σ H Q I q=>h pins s σ H Q I (w σ H Q q)
theorem PW.weak{e:Expr}{t t':TT}(h:PW X e t)(w:∀ σ H Q,t' σ H Q->t σ H Q):PW X e t':=fun wh pins s σ H Q I q=>h wh pins s σ H Q I (w σ H Q q)
theorem ab.isEmpty{P:Addr->Prop}{K:PySem.W.Frag}{H:Hp}{ds:List RL.D}{xs:List V}(h:ab P K H ds xs):ds.isEmpty=xs.isEmpty:=by
 cases ds with
 | nil=>rw[ab]at h;rw[h];rfl
 |cons d r=>
  rw[ab]at h
  obtain⟨x,t,rfl,_⟩:=h
  rfl
theorem Df{K:PySem.W.Frag}{H:Hp}{d:RL.D}{v:V}{k:Bool}(r:Rep nP K H d v)(h:RL.truth d=some k):ud K v H k:=by
 cases d<;>simp only[RL.truth]at h<;>first | (cases h;done) | skip
 case bl t=>cases h;rw[aX r];exact rfl
 case int t =>
  cases h
  rw[ag r]
  simp[ud]
 case tup ds =>
  obtain⟨a,xs,rfl,e,rs⟩:=bw r
  cases h
  exact .inr (.inl ⟨xs,SqT.of e,by rw[rs.isEmpty]⟩)
 case lst ds =>
  obtain⟨a,xs,rfl,_,e,rs⟩:=aH r
  cases h
  exact .inl ⟨xs,SqL.of e,by rw[rs.isEmpty]⟩
theorem yF(ha:SE X cl a a')(he:∀ whole,isTrue a X.env whole=(do let v <- whole;standAt a.pos;holding [v] (truthy v))):ST X cl a a':=by
 refine PT.weak (y8 ha he) fun σ H Q h=>?_
 obtain⟨σD,k,rv,e,q⟩:=h
 obtain⟨d,e1,e2⟩:=bind_some e
 exact⟨σD,d,rv,e1,fun v H1 r1=>⟨k,Df r1.rep e2,q H1 r1.same⟩⟩
theorem wD{op:BoolOp}(ha:ST X cl a a'):SW X cl (.BoolOp op [a] pos) a':=by
 cases op with
 | And=>exact Bk ha
 | Or=>exact Dn ha
theorem vm{σD:RL.St}{k:Bool}(h:(RL.ev cl σD (.and a' b')).bind RL.truth=some k):∃ t,(RL.ev cl σD a').bind RL.truth=some t/\(if t=true then(RL.ev cl σD b').bind RL.truth=some k else k=false):=by
 rw[RL.ev]at h
 cases ea:RL.ev cl σD a' with
 | none=>rw[ea]at h;cases h
 |some x=>
  rw[ea]at h
  cases x with
  |bl t=>
   cases t with
   | true=>exact⟨true,rfl,eZ h⟩
   | false=>exact⟨false,rfl,fM (by cases h;rfl)⟩
  | _=>exact noN rfl h
theorem ym{σD:RL.St}{k:Bool}(h:(RL.ev cl σD (.or a' b')).bind RL.truth=some k):∃ t,(RL.ev cl σD a').bind RL.truth=some t/\(if t=true then k=true else(RL.ev cl σD b').bind RL.truth=some k):=by
 rw[RL.ev]at h
 cases ea:RL.ev cl σD a' with
 | none=>rw[ea]at h;cases h
 |some x=>
  rw[ea]at h
  cases x with
  |bl t=>
   cases t with
   | true=>exact⟨true,rfl,eZ (by cases h;rfl)⟩
   | false=>exact⟨false,rfl,fM h⟩
  | _=>exact noN rfl h
theorem De{rest:List Expr}(ha:ST X cl a a')(hb:SW X cl (.BoolOp .And (b::rest) pos) b'):SW X cl (.BoolOp .And (a::b::rest) pos) (.and a' b'):=by
 refine PW.weak (CQ ha hb) fun σ H Q h=>?_
 obtain⟨σD,k,rv,e,q⟩:=h
 obtain⟨t,e1,e2⟩:=vm e
 refine⟨σD,t,rv,e1,fun H1 s1=>?_⟩
 cases t with
 | true=>exact eZ ⟨σD,k,rv.same s1,e2,fun H2 s2=>q H2 (s1.trans s2)⟩
 |false=>
  have e2:k=false:=e2
  subst e2
  exact fM (q H1 s1)
theorem F0{rest:List Expr}(ha:ST X cl a a')(hb:SW X cl (.BoolOp .Or (b::rest) pos) b'):SW X cl (.BoolOp .Or (a::b::rest) pos) (.or a' b'):=by
 refine PW.weak (Ft ha hb) fun σ H Q h=>?_
 obtain⟨σD,k,rv,e,q⟩:=h
 obtain⟨t,e1,e2⟩:=ym e
 refine⟨σD,t,rv,e1,fun H1 s1=>?_⟩
 cases t with
 |true=>
  have e2:k=true:=e2
  subst e2
  exact eZ (q H1 s1)
 | false=>exact fM ⟨σD,k,rv.same s1,e2,fun H2 s2=>q H2 (s1.trans s2)⟩
theorem Ec(ha:ST X cl a a'):ST X cl (.UnaryOp .Not a pos) (.not a'):=by
 refine PT.weak (BU ha) fun σ H Q h=>?_
 obtain⟨σD,k,rv,e,q⟩:=h
 rw[RL.ev]at e
 obtain⟨d,e1,e2⟩:=bind_some e
 obtain⟨t,e3,e4⟩:=map_some e1
 subst e4
 cases e2
 exact⟨σD,t,rv,e3,fun H1 s1=>q H1 s1⟩
theorem ED(hc:ST X cl c c')(ha:SE X cl a a')(hb:SE X cl b b'):SE X cl (.IfExp c a b pos) (.ifx c' a' b'):=by
 refine PE.weak (yR hc ha hb) fun σ H Q h=>?_
 obtain⟨σD,d,rv,e,q⟩:=h
 rw[RL.ev]at e
 obtain⟨t,e1,e2⟩:=bind_some e
 refine⟨σD,t,rv,e1,fun H1 s1=>?_⟩
 have fin:∀ (a':RL.E) (v:V) (H2:Hp),(∀ M,RL.avE M (.ifx c' a' b')=true->RL.avE M a'=true)->True:=fun _ _ _ _=>trivial
 cases t with
 |true=>
  refine eZ ⟨σD,d,rv.same s1,e2,fun v H2 r2=>q v H2 ⟨s1.trans r2.same,r2.rep,fun z=>(by cases z),fun M z P hP av=>?_⟩⟩
  have z:(RL.avE M a'&&RL.avE M b')=true:=z
  rw[Bool.and_eq_true]at z
  exact r2.av M z.1 P (fun a p=>(Option.ne_none_iff_exists'.mpr (by obtain⟨o,ho⟩:=Option.ne_none_iff_exists'.mp (hP a p);exact⟨o,s1 _ _ ho⟩))) fun j dj vj h1 h2 h3=>(av j dj vj h1 h2 h3).same s1
 |false=>
  refine fM ⟨σD,d,rv.same s1,e2,fun v H2 r2=>q v H2 ⟨s1.trans r2.same,r2.rep,fun z=>(by cases z),fun M z P hP av=>?_⟩⟩
  have z:(RL.avE M a'&&RL.avE M b')=true:=z
  rw[Bool.and_eq_true]at z
  exact r2.av M z.2 P (fun a p=>(Option.ne_none_iff_exists'.mpr (by obtain⟨o,ho⟩:=Option.ne_none_iff_exists'.mp (hP a p);exact⟨o,s1 _ _ ho⟩))) fun j dj vj h1 h2 h3=>(av j dj vj h1 h2 h3).same s1
end rules
section rules
variable{X:Cx}{cl:RL.Cl}{a b c:Expr}{a' b' c':RL.E}{pos:Pos}
theorem D6(ha:SE X cl a a'):SE X cl (.UnaryOp .Not a pos) (.not a'):=by
 intro pins s σ H Q I h
 obtain⟨σD,d,rv,e,k⟩:=h
 rw[RL.ev]at e
 obtain⟨t,e1,e2⟩:=map_some e
 obtain⟨x,e3,e4⟩:=bind_some e1
 subst e2
 refine UnaryOp_ (thn (ha pins s σ H (fun v H1=>a6 H H1/\Rep nP X.K H1 x v) I ⟨σD,x,rv,e3,fun v H1 r1=>⟨r1.same,r1.rep⟩⟩) fun v s1 ⟨y,H1,I1,r1,sm,rp⟩=>?_)
 refine not_of (thn (xr pins s1 σ H1 y v (fun k H2=>k=t/\H2=H1) I1 r1 ⟨t,Df rp e4,rfl,rfl⟩) fun k2 s2 ⟨H2,I2,q1,q2⟩=>?_)
 subst q1
 subst q2
 exact⟨.bl (!k2),H2,I2,rfl,k _ _ (dD sm)⟩
noncomputable def noStar:Expr->Bool
 | .Starred _ _=>false
 | _=>true
theorem aA{e:Expr}(es:List Expr)(h:noStar e=true):starEach (e::es) X.env=(false,eval e X.env)::starEach es X.env:=by
 cases e<;>first | rfl | (cases h)
theorem d5:∀ {es:List Expr} {pos:Pos},es.all noStar=true->(backTo pos (starEach es X.env)).any (·.1)=false
 | [],_,_=>rfl
 | e::es,pos,h=>by
  rw[List.all_cons,Bool.and_eq_true]at h
  rw[aA es h.1]
  show(false || (backTo pos (starEach es X.env)).any (·.1))=false
  rw[d5 h.2]
  rfl
theorem cA:SEs X cl [] .nil:=by
 intro pos pins s σ H Q I h
 obtain⟨σD,ds,rv,e,k⟩:=h
 rw[RL.evs]at e
 cases e
 exact dG pos pins s σ H Q I (k [] H (a6.refl H) ab.nil)
theorem bE{e:Expr}{es:List Expr}{e':RL.E}{es':RL.Es}(he:SE X cl e e')(hr:SEs X cl es es')(hn:noStar e=true):SEs X cl (e::es) (.cons e' es'):=by
 intro pos pins s σ H Q I h
 refine cb he hr (aA es hn) pos pins s σ H Q I ?_
 obtain⟨σD,ds,rv,e,k⟩:=h
 rw[RL.evs]at e
 obtain⟨d,e1,e2⟩:=bind_some e
 obtain⟨r,e3,e4⟩:=map_some e2
 subst e4
 refine⟨σD,d,rv,e1,fun v H1 r1=>⟨σD,r,rv.same r1.same,e3,fun vs H2 s2 r2=>k (v::vs) H2 (r1.same.trans s2) (ab.cons (r1.rep.same s2) r2)⟩⟩
noncomputable def eJ:RL.Es->Nat
 | .nil=>0
 | .cons _ r=>eJ r+1
theorem lS{σD:RL.St}:∀ {es:RL.Es} {ds:List RL.D},RL.evs cl σD es=some ds->ds.length=eJ es
 | .nil,ds,h=>by rw[RL.evs]at h;cases h;rfl
 | .cons e r,ds,h=>by
  rw[RL.evs]at h
  obtain⟨d,e1,e2⟩:=bind_some h
  obtain⟨t,e3,e4⟩:=map_some e2
  subst e4
  rw[List.length_cons,lS e3,eJ]
theorem CA{es:List Expr}{es':RL.Es}{x1}(h:SEs X cl es es')(hl:eJ es'<=1000):SE X cl (.Tuple es x1 pos) (.tup es'):=by
 refine PE.weak (Co h) fun σ H Q q=>?_
 obtain⟨σD,d,rv,e,k⟩:=q
 rw[RL.ev]at e
 obtain⟨ds,e1,e2⟩:=map_some e
 subst e2
 refine⟨σD,ds,rv,e1,fun vs H1 s1 r1=>⟨?_,fun p hp=>k _ _ (fh s1 hp r1 fun _=>rfl)⟩⟩
 rw[<-r1.length,lS e1]
 exact Nat.le_of_lt (oI hl)
theorem Dd{es:List Expr}{es':RL.Es}(h:SEs X cl es es')(hl:eJ es'<=1000):SE X cl (.List es pos) (.lst es'):=by
 refine PE.weak (BZ h) fun σ H Q q=>?_
 obtain⟨σD,d,rv,e,k⟩:=q
 rw[RL.ev]at e
 obtain⟨ds,e1,e2⟩:=map_some e
 subst e2
 refine⟨σD,ds,rv,e1,fun vs H1 s1 r1=>⟨?_,fun p hp=>k _ _ (dZ s1 hp r1 fun _=>rfl)⟩⟩
 rw[<-r1.length,lS e1]
 exact Nat.le_of_lt (oI hl)
theorem oF{α:Type}{xs:List α}{i:Int}{x:α}(h:RL.cj xs i=some x):atI xs i=some x:=by
 unfold RL.cj at h
 unfold atI ixN
 by_cases h0:0<=i
 ·rw[if_pos h0]at h
  rw[if_pos h0]
  obtain⟨h1,_⟩:=List.getElem?_eq_some_iff.mp h
  rw[if_pos (by lia)]
  exact h
 ·rw[if_neg h0]at h
  rw[if_neg h0]
  by_cases h1:-(xs.length:Int)<=i
  ·rw[if_pos h1]at h
   rw[if_pos h1]
   exact h
  ·rw[if_neg h1]at h
   cases h
theorem hU{P:Addr->Prop}{K:PySem.W.Frag}{H:Hp}{ds:List RL.D}{xs:List V}{i:Int}{d:RL.D}(r:ab P K H ds xs)(h:RL.cj ds i=some d):∃ x,RL.cj xs i=some x/\Rep P K H d x:=by
 unfold RL.cj at h ⊢
 rw[<-r.length]
 by_cases h0:0<=i
 ·rw[if_pos h0]at h ⊢
  exact r.get h
 ·rw[if_neg h0]at h ⊢
  by_cases h1:-(ds.length:Int)<=i
  ·rw[if_pos h1]at h ⊢
   exact r.get h
  ·rw[if_neg h1]at h
   cases h
noncomputable def lE:Expr->Bool
 | .Slice _ _ _ _=>false
 | _=>true
theorem Ak{b:Expr}(h:lE b=true):tO b:=by
 intro o i
 cases b<;>first | rfl | (cases h)
theorem vU{x y d:RL.D}(h:RL.ixV x y=some d):(∃ xs i,x=.lst xs/\y=.int i/\RL.cj xs i=some d)\/(∃ xs i,x=.tup xs/\y=.int i/\RL.cj xs i=some d) \/
  (∃ (z:Str) (i:Int) (c:Nat),x=.str z/\y=.int i/\z.length<=RL.most/\RL.cj z.cps.toList i=some c/\d=.str ⟨#[c]⟩):=by
 have no:∀ {o:Option RL.D},o=none->o=some d->False:=fun e h=>by rw[e]at h;cases h
 cases x with
 | lst xs=>cases y with
  | int i=>exact .inl ⟨xs,i,rfl,rfl,h⟩
  | _=>exact(no rfl h).elim
 | tup xs=>cases y with
  | int i=>exact .inr (.inl ⟨xs,i,rfl,rfl,h⟩)
  | _=>exact(no rfl h).elim
 | str z=>cases y with
  |int i=>
   by_cases hc:z.length<=RL.most
   ·obtain⟨c,e1,e2⟩:=map_some (show(RL.cj z.cps.toList i).map (fun c=>RL.D.str ⟨#[c]⟩)=some d from(if_pos hc).symm.trans h)
    exact .inr (.inr ⟨z,i,c,rfl,rfl,hc,e1,e2.symm⟩)
   ·exact(no (if_neg hc) h).elim
  | _=>exact(no rfl h).elim
 | _=>exact(no rfl h).elim
theorem EV(ha:SE X cl a a')(hb:SE X cl b b')(hs:lE b=true):SE X cl (.Subscript a b pos) (.ix a' b'):=by
 refine PE.weak (FQ Cq ha hb (Ak hs)) fun σ H Q h=>?_
 obtain⟨σD,d,rv,e,k⟩:=h
 rw[RL.ev]at e
 obtain⟨x,ea,e⟩:=bind_some e
 obtain⟨y,eb,e⟩:=bind_some e
 refine two rv ea eb fun v u H1 H2 s1 s2 rx ry ra rb=>?_
 have fin:∀ (w:V),Rep nP X.K H2 d w->(∀ P:Addr->Prop,Rep P X.K H2 x v->Rep P X.K H2 d w)->Res X.K σD σ H (.ix a' b') d w H2:=fun w h1 h2=>{
  same:=s1.trans s2
  rep:=h1
  fresh:=fun z=>by cases z
  av:=fun M z P hP av=>h2 P ((ra.av M z P hP av).same s2) }
 rcases vU e with⟨xs,i,rfl,rfl,hd⟩ | ⟨xs,i,rfl,rfl,hd⟩ | ⟨z,i,c,rfl,rfl,hz,hd,rfl⟩
 ·obtain⟨p,ys,rfl,_,e2,e3⟩:=aH rx
  obtain⟨w,h1,h2⟩:=hU e3 hd
  refine .inl ⟨p,ys,i,w,rfl,ag ry,SqL.of e2,oF h1,k _ _ (fin w h2 fun P rp=>?_)⟩
  obtain⟨p',ys',q1,_,q2,q3⟩:=aH rp
  cases q1
  rw[e2]at q2
  cases q2
  obtain⟨w',h3,h4⟩:=hU q3 hd
  rw[h1]at h3
  cases h3
  exact h4
 ·obtain⟨p,ys,rfl,e2,e3⟩:=bw rx
  obtain⟨w,h1,h2⟩:=hU e3 hd
  refine .inr (.inl ⟨p,ys,i,w,rfl,ag ry,SqT.of e2,oF h1,k _ _ (fin w h2 fun P rp=>?_)⟩)
  obtain⟨p',ys',q1,q2,q3⟩:=bw rp
  cases q1
  rw[e2]at q2
  cases q2
  obtain⟨w',h3,h4⟩:=hU q3 hd
  rw[h1]at h3
  cases h3
  exact h4
 ·exact .inr (.inr ⟨z,i,c,aN rx,ag ry,Nat.le_trans hz cm,oF hd,k _ _ (fin _ iH fun P _=>iH)⟩)
end rules
section rules
variable{X:Cx}{cl:RL.Cl}{a b c:Expr}{a' b' c':RL.E}{pos:Pos}
theorem gi{f:RL.D->RL.D->Option Bool}:∀ {as bs:List RL.D} {k:Bool},RL.eqs f as bs=some k ->
  ∃ e:Nat->Bool,k=(List.range (min as.length bs.length)).all e/\∀ j x y,as[j]?=some x->bs[j]?=some y->f x y=some (e j)
 | [],bs,k,h=>by
  have h:some true=some k:=by simpa[RL.eqs]using h
  cases h
  exact⟨fun _=>true,by simp,fun j x y h1=>by simp at h1⟩
 | a::r,[],k,h=>by
  have h:some true=some k:=by simpa[RL.eqs]using h
  cases h
  exact⟨fun _=>true,by simp,fun j x y h1 h2=>by simp at h2⟩
 | a::r,b::s,k,h=>by
  rw[RL.eqs]at h
  obtain⟨e0,h1,h2⟩:=bind_some h
  obtain⟨k',h3,h4⟩:=map_some h2
  obtain⟨e,h5,h6⟩:=gi h3
  refine⟨fun j=>match j with | 0=>e0 | j+1=>e j,?_,fun j x y hx hy=>?_⟩
  ·rw[<-h4,h5,List.length_cons,List.length_cons,Nat.succ_min_succ,List.range_succ_eq_map,List.all_cons,List.all_map]
   rfl
  ·cases j with
   |zero=>
    simp at hx hy
    subst hx hy
    exact h1
   | succ j=>exact h6 j x y (by simpa using hx) (by simpa using hy)
theorem fD{n:Nat}{x y:RL.D}{k:Bool}(h:RL.eqD n x y=some k):(∃ i j,x=.bl i/\y=.bl j/\(i == j)=k)\/(∃ i j,x=.int i/\y=.int j/\(i == j)=k)\/(∃ i j,x=.str i/\y=.str j/\(i == j)=k) \/
  (∃ m i j,n=m+1/\x=.tup i/\y=.tup j/\Option.map (fun k=>k&&i.length == j.length) (RL.eqs (RL.eqD m) i j)=some k)\/(∃ m i j,n=m+1/\x=.lst i/\y=.lst j/\Option.map (fun k=>k&&i.length == j.length) (RL.eqs (RL.eqD m) i j)=some k):=by
 cases n with
 | zero=>cases x with
  | bl i=>cases y with
   | bl j=>exact .inl ⟨i,j,rfl,rfl,Option.some.inj h⟩
   | _=>exact noN rfl h
  | int i=>cases y with
   | int j=>exact .inr (.inl ⟨i,j,rfl,rfl,Option.some.inj h⟩)
   | _=>exact noN rfl h
  | str i=>cases y with
   | str j=>exact .inr (.inr (.inl ⟨i,j,rfl,rfl,Option.some.inj h⟩))
   | _=>exact noN rfl h
  | _=>exact noN rfl h
 | succ m=>cases x with
  | bl i=>cases y with
   | bl j=>exact .inl ⟨i,j,rfl,rfl,Option.some.inj h⟩
   | _=>exact noN rfl h
  | int i=>cases y with
   | int j=>exact .inr (.inl ⟨i,j,rfl,rfl,Option.some.inj h⟩)
   | _=>exact noN rfl h
  | str i=>cases y with
   | str j=>exact .inr (.inr (.inl ⟨i,j,rfl,rfl,Option.some.inj h⟩))
   | _=>exact noN rfl h
  | tup i=>cases y with
   | tup j=>exact .inr (.inr (.inr (.inl ⟨m,i,j,rfl,rfl,rfl,h⟩)))
   | _=>exact noN rfl h
  | lst i=>cases y with
   | lst j=>exact .inr (.inr (.inr (.inr ⟨m,i,j,rfl,rfl,rfl,h⟩)))
   | _=>exact noN rfl h
  | _=>exact noN rfl h
theorem oR{K:PySem.W.Frag}{H:Hp}:∀ (n:Nat) (x y:RL.D) (v:V) (k:Bool),Rep nP K H x v->Rep nP K H y v->RL.eqD n x y=some k->k=true:=by
 intro n
 induction n with
 |zero=>
  intro x y v k rx ry h
  rcases fD h with⟨i,j,rfl,rfl,rfl⟩ | ⟨i,j,rfl,rfl,rfl⟩ | ⟨i,j,rfl,rfl,rfl⟩ | ⟨m,i,j,hn,hx,hy,h⟩ | ⟨m,i,j,hn,hx,hy,h⟩
  ·have:=aX rx;rw[aX ry]at this;cases this;simp
  ·have:=ag rx;rw[ag ry]at this;cases this;simp
  ·have:=aN rx;rw[aN ry]at this;cases this;simp
  ·cases hn
  ·cases hn
 |succ n ih=>
  intro x y v k rx ry h
  have seq:∀ (i j:List RL.D) (xs:List V) (k:Bool),ab nP K H i xs->ab nP K H j xs->Option.map (fun k=>k&&i.length == j.length) (RL.eqs (RL.eqD n) i j)=some k->k=true:=by
   intro i j xs k e3 f3 h
   obtain⟨k',h1,h2⟩:=map_some h
   obtain⟨e,h3,h4⟩:=gi h1
   have hl:i.length=j.length:=e3.length.trans f3.length.symm
   have hk:k'=true:=by
    rw[h3,List.all_eq_true]
    intro m hm
    rw[List.mem_range]at hm
    obtain⟨w,w1,w2⟩:=e3.get (i:=m) (d:=i[m]'(by lia)) (by simp)
    obtain⟨w',w1',w2'⟩:=f3.get (i:=m) (d:=j[m]'(by lia)) (by simp)
    rw[w1]at w1'
    cases w1'
    exact ih _ _ w (e m) w2 w2' (h4 m _ _ (by simp) (by simp))
   rw[<-h2,hk,hl]
   simp
  rcases fD h with⟨i,j,rfl,rfl,rfl⟩ | ⟨i,j,rfl,rfl,rfl⟩ | ⟨i,j,rfl,rfl,rfl⟩ | ⟨m,i,j,hn,hx,hy,h⟩ | ⟨m,i,j,hn,hx,hy,h⟩
  ·have:=aX rx;rw[aX ry]at this;cases this;simp
  ·have:=ag rx;rw[ag ry]at this;cases this;simp
  ·have:=aN rx;rw[aN ry]at this;cases this;simp
  ·cases hn;subst hx;subst hy
   obtain⟨p,xs,rfl,e2,e3⟩:=bw rx
   obtain⟨q,ys,q1,f2,f3⟩:=bw ry
   cases q1
   rw[e2]at f2
   cases f2
   exact seq i j xs k e3 f3 h
  ·cases hn;subst hx;subst hy
   obtain⟨p,xs,rfl,_,e2,e3⟩:=aH rx
   obtain⟨q,ys,q1,_,f2,f3⟩:=aH ry
   cases q1
   rw[e2]at f2
   cases f2
   exact seq i j xs k e3 f3 h
open SeqAt in
theorem deep{pins:List (Addr × Obj)}{σ:L2.St}{H:Hp}{s:Shared}(I:Inv X pins σ H s):∀ (n:Nat) (A:Around) (x y:RL.D) (v u:V) (va ua:Value) (k:Bool),A.units+n<cLine->Rep nP X.K H x v->Rep nP X.K H y u->RelV v va->RelV u ua ->
  RL.eqD n x y=some k->RcAt A s va ua k/\EqAt A s va ua k:=by
 intro n
 induction n with
 |zero=>
  intro A x y v u va ua k hu rx ry qx qy h
  rcases fD h with⟨i,j,rfl,rfl,rfl⟩ | ⟨i,j,rfl,rfl,rfl⟩ | ⟨i,j,rfl,rfl,rfl⟩ | ⟨m,i,j,hn,hx,hy,h⟩ | ⟨m,i,j,hn,hx,hy,h⟩
  ·rw[aX rx]at qx;rw[aX ry]at qy;cases qx;cases qy;exact⟨RcAt.bool_bool i j,EqAt.bool_bool i j⟩
  ·rw[ag rx]at qx;rw[ag ry]at qy;obtain⟨t,rfl⟩:=qx;obtain⟨t',rfl⟩:=qy;exact⟨RcAt.int_int i t j t',EqAt.int_int i t j t'⟩
  ·rw[aN rx]at qx;rw[aN ry]at qy;obtain⟨t,rfl⟩:=qx;obtain⟨t',rfl⟩:=qy;exact⟨RcAt.str_str i t j t',EqAt.str_str i t j t'⟩
  ·cases hn
  ·cases hn
 |succ n ih=>
  intro A x y v u va ua k hu rx ry qx qy h
  rcases fD h with⟨i,j,rfl,rfl,rfl⟩ | ⟨i,j,rfl,rfl,rfl⟩ | ⟨i,j,rfl,rfl,rfl⟩ | ⟨m,i,j,hn,hx,hy,h⟩ | ⟨m,i,j,hn,hx,hy,h⟩
  ·rw[aX rx]at qx;rw[aX ry]at qy;cases qx;cases qy;exact⟨RcAt.bool_bool i j,EqAt.bool_bool i j⟩
  ·rw[ag rx]at qx;rw[ag ry]at qy;obtain⟨t,rfl⟩:=qx;obtain⟨t',rfl⟩:=qy;exact⟨RcAt.int_int i t j t',EqAt.int_int i t j t'⟩
  ·rw[aN rx]at qx;rw[aN ry]at qy;obtain⟨t,rfl⟩:=qx;obtain⟨t',rfl⟩:=qy;exact⟨RcAt.str_str i t j t',EqAt.str_str i t j t'⟩
  ·cases hn;subst hx;subst hy
   obtain⟨p,xs,rfl,e2,e3⟩:=bw rx
   obtain⟨q,ys,rfl,f2,f3⟩:=bw ry
   cases qx;cases qy
   obtain⟨its,r1,t1,z1⟩:=I.tuple (SqT.of e2)
   obtain⟨jts,r2,t2,z2⟩:=I.tuple (SqT.of f2)
   obtain⟨k',h1,h2⟩:=map_some h
   obtain⟨e,h3,h4⟩:=gi h1
   have l1:i.length=its.length:=e3.length.trans r1.length
   have l2:j.length=jts.length:=f3.length.trans r2.length
   have he:∀ m (g1:m<its.toArray.size) (g2:m<jts.toArray.size),EqAt A.in1 s its.toArray[m] jts.toArray[m] (e m):=fun m g1 g2=>by
    rw[List.size_toArray]at g1 g2
    obtain⟨w,w1,w2⟩:=e3.get (i:=m) (d:=i[m]'(by lia)) (by simp)
    obtain⟨w',w1',w2'⟩:=f3.get (i:=m) (d:=j[m]'(by lia)) (by simp)
    obtain⟨uu,b1,b2⟩:=r1.get w1
    obtain⟨uu',b1',b2'⟩:=r2.get w1'
    have c1:its.toArray[m]=uu:=by simpa using(List.getElem?_eq_some_iff.mp b1).2
    have c2:jts.toArray[m]=uu':=by simpa using(List.getElem?_eq_some_iff.mp b1').2
    rw[c1,c2]
    exact(ih A.in1 _ _ w w' uu uu' (e m) (by show A.units+1+n<cLine;lia) w2 w2' b2 b2' (h4 m _ _ (by simp) (by simp))).2
   have main:RcAt A s (.ref p) (.ref q) k:=by
    have z:=RcAt.tuples (e:=e) t1 t2 (by lia) he
    rw[List.size_toArray,List.size_toArray,<-l1,<-l2,<-h3,h2]at z
    exact z
   refine⟨main,?_⟩
   by_cases z:p=q
   ·subst z
    rw[oR (n+1) _ _ _ k rx ry h]
    exact EqAt.same _
   ·exact EqAt.of_refs z main
  ·cases hn;subst hx;subst hy
   obtain⟨p,xs,rfl,_,e2,e3⟩:=aH rx
   obtain⟨q,ys,rfl,_,f2,f3⟩:=aH ry
   cases qx;cases qy
   obtain⟨its,r1,t1,z1⟩:=I.list (SqL.of e2)
   obtain⟨jts,r2,t2,z2⟩:=I.list (SqL.of f2)
   obtain⟨k',h1,h2⟩:=map_some h
   obtain⟨e,h3,h4⟩:=gi h1
   have l1:i.length=its.length:=e3.length.trans r1.length
   have l2:j.length=jts.length:=f3.length.trans r2.length
   have he:∀ m (g1:m<its.toArray.size) (g2:m<jts.toArray.size),EqAt A.in1 s its.toArray[m] jts.toArray[m] (e m):=fun m g1 g2=>by
    rw[List.size_toArray]at g1 g2
    obtain⟨w,w1,w2⟩:=e3.get (i:=m) (d:=i[m]'(by lia)) (by simp)
    obtain⟨w',w1',w2'⟩:=f3.get (i:=m) (d:=j[m]'(by lia)) (by simp)
    obtain⟨uu,b1,b2⟩:=r1.get w1
    obtain⟨uu',b1',b2'⟩:=r2.get w1'
    have c1:its.toArray[m]=uu:=by simpa using(List.getElem?_eq_some_iff.mp b1).2
    have c2:jts.toArray[m]=uu':=by simpa using(List.getElem?_eq_some_iff.mp b1').2
    rw[c1,c2]
    exact(ih A.in1 _ _ w w' uu uu' (e m) (by show A.units+1+n<cLine;lia) w2 w2' b2 b2' (h4 m _ _ (by simp) (by simp))).2
   have main:RcAt A s (.ref p) (.ref q) k:=by
    by_cases hl:its.length=jts.length
    ·have z:=RcAt.lists (e:=e) t1.isList t2.isList (by rw[List.size_toArray,List.size_toArray];exact hl) (by lia) he
     rw[List.size_toArray]at z
     have hk:k=(List.range its.length).all e:=by
      rw[<-h2,h3,l1,l2,hl]
      simp
     rw[hk]
     exact z
    ·have hk:k=false:=by
      rw[<-h2,l1,l2]
      simp[hl]
     rw[hk]
     exact RcAt.lists_lengths t1.isList t2.isList (by rw[List.size_toArray,List.size_toArray];simpa using hl) (by lia)
   refine⟨main,?_⟩
   by_cases z:p=q
   ·subst z
    rw[oR (n+1) _ _ _ k rx ry h]
    exact EqAt.same _
   ·exact EqAt.of_refs z main
end rules
section rules
variable{X:Cx}{cl:RL.Cl}{a b c:Expr}{a' b' c':RL.E}{pos:Pos}
open SeqAt in
theorem BK{pins:List (Addr × Obj)}{σ:L2.St}{H:Hp}{s:Shared}(I:Inv X pins σ H s)(n:Nat)(A:Around)(x y:RL.D)(v u:V)(va ua:Value)(k:Bool)(hu:A.units+n<cLine)(rx:Rep nP X.K H x v)(ry:Rep nP X.K H y u)(qx:RelV v va)(qy:RelV u ua)
 (h:RL.eqD n x y=some k):RcNeAt A s va ua (!k):=by
 rcases fD h with⟨i,j,rfl,rfl,rfl⟩ | ⟨i,j,rfl,rfl,rfl⟩ | ⟨i,j,rfl,rfl,rfl⟩ | ⟨nn,i,j,hn,hx,hy,h⟩ | ⟨nn,i,j,hn,hx,hy,h⟩
 ·rw[aX rx]at qx;rw[aX ry]at qy;cases qx;cases qy;exact RcNeAt.bool_bool i j
 ·rw[ag rx]at qx;rw[ag ry]at qy;obtain⟨t,rfl⟩:=qx;obtain⟨t',rfl⟩:=qy;exact RcNeAt.int_int i t j t'
 ·rw[aN rx]at qx;rw[aN ry]at qy;obtain⟨t,rfl⟩:=qx;obtain⟨t',rfl⟩:=qy;exact RcNeAt.str_str i t j t'
 ·subst hn;subst hx;subst hy
  obtain⟨p,xs,rfl,e2,e3⟩:=bw rx
  obtain⟨q,ys,rfl,f2,f3⟩:=bw ry
  cases qx;cases qy
  obtain⟨its,r1,t1,z1⟩:=I.tuple (SqT.of e2)
  obtain⟨jts,r2,t2,z2⟩:=I.tuple (SqT.of f2)
  obtain⟨k',h1,h2⟩:=map_some h
  obtain⟨e,h3,h4⟩:=gi h1
  have l1:i.length=its.length:=e3.length.trans r1.length
  have l2:j.length=jts.length:=f3.length.trans r2.length
  have he:∀ m (g1:m<its.toArray.size) (g2:m<jts.toArray.size),EqAt A.in1 s its.toArray[m] jts.toArray[m] (e m):=fun m g1 g2=>by
   rw[List.size_toArray]at g1 g2
   obtain⟨w,w1,w2⟩:=e3.get (i:=m) (d:=i[m]'(by lia)) (by simp)
   obtain⟨w',w1',w2'⟩:=f3.get (i:=m) (d:=j[m]'(by lia)) (by simp)
   obtain⟨uu,b1,b2⟩:=r1.get w1
   obtain⟨uu',b1',b2'⟩:=r2.get w1'
   have c1:its.toArray[m]=uu:=by simpa using(List.getElem?_eq_some_iff.mp b1).2
   have c2:jts.toArray[m]=uu':=by simpa using(List.getElem?_eq_some_iff.mp b1').2
   rw[c1,c2]
   exact(deep I nn A.in1 _ _ w w' uu uu' (e m) (by show A.units+1+nn<cLine;lia) w2 w2' b2 b2' (h4 m _ _ (by simp) (by simp))).2
  have z:=RcNeAt.tuples (e:=e) t1 t2 (by lia) he
  rw[List.size_toArray,List.size_toArray,<-l1,<-l2,<-h3,h2]at z
  exact z
 ·subst hn;subst hx;subst hy
  obtain⟨p,xs,rfl,_,e2,e3⟩:=aH rx
  obtain⟨q,ys,rfl,_,f2,f3⟩:=aH ry
  cases qx;cases qy
  obtain⟨its,r1,t1,z1⟩:=I.list (SqL.of e2)
  obtain⟨jts,r2,t2,z2⟩:=I.list (SqL.of f2)
  obtain⟨k',h1,h2⟩:=map_some h
  obtain⟨e,h3,h4⟩:=gi h1
  have l1:i.length=its.length:=e3.length.trans r1.length
  have l2:j.length=jts.length:=f3.length.trans r2.length
  have he:∀ m (g1:m<its.toArray.size) (g2:m<jts.toArray.size),EqAt A.in1 s its.toArray[m] jts.toArray[m] (e m):=fun m g1 g2=>by
   rw[List.size_toArray]at g1 g2
   obtain⟨w,w1,w2⟩:=e3.get (i:=m) (d:=i[m]'(by lia)) (by simp)
   obtain⟨w',w1',w2'⟩:=f3.get (i:=m) (d:=j[m]'(by lia)) (by simp)
   obtain⟨uu,b1,b2⟩:=r1.get w1
   obtain⟨uu',b1',b2'⟩:=r2.get w1'
   have c1:its.toArray[m]=uu:=by simpa using(List.getElem?_eq_some_iff.mp b1).2
   have c2:jts.toArray[m]=uu':=by simpa using(List.getElem?_eq_some_iff.mp b1').2
   rw[c1,c2]
   exact(deep I nn A.in1 _ _ w w' uu uu' (e m) (by show A.units+1+nn<cLine;lia) w2 w2' b2 b2' (h4 m _ _ (by simp) (by simp))).2
  by_cases hl:its.length=jts.length
  ·have z:=RcNeAt.lists (e:=e) t1.isList t2.isList (by rw[List.size_toArray,List.size_toArray];exact hl) (by lia) he
   rw[List.size_toArray]at z
   have hk:k=(List.range its.length).all e:=by
    rw[<-h2,h3,l1,l2,hl]
    simp
   rw[hk]
   exact z
  ·have hk:k=false:=by
    rw[<-h2,l1,l2]
    simp[hl]
   rw[hk]
   exact RcNeAt.lists_lengths t1.isList t2.isList (by rw[List.size_toArray,List.size_toArray];simpa using hl) (by lia)
noncomputable def dk:RL.Cop->CmpOp
 | .lt=>.Lt
 | .le=>.LtE
 | .gt=>.Gt
 | .ge=>.GtE
 | .eq=>.Eq
 | .ne=>.NotEq
noncomputable def uo(K:PySem.W.Frag)(c:RL.Cop):R2:=fun v u H Q=>∃ x y k,Rep nP K H x v/\Rep nP K H y u/\RL.bc c x y=some k/\Q (.bl k) H
theorem iT{c:RL.Cop}(hc:c≠.eq)(hc2:c≠.ne){x y:RL.D}{k:Bool}(h:RL.bc c x y=some k):∃ i j,x=.int i/\y=.int j:=by
 have no:∀ {a b:RL.D},RL.bc .lt a b=none->RL.bc .le a b=none->RL.bc .gt a b=none->RL.bc .ge a b=none->RL.bc c a b=some k->False:=fun e1 e2 e3 e4 h=>by
  cases c with
  | eq=>exact hc rfl
  | ne=>exact hc2 rfl
  | lt=>rw[e1]at h;cases h
  | le=>rw[e2]at h;cases h
  | gt=>rw[e3]at h;cases h
  | ge=>rw[e4]at h;cases h
 cases x with
 | int i=>cases y with
  | int j=>exact⟨_,_,rfl,rfl⟩
  | _=>exact(no rfl rfl rfl rfl h).elim
 | _=>exact(no rfl rfl rfl rfl h).elim
theorem iO{c:RL.Cop}(hu:X.A.units+100<cLine):OpR X (compareOp (dk c)) (uo X.K c):=by
 intro pins s σ H x y v u Q I rx ry h
 obtain⟨dx,dy,k,ex,ey,e,q⟩:=h
 have fin:EP X pins σ Q (.bool k) s:=⟨.bl k,H,I,rfl,q⟩
 cases c with
 |eq=>
  have e:RL.eqD 8 dx dy=some k:=e
  exact(deep I 8 X.A dx dy x y v u k (by lia) ex ey rx ry e).1 X.prog X.w X.xe _ fin
 |ne=>
  obtain⟨k',e1,e2⟩:=map_some (show(RL.eqD 8 dx dy).map not=some k from e)
  subst e2
  exact BK I 8 X.A dx dy x y v u k' (by lia) ex ey rx ry e1 X.prog X.w X.xe _ fin
 |lt=>
  obtain⟨i,j,rfl,rfl⟩:=iT (by decide) (by decide) e
  cases e
  rw[ag ex]at rx;rw[ag ey]at ry
  obtain⟨t,rfl⟩:=rx;obtain⟨t',rfl⟩:=ry
  exact lt_int fin
 |le=>
  obtain⟨i,j,rfl,rfl⟩:=iT (by decide) (by decide) e
  cases e
  rw[ag ex]at rx;rw[ag ey]at ry
  obtain⟨t,rfl⟩:=rx;obtain⟨t',rfl⟩:=ry
  exact le_int fin
 |gt=>
  obtain⟨i,j,rfl,rfl⟩:=iT (by decide) (by decide) e
  cases e
  rw[ag ex]at rx;rw[ag ey]at ry
  obtain⟨t,rfl⟩:=rx;obtain⟨t',rfl⟩:=ry
  exact gt_int fin
 |ge=>
  obtain⟨i,j,rfl,rfl⟩:=iT (by decide) (by decide) e
  cases e
  rw[ag ex]at rx;rw[ag ey]at ry
  obtain⟨t,rfl⟩:=rx;obtain⟨t',rfl⟩:=ry
  exact ge_int fin
theorem j2{c:RL.Cop}(b:Expr):behindInMarks (dk c) b=false:=by cases c<;>exact r8 b
theorem vT{c:RL.Cop}{σ:L2.St}{H:Hp}{Q:VK}(h:∃ σD d,RV0 X.K σD σ H/\RL.ev cl σD (.cmp c a' b')=some d/\∀ H',a6 H H'->∃ k,d=.bl k/\Q (.bl k) H'):tOp (uo X.K c) (tE X.K cl a') (tE X.K cl b') σ H Q:=by
 obtain⟨σD,d,rv,e,k⟩:=h
 rw[RL.ev]at e
 obtain⟨x,ea,e⟩:=bind_some e
 obtain⟨y,eb,e⟩:=bind_some e
 obtain⟨t,e1,e2⟩:=map_some e
 refine two rv ea eb fun v u H1 H2 s1 s2 rx ry _ _=>?_
 obtain⟨k',h1,h2⟩:=k H2 (s1.trans s2)
 rw[h1]at e2
 cases e2
 exact⟨x,y,t,rx,ry,e1,h2⟩
theorem oT{c:RL.Cop}{σD:RL.St}{d:RL.D}(e:RL.ev cl σD (.cmp c a' b')=some d):∃ k,d=.bl k:=by
 rw[RL.ev]at e
 obtain⟨x,ea,e⟩:=bind_some e
 obtain⟨y,eb,e⟩:=bind_some e
 obtain⟨t,e1,e2⟩:=map_some e
 exact⟨t,e2.symm⟩
theorem DH{c:RL.Cop}(hu:X.A.units+100<cLine)(ha:SE X cl a a')(hb:SE X cl b b'):SE X cl (.Compare a [dk c] [b] pos) (.cmp c a' b'):=by
 refine PE.weak (oC (iO hu) ha hb (j2 b)) fun σ H Q h=>?_
 obtain⟨σD,d,rv,e,k⟩:=h
 obtain⟨t,rfl⟩:=oT e
 exact vT ⟨σD,_,rv,e,fun H' sm=>⟨t,rfl,k _ _ (dD sm)⟩⟩
theorem CL{c:RL.Cop}(hu:X.A.units+100<cLine)(ha:SE X cl a a')(hb:SE X cl b b'):ST X cl (.Compare a [dk c] [b] pos) (.cmp c a' b'):=by
 refine PT.weak (k8 (iO hu) ha hb (j2 b)) fun σ H Q h=>?_
 obtain⟨σD,k,rv,e,q⟩:=h
 obtain⟨d,e1,e2⟩:=bind_some e
 obtain⟨t,rfl⟩:=oT e1
 cases e2
 exact vT ⟨σD,_,rv,e1,fun H' sm=>⟨k,rfl,k,rfl,q H' sm⟩⟩
theorem zF{c c':RL.Cop}(b e:Expr):lastMarks [dk c,dk c'] [b,e]=false:=by
 show behindInMarks (dk c') e=false
 exact j2 e
variable{e:Expr}{e':RL.E}
theorem lB{c c':RL.Cop}{σD:RL.St}{d:RL.D}(h:RL.ev cl σD (.chain c c' a' b' e')=some d):∃ k,d=.bl k:=by
 rw[RL.ev]at h
 obtain⟨x,ea,h⟩:=bind_some h
 obtain⟨y,eb,h⟩:=bind_some h
 obtain⟨t,e1,h⟩:=bind_some h
 cases t with
 |true=>
  obtain⟨z,ec,h⟩:=bind_some (show(RL.ev cl σD e').bind _=some d from h)
  obtain⟨t,e1,e2⟩:=map_some h
  exact⟨t,e2.symm⟩
 | false=>exact⟨false,(Option.some.inj (show some (RL.D.bl false)=some d from h)).symm⟩
theorem qk{c c':RL.Cop}{σ:L2.St}{H:Hp}{Q:VK}(h:∃ σD k,RV0 X.K σD σ H/\RL.ev cl σD (.chain c c' a' b' e')=some (.bl k)/\∀ H',a6 H H'->Q (.bl k) H') :
  rj (uo X.K c) (uo X.K c') (tE X.K cl a') (tE X.K cl b') (tE X.K cl e') σ H Q:=by
 obtain⟨σD,k,rv,h,q⟩:=h
 rw[RL.ev]at h
 obtain⟨x,ea,h⟩:=bind_some h
 obtain⟨y,eb,h⟩:=bind_some h
 obtain⟨t,e1,h⟩:=bind_some h
 refine two rv ea eb fun v u H1 H2 s1 s2 rx ry _ _=>?_
 refine⟨x,y,t,rx,ry,e1,t,rfl,?_⟩
 have sm:=s1.trans s2
 cases t with
 |true=>
  rw[if_pos rfl]at h
  obtain⟨z,ec,h⟩:=bind_some h
  obtain⟨t,e3,e2⟩:=map_some h
  cases e2
  exact eZ ⟨σD,z,rv.same sm,ec,fun w H3 r3=>⟨y,z,k,ry.same r3.same,r3.rep,e3,q H3 (sm.trans r3.same)⟩⟩
 |false=>
  rw[if_neg (by decide)]at h
  cases h
  exact fM (q H2 sm)
theorem x4{c c':RL.Cop}(hu:X.A.units+100<cLine)(ha:SE X cl a a')(hb:SE X cl b b')(he:SE X cl e e'):SE X cl (.Compare a [dk c,dk c'] [b,e] pos) (.chain c c' a' b' e'):=by
 refine PE.weak (yZ (iO hu) (iO hu) ha hb he (zF b e)) fun σ H Q h=>?_
 obtain⟨σD,d,rv,h,k⟩:=h
 obtain⟨t,rfl⟩:=lB h
 exact qk ⟨σD,t,rv,h,fun H' sm=>k _ _ (dD sm)⟩
theorem xP{c c':RL.Cop}(hu:X.A.units+100<cLine)(ha:SE X cl a a')(hb:SE X cl b b')(he:SE X cl e e'):ST X cl (.Compare a [dk c,dk c'] [b,e] pos) (.chain c c' a' b' e'):=by
 refine PT.weak (zj (iO hu) (iO hu) ha hb he (zF b e)) fun σ H Q h=>?_
 obtain⟨σD,k,rv,h,q⟩:=h
 obtain⟨d,e1,e2⟩:=bind_some h
 obtain⟨t,rfl⟩:=lB e1
 cases e2
 exact qk ⟨σD,k,rv,e1,fun H' sm=>⟨k,rfl,q H' sm⟩⟩
end rules
section rules
variable{X:Cx}{cl:RL.Cl}{a b c:Expr}{a' b' c':RL.E}{pos:Pos}
theorem oX{neg:Bool}(b:Expr):behindInMarks (if neg then .IsNot else .Is) b=false:=by cases neg<;>exact r8 b
theorem t8{neg:Bool}:OpR X (compareOp (if neg then .IsNot else .Is)) (fun x y H Q=>y=.non/\Q (.bl (if neg then !decide (x=.non)else decide (x=.non))) H):=by
 cases neg with
 | true=>exact Bd
 | false=>exact Cr
theorem xj{neg:Bool}{σD:RL.St}{d:RL.D}(h:RL.ev cl σD (.isN neg a')=some d):∃ x,RL.ev cl σD a'=some x/\∀ v (H:Hp),Rep nP X.K H x v->d=.bl (if neg then !decide (v=.non)else decide (v=.non)):=by
 rw[RL.ev]at h
 obtain⟨x,ea,h⟩:=bind_some h
 refine⟨x,ea,fun v H r=>?_⟩
 cases x with
 | non=>cases h;rw[Rep]at r;subst r;cases neg<;>rfl
 | bl k=>cases h;rw[aX r];cases neg<;>rfl
 | int k=>cases h;rw[ag r];cases neg<;>rfl
 | str k=>cases h;rw[aN r];cases neg<;>rfl
 | tup k=>cases h;obtain⟨p,xs,rfl,_⟩:=bw r;cases neg<;>rfl
 | lst k=>cases h;obtain⟨p,xs,rfl,_⟩:=aH r;cases neg<;>rfl
 | scr k=>cases h;rw[Rep]at r;obtain⟨p,xs,rfl,_⟩:=r;cases neg<;>rfl
 | dK _ _=>cases h
 | dT _ _=>cases h
theorem Cm{neg:Bool}{j:Nat}{p:Pos}(ha:SE X cl a a'):SE X cl (.Compare a [if neg then .IsNot else .Is] [.Constant .none j p] pos) (.isN neg a'):=by
 refine PE.weak (oC t8 ha qE (oX _)) fun σ H Q h=>?_
 obtain⟨σD,d,rv,e,q⟩:=h
 obtain⟨x,ea,hx⟩:=xj (X:=X) e
 refine⟨σD,_,rv,ea,fun v H1 r1=>⟨rfl,?_⟩⟩
 have hd:=hx v H1 r1.rep
 subst hd
 exact q _ _ (dD r1.same)
theorem DB{neg:Bool}{j:Nat}{p:Pos}(ha:SE X cl a a'):ST X cl (.Compare a [if neg then .IsNot else .Is] [.Constant .none j p] pos) (.isN neg a'):=by
 refine PT.weak (k8 t8 ha qE (oX _)) fun σ H Q h=>?_
 obtain⟨σD,k,rv,e,q⟩:=h
 obtain⟨d,e1,e2⟩:=bind_some e
 obtain⟨x,ea,hx⟩:=xj (X:=X) e1
 refine⟨σD,_,rv,ea,fun v H1 r1=>⟨rfl,?_⟩⟩
 have hd:=hx v H1 r1.rep
 subst hd
 cases e2
 exact⟨_,rfl,q _ r1.same⟩
theorem fk{P:Addr->Prop}{K:PySem.W.Frag}{H:Hp}{d:RL.D}{ds:List RL.D}{v:V}(h:RL.items d=some ds)(r:Rep P K H d v):∃ p xs,v=.ref p/\((H p=some (.lst xs)/\d=.lst ds)\/(H p=some (.tup xs)/\d=.tup ds))/\ab P K H ds xs:=by
 cases d<;>simp only[RL.items]at h<;>first | (cases h;done) | skip
 case lst ys=>cases h;obtain⟨p,xs,e1,_,e2,e3⟩:=aH r;exact⟨p,xs,e1,.inl ⟨e2,rfl⟩,e3⟩
 case tup ys=>cases h;obtain⟨p,xs,e1,e2,e3⟩:=bw r;exact⟨p,xs,e1,.inr ⟨e2,rfl⟩,e3⟩
theorem sP{P:Addr->Prop}{K:PySem.W.Frag}{H:Hp}{d:RL.D}{v:V}(h:RL.flat d=true)(r:Rep P K H d v):fA v=true/\∀ d' v',RL.flat d'=true->Rep P K H d' v'->RL.eqF d d'=eqV v v':=by
 cases d<;>simp only[RL.flat]at h<;>first | (cases h;done) | skip
 case int i =>
  rw[ag r]
  refine⟨rfl,fun d' v' h' r'=>?_⟩
  cases d'<;>simp only[RL.flat]at h'<;>first | (cases h';done) | skip
  case int j=>rw[ag r'];simp[RL.eqF,eqV]
  case str j=>rw[aN r'];simp[RL.eqF,eqV]
 case str i =>
  rw[aN r]
  refine⟨rfl,fun d' v' h' r'=>?_⟩
  cases d'<;>simp only[RL.flat]at h'<;>first | (cases h';done) | skip
  case int j=>rw[ag r'];simp[RL.eqF,eqV]
  case str j=>rw[aN r'];simp[RL.eqF,eqV]
theorem qF{P:Addr->Prop}{K:PySem.W.Frag}{H:Hp}{d:RL.D}{v:V}(hf:RL.flat d=true)(r:Rep P K H d v):∀ {ds:List RL.D} {xs:List V},ds.all RL.flat=true->ab P K H ds xs->xs.all fA=true/\(ds.any fun x=>RL.eqF x d)=inV v xs
 | [],xs,_,h=>by rw[ab]at h;subst h;exact⟨rfl,rfl⟩
 | e::t,xs,ha,h=>by
  rw[ab]at h
  obtain⟨x,ys,rfl,e2,e3⟩:=h
  rw[List.all_cons,Bool.and_eq_true]at ha
  obtain⟨h1,h2⟩:=qF hf r ha.2 e3
  obtain⟨h3,h4⟩:=sP ha.1 e2
  refine⟨by rw[List.all_cons,h3,h1];rfl,?_⟩
  rw[List.any_cons,h2,h4 d v hf r]
  rfl
theorem vN{neg:Bool}:OpR X (compareOp (if neg then .NotIn else .In)) (rIn X.K neg):=by
 cases neg with
 | true=>exact qO
 | false=>exact vp
theorem vt{neg:Bool}{σ:L2.St}{H:Hp}{Q:VK}{σD:RL.St}{d:RL.D}(rv:RV0 X.K σD σ H)(e:RL.ev cl σD (.inn neg a' b')=some d)(k:∀ t H',d=.bl t->a6 H H'->Q (.bl t) H'):tOp (rIn X.K neg) (tE X.K cl a') (tE X.K cl b') σ H Q:=by
 rw[RL.ev]at e
 obtain⟨x,ea,e⟩:=bind_some e
 obtain⟨y,eb,e⟩:=bind_some e
 obtain⟨t,e1,e2⟩:=map_some e
 unfold RL.inV at e1
 obtain⟨ds,e3,e4⟩:=bind_some e1
 by_cases hc:(RL.flat x&&ds.all RL.flat)=true
 ·rw[if_pos hc]at e4
  cases e4
  rw[Bool.and_eq_true]at hc
  refine two rv ea eb fun v u H1 H2 s1 s2 rx ry _ _=>?_
  obtain⟨p,xs,rfl,hp,rs⟩:=fk e3 ry
  obtain⟨h1,h2⟩:=qF hc.1 rx hc.2 rs
  refine⟨p,xs,rfl,?_,(sP hc.1 rx).1,h1,?_⟩
  ·rcases hp with⟨z,_⟩ | ⟨z,_⟩
   ·exact .inl (SqL.of z)
   ·exact .inr (SqT.of z)
  ·refine k _ _ ?_ (s1.trans s2)
   rw[<-e2,h2]
 ·rw[if_neg hc]at e4
  cases e4
noncomputable def lN:Expr->Bool
 | .Set _ _ _=>false
 | _=>true
theorem hW{op:CmpOp}{b:Expr}(h:lN b=true):behindInMarks op b=false:=by
 cases b<;>first | rfl | (cases h)
theorem Ey{neg:Bool}(ha:SE X cl a a')(hb:SE X cl b b')(hm:lN b=true):SE X cl (.Compare a [if neg then .NotIn else .In] [b] pos) (.inn neg a' b'):=by
 refine PE.weak (oC vN ha hb (hW hm)) fun σ H Q h=>?_
 obtain⟨σD,d,rv,e,q⟩:=h
 exact vt rv e fun t H' hd sm=>by subst hd;exact q _ _ (dD sm)
theorem C1{neg:Bool}(ha:SE X cl a a')(hb:SE X cl b b')(hm:lN b=true):ST X cl (.Compare a [if neg then .NotIn else .In] [b] pos) (.inn neg a' b'):=by
 refine PT.weak (k8 vN ha hb (hW hm)) fun σ H Q h=>?_
 obtain⟨σD,k,rv,e,q⟩:=h
 obtain⟨d,e1,e2⟩:=bind_some e
 refine vt rv e1 fun t H' hd sm=>?_
 subst hd
 cases e2
 exact⟨_,rfl,q _ sm⟩
noncomputable def spF(K:PySem.W.Frag)(cl:RL.Cl)(f:Nat):Sp:=fun vs H Q _=>∃ ds d,ab nP K H ds vs/\cl f ds=some d/\∀ v H',a6 H H'->Rep (fun p=>H p≠none) K H' d v->Q v H'
theorem AE{es:List Expr}{e:Expr}{es':RL.Es}{e':RL.E}{f:Nat}{x:Str}{p:Pos}{k:Nat}{fa:Addr}{fd:FuncData}{ps:List Str}(F:ij X.prog X.w X.K X.mg X.base CX0 k fa fd ps (spF X.K cl f))(hr:dS k X.A)(hg:Gl X x)
 (hm:X.mg x=some (.ref fa))(hk:PySem.W.keepIn X.K (.ref fa)=true)(hb:Binds X.K fd ps [])(he:SEs X cl (e::es) (.cons e' es'))(hdb:(x == ("__debug__" : Str))=false)(hn:noStar e=true)(hns:es.all noStar=true) :
  SE X cl (.Call (.Name x p) (e::es) [] pos) (.call f (.cons e' es')):=by
 refine PE.weak (sY F hr hg hm hk hb .nil zW he hdb (aA es hn) (d5 hns)) fun σ H Q h=>?_
 obtain⟨σD,d,rv,ev,q⟩:=h
 rw[RL.ev]at ev
 obtain⟨ds,e1,e2⟩:=bind_some ev
 refine⟨σD,ds,rv,e1,fun vs H1 s1 r1=>?_⟩
 show spF X.K cl f (vs++[]) H1 Q E0
 rw[List.append_nil]
 refine⟨ds,d,r1,e2,fun v H2 s2 r2=>q v H2 ⟨s1.trans s2,r2.none,fun _ m a z=>?_,fun M _ P hP _=>?_⟩⟩
 ·subst z
  have hh:H1 a=none:=by
   cases d with
   | lst ds=>obtain⟨p,xs,e1,e2,_⟩:=aH r2;cases e1;exact Classical.byContradiction e2
   | dK ks ds=>rw[Rep]at r2;obtain⟨p,xs,e1,e2,_⟩:=r2;cases e1;exact Classical.byContradiction e2
   | dT ks ds=>rw[Rep]at r2;obtain⟨p,xs,e1,e2,_⟩:=r2;cases e1;exact Classical.byContradiction e2
   | _=>cases m
  exact s1.free hh
 ·refine r2.weak fun a z=>?_
  obtain⟨o,ho⟩:=Option.ne_none_iff_exists'.mp (hP a z)
  rw[s1 _ _ ho]
  exact fun q=>nomatch q
end rules
noncomputable def Off(P:Addr->Prop)(H H':Hp):Prop:=∀ b o,¬ P b->H b=some o->H' b=some o
theorem Off.same{H H':Hp}(h:a6 H H'){P:Addr->Prop}:Off P H H':=fun b o _ e=>h b o e
mutual
theorem Rep.off{P:Addr->Prop}{K:PySem.W.Frag}{H H':Hp}(hm:∀ b o,P b->H b=some o->cI o)(k:Off P H H'):∀ {d:RL.D} {v:V},Rep P K H d v->Rep P K H' d v
 | .non,v,h=>by simpa[Rep]using h
 | .bl _,v,h=>by simpa[Rep]using h
 | .int _,v,h=>by simpa[Rep]using h
 | .str _,v,h=>by simpa[Rep]using h
 | .tup ds,v,h=>by
  rw[Rep]at h ⊢
  obtain⟨b,xs,e1,e2,e3⟩:=h
  have n:¬ P b:=fun p=>by rcases hm b _ p e2 with⟨z,q⟩ | ⟨z,q⟩ | ⟨z,q⟩<;>cases q
  exact⟨b,xs,e1,k _ _ n e2,ab.off hm k e3⟩
 | .lst ds,v,h=>by
  rw[Rep]at h ⊢
  obtain⟨b,xs,e1,e0,e2,e3⟩:=h
  exact⟨b,xs,e1,e0,k _ _ e0 e2,ab.off hm k e3⟩
 | .dK ks ds,v,h=>by
  rw[Rep]at h ⊢
  obtain⟨b,xs,e1,e0,e2,el,e3⟩:=h
  exact⟨b,xs,e1,e0,k _ _ e0 e2,el,ab.off hm k e3⟩
 | .dT ks ds,v,h=>by
  rw[Rep]at h ⊢
  obtain⟨b,xs,e1,e0,e2,el,e3⟩:=h
  exact⟨b,xs,e1,e0,k _ _ e0 e2,el,ab.off hm k e3⟩
 | .scr ds,v,h=>by
  rw[Rep]at h ⊢
  obtain⟨b,xs,e1,e2,e3⟩:=h
  refine⟨b,xs,e1,?_,ab.off hm k e3⟩
  rcases e2 with⟨q,e2⟩ | e2
  ·have n:¬ P b:=fun p=>by rcases hm b _ p e2 with⟨z,q⟩ | ⟨z,q⟩ | ⟨z,q⟩<;>cases q
   exact .inl ⟨q,k _ _ n e2⟩
  ·exact .inr e2
theorem ab.off{P:Addr->Prop}{K:PySem.W.Frag}{H H':Hp}(hm:∀ b o,P b->H b=some o->cI o)(k:Off P H H'):∀ {ds:List RL.D} {xs:List V},ab P K H ds xs->ab P K H' ds xs
 | [],xs,h=>by rw[ab]at h ⊢;exact h
 | d::r,xs,h=>by
  rw[ab]at h ⊢
  obtain⟨x,t,e1,e2,e3⟩:=h
  exact⟨x,t,e1,Rep.off hm k e2,ab.off hm k e3⟩
end
structure ja(K:PySem.W.Frag)(J:L2.It)(ds:List RL.D)(P:Addr->Prop)(H:Hp):Prop where
 go:∀ H' i,Off P H H'->i<ds.length->J.go i H'
 stop:∀ H',Off P H H'->J.stop ds.length H'
 yld:∀ H' i d x H2,Off P H H'->ds[i]?=some d->J.yld i H' x H2->a6 H' H2/\(d.imm=true\/a6 H H'->Rep nP K H2 d x)
noncomputable def zC(K:PySem.W.Frag)(σD:RL.St)(σ:L2.St)(H:Hp)(it:RL.It)(J:L2.It)(ds:List RL.D)(H1:Hp):Prop :=
 ja K J ds nP H1/\∀ (M:List Nat) (P:Addr->Prop),RL.uI M it=true->(∀ b,P b->∃ o,H b=some o/\cI o)->(∀ (j:Nat) (dj:RL.D) (vj:V),M.contains j=false->σD[j]?=some (some dj)->σ[j]?=some (some vj)->Rep P K H dj vj)->ja K J ds P H1
noncomputable def tI(K:PySem.W.Frag)(cl:RL.Cl)(it:RL.It):TI:=fun σ H R=>∃ σD ds,RV0 K σD σ H/\RL.bA cl σD it=some ds/\∀ J H1,a6 H H1->zC K σD σ H it J ds H1->R J H1
noncomputable def SI(X:Cx)(cl:RL.Cl)(tg iter:Expr)(it:RL.It):Prop:=PI X tg iter (tI X.K cl it)
theorem PI.weak{X:Cx}{tg iter:Expr}{t t':TI}(h:PI X tg iter t)(w:∀ σ H R,t' σ H R->t σ H R):PI X tg iter t':=fun pins s σ H R I q=>h pins s σ H R I (w σ H R q)
theorem gQ{K:PySem.W.Frag}{P:Addr->Prop}{H H':Hp}{d:RL.D}{v:V}(hm:∀ b o,P b->H b=some o->cI o)(k:Off P H H')(r:Rep nP K H d v)(i:d.imm=true):Rep nP K H' d v :=
 ((r.imm i).off hm k).imm i
theorem tL{K:PySem.W.Frag}{H:Hp}{a:Addr}{ds:List RL.D}{xs:List V}{P:Addr->Prop}(h:H a=some (.lst xs))(r:ab nP K H ds xs)(hp:¬ P a)(hm:∀ b o,P b->H b=some o->cI o):ja K (Itl K a) ds P H where
 go:=fun H' i k hi=>by
  obtain⟨x,e,_⟩:=r.get (i:=i) (d:=ds[i]) (by simp[hi])
  exact⟨xs,x,SqL.of (k _ _ hp h),e⟩
 stop:=fun H' k=>⟨xs,SqL.of (k _ _ hp h),by rw[r.length];exact Nat.le_refl _⟩
 yld:=fun H' i d x H2 k e y=>by
  obtain⟨z,y⟩:=y
  subst z
  have hx:=y xs (SqL.of (k _ _ hp h))
  obtain⟨x',e1,e2⟩:=r.get e
  rw[hx]at e1
  cases e1
  refine⟨a6.refl _,fun q=>?_⟩
  rcases q with q | q
  ·exact gQ hm k e2 q
  ·exact e2.same q
theorem v7{K:PySem.W.Frag}{H:Hp}{a:Addr}{ds:List RL.D}{xs:List V}{P:Addr->Prop}(h:H a=some (.tup xs))(r:ab nP K H ds xs)(hm:∀ b o,P b->H b=some o->cI o):ja K (Itt K a) ds P H:=by
 have hp:¬ P a:=fun p=>by rcases hm a _ p h with⟨z,q⟩ | ⟨z,q⟩ | ⟨z,q⟩<;>cases q
 exact {
  go:=fun H' i k hi=>by
   obtain⟨x,e,_⟩:=r.get (i:=i) (d:=ds[i]) (by simp[hi])
   exact⟨xs,x,SqT.of (k _ _ hp h),e⟩
  stop:=fun H' k=>⟨xs,SqT.of (k _ _ hp h),by rw[r.length];exact Nat.le_refl _⟩
  yld:=fun H' i d x H2 k e y=>by
   obtain⟨z,y⟩:=y
   subst z
   have hx:=y xs (SqT.of (k _ _ hp h))
   obtain⟨x',e1,e2⟩:=r.get e
   rw[hx]at e1
   cases e1
   refine⟨a6.refl _,fun q=>?_⟩
   rcases q with q | q
   ·exact gQ hm k e2 q
   ·exact e2.same q }
theorem m7:∀ (n:Nat) (lo:Int) (i:Nat) (d:RL.D),(RL.cB lo n)[i]?=some d->d=.int (lo+i)
 | 0,lo,i,d,h=>by simp[RL.cB]at h
 | n+1,lo,0,d,h=>by simp[RL.cB]at h;simp[h]
 | n+1,lo,i+1,d,h=>by
  rw[RL.cB,List.getElem?_cons_succ]at h
  rw[m7 n (lo+1) i d h]
  congr 1
  lia
theorem j7:∀ (n:Nat) (lo:Int),(RL.cB lo n).length=n
 | 0,_=>rfl
 | n+1,lo=>by rw[RL.cB,List.length_cons,j7 n]
theorem mT{K:PySem.W.Frag}{H:Hp}{lo:Int}{n:Nat}{P:Addr->Prop}:ja K (Itr lo n) (RL.cB lo n) P H where
 go:=fun H' i k hi=>by rw[j7]at hi;exact hi
 stop:=fun H' k=>by rw[j7];exact Nat.le_refl _
 yld:=fun H' i d x H2 k e y=>by
  obtain⟨z,y⟩:=y
  subst z
  refine⟨a6.refl _,fun _=>?_⟩
  rw[m7 n lo i d e,y]
  exact aS
section rules
variable{X:Cx}{cl:RL.Cl}{tg a b l:Expr}{a' b' e':RL.E}{pos p:Pos}
theorem Fd{t t':TE}{l:Expr}(hl:PE X l t):PI X tg l (fun σ H R=>t σ H fun x H1=>(∃ a,x=.ref a/\(∃ xs,SqL X.K H1 a xs)/\R (Itl X.K a) H1)\/(∃ a,x=.ref a/\(∃ xs,SqT X.K H1 a xs)/\R (Itt X.K a) H1)):=by
 intro pins s σ H R I h
 refine thn (hl pins s σ H _ I h) fun v s1 ⟨x,H1,I1,r1,q1⟩=>?_
 rcases q1 with⟨a,e,⟨xs,hq⟩,q⟩ | ⟨a,e,⟨xs,hq⟩,q⟩
 ·subst e
  cases r1
  obtain⟨its,rv,p,hz⟩:=I1.list hq
  refine wpAny_pyIter_list p.isList ⟨s1.heap.objs.size,[s1.heap.objs.size],_,_,H1,rfl,I1.kept (t':=s1.toks) fun b o e=>Heap.get?_push_of_some _ e,wg a _,⟨_,Heap.get?_push_size _ rfl,rfl,rfl⟩,fun b hb=>?_,q⟩
  rw[show b=s1.heap.objs.size by simpa using hb]
  exact I1.nO (Nat.le_refl _) (I1.hok.fresh (Nat.le_refl _))
 ·subst e
  cases r1
  obtain⟨its,rv,p,hz⟩:=I1.tuple hq
  refine wpAny_pyIter_tuple (show s1.heap.IsTuple a its.toArray from p) ⟨s1.heap.objs.size,[s1.heap.objs.size],_,_,H1,rfl,I1.kept (t':=s1.toks) fun b o e=>Heap.get?_push_of_some _ e,uy a _,⟨_,Heap.get?_push_size _ rfl,rfl,rfl⟩,fun b hb=>?_,q⟩
  rw[show b=s1.heap.objs.size by simpa using hb]
  exact I1.nO (Nat.le_refl _) (I1.hok.fresh (Nat.le_refl _))
theorem mI{σD:RL.St}{σ:L2.St}{H H1:Hp}{d:RL.D}{v:V}{M:List Nat}{P:Addr->Prop}(r1:Res X.K σD σ H e' d v H1)(z:(RL.avE M e' || RL.aF e')=true)(hP:∀ b,P b->∃ o,H b=some o/\cI o)
 (av:∀ (j:Nat) (dj:RL.D) (vj:V),M.contains j=false->σD[j]?=some (some dj)->σ[j]?=some (some vj)->Rep P X.K H dj vj):∀ ds a,d=.lst ds->v=.ref a->¬ P a:=by
 intro ds a hd hv
 subst hd hv
 rw[Bool.or_eq_true]at z
 rcases z with z | z
 ·obtain⟨p,xs,e1,e2,_⟩:=aH (r1.av M z P (fun b q=>by obtain⟨o,ho,_⟩:=hP b q;rw[ho];exact fun z=>nomatch z) av)
  cases e1
  exact e2
 ·intro q
  obtain⟨o,ho,_⟩:=hP a q
  rw[r1.fresh z rfl a rfl]at ho
  cases ho
theorem dX{P:Addr->Prop}{H H1:Hp}(s:a6 H H1)(hP:∀ b,P b->∃ o,H b=some o/\cI o):∀ b o,P b->H1 b=some o->cI o:=fun b o q e=>by
 obtain⟨o',ho,m⟩:=hP b q
 rw[s _ _ ho]at e
 cases e
 exact m
theorem gJ{H1:Hp}:∀ b o,nP b->H1 b=some o->cI o:=fun b o q=>q.elim
theorem EB(hl:SE X cl l e')(hs:True):PI X tg l (fun σ H R=>∃ σD d ds,RV0 X.K σD σ H/\RL.ev cl σD e'=some d/\RL.items d=some ds/\∀ J H1,a6 H H1->zC X.K σD σ H (.seq e') J ds H1->R J H1):=by
 refine PI.weak (Fd (t':=tE X.K cl e') hl) fun σ H R h=>?_
 obtain⟨σD,d,ds,rv,e,ei,k⟩:=h
 refine⟨σD,d,rv,e,fun v H1 r1=>?_⟩
 obtain⟨p,xs,rfl,hp,rs⟩:=fk ei r1.rep
 rcases hp with⟨hp,rfl⟩ | ⟨hp,rfl⟩
 ·refine .inl ⟨p,rfl,⟨xs,SqL.of hp⟩,k _ _ r1.same ⟨tL hp rs (fun z=>z) gJ,fun M P z hP av=>tL hp rs (mI r1 z hP av _ _ rfl rfl) (dX r1.same hP)⟩⟩
 ·exact .inr ⟨p,rfl,⟨xs,SqT.of hp⟩,k _ _ r1.same ⟨v7 hp rs gJ,fun M P z hP av=>v7 hp rs (dX r1.same hP)⟩⟩
theorem nc{x y:RL.D}{ds:List RL.D}(h:RL.dt x y=some ds):∃ i j:Int,x=.int i/\y=.int j/\(-(2 ^ 62)<=i/\i<2 ^ 62/\-(2 ^ 62)<=j/\j<2 ^ 62)/\(j-i).toNat<=RL.most/\ds=RL.cB i (j-i).toNat:=by
 have no:∀ {o:Option (List RL.D)},o=none->o=some ds->False:=fun e h=>by rw[e]at h;cases h
 cases x with
 | int i=>cases y with
  |int j=>
   obtain⟨hc,e⟩:=cN h
   have lo:-(2 ^ 62:Int)<=-(2 ^ 60):=by decide
   have hi:(2 ^ 60:Int)<2 ^ 62:=by decide
   exact⟨i,j,rfl,rfl,⟨Int.le_trans lo hc.2.1,Int.lt_trans hc.2.2.1 hi,Int.le_trans lo hc.2.2.2.1,Int.lt_trans hc.2.2.2.2 hi⟩,hc.1,e⟩
  | _=>exact(no rfl h).elim
 | _=>exact(no rfl h).elim
theorem Ai(hg:Gl X "range")(hm:X.mg "range" = none)(ha:SE X cl a a')(hn:noStar a=true):SI X cl tg (.Call (.Name "range" p) [a] [] pos) (.rng1 a'):=by
 refine PI.weak (wJ hg hm (bE (cl:=cl) ha cA hn) (aA [] hn)) fun σ H R h=>?_
 obtain⟨σD,ds,rv,e,k⟩:=h
 rw[RL.bA]at e
 obtain⟨x,ea,e⟩:=bind_some e
 obtain⟨i,j,e1,rfl,hb,_,rfl⟩:=nc e
 cases e1
 refine⟨σD,[.int j],rv,by rw[RL.evs,ea];rfl,fun vs H1 s1 r1=>?_⟩
 rw[ab]at r1
 obtain⟨v,t,rfl,r2,r3⟩:=r1
 rw[ab]at r3
 subst r3
 refine⟨j,by rw[ag r2],hb.2.2.1,hb.2.2.2,?_⟩
 have hz:(j-0).toNat=j.toNat:=by simp
 rw[hz]at k
 exact k _ _ s1 ⟨mT,fun _ _ _ _ _=>mT⟩
theorem AQ(hg:Gl X "range")(hm:X.mg "range" = none)(ha:SE X cl a a')(hb:SE X cl b b')(hn:noStar a=true)(hn2:noStar b=true):SI X cl tg (.Call (.Name "range" p) [a,b] [] pos) (.rng2 a' b'):=by
 refine PI.weak (v9 hg hm (bE (cl:=cl) ha (bE hb cA hn2) hn) (by rw[aA _ hn,aA _ hn2];rfl) (aA [] hn2)) fun σ H R h=>?_
 obtain⟨σD,ds,rv,e,k⟩:=h
 rw[RL.bA]at e
 obtain⟨x,ea,e⟩:=bind_some e
 obtain⟨y,eb,e⟩:=bind_some e
 obtain⟨i,j,rfl,rfl,hb,_,rfl⟩:=nc e
 refine⟨σD,[.int i,.int j],rv,by rw[RL.evs,ea,RL.evs,eb];rfl,fun vs H1 s1 r1=>?_⟩
 rw[ab]at r1
 obtain⟨v,t,rfl,r2,r3⟩:=r1
 rw[ab]at r3
 obtain⟨u,t,rfl,r4,r5⟩:=r3
 rw[ab]at r5
 subst r5
 exact⟨i,j,by rw[ag r2,ag r4],hb,k _ _ s1 ⟨mT,fun _ _ _ _ _=>mT⟩⟩
end rules
end RS
namespace L2
open PySem PySem.Spec PyProof.Rows
noncomputable def gB(ifs:List Expr)(env:Env):Sem Bool:=forIn ifs true fun c r=>if r=true then do let ok <- isTrue c env (eval c env);pure (ForInStep.yield ok)else pure (ForInStep.yield r)
section
variable{M:Model}{A:Around}{Q:Fin->Shared->Prop}{E:Value->Shared->Prop}{s:Shared}
theorem E8{α:Type}{m:Sem α}{P:α->Shared->Prop}{E:Value->Shared->Prop}{s:Shared}(h:wpAny M A m P (fun _ _=>False) s):wpAny M A m P E s :=
 wpAny_mono h (fun _ _ q=>q) fun _ _ z=>z.elim
theorem cY{α β:Type}{m:Sem α}{k:α->Sem β}{P:β->Shared->Prop}{E:Value->Shared->Prop}{s:Shared}(h:wpAny M A m (fun a s1=>wpAny M A (k a) P E s1) (fun _ _=>False) s):wpAny M A (m >>= k) P E s:=wpAny_bind (E8 h)
end
section
variable{prog:Program}{w:World}{A:Around}{elt tg iter:Expr}{ifs:List Expr}{scope:Scope}{pos:Pos}{it acc:Value}{env:Env}
noncomputable def p6(prog:Program)(w:World)(A:Around)(elt tg:Expr)(ifs:List Expr)(it acc:Value)(env:Env)(stop next:Shared->Prop)(s:Shared):Prop :=
 wpAny (model prog w) A (pyNext it) (fun r s1=>match r with
  | none=>stop s1
  | some v=>wpAny (model prog w) A (letOwnedTupleGo tg it v) (fun _ s2=>wpAny (model prog w) A (assign tg env v) (fun _ s3=>wpAny (model prog w) A (gB ifs env) (fun ok s4 =>
     if ok=true then wpAny (model prog w) A (eval elt env) (fun x s5=>wpAny (model prog w) A (call (.builtin "list.append") [acc,x]) (fun _ s6=>next s6) (fun _ _=>False) s5) (fun _ _=>False) s4
     else next s4) (fun _ _=>False) s3) (fun _ _=>False) s2) (fun _ _=>False) s1) (fun _ _=>False) s
theorem yW{stop next:Shared->Prop}{E:Value->Shared->Prop}{s:Shared}(h:p6 prog w A elt tg ifs it acc env stop next s) :
  wpAny (model prog w) A (compTurn (.ListComp elt [⟨tg,iter,ifs,0⟩] scope pos) 0 it acc env) (fun fin s'=>match fin with
   | .done f=>f=.next/\stop s'
   | .again c=>c=.compLoop (.ListComp elt [⟨tg,iter,ifs,0⟩] scope pos) 0 it acc env/\next s') E s:=by
 rw[compTurn_list]
 apply wpAny_bind
 apply wpAny_standAt
 apply cY
 refine thn h fun r s1 h1=>?_
 cases r with
 |none=>
  apply wpAny_pure
  exact⟨rfl,h1⟩
 |some v=>
  apply cY
  refine thn h1 fun _ s2 h2=>?_
  apply cY
  refine thn h2 fun _ s3 h3=>?_
  apply cY
  refine thn h3 fun ok s4 h4=>?_
  cases ok
  ·apply wpAny_pure
   exact⟨rfl,h4⟩
  ·apply wpAny_bind
   apply cY
   refine thn h4 fun x s5 h5=>?_
   apply cY
   refine thn h5 fun _ s6 h6=>?_
   apply wpAny_pure
   apply wpAny_pure
   exact⟨rfl,h6⟩
theorem vR{R:Result->Shared->Prop}{s:Shared}(I:Nat->Shared->Prop)(turn:∀ n s,I n s->p6 prog w A elt tg ifs it acc env (R (.ok .next)) (fun s'=>∃ m,m<n/\I m s') s)
 (n:Nat)(h:I n s):codeAny (model prog w) A (.compLoop (.ListComp elt [⟨tg,iter,ifs,0⟩] scope pos) 0 it acc env) R s :=
 codeAny_loop (M:=model prog w) rfl I (fun n s hI=>wpAny_noted (thn (yW (turn n s hI)) fun fin s' q=>by
  cases fin with
  |done f=>
   obtain⟨rfl,q⟩:=q
   exact q
  | again c=>exact q)) n h
end
theorem kP:∀ (names:List (Str × NameKind)) (n:Nat) (acc:List (Str × Addr)) (x:Str) (c:Addr),(cellsFrom n names acc).lookup x=some c->(acc.lookup x=some c/\(x,NameKind.cell)∉names)\/(n<=c/\(x,NameKind.cell)∈names)
 | [],n,acc,x,c,h=>.inl ⟨h,by simp⟩
 | (nm,k)::r,n,acc,x,c,h=>by
  unfold cellsFrom at h
  by_cases hk:(k == NameKind.cell)=true
  ·rw[if_pos hk]at h
   have ek:k=.cell:=by simpa using hk
   subst ek
   rcases kP r (n+1) ((nm,n)::acc) x c h with⟨a,b⟩ | ⟨a,b⟩
   ·rw[List.lookup_cons]at a
    cases hx:x == nm with
    |true=>
     rw[hx]at a
     cases a
     have:x=nm:=by simpa using hx
     subst this
     exact .inr ⟨Nat.le_refl _,List.mem_cons_self ..⟩
    |false=>
     rw[hx]at a
     refine .inl ⟨a,fun z=>?_⟩
     rcases List.mem_cons.mp z with z | z
     ·cases z
      simp at hx
     ·exact b z
   ·exact .inr ⟨Nat.le_of_succ_le a,List.mem_cons_of_mem _ b⟩
  ·rw[if_neg hk]at h
   rcases kP r n acc x c h with⟨a,b⟩ | ⟨a,b⟩
   ·refine .inl ⟨a,fun z=>?_⟩
    rcases List.mem_cons.mp z with z | z
    ·cases z
     exact hk (by simp)
    ·exact b z
   ·exact .inr ⟨a,List.mem_cons_of_mem _ b⟩
theorem nj:∀ (names:List (Str × NameKind)) (n:Nat) (acc:List (Str × Addr)) (x:Str),(x,NameKind.cell)∉names->(cellsFrom n names acc).lookup x=acc.lookup x
 | [],n,acc,x,_=>rfl
 | (nm,k)::r,n,acc,x,h=>by
  have hr:(x,NameKind.cell)∉r:=fun z=>h (List.mem_cons_of_mem _ z)
  unfold cellsFrom
  by_cases hk:(k == NameKind.cell)=true
  ·rw[if_pos hk,nj r (n+1) _ x hr,List.lookup_cons]
   have ek:k=.cell:=by simpa using hk
   subst ek
   have:(x == nm)=false:=by
    rw[beq_eq_false_iff_ne]
    intro z
    subst z
    exact h (List.mem_cons_self ..)
   rw[this]
  ·rw[if_neg hk]
   exact nj r n acc x hr
theorem r9:∀ (names:List (Str × NameKind)) (n:Nat) (acc:List (Str × Addr)),(∀ x c,acc.lookup x=some c->c<n)->(∀ x y c,acc.lookup x=some c->acc.lookup y=some c->x=y)->∀ x y c,(cellsFrom n names acc).lookup x=some c->(cellsFrom n names acc).lookup y=some c->x=y
 | [],n,acc,_,hi,x,y,c,h1,h2=>hi x y c h1 h2
 | (nm,k)::r,n,acc,hl,hi,x,y,c,h1,h2=>by
  unfold cellsFrom at h1 h2
  by_cases hk:(k == NameKind.cell)=true
  ·rw[if_pos hk]at h1 h2
   refine r9 r (n+1) ((nm,n)::acc) (fun x c e=>?_) (fun x y c e1 e2=>?_) x y c h1 h2
   ·rw[List.lookup_cons]at e
    cases hx:x == nm with
    | true=>rw[hx]at e;cases e;exact Nat.lt_succ_self _
    | false=>rw[hx]at e;exact Nat.lt_succ_of_lt (hl x c e)
   ·rw[List.lookup_cons]at e1 e2
    cases hx:x == nm with
    |true=>
     rw[hx]at e1
     cases e1
     cases hy:y == nm with
     |true=>
      have a:x=nm:=by simpa using hx
      have b:y=nm:=by simpa using hy
      rw[a,b]
     |false=>
      rw[hy]at e2
      exact absurd (hl y n e2) (Nat.lt_irrefl _)
    |false=>
     rw[hx]at e1
     cases hy:y == nm with
     |true=>
      rw[hy]at e2
      cases e2
      exact absurd (hl x n e1) (Nat.lt_irrefl _)
     |false=>
      rw[hy]at e2
      exact hi x y c e1 e2
  ·rw[if_neg hk]at h1 h2
   exact r9 r n acc hl hi x y c h1 h2
theorem nU:∀ (names:List (Str × NameKind)) (h:Heap) (acc:List (Str × Addr)) (x:Str) (c:Addr),(cellsFrom h.objs.size names acc).lookup x=some c->acc.lookup x=some c\/(pushCells h names).IsCell c none
 | [],h,acc,x,c,e=>.inl e
 | (nm,k)::r,h,acc,x,c,e=>by
  unfold cellsFrom at e
  unfold pushCells
  by_cases hk:(k == NameKind.cell)=true
  ·rw[if_pos hk]at e ⊢
   have e':(cellsFrom (h.push { cls:=.type "cell",data:=.cell none }).objs.size r ((nm,h.objs.size)::acc)).lookup x=some c:=by rw[Heap.size_push];exact e
   rcases nU r (h.push { cls:=.type "cell",data:=.cell none }) ((nm,h.objs.size)::acc) x c e' with a | a
   ·rw[List.lookup_cons]at a
    cases hx:x == nm with
    |true=>
     rw[hx]at a
     cases a
     exact .inr ⟨_,pushCells_keeps r _ _ _ (Heap.get?_push_size _ rfl),rfl⟩
    |false=>
     rw[hx]at a
     exact .inl a
   ·exact .inr a
  ·rw[if_neg hk]at e ⊢
   exact nU r h acc x c e
theorem AG{M:Model}{A:Around}{E:Value->Shared->Prop}{s:Shared}{scope:Scope}{globals:Addr}{closure:List (Str × Addr)}{qual:Str}{func:Option Addr}{code:Value}{outer:Env}{builtins:Addr}{Q:Env->Shared->Prop}
 (hQ:Q (newEnv scope s.heap.objs.size globals (cellsFrom (s.heap.objs.size+1) scope.names closure) qual func code (some outer) builtins) { s with heap:=pushCells (s.heap.push { cls:=.type "dict",data:=.dict #[] }) scope.names }) :
  wpAny M A (newFunctionEnv scope globals closure [] qual func code (some outer) builtins) Q E s:=by
 simp only[newFunctionEnv,Option.isSome_some,if_true]
 refine wpAny_bind (wpAny_alloc ?_)
 refine wpAny_bind (wpAny_layCells _ (fun name kind cells=>by cases hkc:kind == NameKind.cell<;>simp[hkc]) _ _ _ _ ?_)
 rw[show({ s with heap:=s.heap.push { cls:=.type "dict",data:=.dict #[] } }:Shared).heap.objs.size=s.heap.objs.size+1 from Heap.size_push ..]
 refine wpAny_bind ?_
 rw[List.forIn_nil]
 exact wpAny_pure (wpAny_pure hQ)
noncomputable def blk(X:Cx)(scope:Scope)(cls:List (Str × Addr))(C:Addr)(fp:List Addr)(s:Shared)(H:Hp):Cx where
 prog:=X.prog
 w:=X.w
 K:=X.K
 mg:=X.mg
 base:=X.base
 A:=X.A
 N:=X.N
 s₀:=s
 H₀:=H
 env:=compEnvC scope cls C X.env
 outer:=X.stack
 stack:=X.stack
 ex:=fp
 fn:=fun x=>scope.names.lookup x == some .cell
 calm:=X.calm
 pn:=[]
 xe:=fun _ _=>False
structure fG(scope:Scope)(sc:Scope)(cls:List (Str × Addr))(cells:List (Str × Addr)):Prop where
 kind:scope.kind=.function
 own:∀ x∈scope.names,x.2=.cell->scope.names.lookup x.1=some .cell
 loc:∀ x∈scope.names,x.2=.local->scope.names.lookup x.1=some .local
 sub:∀ x c,cls.lookup x=some c->cells.lookup x=some c
 has:∀ x,scope.names.lookup x=some .free->∃ c,cls.lookup x=some c
 vis:∀ x,scope.names.lookup x=some .free->sc.names.lookup x=some .cell\/sc.names.lookup x=some .free
theorem bO{env:Env}:∀ {names:List (Str × NameKind)} {x:Str} {k:NameKind},
  (names.map fun(n,k)=>if(k == NameKind.free&&env.scope.kind == .function&&env.kindOf n == some .cell)then(n,NameKind.cell)else(n,k)).lookup x=some k ->
  names.lookup x=some k\/(k=.cell/\names.lookup x=some .free/\env.kindOf x=some .cell)
 | [],x,k,h=>by simp at h
 | (n,k')::r,x,k,h=>by
  have ih:=@bO env r x k
  rw[List.map_cons]at h
  cases hx:x == n with
  |true=>
   have en:x=n:=by simpa using hx
   subst en
   by_cases hc:(k' == NameKind.free&&env.scope.kind == .function&&env.kindOf x == some .cell)=true
   ·simp only[hc,if_true]at h
    rw[List.lookup_cons,hx]at h
    cases h
    simp only[Bool.and_eq_true,beq_iff_eq]at hc
    refine .inr ⟨rfl,?_,hc.2⟩
    rw[List.lookup_cons,hx,hc.1.1]
   ·simp only[Bool.not_eq_true]at hc
    simp only[hc,Bool.false_eq_true,if_false]at h
    rw[List.lookup_cons,hx]at h
    cases h
    exact .inl (by rw[List.lookup_cons,hx])
  |false=>
   have h':(r.map fun(n,k)=>if(k == NameKind.free&&env.scope.kind == .function&&env.kindOf n == some .cell)then(n,NameKind.cell)else(n,k)).lookup x=some k:=by
    by_cases hc:(k' == NameKind.free&&env.scope.kind == .function&&env.kindOf n == some .cell)=true
    ·simp only[hc,if_true]at h
     rw[List.lookup_cons,hx]at h
     exact h
    ·simp only[Bool.not_eq_true]at hc
     simp only[hc,Bool.false_eq_true,if_false]at h
     rw[List.lookup_cons,hx]at h
     exact h
   rcases ih h' with q | ⟨q1,q2,q3⟩
   ·exact .inl (by rw[List.lookup_cons,hx];exact q)
   ·exact .inr ⟨q1,by rw[List.lookup_cons,hx];exact q2,q3⟩
noncomputable def zx(X:Cx)(scope:Scope)(σ σB:St):Prop:=σB.length=σ.length/\∀ (i:Nat) (x:Str) (v:V),X.N[i]?=some x->σB[i]?=some (some v)->σ[i]?=some (some v)/\scope.names.lookup x≠some .local/\scope.names.lookup x≠some .cell
section
variable{X:Cx}{pins:List (Addr × Obj)}{σ σB:St}{H:Hp}{s:Shared}{scope:Scope}{cls:List (Str × Addr)}{fp:List Addr}
theorem Ac{h':Heap}{t:Nat}(I:Inv X pins σ H s)(S:fG scope X.env.scope cls X.env.cells)(hf:∀ b∈fp,iU X pins H b/\b<s.heap.objs.size)(ho:zx X scope σ σB)
 (hns:h'.Ns s.heap.objs.size (fun _=>none))(hk:∀ b o,s.heap.get? b=some o->h'.get? b=some o)(hcl:∀ x c,(cellsFrom (s.heap.objs.size+1) scope.names cls).lookup x=some c->cls.lookup x=some c\/h'.IsCell c none) :
  Inv (blk X scope (cellsFrom (s.heap.objs.size+1) scope.names cls) s.heap.objs.size fp s H) [] σB H { s with heap:=h',toks:=t }:=by
 have hC:H s.heap.objs.size=none:=I.hok.fresh (Nat.le_refl _)
 have clt:∀ x c,cls.lookup x=some c->c<s.heap.objs.size:=fun x c e=>by
  obtain⟨v,q⟩:=I.cell x c (S.sub x c e)
  exact q.lt
 have cas:∀ x c,(cellsFrom (s.heap.objs.size+1) scope.names cls).lookup x=some c->(X.env.cells.lookup x=some c/\c<s.heap.objs.size)\/(s.heap.objs.size+1<=c/\scope.names.lookup x=some .cell):=fun x c e=>by
  rcases kP _ _ _ _ _ e with⟨a,_⟩ | ⟨a,b⟩
  ·exact .inl ⟨S.sub x c a,clt x c a⟩
  ·exact .inr ⟨a,S.own _ b rfl⟩
 have fre:∀ x c,cls.lookup x=some c->scope.names.lookup x=some .free->(cellsFrom (s.heap.objs.size+1) scope.names cls).lookup x=some c:=fun x c e f=>by
  rw[nj _ _ _ _ fun z=>by rw[S.own _ z rfl]at f;cases f]
  exact e
 refine⟨⟨I.ok.mod,?_,I.ok.glob,I.ok.blt,Nat.le_refl _,fun x y c h1 h2=>r9 _ _ _ (fun x c e=>Nat.lt_succ_of_lt (clt x c e)) (fun x y c e1 e2=>I.ok.inj x y c (S.sub x c e1) (S.sub y c e2)) x y c h1 h2,fun x hx=>?_,fun x c z e=>?_,I.ok.hd,I.ok.frames,.inl rfl,fun b hb=>?_,fun b o e=>I.bs b o e,Nat.le_trans I.ok.bsz I.sz,fun b o e hb=>?_,fun b hb=>?_,I.stack,I.sS⟩,
  rfl,I.bare,Un.kept hk,⟨_,hns,fun i x v h1 h2 h3=>?_⟩,fun x c e=>?_,hC,fun x c e=>?_,fun p hp=>absurd hp (by simp[blk]),I.hok.kept hk,ho.1.trans I.len⟩
 ·exact S.kind
 ·have hx:(relabel scope X.env).names.lookup x=some .cell\/(relabel scope X.env).names.lookup x=some .free:=hx
  have key:scope.names.lookup x=some .cell\/scope.names.lookup x=some .free:=by
   rcases hx with hx | hx
   ·rcases bO hx with q | ⟨_,q,_⟩
    ·exact .inl q
    ·exact .inr q
   ·rcases bO hx with q | ⟨q,_⟩
    ·exact .inr q
    ·cases q
  rcases key with q | q
  ·have:=PySem.W.cellsFrom_some scope.names (s.heap.objs.size+1) cls (.inl q)
   exact Option.isSome_iff_exists.mp this
  ·obtain⟨c,hc⟩:=S.has x q
   exact⟨c,fre x c hc q⟩
 ·have z:(scope.names.lookup x == some .cell)=true:=z
  rcases kP _ _ _ _ _ (show(cellsFrom (s.heap.objs.size+1) scope.names cls).lookup x=some c from e)with⟨_,b⟩ | ⟨b,_⟩
  ·exact absurd (PySem.mem_of_lookup (by simpa using z)) b
  ·exact Nat.le_of_succ_le b
 ·obtain⟨⟨f0,f1,f2,f3,f4,f5⟩,f6⟩:=hf b hb
  refine⟨Nat.ne_of_lt f6,fun x c e=>?_⟩
  rcases cas x c e with⟨a,_⟩ | ⟨a,_⟩
  ·exact f4 x c a
  ·exact Nat.ne_of_gt (Nat.lt_trans f6 a)
 ·obtain⟨⟨f0,f1,f2,f3,f4,f5⟩,f6⟩:=hf b hb
  rcases f3 with z | z
  ·exact I.ok.qT b o e z
  ·exact absurd (Nat.lt_of_lt_of_le (Heap.lt_size e) I.ok.bsz) (Nat.not_lt.mpr z)
 ·obtain⟨⟨f0,f1,f2,f3,f4,f5⟩,f6⟩:=hf b hb
  intro z
  rcases List.mem_cons.mp (I.rA b z)with e | e
  ·exact f1 e
  ·exact f2 e
 ·obtain⟨h4,h5,h6⟩:=ho.2 i x v h1 h2
  have h3:(relabel scope X.env).names.lookup x=some .local\/(relabel scope X.env).names.lookup x=some .cell\/(relabel scope X.env).names.lookup x=some .free:=h3
  have key:scope.names.lookup x=some .free:=by
   rcases h3 with z | z | z
   ·rcases bO z with q | ⟨q,_⟩
    ·exact absurd q h5
    ·cases q
   ·rcases bO z with q | ⟨_,q,_⟩
    ·exact absurd q h6
    ·exact q
   ·rcases bO z with q | ⟨q,_⟩
    ·exact q
    ·cases q
  obtain⟨c,hc⟩:=S.has x key
  have hcx:=S.sub x c hc
  obtain⟨m,hn,hl⟩:=I.loc
  have hv:Vis X.env.scope x:=.inr (S.vis x key)
  obtain⟨u,ru,lk⟩:=hl i x v h1 h4 hv
  refine⟨u,ru,.inr ⟨?_,c,fre x c hc key,?_⟩⟩
  ·rcases h3 with z | z
   ·rcases bO z with q | ⟨q,_⟩
    ·exact absurd q h5
    ·cases q
   ·exact z
  ·rcases lk with⟨z,_⟩ | ⟨_,c',e',q⟩
   ·have z:X.env.scope.names.lookup x=some .local:=z
    rcases S.vis x key with z' | z'<;>(rw[z]at z';cases z')
   ·rw[hcx]at e'
    cases e'
    obtain⟨o,g1,g2⟩:=q
    exact⟨o,hk _ _ g1,g2⟩
 ·rcases hcl x c e with a | a
  ·obtain⟨v,q⟩:=I.cell x c (S.sub x c a)
   obtain⟨o,h1,h2⟩:=q
   exact⟨v,o,hk _ _ h1,h2⟩
  ·exact⟨none,a⟩
 ·rcases cas x c e with⟨a,_⟩ | ⟨a,_⟩
  ·exact I.eF x c a
  ·exact I.hok.fresh (Nat.le_of_succ_le a)
noncomputable def iz(wi:TI)(clr:St->St)(g:TG)(tc:TT)(te:TE):TE:=fun σ H Q=>wi σ H fun J H1=>∀ l,H1 l=none->∃ W:Nat->Nat->List V->Hp->Prop,(∃ m,W 0 m [] (upd H1 l (.lst []))) /\
 ∀ i m ys H2,W i m ys H2->H2 l=some (.lst ys)/\((J.stop i H2/\Q (.ref l) H2)\/(J.go i H2/\∀ x H3,J.yld i H2 x H3->g x (clr σ) H3 fun σ4 H4=>tc σ4 H4 fun k H5 =>
  if k=true then te σ4 H5 fun y H6=>H6 l=some (.lst ys)/\ys.length<sizeLine/\∃ m',m'<m/\W (i+1) m' (ys++[y]) (upd H6 l (.lst (ys++[y])))else ∃ m',m'<m/\W (i+1) m' ys H5))
structure pH(X:Cx)(scope:Scope)(tg:Expr)(ifs:List Expr)(elt:Expr)(clr:St->St)(g:TG)(tc:TT)(te:TE):Prop where
 htg:∀ cls C fp s H,PG (blk X scope cls C fp s H) tg g
 htc:∀ cls C fp s H pins s' σ H' Q,Inv (blk X scope cls C fp s H) pins σ H' s'->tc σ H' Q->wpAny (model X.prog X.w) X.A (gB ifs (compEnvC scope cls C X.env)) (TP (blk X scope cls C fp s H) pins σ Q) (fun _ _=>False) s'
 hte:∀ cls C fp s H,PE (blk X scope cls C fp s H) elt te
 Dp:∀ σ:St,σ.length=X.N.length->zx X scope σ (clr σ)
 zQ:∀ (x:V) (σ:St) (H:Hp) (Q:St->Hp->Prop),g x (clr σ) H Q->g x (clr σ) H fun σ2 H2=>Q σ2 H2/\(clr σ).length=σ2.length/\∀ (i:Nat) v,(clr σ)[i]?=some (some v)->σ2[i]?=some (some v)
theorem oW{elt tg iter:Expr}{ifs:List Expr}{pos:Pos}{wi:TI}{clr:St->St}{g:TG}{tc:TT}{te:TE}{Q:VK}{RR:Value->Addr->Result->Shared->Prop}(hc:X.calm=true)(S:fG scope X.env.scope cls X.env.cells)
 (hi:PI X tg iter wi)(B:pH X scope tg ifs elt clr g tc te)(I:Inv X pins σ H s)(h:iz wi clr g tc te σ H Q)
 (hRR:∀ l C H' s',Inv X pins σ H' s'->(∃ m,s'.heap.Ns C m)->H' C=none->C≠X.env.locals->X.s₀.heap.objs.size<=C->(∀ x c,X.env.cells.lookup x=some c->c≠C)->(∀ p∈X.pn++pins,p.1≠C)->Q (.ref l) H'->RR (.ref l) C (.ok .next) s') :
  wpAny (model X.prog X.w) X.A (eval iter X.env) (fun x s1=>wpAny (model X.prog X.w) X.A (pyIter x) (fun it s2=>wpAny (model X.prog X.w) X.A (newList []) (fun acc s3 =>
   wpAny (model X.prog X.w) X.A (newFunctionEnv scope X.env.globals cls [] X.env.qual none .none (some X.env)) (fun cenv s4 =>
    codeAny (model X.prog X.w) X.A (.compStart (.ListComp elt [⟨tg,iter,ifs,0⟩] scope pos) 0 it acc { cenv with scope:=relabel scope X.env }) (RR acc cenv.locals) s4) X.xe s3) X.xe s2) X.xe s1) X.xe s:=by
 refine thn (hi pins s σ H _ I h) fun x s1 h1=>thn h1 fun itv s2 h2=>?_
 obtain⟨it,fp,tn,J,H2,e,I2,T,st2,f2,h3⟩:=h2
 subst e
 have flt:∀ b∈fp,b<s2.heap.objs.size:=fun b hb=>by
  obtain⟨o,e,_⟩:=T.obj _ _ st2 b hb
  exact Heap.lt_size e
 refine wpAny_newObj_type ?_
 have I3:Inv X pins σ (upd H2 s2.heap.objs.size (.lst [])) { s2 with heap:=s2.heap.push { cls:=.type "list",dict:=none,data:=.seq ([]:List Value).toArray } } :=
  I2.laid (t':=s2.toks) (fun b u e=>Heap.get?_push_of_some _ e) (Nat.le_refl _) ⟨Nat.zero_le _,[],0,.nil,Heap.get?_push_size _ rfl⟩
 have hl2:H2 s2.heap.objs.size=none:=I2.hok.fresh (Nat.le_refl _)
 obtain⟨W,⟨m0,w0⟩,turn⟩:=h3 s2.heap.objs.size hl2
 have f3:∀ b∈fp,iU X pins (upd H2 s2.heap.objs.size (.lst [])) b/\b<(s2.heap.push { cls:=.type "list",dict:=none,data:=.seq ([]:List Value).toArray }).objs.size:=fun b hb=>by
  obtain⟨z0,z⟩:=f2 b hb
  refine⟨⟨?_,z⟩,?_⟩
  ·rw[aR (Nat.ne_of_lt (flt b hb))]
   exact z0
  ·rw[Heap.size_push]
   exact Nat.lt_succ_of_lt (flt b hb)
 generalize hs3:({ s2 with heap:=s2.heap.push { cls:=.type "list",dict:=none,data:=.seq ([]:List Value).toArray } }:Shared)=s3 at I3
 have hs3h:s3.heap=s2.heap.push { cls:=.type "list",dict:=none,data:=.seq ([]:List Value).toArray }:=by rw[<-hs3]
 rw[<-hs3h]at f3
 have st3:tn 0 s3.heap:=T.keep _ _ _ st2 fun b hb o e=>by rw[hs3h];exact Heap.get?_push_of_some _ e
 refine AG ?_
 have k4:∀ b o,s3.heap.get? b=some o->(pushCells (s3.heap.push { cls:=.type "dict",data:=.dict #[] }) scope.names).get? b=some o:=fun b o e=>pushCells_keeps _ _ b o (Heap.get?_push_of_some _ e)
 have hns4:(pushCells (s3.heap.push { cls:=.type "dict",data:=.dict #[] }) scope.names).Ns s3.heap.objs.size (fun _=>none):=(Heap.Ns.new s3.heap (.type "dict")).keeps (pushCells_keeps _ _)
 have hcl4:∀ x c,(cellsFrom (s3.heap.objs.size+1) scope.names cls).lookup x=some c->cls.lookup x=some c\/(pushCells (s3.heap.push { cls:=.type "dict",data:=.dict #[] }) scope.names).IsCell c none:=fun x c e=>nU scope.names (s3.heap.push { cls:=.type "dict",data:=.dict #[] }) cls x c (by rw[Heap.size_push];exact e)
 generalize pushCells (s3.heap.push { cls:=.type "dict",data:=.dict #[] }) scope.names=h4 at k4 hns4 hcl4
 have I4:Inv (blk X scope (cellsFrom (s3.heap.objs.size+1) scope.names cls) s3.heap.objs.size fp s3 (upd H2 s2.heap.objs.size (.lst []))) [] (clr σ) (upd H2 s2.heap.objs.size (.lst [])) { s3 with heap:=h4 } :=
  Ac (t:=s3.toks) I3 S f3 (B.Dp σ I.len) hns4 k4 hcl4
 generalize hs4:({ s3 with heap:=h4 }:Shared)=s4 at I4
 have hs4h:s4.heap=h4:=by rw[<-hs4]
 generalize hH3:upd H2 s2.heap.objs.size (.lst [])=H3 at I3 I4 w0
 have st4:tn 0 s4.heap:=T.keep _ _ _ st3 fun b hb o e=>by rw[hs4h];exact k4 b o e
 have fn4:∀ b∈fp,H3 b=none:=fun b hb=>by rw[<-hH3];exact(f3 b hb).1.1
 have stat:∀ {H':Hp} {σ':St} {s':Shared},Inv (blk X scope (cellsFrom (s3.heap.objs.size+1) scope.names cls) s3.heap.objs.size fp s3 H3) [] σ' H' s'->(∀ b∈fp,H' b=none)->∀ b∈fp,iU (blk X scope (cellsFrom (s3.heap.objs.size+1) scope.names cls) s3.heap.objs.size fp s3 H3) [] H' b :=
  fun {H' σ' s'} J hn b hb=>⟨hn b hb,(J.ok.exf b hb).1,J.ok.qj b hb,.inl hb,(J.ok.exf b hb).2,fun p hp=>absurd hp (by simp[blk])⟩
 have fin:∀ {H':Hp} {s':Shared},Inv (blk X scope (cellsFrom (s3.heap.objs.size+1) scope.names cls) s3.heap.objs.size fp s3 H3) [] (clr σ) H' s'->Q (.ref s2.heap.objs.size) H'->RR (.ref s2.heap.objs.size) s3.heap.objs.size (.ok .next) s':=fun {H' s'} J q=>by
  obtain⟨m,hn,_⟩:=J.loc
  have J1:Inv X pins σ H' s':=I3.zt (s':=s') (ch:=fp) (J.os.trans rfl) J.base J.hok J.bare fun b hb=>by
   obtain⟨⟨g0,g1,g2,g3,g4,g5⟩,_⟩:=f3 b hb
   exact⟨g3,g1,g4,g5⟩
  refine hRR _ _ H' s' J1 ⟨m,hn⟩ J.free (Nat.ne_of_gt I3.lt) I3.sz (fun x c e=>?_) (fun p hp=>?_) q
  ·obtain⟨v,z⟩:=I3.cell x c e
   exact Nat.ne_of_lt z.lt
  ·exact Nat.ne_of_lt (Heap.lt_size (I3.pin p hp).1)
 have loop:codeAny (model X.prog X.w) X.A (.compLoop (.ListComp elt [⟨tg,iter,ifs,0⟩] scope pos) 0 (.ref it) (.ref s2.heap.objs.size) (compEnvC scope (cellsFrom (s3.heap.objs.size+1) scope.names cls) s3.heap.objs.size X.env))
   (RR (.ref s2.heap.objs.size) s3.heap.objs.size) s4:=by
  refine vR (fun n s'=>∃ i ys H',Inv (blk X scope (cellsFrom (s3.heap.objs.size+1) scope.names cls) s3.heap.objs.size fp s3 H3) [] (clr σ) H' s'/\tn i s'.heap/\(∀ b∈fp,H' b=none)/\W i n ys H') ?_ m0 ⟨0,[],H3,I4,st4,fn4,w0⟩
  rintro n s5 ⟨i,ys,H5,I5,st5,fr5,w5⟩
  obtain⟨hl5,tr⟩:=turn i n ys H5 w5
  rcases tr with⟨stop,qn⟩ | ⟨go,step⟩
  ·refine thn (T.done (blk X scope (cellsFrom (s3.heap.objs.size+1) scope.names cls) s3.heap.objs.size fp s3 H3) rfl rfl rfl hc i [] s5 (clr σ) H5 (fun _ _=>False) I5 (stat I5 fr5) st5 stop) fun r s6 ⟨hr,I6⟩=>?_
   subst hr
   exact fin I6 qn
  ·refine thn (T.item (blk X scope (cellsFrom (s3.heap.objs.size+1) scope.names cls) s3.heap.objs.size fp s3 H3) rfl rfl rfl hc i [] s5 (clr σ) H5 (fun _ _=>False) I5 (stat I5 fr5) st5 go) fun r s6 ⟨u,hr,h6⟩=>?_
   subst hr
   refine thn h6 fun _ s7 ⟨x,H7,I7,r7,y7,st7,fr7⟩=>?_
   have I7':=I7.pinned (stat I7 fr7) (T.obj _ _ st7)
   have back:∀ {σ':St} {H':Hp} {s':Shared},Inv (blk X scope (cellsFrom (s3.heap.objs.size+1) scope.names cls) s3.heap.objs.size fp s3 H3) ([]++kz fp s7.heap) σ' H' s'->(clr σ).length=σ'.length->(∀ (i:Nat) v,(clr σ)[i]?=some (some v)->σ'[i]?=some (some v))->(∃ m ys',m<n/\W (i+1) m ys' H') ->
     ∃ m,m<n/\∃ i ys H',Inv (blk X scope (cellsFrom (s3.heap.objs.size+1) scope.names cls) s3.heap.objs.size fp s3 H3) [] (clr σ) H' s'/\tn i s'.heap/\(∀ b∈fp,H' b=none)/\W i m ys H':=fun {σ' H' s'} J el ew hw=>by
    obtain⟨m,ys',hm,w8⟩:=hw
    refine⟨m,hm,i+1,ys',H',J.js.weak el ew,T.keep _ _ _ st7 fun b hb o e=>(J.pin (b,o) (List.mem_append_right _ (List.mem_append_right _ (fZ hb e)))).1,fun b hb=>?_,w8⟩
    obtain⟨o,e,d⟩:=T.obj _ _ st7 b hb
    exact(J.pin (b,o) (List.mem_append_right _ (List.mem_append_right _ (fZ hb e)))).2.1
   refine thn (B.htg _ s3.heap.objs.size fp s3 H3 _ s7 (clr σ) H7 x u _ I7' r7 (B.zQ x σ H7 _ (step x H7 y7))) fun _ s8 ⟨σ8,H8,I8,q8,el8,ew8⟩=>?_
   refine thn (B.htc _ s3.heap.objs.size fp s3 H3 _ s8 σ8 H8 _ I8 q8) fun ok s9 ⟨H9,I9,q9⟩=>?_
   cases ok with
   |false=>
    have q9:∃ m',m'<n/\W (i+1) m' ys H9:=q9
    obtain⟨m',hm,w9⟩:=q9
    exact back I9 el8 ew8 ⟨m',ys,hm,w9⟩
   |true=>
    refine thn (B.hte _ s3.heap.objs.size fp s3 H3 _ s9 σ8 H9 _ I9 q9) fun v s10 ⟨y,H10,I10,r10,hl10,hz,m',hm,w10⟩=>?_
    refine thn (oU (X:=blk X scope (cellsFrom (s3.heap.objs.size+1) scope.names cls) s3.heap.objs.size fp s3 H3) _ s10 σ8 H10 (.ref s2.heap.objs.size) [y] (.ref s2.heap.objs.size) [v] (fun _ H'=>H'=upd H10 s2.heap.objs.size (.lst (ys++[y]))) I10 rfl (.cons r10 .nil) ⟨_,ys,y,rfl,rfl,hl10,hz,rfl⟩) fun _ s11 ⟨_,H11,I11,_,e11⟩=>?_
    subst e11
    exact back I11 el8 ew8 ⟨m',_,hm,w10⟩
 exact codeAny_compStart_list loop (T.self _ 0 _ _ _ st4 loop)
theorem tQ{elt tg iter:Expr}{ifs:List Expr}{pos:Pos}{wi:TI}{clr:St->St}{g:TG}{tc:TT}{te:TE}(hc:X.calm=true)(S:fG scope X.env.scope cls X.env.cells)(hclos:closureFor scope X.env=pure cls)
 (hi:PI X tg iter wi)(B:pH X scope tg ifs elt clr g tc te)(hs:∀ x,foldedSetIterable iter X.env x=pure x):PE X (.ListComp elt [⟨tg,iter,ifs,0⟩] scope pos) (iz wi clr g tc te):=by
 intro pins s σ H Q I h
 rw[eval_ListComp]
 refine wpAny_comprehension_free (use:=none) rfl hs hclos S.kind S.loc (oW (RR:=fun acc C=>compPost (model X.prog X.w) X.A X.xe none (EP X pins σ Q) acc C) hc S hi B I h ?_)
 intro l C H' s' J hn c0 c1 c2 c3 c4 q
 obtain⟨m,hn⟩:=hn
 exact⟨m,hn,fun h' sb=>⟨.ref l,H',J.turned (it:=C) (h':=h') (t':=s'.toks) (fun b o hb e=>(sb.2 b hb).trans e) c0 (Ne.symm (Ne.symm c1)) (.inr c2) c3 c4,rfl,q⟩⟩
noncomputable def EY(i:Nat)(t:TE):TS:=fun D σ H=>t σ H fun v H1=>D.nx (σ.set i (some v)) H1
theorem sD{elt tg iter:Expr}{ifs:List Expr}{pos spos py:Pos}{y:Str}{i:Nat}{wi:TI}{clr:St->St}{g:TG}{tc:TT}{te:TE}(hc:X.calm=true)(hN:X.N.Nodup)(hiy:X.N[i]?=some y)(hy:X.env.scope.names.lookup y=some .local)
 (S:fG scope X.env.scope cls X.env.cells)(hclos:closureFor scope X.env=pure cls)
 (hi:PI X tg iter wi)(B:pH X scope tg ifs elt clr g tc te)(hs:∀ x,foldedSetIterable iter X.env x=pure x)
 (hsw:swapsWith (.ListComp elt [⟨tg,iter,ifs,0⟩] scope pos) (some (.Name y py)) spos.line X.env=pure true) :
  PS X (.Assign [.Name y py] (.ListComp elt [⟨tg,iter,ifs,0⟩] scope pos) spos) (EY i (iz wi clr g tc te)):=by
 intro pins s σ H D I h
 have back:∀ (l C:Addr) (H':Hp) (s':Shared),Inv X pins σ H' s'->(∃ m,s'.heap.Ns C m)->H' C=none->C≠X.env.locals->X.s₀.heap.objs.size<=C->(∀ x c,X.env.cells.lookup x=some c->c≠C)->(∀ p∈X.pn++pins,p.1≠C)->D.nx (σ.set i (some (.ref l))) H' ->
   compPost (model X.prog X.w) X.A X.xe (some (assign (.Name y py) X.env)) (fun _ s'=>SP X pins D .next s') (.ref l) C (.ok .next) s':=by
  intro l C H' s' J hn c0 c1 c2 c3 c4 q
  obtain⟨m,hn⟩:=hn
  show wpAny _ X.A (assign (.Name y py) X.env (.ref l)) _ _ s'
  refine wpAny_assign_Name (pj (v:=.ref l) J hN hiy (.inl hy) rfl (fun s2 J2 ⟨a,sb,ha⟩=>?_) (.inr hy))
  have hne:C≠a:=by
   rcases ha with z | z
   ·rw[z];exact c1
   ·exact(c3 _ _ z).symm
  exact⟨m,hn.sameBut sb hne,fun h' sb'=>⟨σ.set i (some (.ref l)),H',J2.turned (it:=C) (h':=h') (t':=s2.toks) (fun b o hb e=>(sb'.2 b hb).trans e) c0 c1 (.inr c2) c3 c4,q⟩⟩
 have core:=oW (RR:=fun acc C=>compPost (model X.prog X.w) X.A X.xe (some (assign (.Name y py) X.env)) (fun _ s'=>SP X pins D .next s') acc C) (pos:=pos) hc S hi B I h back
 have whole:=wpAny_comprehension_free (e:=.ListComp elt [⟨tg,iter,ifs,0⟩] scope pos) (newAcc:=newList []) (use:=some (assign (.Name y py) X.env)) (Q:=fun _ s'=>SP X pins D .next s') (pos:=iter.pos) rfl hs hclos S.kind S.loc core
 rw[exec_Assign_Name_used (hs:=hsw)]
 apply wpAny_bind
 apply wpAny_standAt
 apply wpAny_bind
 apply wpAny_bind
 refine thn whole fun _ s' hq=>?_
 apply wpAny_pure
 apply wpAny_pure
 exact hq
end
end L2
namespace RS
open PySem PySem.Spec PyProof.Rows L2
theorem jq{env:Env}:∀ (names:List (Str × NameKind)) (acc:List (Str × Addr)),(∀ x,(x,NameKind.free)∈names->∃ c,env.cells.lookup x=some c)->(∀ x c,acc.lookup x=some c->env.cells.lookup x=some c) ->
  ∃ cls,(forIn names acc fun(p:Str × NameKind) cs=>match p with | (name,kind)=>if(kind == NameKind.free)=true then do let c <- cellOf env name;pure (ForInStep.yield ((name,c)::cs))else pure (ForInStep.yield cs):Sem (List (Str × Addr)))=pure cls /\
   (∀ x c,cls.lookup x=some c->env.cells.lookup x=some c)/\(∀ x,(acc.lookup x).isSome=true\/(x,NameKind.free)∈names->∃ c,cls.lookup x=some c)
 | [],acc,_,ha=>⟨acc,rfl,ha,fun x hx=>by
   rcases hx with h | h
   ·exact Option.isSome_iff_exists.mp h
   ·simp at h⟩
 | (n,k)::r,acc,hn,ha=>by
  by_cases hk:k=.free
  ·subst hk
   obtain⟨c,hc⟩:=hn n List.mem_cons_self
   have ha':∀ x c',((n,c)::acc).lookup x=some c'->env.cells.lookup x=some c':=fun x c' e=>by
    rw[List.lookup_cons]at e
    cases hx:x == n with
    |true=>
     rw[hx]at e
     cases e
     rw[show x=n by simpa using hx]
     exact hc
    |false=>
     rw[hx]at e
     exact ha x c' e
   obtain⟨cls,h1,h2,h3⟩:=jq r ((n,c)::acc) (fun x hx=>hn x (List.mem_cons_of_mem _ hx)) ha'
   refine⟨cls,?_,h2,fun x hx=>h3 x ?_⟩
   ·rw[List.forIn_cons]
    have hcell:cellOf env n=pure c:=by unfold cellOf;rw[hc]
    simp only[beq_self_eq_true,if_true,hcell]
    exact h1
   ·rcases hx with h | h
    ·left
     rw[List.lookup_cons]
     split<;>simp_all
    ·rcases List.mem_cons.mp h with e | e
     ·cases e
      left
      simp[List.lookup_cons]
     ·exact .inr e
  ·obtain⟨cls,h1,h2,h3⟩:=jq r acc (fun x hx=>hn x (List.mem_cons_of_mem _ hx)) ha
   refine⟨cls,?_,h2,fun x hx=>h3 x ?_⟩
   ·rw[List.forIn_cons]
    have:(k == NameKind.free)=false:=by simpa using hk
    simp only[this,Bool.false_eq_true,if_false]
    exact h1
   ·rcases hx with h | h
    ·exact .inl h
    ·rcases List.mem_cons.mp h with e | e
     ·cases e
      exact absurd rfl hk
     ·exact .inr e
theorem u9{env:Env}{scope:Scope}(h:∀ x,(x,NameKind.free)∈scope.names->∃ c,env.cells.lookup x=some c) :
  ∃ cls,closureFor scope env=pure cls/\(∀ x c,cls.lookup x=some c->env.cells.lookup x=some c)/\(∀ x,scope.names.lookup x=some .free->∃ c,cls.lookup x=some c):=by
 obtain⟨cls,h1,h2,h3⟩:=jq (env:=env) scope.names [] h (fun x c e=>by simp at e)
 refine⟨cls,?_,h2,fun x hx=>h3 x (.inr (PySem.mem_of_lookup hx))⟩
 unfold closureFor
 simp only[bind_pure_comp]at h1 ⊢
 rw[h1]
 rfl
section
variable{X:Cx}{pos:Pos}
noncomputable def nJ(K:PySem.W.Frag)(n:Nat)(t:TGs):TG:=fun v σ H Q=>∃ a xs,v=.ref a/\SqL K H a xs/\xs.length=n/\t xs σ H Q
theorem xq{es:List Expr}{k:Nat}{t:TGs}{n:Nat}(hc:X.calm=true)(h:PGs X es t)(hn:(assignEach es X.env).length=n)(hst:(assignEach es X.env).findIdx? (·.1)=none):PG X (.Tuple es k pos) (nJ X.K n t):=by
 intro pins s σ H v u Q I r hw
 obtain⟨a,xs,e1,hq,hl,hw⟩:=hw
 subst e1
 cases r
 obtain⟨its,rv,ht,hz⟩:=I.list hq
 have hsz:(assignEach es X.env).length=its.toArray.size:=by rw[hn,<-hl,rv.length,List.size_toArray]
 rw[PyProof.Rows.assign_Tuple]
 refine wpAny_bind (wpAny_standAt ?_)
 unfold unpack
 rw[hsz,hst]
 refine wpAny_bind (wpAny_holding (PySem.W.kun_itemsOf (I.ok.hd hc) ht.isList fun h' hx=>?_))
 have I1:Inv X pins σ H { s with heap:=h' }:=I.kept (t':=s.toks) fun b o e=>hx b o (Nat.ne_of_lt (Heap.lt_size e)) e
 exact h pins _ σ H xs _ Q I1 (by simpa using rv) hw
end
section
variable{X:Cx}
theorem v5{tgE:Expr}{t t':TG}(h:PG X tgE t)(h':PG X tgE t'):PG X tgE (fun v σ H Q=>t v σ H Q\/t' v σ H Q):=by
 intro pins s σ H v u Q I r hw
 rcases hw with q | q
 ·exact h pins s σ H v u Q I r q
 ·exact h' pins s σ H v u Q I r q
end
noncomputable def gs:List Nat->TGs
 | []=>BE
 | i::r=>zN (mR i) (gs r)
noncomputable def gT(K:PySem.W.Frag):List Nat->TG
 | [i]=>mR i
 | is=>fun v σ H Q=>ny K is.length (gs is) v σ H Q\/nJ K is.length (gs is) v σ H Q
noncomputable def cO:List Nat->List V->L2.St->L2.St
 | i::is,v::vs,σ=>cO is vs (σ.set i (some v))
 | _,_,σ=>σ
noncomputable def dW:List Nat->List RL.D->RL.St->RL.St
 | i::is,d::ds,σ=>dW is ds (σ.set i (some d))
 | _,_,σ=>σ
theorem fF:∀ {is:List Nat} {ds:List RL.D} {σ σ1:RL.St},RL.bH is ds σ=some σ1->is.length=ds.length/\σ1=dW is ds σ
 | [],[],σ,σ1,h=>by cases h;exact⟨rfl,rfl⟩
 | [],d::ds,σ,σ1,h=>by cases h
 | i::is,[],σ,σ1,h=>by cases h
 | i::is,d::ds,σ,σ1,h=>by
  obtain⟨h1,h2⟩:=fF (is:=is) (ds:=ds) (σ:=σ.set i (some d)) h
  exact⟨by simp[h1],h2⟩
theorem jh:∀ {is:List Nat} {vs:List V} {σ:L2.St} {H:Hp} {Q:L2.St->Hp->Prop},is.length=vs.length->Q (cO is vs σ) H->gs is vs σ H Q
 | [],[],σ,H,Q,_,q=>⟨rfl,q⟩
 | [],_::_,_,_,_,h,_=>by simp at h
 | _::_,[],_,_,_,h,_=>by simp at h
 | i::is,v::vs,σ,H,Q,h,q=>⟨v,vs,rfl,jh (is:=is) (by simpa using h) q⟩
theorem zR{K:PySem.W.Frag}{tg:List Nat}{d:RL.D}{v:V}{σD σD1:RL.St}{H:Hp}(h:RL.aM tg d σD=some σD1)(r:Rep nP K H d v) :
  ∃ ds vs,σD1=dW tg ds σD/\tg.length=ds.length/\ab nP K H ds vs/\(d.imm=true->RL.au ds=true)/\∀ (σ:L2.St) (Q:L2.St->Hp->Prop),Q (cO tg vs σ) H->gT K tg v σ H Q:=by
 unfold RL.aM at h
 split at h
 ·rename_i i
  cases h
  exact⟨[d],[v],rfl,rfl,ab.cons r ab.nil,fun z=>by simp[RL.au,z],fun σ Q q=>q⟩
 ·rename_i hne
  have key:gT K tg=fun v σ H Q=>ny K tg.length (gs tg) v σ H Q\/nJ K tg.length (gs tg) v σ H Q:=by
   unfold gT
   split
   ·rename_i i
    exact absurd rfl (hne i)
   ·rfl
  rw[key]
  split at h
  ·rename_i ds
   obtain⟨h1,h2⟩:=fF h
   obtain⟨p,xs,rfl,e2,e3⟩:=bw r
   exact⟨ds,xs,h2,h1,e3,fun z=>by rw[RL.D.imm]at z;exact z,fun σ Q q=>.inl ⟨p,xs,rfl,SqT.of e2,by rw[<-e3.length,h1],jh (h1.trans e3.length) q⟩⟩
  ·rename_i ds
   obtain⟨h1,h2⟩:=fF h
   obtain⟨p,xs,rfl,_,e2,e3⟩:=aH r
   exact⟨ds,xs,h2,h1,e3,fun z=>(by cases z),fun σ Q q=>.inr ⟨p,xs,rfl,SqL.of e2,by rw[<-e3.length,h1],jh (h1.trans e3.length) q⟩⟩
  ·cases h
theorem qD:∀ (is:List Nat) (vs:List V) (σ:L2.St),(cO is vs σ).length=σ.length
 | [],_,_=>rfl
 | _::_,[],_=>rfl
 | i::is,v::vs,σ=>by rw[cO,qD is vs,List.length_set]
theorem nD:∀ (is:List Nat) (vs:List V) (σ:L2.St) (j:Nat),is.contains j=false->(cO is vs σ)[j]?=σ[j]?
 | [],_,_,_,_=>rfl
 | _::_,[],_,_,_=>rfl
 | i::is,v::vs,σ,j,h=>by
  rw[List.contains_cons,Bool.or_eq_false_iff]at h
  rw[cO,nD is vs _ j h.2,List.getElem?_set_ne (by intro e;subst e;simp at h)]
theorem lT:∀ (is:List Nat) (vs:List RL.D) (σ:RL.St),(dW is vs σ).length=σ.length
 | [],_,_=>rfl
 | _::_,[],_=>rfl
 | i::is,v::vs,σ=>by rw[dW,lT is vs,List.length_set]
theorem kL:∀ (is:List Nat) (vs:List RL.D) (σ:RL.St) (j:Nat),is.contains j=false->(dW is vs σ)[j]?=σ[j]?
 | [],_,_,_,_=>rfl
 | _::_,[],_,_,_=>rfl
 | i::is,v::vs,σ,j,h=>by
  rw[List.contains_cons,Bool.or_eq_false_iff]at h
  rw[dW,kL is vs _ j h.2,List.getElem?_set_ne (by intro e;subst e;simp at h)]
noncomputable def RVx(T:List Nat)(K:PySem.W.Frag)(σD:RL.St)(σ:L2.St)(H:Hp):Prop:=σD.length<=σ.length/\∀ (i:Nat) (d:RL.D),T.contains i=false->σD[i]?=some (some d)->∃ v,σ[i]?=some (some v)/\Rep nP K H d v
theorem RVx.set{K:PySem.W.Frag}{σD:RL.St}{σ:L2.St}{H:Hp}{i:Nat}{T:List Nat}{d:RL.D}{v:V}(h:RVx (i::T) K σD σ H)(r:Rep nP K H d v):RVx T K (σD.set i (some d)) (σ.set i (some v)) H:=⟨by simpa using h.1,fun j dj hT e=>by
 by_cases hj:j=i
 ·subst hj
  have hlt:j<σD.length:=by
   have:=(List.getElem?_eq_some_iff.mp e).1
   simpa using this
  rw[List.getElem?_set_self hlt]at e
  cases e
  exact⟨v,by rw[List.getElem?_set_self (Nat.lt_of_lt_of_le hlt h.1)],r⟩
 ·rw[List.getElem?_set_ne (Ne.symm hj)]at e ⊢
  exact h.2 j dj (by rw[List.contains_cons,hT,Bool.or_false];simpa using hj) e⟩
theorem RVx.bH{K:PySem.W.Frag}{H:Hp}:∀ {is:List Nat} {ds:List RL.D} {vs:List V} {σD:RL.St} {σ:L2.St},RVx is K σD σ H->is.length=ds.length->ab nP K H ds vs->RV0 K (dW is ds σD) (cO is vs σ) H
 | [],_,_,_,_,h,_,_=>⟨h.1,fun i d e=>h.2 i d rfl e⟩
 | i::is,[],_,_,_,_,hl,_=>by simp at hl
 | i::is,d::ds,vs,σD,σ,h,hl,r=>by
  rw[ab]at r
  obtain⟨v,t,rfl,r1,r2⟩:=r
  rw[dW,cO]
  exact RVx.bH (h.set r1) (by simpa using hl) r2
theorem DF{K:PySem.W.Frag}{tg:List Nat}{v:V}{σ:L2.St}{H:Hp}{Q:L2.St->Hp->Prop}(h:gT K tg v σ H Q):∃ vs,tg.length=vs.length/\Q (cO tg vs σ) H/\∀ Q':L2.St->Hp->Prop,Q' (cO tg vs σ) H->gT K tg v σ H Q':=by
 have inv:∀ (is:List Nat) (xs:List V) (σ:L2.St) (Q:L2.St->Hp->Prop),gs is xs σ H Q->is.length=xs.length/\Q (cO is xs σ) H:=by
  intro is
  induction is with
  | nil=>intro xs σ Q h;obtain⟨rfl,q⟩:=h;exact⟨rfl,q⟩
  |cons i r ih=>
   intro xs σ Q h
   obtain⟨v,t,rfl,q⟩:=h
   obtain⟨h1,h2⟩:=ih t _ Q q
   exact⟨by simp[h1],h2⟩
 unfold gT at h
 split at h
 ·rename_i i
  exact⟨[v],rfl,h,fun Q' q=>q⟩
 ·rename_i hne
  have key:gT K tg=fun v σ H Q=>ny K tg.length (gs tg) v σ H Q\/nJ K tg.length (gs tg) v σ H Q:=by
   unfold gT
   split
   ·rename_i i
    exact absurd rfl (hne i)
   ·rfl
  rw[key]
  rcases h with⟨a,xs,rfl,hq,hl,hg⟩ | ⟨a,xs,rfl,hq,hl,hg⟩
  ·obtain⟨h1,h2⟩:=inv _ _ _ _ hg
   exact⟨xs,h1,h2,fun Q' q=>.inl ⟨a,xs,rfl,hq,hl,jh h1 q⟩⟩
  ·obtain⟨h1,h2⟩:=inv _ _ _ _ hg
   exact⟨xs,h1,h2,fun Q' q=>.inr ⟨a,xs,rfl,hq,hl,jh h1 q⟩⟩
noncomputable def fP(tg:List Nat)(σ:L2.St):L2.St:=σ.mapIdx fun i o=>if tg.contains i then none else o
theorem qN(tg:List Nat)(σ:L2.St):(fP tg σ).length=σ.length:=by simp[fP]
theorem tu{tg:List Nat}{σ:L2.St}{i:Nat}(h:tg.contains i=false):(fP tg σ)[i]?=σ[i]?:=by
 unfold fP
 rw[List.getElem?_mapIdx]
 cases σ[i]? with
 | none=>rfl
 | some o=>simp only[Option.map_some,h,Bool.false_eq_true,if_false]
theorem sA{tg:List Nat}{σ:L2.St}{i:Nat}{v:V}(h:tg.contains i=true):(fP tg σ)[i]?≠some (some v):=by
 unfold fP
 rw[List.getElem?_mapIdx]
 cases σ[i]? with
 | none=>simp
 | some o=>simp only[Option.map_some,h,if_true];intro z;cases z
section comp
variable{X:Cx}{cl:RL.Cl}{tgE iter elt c:Expr}{e' c':RL.E}{it:RL.It}{tg:List Nat}{scope:Scope}{cls:List (Str × Addr)}{pos:Pos}{ifs:List Expr}
structure kA(X:Cx)(cl:RL.Cl)(scope:Scope)(tgE:Expr)(tg:List Nat)(elt:Expr)(e':RL.E)(tcs:TT)(ifs:List Expr):Prop where
 htg:∀ cls C fp s H,PG (blk X scope cls C fp s H) tgE (gT X.K tg)
 htc:∀ cls C fp s H pins s' σ H' Q,Inv (blk X scope cls C fp s H) pins σ H' s'->tcs σ H' Q->wpAny (model X.prog X.w) X.A (gB ifs (compEnvC scope cls C X.env)) (TP (blk X scope cls C fp s H) pins σ Q) (fun _ _=>False) s'
 hte:∀ cls C fp s H,SE (blk X scope cls C fp s H) cl elt e'
 cover:∀ (i:Nat) (x:Str),X.N[i]?=some x->scope.names.lookup x=some .local\/scope.names.lookup x=some .cell->tg.contains i=true
theorem kA.blk{tcs:TT}(B:kA X cl scope tgE tg elt e' tcs ifs):pH X scope tgE ifs elt (fP tg) (gT X.K tg) tcs (tE X.K cl e') where
 htg:=B.htg
 htc:=B.htc
 hte:=B.hte
 Dp:=fun σ hl=>⟨qN tg σ,fun i x v h1 h2=>by
  by_cases hc:tg.contains i=true
  ·exact absurd h2 (sA hc)
  ·simp only[Bool.not_eq_true]at hc
   rw[tu hc]at h2
   refine⟨h2,fun z=>?_,fun z=>?_⟩
   ·rw[B.cover i x h1 (.inl z)]at hc
    cases hc
   ·rw[B.cover i x h1 (.inr z)]at hc
    cases hc⟩
 zQ:=fun x σ H Q h=>by
  obtain⟨vs,h1,h2,h3⟩:=DF h
  refine h3 _ ⟨h2,(qD _ _ _).symm,fun i v e=>?_⟩
  by_cases hc:tg.contains i=true
  ·exact absurd e (sA hc)
  ·simp only[Bool.not_eq_true]at hc
   rw[nD _ _ _ _ hc]
   exact e
theorem vo{f:RL.St->Option (Option RL.D)}{σ:RL.St}{d:RL.D}{r ys:List RL.D}(h:RL.bX f tg σ (d::r)=some ys):∃ σ1 y ys',RL.aM tg d σ=some σ1/\f σ1=some y/\RL.bX f tg σ r=some ys'/\RL.jY y ys'=some ys:=by
 rw[RL.bX]at h
 obtain⟨σ1,h1,h⟩:=bind_some h
 obtain⟨y,h2,h⟩:=bind_some h
 obtain⟨ys',h3,h⟩:=bind_some h
 exact⟨σ1,y,ys',h1,h2,h3,h⟩
theorem sT{tcs:TT}{f:RL.St->Option (Option RL.D)}{σ:L2.St}{H:Hp}{Q:VK}{σD:RL.St}{ds total:List RL.D}(rv:RV0 X.K σD σ H)(ei:RL.bA cl σD it=some ds)(hz:ds.length<=RL.most)(hm:RL.bX f tg σD ds=some total)
 (ht:∀ σ1 σV H y (Q:Bool->Hp->Prop),RV0 X.K σ1 σV H->f σ1=some y->(∀ k H',a6 H H'->(if k=true then ∃ d,y=some d/\RL.ev cl σ1 e'=some d else y=none)->Q k H')->tcs σV H Q)
 (k:∀ l H',a6 H H'->H l=none->(∃ xs,H' l=some (.lst xs)/\ab nP X.K H' total xs)->Q (.ref l) H'):iz (tI X.K cl it) (fP tg) (gT X.K tg) tcs (tE X.K cl e') σ H Q:=by
 refine⟨σD,ds,rv,ei,fun J H1 s1 src l hl=>?_⟩
 obtain⟨ok,_⟩:=src
 refine⟨fun i m xs H2=>∃ don rest,m=ds.length-i/\i<=ds.length/\a6 H1 H2/\H2 l=some (.lst xs)/\ab (fun p=>p=l) X.K H2 don xs/\RL.bX f tg σD (ds.drop i)=some rest/\don++rest=total/\don.length<=i,
  ⟨_,[],total,rfl,Nat.zero_le _,a6.bP hl,bC,ab.nil,hm,rfl,Nat.le_refl _⟩,?_⟩
 rintro i m xs H2 ⟨don,rest,rfl,hi,s2,hl2,rs,hr,htot,hdn⟩
 refine⟨hl2,?_⟩
 have off:Off nP H1 H2:=Off.same s2
 by_cases hlt:i<ds.length
 ·refine .inr ⟨ok.go H2 i off hlt,fun x H3 y=>?_⟩
  have hd:ds[i]?=some ds[i]:=by simp[hlt]
  obtain⟨s3,rp⟩:=ok.yld H2 i ds[i] x H3 off hd y
  have rp:=rp (.inr s2)
  rw[List.drop_eq_getElem_cons hlt]at hr
  obtain⟨σ1,y1,ys',h1,h2,h3,h4⟩:=vo hr
  obtain⟨dv,vs,e1,e2,e3,_,e5⟩:=zR h1 rp
  refine e5 _ _ ?_
  have rv3:RV0 X.K σD σ H3:=rv.same ((s1.trans s2).trans s3)
  have rvx:RVx tg X.K σD (fP tg σ) H3:=⟨by rw[qN];exact rv3.1,fun j d hT e=>by rw[tu hT];exact rv3.2 j d e⟩
  have rv1:RV0 X.K σ1 (cO tg vs (fP tg σ)) H3:=by rw[e1];exact rvx.bH e2 e3
  refine ht σ1 _ H3 y1 _ rv1 h2 fun t H5 s5 hy=>?_
  have hl5:H5 l=some (.lst xs):=s5 _ _ (s3 _ _ hl2)
  have rs5:ab (fun p=>p=l) X.K H5 don xs:=(rs.same s3).same s5
  cases t with
  |true=>
   obtain⟨d,rfl,hv⟩:=(show ∃ d,y1=some d/\RL.ev cl σ1 e'=some d from hy)
   have him:d.imm=true/\rest=d::ys':=by
    unfold RL.jY at h4
    dsimp only at h4
    split at h4
    ·rename_i hh
     cases h4
     exact⟨hh,rfl⟩
    ·cases h4
   refine eZ ⟨σ1,d,rv1.same s5,hv,fun v H6 r6=>⟨r6.same _ _ hl5,?_,ds.length-(i+1),by lia,don++[d],ys',rfl,hlt,?_,bC,?_,h3,?_,?_⟩⟩
   ·rw[<-rs.length]
    exact Nat.lt_of_lt_of_le (Nat.lt_of_le_of_lt hdn (Nat.lt_of_lt_of_le hlt hz)) (Nat.le_of_lt (by decide))
   ·intro b o e
    have hb:b≠l:=aQ e hl
    rw[aR hb]
    exact r6.same _ _ (s5 _ _ (s3 _ _ (s2 _ _ e)))
   ·exact ab.upd (P:=fun p=>p=l) (r6.same _ _ hl5) (.inl ⟨_,rfl⟩) rfl (ab.append (rs5.same r6.same) (ab.cons (r6.rep.imm him.1) ab.nil))
   ·rw[<-htot,him.2,List.append_assoc]
    rfl
   ·rw[List.length_append,List.length_singleton]
    lia
  |false=>
   have hy:y1=none:=hy
   subst hy
   have hr2:rest=ys':=by
    unfold RL.jY at h4
    dsimp only at h4
    cases h4
    rfl
   refine fM ⟨ds.length-(i+1),by lia,don,ys',rfl,hlt,(s2.trans s3).trans s5,hl5,rs5,h3,by rw[<-htot,hr2],by lia⟩
 ·have e:i=ds.length:=by lia
  subst e
  refine .inl ⟨ok.stop H2 off,k l H2 (s1.trans s2) (s1.free hl) ⟨xs,hl2,?_⟩⟩
  rw[List.drop_length,RL.bX]at hr
  cases hr
  rw[List.append_nil]at htot
  rw[<-htot]
  exact ab.weak (fun _ z=>z.elim) rs
end comp
section comp
variable{X:Cx}{cl:RL.Cl}{tgE iter elt c:Expr}{e' c':RL.E}{it:RL.It}{tg:List Nat}{scope:Scope}{pos:Pos}{ifs:List Expr}
structure oy(scope sc:Scope):Prop where
 kind:scope.kind=.function
 own:∀ x∈scope.names,x.2=.cell->scope.names.lookup x.1=some .cell
 loc:∀ x∈scope.names,x.2=.local->scope.names.lookup x.1=some .local
 vis:∀ x∈scope.names,x.2=.free->sc.names.lookup x.1=some .cell\/sc.names.lookup x.1=some .free
theorem fW{pins:List (Addr × Obj)}{σ:L2.St}{H:Hp}{s:Shared}(S:oy scope X.env.scope)(I:Inv X pins σ H s):∃ cls,closureFor scope X.env=pure cls/\fG scope X.env.scope cls X.env.cells:=by
 obtain⟨cls,h1,h2,h3⟩:=u9 (env:=X.env) (scope:=scope) fun x hx=>I.ok.has x (S.vis _ hx rfl)
 exact⟨cls,h1,S.kind,S.own,S.loc,h2,h3,fun x hx=>S.vis _ (PySem.mem_of_lookup hx) rfl⟩
theorem rE{σD:RL.St}{σ:L2.St}{H H':Hp}{e:RL.E}{l:Addr}{total:List RL.D}(sm:a6 H H')(hl:H l=none)(h:∃ xs,H' l=some (.lst xs)/\ab nP X.K H' total xs)(hav:∀ M,RL.avE M e=false):Res X.K σD σ H e (.lst total) (.ref l) H' where
 same:=sm
 rep:=by
  obtain⟨xs,h1,h2⟩:=h
  rw[Rep]
  exact⟨l,xs,rfl,fun z=>z,h1,h2⟩
 fresh:=fun _ _ a z=>by cases z;exact hl
 av:=fun M z=>by rw[hav M]at z;cases z
noncomputable def mD:TT:=fun _ H Q=>Q true H
theorem qg{σ:L2.St}{H:Hp}{Q:VK}(h:tE X.K cl (.compA e' tg it) σ H Q):iz (tI X.K cl it) (fP tg) (gT X.K tg) mD (tE X.K cl e') σ H Q:=by
 obtain⟨σD,d,rv,e,k⟩:=h
 rw[RL.ev]at e
 obtain⟨ds,e1,e⟩:=bind_some e
 obtain⟨ds',e2,e⟩:=bind_some e
 obtain⟨total,e3,e4⟩:=map_some e
 unfold RL.fits at e2
 split at e2
 ·rename_i hz
  cases e2
  subst e4
  refine sT (f:=fun σ1=>(RL.ev cl σ1 e').map some) rv e1 hz e3 (fun σ1 σV H y Q rv1 hy q=>?_) fun l H' sm hl hx=>k _ _ (rE sm hl hx fun _=>rfl)
  obtain⟨d,h1,h2⟩:=map_some hy
  exact q true H (a6.refl H) (eZ ⟨d,h2.symm,h1⟩)
 ·cases e2
theorem qp{σ:L2.St}{H:Hp}{Q:VK}(h:tE X.K cl (.comp e' tg it c') σ H Q):iz (tI X.K cl it) (fP tg) (gT X.K tg) (tT X.K cl c') (tE X.K cl e') σ H Q:=by
 obtain⟨σD,d,rv,e,k⟩:=h
 rw[RL.ev]at e
 obtain⟨ds,e1,e⟩:=bind_some e
 obtain⟨ds',e2,e⟩:=bind_some e
 obtain⟨total,e3,e4⟩:=map_some e
 unfold RL.fits at e2
 split at e2
 ·rename_i hz
  cases e2
  subst e4
  refine sT rv e1 hz e3 (fun σ1 σV H y Q rv1 hy q=>?_) fun l H' sm hl hx=>k _ _ (rE sm hl hx fun _=>rfl)
  obtain⟨t,h1,h2⟩:=bind_some hy
  refine⟨σ1,t,rv1,h1,fun H' sm=>q t H' sm ?_⟩
  cases t with
  |true=>
   obtain⟨d,h3,h4⟩:=map_some (show(RL.ev cl σ1 e').map some=some y from h2)
   exact eZ ⟨d,h4.symm,h3⟩
  |false=>
   cases(show(some none:Option (Option RL.D))=some y from h2)
   exact fM rfl
 ·cases e2
theorem xC(hc:X.calm=true)(S:oy scope X.env.scope)(hi:SI X cl tgE iter it)(B:kA X cl scope tgE tg elt e' mD [])(hs:∀ x,foldedSetIterable iter X.env x=pure x):SE X cl (.ListComp elt [⟨tgE,iter,[],0⟩] scope pos) (.compA e' tg it):=by
 intro pins s σ H Q I h
 obtain⟨cls,h1,h2⟩:=fW S I
 exact tQ hc h2 h1 hi B.blk hs pins s σ H Q I (qg h)
theorem yX(hc:X.calm=true)(S:oy scope X.env.scope)(hi:SI X cl tgE iter it)(B:kA X cl scope tgE tg elt e' (tT X.K cl c') [c])(hs:∀ x,foldedSetIterable iter X.env x=pure x):SE X cl (.ListComp elt [⟨tgE,iter,[c],0⟩] scope pos) (.comp e' tg it c'):=by
 intro pins s σ H Q I h
 obtain⟨cls,h1,h2⟩:=fW S I
 exact tQ hc h2 h1 hi B.blk hs pins s σ H Q I (qp h)
noncomputable def SA(X:Cx)(cl:RL.Cl)(st:Stmt)(i:Nat)(e':RL.E):Prop:=PS X st (fun D σ H=>tE X.K cl e' σ H fun v H1=>D.nx (σ.set i (some v)) H1)
theorem PS.weak{st:Stmt}{t t':TS}(h:PS X st t)(w:∀ D σ H,t' D σ H->t D σ H):PS X st t':=fun pins s σ H D I q=>h pins s σ H D I (w D σ H q)
theorem PSs.weak{st:List Stmt}{t t':TS}(h:PSs X st t)(w:∀ D σ H,t' D σ H->t D σ H):PSs X st t':=fun pins s σ H D I q=>h pins s σ H D I (w D σ H q)
variable{y:Str}{i:Nat}{py spos:Pos}
theorem yH(hc:X.calm=true)(hN:X.N.Nodup)(hiy:X.N[i]?=some y)(hy:X.env.scope.names.lookup y=some .local)(S:oy scope X.env.scope)(hi:SI X cl tgE iter it)(B:kA X cl scope tgE tg elt e' mD [])(hs:∀ x,foldedSetIterable iter X.env x=pure x)
 (hsw:swapsWith (.ListComp elt [⟨tgE,iter,[],0⟩] scope pos) (some (.Name y py)) spos.line X.env=pure true):SA X cl (.Assign [.Name y py] (.ListComp elt [⟨tgE,iter,[],0⟩] scope pos) spos) i (.compA e' tg it):=by
 intro pins s σ H D I h
 obtain⟨cls,h1,h2⟩:=fW S I
 exact sD hc hN hiy hy h2 h1 hi B.blk hs hsw pins s σ H D I (qg h)
theorem x9(hc:X.calm=true)(hN:X.N.Nodup)(hiy:X.N[i]?=some y)(hy:X.env.scope.names.lookup y=some .local)(S:oy scope X.env.scope)(hi:SI X cl tgE iter it)(B:kA X cl scope tgE tg elt e' (tT X.K cl c') [c])(hs:∀ x,foldedSetIterable iter X.env x=pure x)
 (hsw:swapsWith (.ListComp elt [⟨tgE,iter,[c],0⟩] scope pos) (some (.Name y py)) spos.line X.env=pure true):SA X cl (.Assign [.Name y py] (.ListComp elt [⟨tgE,iter,[c],0⟩] scope pos) spos) i (.comp e' tg it c'):=by
 intro pins s σ H D I h
 obtain⟨cls,h1,h2⟩:=fW S I
 exact sD hc hN hiy hy h2 h1 hi B.blk hs hsw pins s σ H D I (qp h)
theorem xY{e:Expr}(hN:X.N.Nodup)(hiy:X.N[i]?=some y)(hx:Loc X.env.scope y)(he:SE X cl e e')(hf:X.fn y=true\/X.env.scope.names.lookup y=some .local)(hs:swapsWith e (some (.Name y py)) spos.line X.env=pure false)(hf2:True):SA X cl (.Assign [.Name y py] e spos) i e':=by
 exact xb hN hiy hx he hs hf
end comp
noncomputable def bF(M:List Nat)(σ:L2.St):Addr->Prop:=fun a=>∃ i,M.contains i=true/\σ[i]?=some (some (.ref a))
noncomputable def Own(K:PySem.W.Frag)(H:Hp)(d:RL.D)(v:V):Prop:=lQ d=true/\RL.aJ d=true/\Rep nP K H d v
structure RVm(K:PySem.W.Frag)(M:List Nat)(σD:RL.St)(σ:L2.St)(H:Hp):Prop where
 len:σD.length=σ.length
 val:∀ (i:Nat) (d:RL.D),σD[i]?=some (some d)->∃ v,σ[i]?=some (some v)/\(if M.contains i=true then Own K H d v else Rep (bF M σ) K H d v)
 non:∀ (i:Nat) (v:V),σ[i]?=some (some v)->∃ d,σD[i]?=some (some d)
 sep:∀ (i j:Nat) (a:Addr),M.contains i=true->M.contains j=true->σ[i]?=some (some (.ref a))->σ[j]?=some (some (.ref a))->i=j
noncomputable def Fr'(M:List Nat)(σ:L2.St)(H:Hp)(σ':L2.St)(H':Hp):Prop:=(∀ b o,H b=some o->¬ bF M σ b->H' b=some o/\¬ bF M σ' b)/\∀ j,2<=M.count j->σ'[j]?=σ[j]?
theorem Fr'.trans{M:List Nat}{σ σ1 σ2:L2.St}{H H1 H2:Hp}(a:Fr' M σ H σ1 H1)(b:Fr' M σ1 H1 σ2 H2):Fr' M σ H σ2 H2:=⟨fun c o e n=>b.1 c o (a.1 c o e n).1 (a.1 c o e n).2,fun j hj=>(b.2 j hj).trans (a.2 j hj)⟩
theorem Fr'.same{M:List Nat}{σ:L2.St}{H H1:Hp}(s:a6 H H1):Fr' M σ H σ H1:=⟨fun c o e n=>⟨s _ _ e,n⟩,fun _ _=>rfl⟩
theorem kH{M:List Nat}{j:Nat}(h:2<=M.count j):M.contains j=true:=by
 have:0<M.count j:=by lia
 simpa using List.count_pos_iff.mp this
section st
variable{K:PySem.W.Frag}{M:List Nat}{σD:RL.St}{σ:L2.St}{H H1:Hp}
theorem Own.ref{d:RL.D}{v:V}(h:Own K H d v):∃ a o,v=.ref a/\H a=some o/\cI o:=by
 obtain⟨m,_,r⟩:=h
 cases d with
 | lst ds=>obtain⟨a,xs,e1,_,e2,_⟩:=aH r;exact⟨a,_,e1,e2,.inl ⟨_,rfl⟩⟩
 | dK ks ds=>rw[Rep]at r;obtain⟨a,xs,e1,_,e2,_⟩:=r;exact⟨a,_,e1,e2,.inr (.inl ⟨_,rfl⟩)⟩
 | dT ks ds=>rw[Rep]at r;obtain⟨a,xs,e1,_,e2,_⟩:=r;exact⟨a,_,e1,e2,.inr (.inr ⟨_,rfl⟩)⟩
 | _=>cases m
theorem RVm.rv0(h:RVm K M σD σ H):RV0 K σD σ H:=⟨Nat.le_of_eq h.len,fun i d e=>by
 obtain⟨v,h1,h2⟩:=h.val i d e
 refine⟨v,h1,?_⟩
 by_cases hm:M.contains i=true
 ·rw[if_pos hm]at h2
  exact h2.2.2
 ·rw[if_neg hm]at h2
  exact h2.none⟩
theorem RVm.xS(h:RVm K M σD σ H):∀ a,bF M σ a->∃ o,H a=some o/\cI o:=fun a ⟨i,hi,e⟩=>by
 obtain⟨d,hd⟩:=h.non i _ e
 obtain⟨v,h1,h2⟩:=h.val i d hd
 rw[if_pos hi]at h2
 obtain⟨b,o,e1,e2,e3⟩:=h2.ref
 rw[e]at h1
 cases h1
 cases e1
 exact⟨o,e2,e3⟩
theorem RVm.qq(h:RVm K M σD σ H):∀ a,bF M σ a->H a≠none:=fun a p=>by
 obtain⟨o,e,_⟩:=h.xS a p
 rw[e]
 exact fun z=>nomatch z
theorem Own.same{d:RL.D}{v:V}(h:Own K H d v)(s:a6 H H1):Own K H1 d v:=⟨h.1,h.2.1,h.2.2.same s⟩
theorem RVm.same(h:RVm K M σD σ H)(s:a6 H H1):RVm K M σD σ H1:=⟨h.len,fun i d e=>by
 obtain⟨v,h1,h2⟩:=h.val i d e
 refine⟨v,h1,?_⟩
 by_cases hm:M.contains i=true
 ·rw[if_pos hm]at h2 ⊢
  exact h2.same s
 ·rw[if_neg hm]at h2 ⊢
  exact h2.same s,h.non,h.sep⟩
theorem bF.set{i:Nat}{v:V}(hi:M.contains i=false):bF M (σ.set i (some v))=bF M σ:=by
 funext a
 apply propext
 constructor
 ·rintro⟨j,hj,e⟩
  have hne:i≠j:=fun z=>by subst z;rw[hi]at hj;cases hj
  rw[List.getElem?_set_ne hne]at e
  exact⟨j,hj,e⟩
 ·rintro⟨j,hj,e⟩
  have hne:i≠j:=fun z=>by subst z;rw[hi]at hj;cases hj
  exact⟨j,hj,by rw[List.getElem?_set_ne hne];exact e⟩
theorem RVm.bind{i:Nat}{d:RL.D}{v:V}(h:RVm K M σD σ H)(hi:M.contains i=false)(r:Rep (bF M σ) K H d v):RVm K M (σD.set i (some d)) (σ.set i (some v)) H where
 len:=by simpa using h.len
 val:=fun j dj e=>by
  rw[bF.set hi]
  by_cases hj:j=i
  ·subst hj
   have hlt:j<σD.length:=by
    have:=(List.getElem?_eq_some_iff.mp e).1
    simpa using this
   rw[List.getElem?_set_self hlt]at e
   cases e
   refine⟨v,by rw[List.getElem?_set_self (by rw[<-h.len];exact hlt)],?_⟩
   rw[if_neg (by rw[hi];decide)]
   exact r
  ·rw[List.getElem?_set_ne (Ne.symm hj)]at e ⊢
   exact h.val j dj e
 non:=fun j w e=>by
  by_cases hj:j=i
  ·subst hj
   have hlt:j<σ.length:=by
    have:=(List.getElem?_eq_some_iff.mp e).1
    simpa using this
   exact⟨d,by rw[List.getElem?_set_self (by rw[h.len];exact hlt)]⟩
  ·rw[List.getElem?_set_ne (Ne.symm hj)]at e ⊢
   exact h.non j w e
 sep:=fun j k a hj hk e1 e2=>by
  have n1:i≠j:=fun z=>by subst z;rw[hi]at hj;cases hj
  have n2:i≠k:=fun z=>by subst z;rw[hi]at hk;cases hk
  rw[List.getElem?_set_ne n1]at e1
  rw[List.getElem?_set_ne n2]at e2
  exact h.sep j k a hj hk e1 e2
theorem Fr'.bind{i:Nat}{v:V}(hi:M.contains i=false)(s:a6 H H1):Fr' M σ H (σ.set i (some v)) H1:=⟨fun b o e n=>⟨s _ _ e,by rw[bF.set hi];exact n⟩,fun j hj=>List.getElem?_set_ne (fun z=>by subst z;rw[kH hj]at hi;cases hi)⟩
end st
mutual
theorem Rep.et{P:Addr->Prop}{K:PySem.W.Frag}{H:Hp}{a:Addr}(ha:H a=none):∀ {d:RL.D} {v:V},Rep P K H d v->Rep (fun p=>P p\/p=a) K H d v
 | .non,v,h=>by simpa[Rep]using h
 | .bl _,v,h=>by simpa[Rep]using h
 | .int _,v,h=>by simpa[Rep]using h
 | .str _,v,h=>by simpa[Rep]using h
 | .tup ds,v,h=>by
  rw[Rep]at h ⊢
  obtain⟨b,xs,e1,e2,e3⟩:=h
  exact⟨b,xs,e1,e2,ab.et ha e3⟩
 | .lst ds,v,h=>by
  rw[Rep]at h ⊢
  obtain⟨b,xs,e1,e0,e2,e3⟩:=h
  exact⟨b,xs,e1,fun z=>z.elim e0 (fun q=>aQ e2 ha q),e2,ab.et ha e3⟩
 | .dK ks ds,v,h=>by
  rw[Rep]at h ⊢
  obtain⟨b,xs,e1,e0,e2,el,e3⟩:=h
  exact⟨b,xs,e1,fun z=>z.elim e0 (fun q=>aQ e2 ha q),e2,el,ab.et ha e3⟩
 | .dT ks ds,v,h=>by
  rw[Rep]at h ⊢
  obtain⟨b,xs,e1,e0,e2,el,e3⟩:=h
  exact⟨b,xs,e1,fun z=>z.elim e0 (fun q=>aQ e2 ha q),e2,el,ab.et ha e3⟩
 | .scr ds,v,h=>by
  rw[Rep]at h ⊢
  obtain⟨b,xs,e1,e2,e3⟩:=h
  exact⟨b,xs,e1,e2,ab.et ha e3⟩
theorem ab.et{P:Addr->Prop}{K:PySem.W.Frag}{H:Hp}{a:Addr}(ha:H a=none):∀ {ds:List RL.D} {xs:List V},ab P K H ds xs->ab (fun p=>P p\/p=a) K H ds xs
 | [],xs,h=>by rw[ab]at h ⊢;exact h
 | d::r,xs,h=>by
  rw[ab]at h ⊢
  obtain⟨x,t,e1,e2,e3⟩:=h
  exact⟨x,t,e1,Rep.et ha e2,ab.et ha e3⟩
end
section st
variable{K:PySem.W.Frag}{M:List Nat}{σD:RL.St}{σ:L2.St}{H H1:Hp}
theorem RVm.own{i:Nat}{d:RL.D}{a:Addr}(h:RVm K M σD σ H)(s:a6 H H1)(hi:M.contains i=true)(hi2:M.count i<2)(ha:H a=none)(r:Own K H1 d (.ref a)):RVm K M (σD.set i (some d)) (σ.set i (some (.ref a))) H1/\Fr' M σ H (σ.set i (some (.ref a))) H1:=by
 have sub:∀ b,bF M (σ.set i (some (.ref a))) b->bF M σ b\/b=a:=fun b ⟨j,hj,e⟩=>by
  by_cases hji:j=i
  ·subst hji
   have hlt:j<σ.length:=by
    have:=(List.getElem?_eq_some_iff.mp e).1
    simpa using this
   rw[List.getElem?_set_self hlt]at e
   cases e
   exact .inr rfl
  ·rw[List.getElem?_set_ne (Ne.symm hji)]at e
   exact .inl ⟨j,hj,e⟩
 have old:∀ b,bF M σ b->b≠a:=fun b p z=>h.qq b p (z▸ha)
 refine⟨⟨by simpa using h.len,fun j dj e=>?_,fun j w e=>?_,fun j k b hj hk e1 e2=>?_⟩,⟨fun b o e n=>⟨s _ _ e,fun z=>(sub b z).elim n fun q=>aQ e ha q⟩,fun j hj=>List.getElem?_set_ne (fun z=>by subst z;lia)⟩⟩
 ·by_cases hj:j=i
  ·subst hj
   have hlt:j<σD.length:=by
    have:=(List.getElem?_eq_some_iff.mp e).1
    simpa using this
   rw[List.getElem?_set_self hlt]at e
   cases e
   refine⟨.ref a,by rw[List.getElem?_set_self (by rw[<-h.len];exact hlt)],?_⟩
   rw[if_pos hi]
   exact r
  ·rw[List.getElem?_set_ne (Ne.symm hj)]at e ⊢
   obtain⟨v,h1,h2⟩:=h.val j dj e
   refine⟨v,h1,?_⟩
   by_cases hm:M.contains j=true
   ·rw[if_pos hm]at h2 ⊢
    exact h2.same s
   ·rw[if_neg hm]at h2 ⊢
    exact((h2.et ha).weak sub).same s
 ·by_cases hj:j=i
  ·subst hj
   have hlt:j<σ.length:=by
    have:=(List.getElem?_eq_some_iff.mp e).1
    simpa using this
   exact⟨d,by rw[List.getElem?_set_self (by rw[h.len];exact hlt)]⟩
  ·rw[List.getElem?_set_ne (Ne.symm hj)]at e ⊢
   exact h.non j w e
 ·by_cases h1:j=i
  ·by_cases h2:k=i
   ·rw[h1,h2]
   ·subst h1
    have hlt:j<σ.length:=by
     have:=(List.getElem?_eq_some_iff.mp e1).1
     simpa using this
    rw[List.getElem?_set_self hlt]at e1
    rw[List.getElem?_set_ne (Ne.symm h2)]at e2
    cases e1
    exact absurd rfl (old _ ⟨k,hk,e2⟩)
  ·rw[List.getElem?_set_ne (Ne.symm h1)]at e1
   by_cases h2:k=i
   ·subst h2
    have hlt:k<σ.length:=by
     have:=(List.getElem?_eq_some_iff.mp e2).1
     simpa using this
    rw[List.getElem?_set_self hlt]at e2
    cases e2
    exact absurd rfl (old _ ⟨j,hj,e1⟩)
   ·rw[List.getElem?_set_ne (Ne.symm h2)]at e2
    exact h.sep j k b hj hk e1 e2
theorem RVm.i7{i:Nat}{d':RL.D}{a:Addr}{o o':HO}(h:RVm K M σD σ H)(hi:M.contains i=true)(e:σ[i]?=some (some (.ref a)))(ha:H a=some o)(m:cI o)(r:Own K (upd H a o') d' (.ref a)):RVm K M (σD.set i (some d')) σ (upd H a o')/\Fr' M σ H σ (upd H a o'):=by
 have pa:bF M σ a:=⟨i,hi,e⟩
 refine⟨⟨by simpa using h.len,fun j dj e'=>?_,fun j w e'=>?_,h.sep⟩,⟨fun b u eb n=>⟨?_,n⟩,fun _ _=>rfl⟩⟩
 ·by_cases hj:j=i
  ·subst hj
   have hlt:j<σD.length:=by
    have:=(List.getElem?_eq_some_iff.mp e').1
    simpa using this
   rw[List.getElem?_set_self hlt]at e'
   cases e'
   refine⟨.ref a,e,?_⟩
   rw[if_pos hi]
   exact r
  ·rw[List.getElem?_set_ne (Ne.symm hj)]at e'
   obtain⟨v,h1,h2⟩:=h.val j dj e'
   refine⟨v,h1,?_⟩
   by_cases hm:M.contains j=true
   ·rw[if_pos hm]at h2 ⊢
    obtain⟨b,ob,rfl,hb,_⟩:=h2.ref
    have hne:b≠a:=fun z=>by subst z;exact hj (h.sep j i b hm hi h1 e)
    obtain⟨q1,q2,q3⟩:=h2
    refine⟨q1,q2,?_⟩
    have im:∀ {ds:List RL.D} {xs:List V},RL.au ds=true->ab nP K H ds xs->ab nP K (L2.upd H a o') ds xs:=fun hi r=>(ab.upd (P:=fun p=>p=a) ha m rfl (r.imm hi)).imm hi
    cases dj with
    | lst ds=>obtain⟨b',xs,e1,e0,e2,e3⟩:=aH q3;cases e1;rw[Rep];exact⟨b,xs,rfl,fun z=>z,by rw[L2.aR hne];exact e2,im q2 e3⟩
    | dK ks ds=>rw[Rep]at q3 ⊢;obtain⟨b',xs,e1,e0,e2,el,e3⟩:=q3;cases e1;exact⟨b,xs,rfl,fun z=>z,by rw[L2.aR hne];exact e2,el,im q2 e3⟩
    | dT ks ds=>rw[Rep]at q3 ⊢;obtain⟨b',xs,e1,e0,e2,el,e3⟩:=q3;cases e1;exact⟨b,xs,rfl,fun z=>z,by rw[L2.aR hne];exact e2,el,im q2 e3⟩
    | _=>cases q1
   ·rw[if_neg hm]at h2 ⊢
    exact Rep.upd ha m pa h2
 ·obtain⟨dj,hd⟩:=h.non j w e'
  by_cases hj:j=i
  ·subst hj
   have hlt:=(List.getElem?_eq_some_iff.mp hd).1
   exact⟨d',by rw[List.getElem?_set_self hlt]⟩
  ·exact⟨dj,by rw[List.getElem?_set_ne (Ne.symm hj)];exact hd⟩
 ·have hb:b≠a:=fun z=>n (z▸pa)
  rw[L2.aR hb]
  exact eb
end st
noncomputable def uC(K:PySem.W.Frag)(M:List Nat)(D:Ends)(σ:L2.St)(H:Hp):RL.Out->RL.St->Prop
 | .nx,σD'=>∀ σ' H',RVm K M σD' σ' H'->Fr' M σ H σ' H'->D.nx σ' H'
 | .rt d,σD'=>∀ σ1 H1 v H',RVm K M σD' σ1 H1->Fr' M σ H σ1 H1->a6 H1 H'->(∀ P:Addr->Prop,(∀ p,P p->H1 p≠none/\¬ bF M σ1 p)->Rep P K H' d v)->D.rt v H'
theorem uC.from{K:PySem.W.Frag}{M:List Nat}{D:Ends}{σ σ1:L2.St}{H H1:Hp}{r:RL.Out}{σD':RL.St}(h:uC K M D σ H r σD')(f:Fr' M σ H σ1 H1):uC K M D σ1 H1 r σD':=by
 cases r with
 | nx=>exact fun σ2 H2 rv2 fr2=>h σ2 H2 rv2 (f.trans fr2)
 | rt d=>exact fun σ1 H1 v H2 rv2 fr2 sm rp=>h σ1 H1 v H2 rv2 (f.trans fr2) sm rp
noncomputable def tS(K:PySem.W.Frag)(M:List Nat)(f:RL.St->Option (RL.Out × RL.St)):TS:=fun D σ H=>∃ σD r σD',RVm K M σD σ H/\f σD=some (r,σD')/\uC K M D σ H r σD'
noncomputable def SS(X:Cx)(cl:RL.Cl)(M:List Nat)(st:Stmt)(s:RL.S):Prop:=PS X st (tS X.K M (RL.evS cl M s))
noncomputable def SSs(X:Cx)(cl:RL.Cl)(M:List Nat)(st:List Stmt)(s:RL.Ss):Prop:=PSs X st (tS X.K M (RL.ah cl M s))
section rules
variable{X:Cx}{cl:RL.Cl}{M:List Nat}{st:Stmt}{sts:List Stmt}{e' k' c':RL.E}{i j:Nat}
theorem Bz:SSs X cl M [] .nil:=by
 refine PSs.weak Bs fun D σ H h=>?_
 obtain⟨σD,r,σD',rv,e,k⟩:=h
 rw[RL.ah]at e
 cases e
 exact k σ H rv (Fr'.same (a6.refl H))
theorem yD{s:RL.S}{r:RL.Ss}(h1:SS X cl M st s)(h2:SSs X cl M sts r):SSs X cl M (st::sts) (.cons s r):=by
 refine PSs.weak (yA h1 h2) fun D σ H h=>?_
 obtain⟨σD,o,σD',rv,e,k⟩:=h
 rw[RL.ah]at e
 obtain⟨p,e1,e2⟩:=bind_some e
 obtain⟨o1,σ1⟩:=p
 refine⟨σD,o1,σ1,rv,e1,?_⟩
 cases o1 with
 |rt d=>
  cases e2
  exact k
 |nx=>
  exact fun σ' H' rv' fr'=>⟨σ1,o,σD',rv',e2,k.from fr'⟩
theorem xQ:SS X cl M st .never:=by
 refine PS.weak ye fun D σ H h=>?_
 obtain⟨σD,o,σD',rv,e,k⟩:=h
 rw[RL.evS]at e
 cases e
theorem Dj(h:SA X cl st i e')(hi:M.contains i=false):SS X cl M st (.asg i e'):=by
 refine PS.weak h fun D σ H h=>?_
 obtain⟨σD,o,σD',rv,e,k⟩:=h
 rw[RL.evS]at e
 obtain⟨d,e1,e2⟩:=bind_some e
 split at e2
 ·rename_i ok
  cases e2
  refine⟨σD,d,rv.rv0,e1,fun v H1 r1=>k _ _ ?_ (Fr'.bind hi r1.same)⟩
  refine(rv.same r1.same).bind hi ?_
  unfold RL.aU at ok
  rw[Bool.or_eq_true,Bool.or_eq_true,Bool.and_eq_true]at ok
  rcases ok with(q | ⟨q1,q2⟩) | q
  ·exact r1.rep.imm q
  ·have rp:=r1.rep
   have fr:lQ d=true->∀ a,v=.ref a->¬ bF M σ a:=fun m a z p=>rv.qq a p (r1.fresh q2 m a z)
   cases d with
   | lst ds=>obtain⟨a,xs,e1,e0,e2,e3⟩:=aH rp;rw[Rep];exact⟨a,xs,e1,fr rfl a e1,e2,e3.imm q1⟩
   | dK ks ds=>rw[Rep]at rp ⊢;obtain⟨a,xs,e1,e0,e2,el,e3⟩:=rp;exact⟨a,xs,e1,fr rfl a e1,e2,el,e3.imm q1⟩
   | dT ks ds=>rw[Rep]at rp ⊢;obtain⟨a,xs,e1,e0,e2,el,e3⟩:=rp;exact⟨a,xs,e1,fr rfl a e1,e2,el,e3.imm q1⟩
   | _=>cases q1
  ·refine r1.av M q _ rv.qq fun j dj vj hj h1 h2=>?_
   obtain⟨v',h3,h4⟩:=rv.val j dj h1
   rw[h2]at h3
   cases h3
   rw[if_neg (by rw[hj];decide)]at h4
   exact h4
 ·cases e2
theorem Ek(h:SA X cl st i e')(hi:M.contains i=true)(hi2:M.count i<2):SS X cl M st (.own i e'):=by
 refine PS.weak h fun D σ H h=>?_
 obtain⟨σD,o,σD',rv,e,k⟩:=h
 rw[RL.evS]at e
 obtain⟨d,e1,e2⟩:=bind_some e
 split at e2
 ·rename_i ok
  cases e2
  rw[Bool.and_eq_true]at ok
  refine⟨σD,d,rv.rv0,e1,fun v H1 r1=>?_⟩
  have m:lQ d=true:=by
   cases d with
   | lst _=>rfl
   | dK _ _=>rfl
   | dT _ _=>rfl
   | _=>cases ok.1
  have ow:Own X.K H1 d v:=⟨m,ok.1,r1.rep⟩
  obtain⟨a,ob,rfl,_,_⟩:=ow.ref
  obtain⟨h1,h2⟩:=rv.own r1.same hi hi2 (r1.fresh ok.2 m a rfl) ow
  exact k _ _ h1 h2
 ·cases e2
theorem Fs{c:Expr}{a b:List Stmt}{a' b':RL.Ss}{pos:Pos}(hc:ST X cl c c')(ha:SSs X cl M a a')(hb:SSs X cl M b b'):SS X cl M (.If c a b pos) (.ife c' a' b'):=by
 refine PS.weak (zB hc ha hb) fun D σ H h=>?_
 obtain⟨σD,o,σD',rv,e,k⟩:=h
 rw[RL.evS]at e
 obtain⟨t,e1,e2⟩:=bind_some e
 refine⟨σD,t,rv.rv0,e1,fun H1 s1=>?_⟩
 have k1:=k.from (Fr'.same (σ:=σ) s1)
 cases t with
 | true=>exact eZ ⟨σD,o,σD',rv.same s1,e2,k1⟩
 | false=>exact fM ⟨σD,o,σD',rv.same s1,e2,k1⟩
theorem DI{e:Expr}{pos:Pos}(he:SE X cl e e')(hv:∀ i,e'=.var i->M.contains i=false):SS X cl M (.Return (some e) pos) (.ret e'):=by
 refine PS.weak (xl he) fun D σ H h=>?_
 obtain⟨σD,o,σD',rv,ev,k⟩:=h
 rw[RL.evS]at ev
 obtain⟨d,e1,e2⟩:=bind_some ev
 split at e2
 ·rename_i ok
  cases e2
  refine⟨σD,d,rv.rv0,e1,fun v H1 r1=>k σ H v H1 rv (Fr'.same (a6.refl H)) r1.same fun P hP=>?_⟩
  unfold RL.aV at ok
  rw[Bool.or_eq_true,Bool.and_eq_true,Bool.or_eq_true]at ok
  rcases ok with q | ⟨q1,q2⟩
  ·exact r1.rep.imm q
  ·have rp:=r1.rep
   have fr:lQ d=true->∀ a,v=.ref a->¬ P a:=fun m a z p=>by
    rcases q2 with q | q
    ·exact(hP a p).1 (r1.fresh q m a z)
    ·cases e' with
     |var i=>
      have hi:M.contains i=true:=q
      rw[hv i rfl]at hi
      cases hi
     | _=>cases q
   cases d with
   | lst ds=>obtain⟨a,xs,e1,e0,e2,e3⟩:=aH rp;rw[Rep];exact⟨a,xs,e1,fr rfl a e1,e2,e3.imm q1⟩
   | dK ks ds=>rw[Rep]at rp ⊢;obtain⟨a,xs,e1,e0,e2,el,e3⟩:=rp;exact⟨a,xs,e1,fr rfl a e1,e2,el,e3.imm q1⟩
   | dT ks ds=>rw[Rep]at rp ⊢;obtain⟨a,xs,e1,e0,e2,el,e3⟩:=rp;exact⟨a,xs,e1,fr rfl a e1,e2,el,e3.imm q1⟩
   | _=>cases q1
 ·cases e2
theorem AA{x:Str}{p pos:Pos}(hN:X.N[i]?=some x)(hv:Vis X.env.scope x)(hd:(x == ("__debug__" : Str))=false)(hcd:(x == ("__classdict__" : Str))=false)(hi:M.contains i=true):SS X cl M (.Return (some (.Name x p)) pos) (.ret (.var i)):=by
 refine PS.weak (xl (gN hN hv hd hcd)) fun D σ H h=>?_
 obtain⟨σD,o,σD',rv,e,k⟩:=h
 rw[RL.evS]at e
 obtain⟨d,e1,e2⟩:=bind_some e
 split at e2
 ·cases e2
  have e3:σD[i]?=some (some d):=by
   rw[RL.ev]at e1
   obtain⟨o,h1,h2⟩:=bind_some e1
   cases o with
   | none=>cases h2
   | some z=>cases h2;exact h1
  obtain⟨v,h1,h2⟩:=rv.val i d e3
  rw[if_pos hi]at h2
  refine⟨v,h1,k σ H v H rv (Fr'.same (a6.refl H)) (a6.refl H) fun P hP=>?_⟩
  obtain⟨a,o,rfl,_,_⟩:=h2.ref
  have np:¬ P a:=fun p=>(hP a p).2 ⟨i,hi,h1⟩
  obtain⟨q1,q2,q3⟩:=h2
  cases d with
  | lst ds=>obtain⟨b,xs,e1,e0,e2,e3⟩:=aH q3;cases e1;rw[Rep];exact⟨a,xs,rfl,np,e2,e3.imm q2⟩
  | dK ks ds=>rw[Rep]at q3 ⊢;obtain⟨b,xs,e1,e0,e2,el,e3⟩:=q3;cases e1;exact⟨a,xs,rfl,np,e2,el,e3.imm q2⟩
  | dT ks ds=>rw[Rep]at q3 ⊢;obtain⟨b,xs,e1,e0,e2,el,e3⟩:=q3;cases e1;exact⟨a,xs,rfl,np,e2,el,e3.imm q2⟩
  | _=>cases q1
 ·cases e2
theorem slot_get{σD:RL.St}{d:RL.D}(h:(σD[i]?).bind id=some d):σD[i]?=some (some d):=by
 obtain⟨o,h1,h2⟩:=bind_some h
 cases o with
 | none=>cases h2
 | some z=>cases h2;exact h1
theorem E2(h:PS X st (pO (tBM X.K "list" tF (jw i) (tEs X.K cl (.cons e' .nil)))))(hi:M.contains i=true):SS X cl M st (.app i e'):=by
 refine PS.weak h fun D σ H h=>?_
 obtain⟨σD,o,σD',rv,e,k⟩:=h
 rw[RL.evS]at e
 obtain⟨d,e1,e2⟩:=bind_some e
 obtain⟨l,e3,e4⟩:=bind_some e2
 cases l with
 |lst ds=>
  dsimp only at e4
  split at e4
  ·rename_i ok
   cases e4
   rw[Bool.and_eq_true,decide_eq_true_eq]at ok
   obtain⟨v,h1,h2⟩:=rv.val i _ (slot_get e3)
   rw[if_pos hi]at h2
   obtain⟨q1,q2,q3⟩:=h2
   obtain⟨a,xs,rfl,_,f2,f3⟩:=aH q3
   refine⟨.ref a,h1,.inl ⟨rfl,xs,SqL.of f2⟩,σD,[d],rv.rv0,by rw[RL.evs,e1];rfl,fun vs H1 s1 r1=>?_⟩
   rw[ab]at r1
   obtain⟨y,t,rfl,r2,r3⟩:=r1
   rw[ab]at r3
   subst r3
   have hl:xs.length<sizeLine:=by rw[<-f3.length];exact Nat.lt_of_lt_of_le ok.2 cm
   refine⟨a,xs,y,rfl,rfl,s1 _ _ f2,hl,?_⟩
   have im:RL.au (ds++[d])=true:=by
    have:∀ l:List RL.D,RL.au l=true->RL.au (l++[d])=true:=fun l=>by
     induction l with
     | nil=>intro _;simp[RL.au,ok.1]
     | cons z r ih=>intro h;rw[RL.au,Bool.and_eq_true]at h;rw[List.cons_append,RL.au,h.1,ih h.2];rfl
    exact this ds q2
   have rs:ab nP X.K (upd H1 a (.lst (xs++[y]))) (ds++[d]) (xs++[y]):=(ab.upd (P:=fun p=>p=a) (s1 _ _ f2) (.inl ⟨_,rfl⟩) rfl ((ab.append (f3.same s1) (ab.cons r2 ab.nil)).imm im)).imm im
   obtain⟨g1,g2⟩:=(rv.same s1).i7 (d':=.lst (ds++[d])) (o':=.lst (xs++[y])) hi h1 (s1 _ _ f2) (.inl ⟨_,rfl⟩) ⟨rfl,im,by rw[Rep];exact⟨a,_,rfl,fun z=>z,bC,rs⟩⟩
   exact k _ _ g1 ((Fr'.same s1).trans g2)
  ·cases e4
 | _=>cases e4
end rules
theorem RVm.bH{K:PySem.W.Frag}{M:List Nat}{H:Hp}:∀ {tg:List Nat} {ds:List RL.D} {vs:List V} {σD:RL.St} {σ:L2.St},RVm K M σD σ H->(∀ i∈tg,M.contains i=false)->tg.length=ds.length->RL.au ds=true->ab nP K H ds vs ->
  RVm K M (dW tg ds σD) (cO tg vs σ) H/\bF M (cO tg vs σ)=bF M σ
 | [],_,_,_,_,h,_,_,_,_=>⟨h,rfl⟩
 | i::is,[],_,_,_,_,_,hl,_,_=>by simp at hl
 | i::is,d::ds,vs,σD,σ,h,hM,hl,him,r=>by
  rw[ab]at r
  obtain⟨v,t,rfl,r1,r2⟩:=r
  rw[RL.au,Bool.and_eq_true]at him
  rw[dW,cO]
  have hi:=hM i List.mem_cons_self
  obtain⟨g1,g2⟩:=RVm.bH (h.bind hi (r1.imm him.1)) (fun j hj=>hM j (List.mem_cons_of_mem _ hj)) (by simpa using hl) him.2 r2
  exact⟨g1,g2.trans (bF.set hi)⟩
theorem rR{M tg:List Nat}{vs:List V}{σ:L2.St}{j:Nat}(hM:∀ i∈tg,M.contains i=false)(hj:2<=M.count j):(cO tg vs σ)[j]?=σ[j]?:=by
 refine nD tg vs σ j ?_
 cases hc:tg.contains j with
 | false=>rfl
 |true=>
  have:=hM j (by simpa using hc)
  rw[kH hj]at this
  cases this
section rules
variable{X:Cx}{cl:RL.Cl}{M:List Nat}{st:Stmt}{tgE iter:Expr}{body:List Stmt}{b:RL.Ss}{it:RL.It}{tg:List Nat}{e' k' a' b':RL.E}{i j:Nat}{pos:Pos}
theorem uB{f:RL.St->Option (RL.Out × RL.St)}{d:RL.D}{ds:List RL.D}{σ:RL.St}{p:RL.Out × RL.St}(h:RL.aZ f tg (d::ds) σ=some p):d.imm=true/\∃ σ1 o σ2,RL.aM tg d σ=some σ1/\f σ1=some (o,σ2) /\
  (match o with | .nx=>RL.aZ f tg ds σ2=some p | .rt d=>p=(.rt d,σ2)):=by
 rw[RL.aZ]at h
 split at h
 ·rename_i him
  obtain⟨σ1,h1,h⟩:=bind_some h
  obtain⟨⟨o,σ2⟩,h2,h⟩:=bind_some h
  refine⟨him,σ1,o,σ2,h1,h2,?_⟩
  cases o with
  | nx=>exact h
  | rt d=>exact(Option.some.inj h).symm
 ·cases h
theorem B8(hx:X.xe=fun _ _=>False)(hc:X.calm=true)(hi:SI X cl tgE iter it)(hg:PG X tgE (gT X.K tg))(hb:SSs X cl M body b)(hs:∀ x,foldedSetIterable iter X.env x=pure x)(hav:RL.uI M it=true)(hM:∀ i∈tg,M.contains i=false) :
  SS X cl M (.For tgE iter body [] pos) (.forr tg it b):=by
 refine PS.weak (Dt (by rw[hx];exact PassesOwn.never) hc hi hg hb hs) fun D σ H h=>?_
 obtain⟨σD,r,σD',rv,e,k⟩:=h
 rw[RL.evS]at e
 obtain⟨ds,e1,e2⟩:=bind_some e
 refine⟨σD,ds,rv.rv0,e1,fun J H1 s1 src=>?_⟩
 have ok:ja X.K J ds (bF M σ) H1:=src.2 M (bF M σ) hav rv.xS fun j dj vj hj h1 h2=>by
  obtain⟨v',h3,h4⟩:=rv.val j dj h1
  rw[h2]at h3
  cases h3
  rw[if_neg (by rw[hj];decide)]at h4
  exact h4
 have k1:=k.from (Fr'.same (σ:=σ) s1)
 refine⟨fun i m σ2 H2=>∃ σD2,m=ds.length-i/\i<=ds.length/\RVm X.K M σD2 σ2 H2/\Fr' M σ H1 σ2 H2/\RL.aZ (RL.ah cl M b) tg (ds.drop i) σD2=some (r,σD'),⟨_,σD,rfl,Nat.zero_le _,rv.same s1,Fr'.same (a6.refl _),e2⟩,?_⟩
 rintro i m σ2 H2 ⟨σD2,rfl,hi2,rv2,fr2,hl⟩
 have off:Off (bF M σ) H1 H2:=fun b o n e=>(fr2.1 b o e n).1
 by_cases hlt:i<ds.length
 ·refine .inr ⟨ok.go H2 i off hlt,fun σ' H'=>∃ m',m'<ds.length-i/\∃ σD2,m'=ds.length-(i+1)/\i+1<=ds.length/\RVm X.K M σD2 σ' H'/\Fr' M σ H1 σ' H'/\RL.aZ (RL.ah cl M b) tg (ds.drop (i+1)) σD2=some (r,σD'),fun σ' H' z=>z,fun x H3 y=>?_⟩
  rw[List.drop_eq_getElem_cons hlt]at hl
  obtain⟨him,σ3,o,σ4,h1,h2,h3⟩:=uB hl
  obtain⟨s3,rp⟩:=ok.yld H2 i ds[i] x H3 off (by simp[hlt]) y
  obtain⟨dv,vs,q1,q2,q3,q4,q5⟩:=zR h1 (rp (.inl him))
  refine q5 _ _ ?_
  obtain⟨rv3,as3⟩:=(rv2.same s3).bH hM q2 (q4 him) q3
  have fr3:Fr' M σ H1 (cO tg vs σ2) H3:=⟨fun b o e n=>⟨s3 _ _ (fr2.1 b o e n).1,by rw[as3];exact(fr2.1 b o e n).2⟩,fun j hj=>(rR hM hj).trans (fr2.2 j hj)⟩
  refine⟨σ3,o,σ4,by rw[q1];exact rv3,h2,?_⟩
  cases o with
  | nx=>exact fun σ' H' rv' fr'=>⟨_,by lia,σ4,rfl,hlt,rv',fr3.trans fr',h3⟩
  |rt d=>
   cases h3
   exact fun σ' H' v H4 rv' fr' sm rp=>k1 σ' H' v H4 rv' (fr3.trans fr') sm rp
 ·have e:i=ds.length:=by lia
  subst e
  rw[List.drop_length,RL.aZ]at hl
  cases hl
  exact .inl ⟨ok.stop H2 off,k1 σ2 H2 rv2 fr2⟩
theorem yp{n:Nat}{k:Int}{j:Nat}(h:RL.oh n k=some j):ixN n k=some j:=h
theorem wz:∀ {ds:List RL.D} {d:RL.D} (j:Nat),RL.au ds=true->d.imm=true->RL.au (ds.set j d)=true
 | [],d,j,_,_=>by simp[RL.au]
 | x::r,d,0,h,hd=>by rw[RL.au,Bool.and_eq_true]at h;rw[List.set_cons_zero,RL.au,hd,h.2];rfl
 | x::r,d,j+1,h,hd=>by rw[RL.au,Bool.and_eq_true]at h;rw[List.set_cons_succ,RL.au,h.1,wz j h.2 hd];rfl
theorem nZ{H:Hp}{a:Addr}{ds:List RL.D}{xs ys:List V}{ds':List RL.D}(f2:H a=some (.lst xs))(im:RL.au ds'=true)(rs:ab nP X.K H ds' ys):Own X.K (upd H a (.lst ys)) (.lst ds') (.ref a) :=
 ⟨rfl,im,by rw[Rep];exact⟨a,_,rfl,fun z=>z,bC,(ab.upd (P:=fun p=>p=a) f2 (.inl ⟨_,rfl⟩) rfl (rs.imm im)).imm im⟩⟩
theorem E5(h:PS X st (nQ (tE X.K cl e') (xK (jw i) (tE X.K cl k') uL)))(hi:M.contains i=true)(hl:True):PS X st (tS X.K M fun σD=>(RL.ev cl σD e').bind fun d=>(RL.ev cl σD k').bind fun kk=>((σD[i]?).bind id).bind fun l=>match l with
  | .lst _=>if d.imm then(RL.du l kk d).map fun l'=>(.nx,σD.set i (some l'))else none
  | _=>none):=by
 refine PS.weak h fun D σ H h=>?_
 obtain⟨σD,o,σD',rv,e,k⟩:=h
 obtain⟨d,e1,e⟩:=bind_some e
 obtain⟨kk,e2,e⟩:=bind_some e
 obtain⟨l,e3,e⟩:=bind_some e
 cases l with
 |lst ds=>
  dsimp only at e
  split at e
  ·rename_i him
   obtain⟨l',e4,e5⟩:=map_some e
   cases e5
   obtain⟨v,h1,h2⟩:=rv.val i _ (slot_get e3)
   rw[if_pos hi]at h2
   obtain⟨q1,q2,q3⟩:=h2
   obtain⟨a,xs,rfl,_,f2,f3⟩:=aH q3
   cases kk with
   |int kk=>
    obtain⟨jx,e6,e7⟩:=map_some (show(RL.oh ds.length kk).map (fun j=>RL.D.lst (ds.set j d))=some l' from e4)
    subst e7
    refine⟨σD,d,rv.rv0,e1,fun y H1 r1=>⟨.ref a,h1,σD,.int kk,rv.rv0.same r1.same,e2,fun z H2 r2=>?_⟩⟩
    have sm:=r1.same.trans r2.same
    refine⟨a,xs,kk,jx,rfl,ag r2.rep,sm _ _ f2,?_,?_⟩
    ·rw[<-f3.length]
     exact yp e6
    ·have im:=wz jx q2 him
     obtain⟨g1,g2⟩:=(rv.same sm).i7 (d':=.lst (ds.set jx d)) (o':=.lst (xs.set jx y)) hi h1 (sm _ _ f2) (.inl ⟨_,rfl⟩) (nZ (ds:=ds) (sm _ _ f2) im (ab.set jx (f3.same sm) (r1.rep.same r2.same)))
     exact k _ _ g1 ((Fr'.same sm).trans g2)
   | _=>cases e4
  ·cases e
 | _=>cases e
theorem ox:∀ {ds:List RL.D},RL.au ds=true->RL.au ds.dropLast=true
 | [],_=>rfl
 | [x],_=>rfl
 | x::y::r,h=>by rw[RL.au,Bool.and_eq_true]at h;rw[List.dropLast_cons_cons,RL.au,h.1,ox h.2];rfl
theorem we:∀ {ds:List RL.D} {i:Nat} {d:RL.D},RL.au ds=true->ds[i]?=some d->d.imm=true
 | [],i,d,_,e=>by simp at e
 | x::r,0,d,h,e=>by rw[RL.au,Bool.and_eq_true]at h;simp at e;subst e;exact h.1
 | x::r,i+1,d,h,e=>by rw[RL.au,Bool.and_eq_true]at h;exact we (i:=i) h.2 (by simpa using e)
theorem ab.dropLast{P:Addr->Prop}{K:PySem.W.Frag}{H:Hp}{ds:List RL.D}{xs:List V}(h:ab P K H ds xs):ab P K H ds.dropLast xs.dropLast:=by
 rw[List.dropLast_eq_take,List.dropLast_eq_take,<-h.length]
 exact h.take _
theorem BC(h:PS X st (nQ (xV X.K "list" yC (jw i)) (mR j)))(hi:M.contains i=true)(hj:M.contains j=false):SS X cl M st (.pop i j):=by
 refine PS.weak h fun D σ H h=>?_
 obtain⟨σD,o,σD',rv,e,k⟩:=h
 rw[RL.evS]at e
 obtain⟨l,e3,e⟩:=bind_some e
 cases l with
 |lst ds=>
  obtain⟨d,e4,e5⟩:=map_some e
  cases e5
  obtain⟨v,h1,h2⟩:=rv.val i _ (slot_get e3)
  rw[if_pos hi]at h2
  obtain⟨q1,q2,q3⟩:=h2
  obtain⟨a,xs,rfl,_,f2,f3⟩:=aH q3
  obtain⟨y,f4,f5⟩:=f3.get e4
  refine⟨.ref a,h1,.inl ⟨rfl,xs,SqL.of f2⟩,a,xs,y,rfl,rfl,f2,by rw[<-f3.length];exact f4,?_⟩
  have im:=ox q2
  obtain⟨g1,g2⟩:=rv.i7 (d':=.lst ds.dropLast) (o':=.lst xs.dropLast) hi h1 f2 (.inl ⟨_,rfl⟩) (nZ (ds:=ds) f2 im f3.dropLast)
  have hdi:d.imm=true:=we q2 e4
  have rd:Rep (bF M σ) X.K (upd H a (.lst xs.dropLast)) d y:=Rep.imm hdi (Rep.upd (P:=fun p=>p=a) f2 (.inl ⟨_,rfl⟩) rfl (f5.imm hdi))
  exact k _ _ (g1.bind hj rd) (g2.trans (Fr'.bind hj (a6.refl _)))
 | _=>cases e
theorem Ei(h:PS X st (DJ i j (tEs X.K cl (.cons a' (.cons b' .nil)))))(hi:M.contains i=false)(hj:M.contains j=false):SS X cl M st (.par i j a' b'):=by
 refine PS.weak h fun D σ H h=>?_
 obtain⟨σD,o,σD',rv,e,k⟩:=h
 rw[RL.evS]at e
 obtain⟨x,e1,e⟩:=bind_some e
 obtain⟨y,e2,e⟩:=bind_some e
 split at e
 ·rename_i him
  cases e
  rw[Bool.and_eq_true]at him
  refine⟨σD,[x,y],rv.rv0,by rw[RL.evs,e1,RL.evs,e2];rfl,fun vs H1 s1 r1=>?_⟩
  rw[ab]at r1
  obtain⟨v,t,rfl,r2,r3⟩:=r1
  rw[ab]at r3
  obtain⟨u,t,rfl,r4,r5⟩:=r3
  rw[ab]at r5
  subst r5
  refine⟨v,u,rfl,k _ _ ?_ ?_⟩
  ·refine((rv.same s1).bind hi (r2.imm him.1)).bind hj (r4.imm him.2)
  ·exact(Fr'.bind hi s1).trans (Fr'.bind hj (a6.refl _))
 ·cases e
theorem CU(h:PS X st (pO (tE X.K cl e'))):SS X cl M st (.exc e'):=by
 refine PS.weak h fun D σ H h=>?_
 obtain⟨σD,o,σD',rv,e,k⟩:=h
 rw[RL.evS]at e
 obtain⟨d,e1,e2⟩:=map_some e
 cases e2
 exact⟨σD,d,rv.rv0,e1,fun v H1 r1=>k _ _ (rv.same r1.same) (Fr'.same r1.same)⟩
end rules
section rules
variable{X:Cx}{cl:RL.Cl}{M:List Nat}{st:Stmt}{e':RL.E}
theorem An{is:List Nat}(h:PS X st (nQ (tE X.K cl e') (fun v σ H Q=>ny X.K is.length (gs is) v σ H Q\/nJ X.K is.length (gs is) v σ H Q)))(hM:∀ i∈is,M.contains i=false):SS X cl M st (.unp is e'):=by
 refine PS.weak h fun D σ H h=>?_
 obtain⟨σD,o,σD',rv,e,k⟩:=h
 rw[RL.evS]at e
 obtain⟨d,e1,e⟩:=bind_some e
 obtain⟨ds,e2,e⟩:=bind_some e
 split at e
 ·rename_i him
  obtain⟨σ1,e3,e4⟩:=map_some e
  cases e4
  obtain⟨q1,q2⟩:=fF e3
  refine⟨σD,d,rv.rv0,e1,fun v H1 r1=>?_⟩
  obtain⟨p,xs,rfl,hp,rs⟩:=fk e2 r1.rep
  obtain⟨g1,g2⟩:=(rv.same r1.same).bH (vs:=xs) hM q1 him rs
  have fin:D.nx (cO is xs σ) H1:=k _ _ (by rw[q2];exact g1) ⟨fun b o e n=>⟨r1.same _ _ e,by rw[g2];exact n⟩,fun j hj=>rR hM hj⟩
  have hl:xs.length=is.length:=by rw[<-rs.length,q1]
  rcases hp with⟨hp,_⟩ | ⟨hp,_⟩
  ·exact .inr ⟨p,xs,rfl,SqL.of hp,hl,jh hl.symm fin⟩
  ·exact .inl ⟨p,xs,rfl,SqT.of hp,hl,jh hl.symm fin⟩
 ·cases e
theorem lR{α:Type}(xs:List α)(k:Int):(xs.drop (HT.sIx xs.length 0 none)).take (HT.sIx xs.length xs.length (some k)-HT.sIx xs.length 0 none)=xs.take (RL.cutAt xs.length k):=by
 rw[HT.yg,List.drop_zero,Nat.sub_zero]
 congr 1
 have h:=HT.kW k xs.length xs.length
 unfold RL.cutAt
 split at h
 ·rename_i h0
  rw[if_neg (by lia)]
  lia
 ·rename_i h0
  rw[if_pos (by lia)]
  lia
end rules
section rules
variable{X:Cx}{cl:RL.Cl}{a b:Expr}{a' b':RL.E}{pos p p2:Pos}{x:Str}
theorem one{σ:L2.St}{H:Hp}{R:List V->Hp->Prop}{σD:RL.St}{d:RL.D}(rv:RV0 X.K σD σ H)(ea:RL.ev cl σD a'=some d)(k:∀ v H1,a6 H H1->Rep nP X.K H1 d v->R [v] H1):tEs X.K cl (.cons a' .nil) σ H R :=
 ⟨σD,[d],rv,by rw[RL.evs,ea];rfl,fun vs H1 s1 r1=>by
  rw[ab]at r1
  obtain⟨v,t,rfl,r2,r3⟩:=r1
  rw[ab]at r3
  subst r3
  exact k v H1 s1 r2⟩
theorem pair{σ:L2.St}{H:Hp}{R:List V->Hp->Prop}{σD:RL.St}{d d':RL.D}(rv:RV0 X.K σD σ H)(ea:RL.ev cl σD a'=some d)(eb:RL.ev cl σD b'=some d')(k:∀ v u H1,a6 H H1->Rep nP X.K H1 d v->Rep nP X.K H1 d' u->R [v,u] H1):tEs X.K cl (.cons a' (.cons b' .nil)) σ H R :=
 ⟨σD,[d,d'],rv,by rw[RL.evs,ea,RL.evs,eb];rfl,fun vs H1 s1 r1=>by
  rw[ab]at r1
  obtain⟨v,t,rfl,r2,r3⟩:=r1
  rw[ab]at r3
  obtain⟨u,t,rfl,r4,r5⟩:=r3
  rw[ab]at r5
  subst r5
  exact k v u H1 s1 r2 r4⟩
theorem oN{id:String}{r:List V->Hp->VK->Prop}{b:RL.Bi}(hc:bJ X (.builtin id) r)(hg:Gl X x)(hm:X.mg x=none)(hv:bootBuiltins x=some (.builtin id))(ha:SE X cl a a')(hn:noStar a=true)(h1:x ≠ "__name__")(h2:(x == ("__debug__" : Str))=false)
 (ok:∀ (σD:RL.St) (σ:L2.St) (H H1:Hp) (y d:RL.D) (v:V) (Q:VK),RL.biV b y=some d->a6 H H1->Rep nP X.K H1 y v->(∀ w H',Res X.K σD σ H (.bi b a') d w H'->Q w H')->r [v] H1 Q):SE X cl (.Call (.Name x p) [a] [] pos) (.bi b a'):=by
 refine PE.weak (gD hc hg hm hv (bE (cl:=cl) ha cA hn) h1 h2 (aA [] hn) rfl) fun σ H Q h=>?_
 obtain⟨σD,d,rv,e,k⟩:=h
 rw[RL.ev]at e
 obtain⟨y,ea,e⟩:=bind_some e
 exact one rv ea fun v H1 s1 r1=>ok σD σ H H1 y d v Q e s1 r1 k
theorem ku{T:String}{r:List V->Hp->VK->Prop}{b:RL.Bi}(hc:bJ X (.type T) r)(hg:Gl X x)(hm:X.mg x=none)(hv:bootBuiltins x=some (.type T))(ha:SE X cl a a')(hn:noStar a=true)(h1:x ≠ "__name__")(h2:(x == ("__debug__" : Str))=false)
 (ok:∀ (σD:RL.St) (σ:L2.St) (H H1:Hp) (y d:RL.D) (v:V) (Q:VK),RL.biV b y=some d->a6 H H1->Rep nP X.K H1 y v->(∀ w H',Res X.K σD σ H (.bi b a') d w H'->Q w H')->r [v] H1 Q):SE X cl (.Call (.Name x p) [a] [] pos) (.bi b a'):=by
 refine PE.weak (cC hc hg hm hv (bE (cl:=cl) ha cA hn) h1 h2 (aA [] hn) rfl) fun σ H Q h=>?_
 obtain⟨σD,d,rv,e,k⟩:=h
 rw[RL.ev]at e
 obtain⟨y,ea,e⟩:=bind_some e
 exact one rv ea fun v H1 s1 r1=>ok σD σ H H1 y d v Q e s1 r1 k
theorem AZ(hg:Gl X "list")(hm:X.mg "list" = none)(ha:SE X cl a a')(hn:noStar a=true):SE X cl (.Call (.Name "list" p) [a] [] pos) (.bi .list a'):=by
 refine ku qL hg hm (by decide +kernel) ha hn (by decide) (by decide) fun σD σ H H1 y d v Q e s1 r1 k=>?_
 obtain⟨ds,e1,e2⟩:=map_some (show(RL.items y).map RL.D.lst=some d from e)
 subst e2
 obtain⟨q,xs,rfl,hp,rs⟩:=fk e1 r1
 refine⟨q,xs,rfl,?_,fun l hl=>k _ _ (dZ s1 hl rs fun _=>rfl)⟩
 rcases hp with⟨z,_⟩ | ⟨z,_⟩
 ·exact .inl (SqL.of z)
 ·exact .inr (SqT.of z)
theorem yl(hg:Gl X "tuple")(hm:X.mg "tuple" = none)(ha:SE X cl a a')(hn:noStar a=true):SE X cl (.Call (.Name "tuple" p) [a] [] pos) (.bi .tuple a'):=by
 refine ku pD hg hm (by decide +kernel) ha hn (by decide) (by decide) fun σD σ H H1 y d v Q e s1 r1 k=>?_
 obtain⟨ds,e1,e2⟩:=map_some (show(RL.items y).map RL.D.tup=some d from e)
 subst e2
 obtain⟨q,xs,rfl,hp,rs⟩:=fk e1 r1
 rcases hp with⟨z,_⟩ | ⟨z,_⟩
 ·exact⟨q,xs,rfl,.inl ⟨SqL.of z,fun l hl=>k _ _ (fh s1 hl rs fun _=>rfl)⟩⟩
 ·refine⟨q,xs,rfl,.inr ⟨SqT.of z,k _ _ ⟨s1,?_,fun _ m=>(by cases m),fun M z=>nomatch (show false=true from z)⟩⟩⟩
  rw[Rep]
  exact⟨q,xs,rfl,z,rs⟩
theorem Ee(hg:Gl X "int")(hm:X.mg "int" = none)(ha:SE X cl a a')(hn:noStar a=true):SE X cl (.Call (.Name "int" p) [a] [] pos) (.bi .int a'):=by
 refine ku wG hg hm (by decide +kernel) ha hn (by decide) (by decide) fun σD σ H H1 y d v Q e s1 r1 k=>?_
 cases y<;>simp only[RL.biV]at e<;>first | (cases e;done) | skip
 case bl t=>cases e;exact .inr ⟨t,by rw[aX r1],k _ _ (cZ s1 aS rfl)⟩
 case int t=>cases e;exact .inl ⟨t,by rw[ag r1],k _ _ (cZ s1 aS rfl)⟩
theorem wa:bJ X (.builtin "len") (fun xs H Q=>(∃ y n,xs=[y]/\DK X.K y H n/\Q (.int n) H)\/∃ q kvs,xs=[V.ref q]/\H q=some (.dK kvs)/\Q (.int kvs.length) H):=bJ.or xy wo
theorem E1(hg:Gl X "len")(hm:X.mg "len" = none)(ha:SE X cl a a')(hn:noStar a=true):SE X cl (.Call (.Name "len" p) [a] [] pos) (.bi .len a'):=by
 refine oN wa hg hm PySem.boot_len ha hn (by decide) (by decide) fun σD σ H H1 y d v Q e s1 r1 k=>?_
 cases y<;>simp only[RL.biV,RL.items,Option.map_some,Option.map_none]at e<;>first | (cases e;done) | skip
 case str t =>
  split at e
  ·rename_i hz
   cases e
   rw[aN r1]
   exact .inl ⟨_,_,rfl,⟨Nat.le_trans hz cm,rfl⟩,k _ _ (cZ s1 aS rfl)⟩
  ·cases e
 case tup t =>
  cases e
  obtain⟨q,xs,rfl,f2,f3⟩:=bw r1
  rw[f3.length]at k
  exact .inl ⟨_,_,rfl,.inr ⟨xs,SqT.of f2,rfl⟩,k _ _ (cZ s1 aS rfl)⟩
 case lst t =>
  cases e
  obtain⟨q,xs,rfl,_,f2,f3⟩:=aH r1
  rw[f3.length]at k
  exact .inl ⟨_,_,rfl,.inl ⟨xs,SqL.of f2,rfl⟩,k _ _ (cZ s1 aS rfl)⟩
 case dK ks t =>
  cases e
  rw[Rep]at r1
  obtain⟨q,xs,rfl,_,f2,fl,f3⟩:=r1
  refine .inr ⟨q,_,rfl,f2,?_⟩
  have:(ks.zip xs).length=ks.length:=by rw[List.length_zip,<-f3.length,fl,Nat.min_self]
  rw[this]
  exact k _ _ (cZ s1 aS rfl)
theorem B7(hc:X.calm=true)(hg:Gl X "max")(hm:X.mg "max" = none)(ha:SE X cl a a')(hb:SE X cl b b')(hn:noStar a=true)(hn2:noStar b=true):SE X cl (.Call (.Name "max" p) [a,b] [] pos) (.max a' b'):=by
 refine PE.weak (gD (xa hc) hg hm (by decide +kernel) (bE (cl:=cl) ha (bE hb cA hn2) hn) (by decide) (by decide) (aA _ hn) (d5 (by simp[hn2]))) fun σ H Q h=>?_
 obtain⟨σD,d,rv,e,k⟩:=h
 rw[RL.ev]at e
 obtain⟨u,ea,e⟩:=bind_some e
 obtain⟨v,eb,e⟩:=bind_some e
 cases u with
 |int i=>
  cases v with
  |int j=>
   cases e
   exact pair rv ea eb fun v u H1 s1 r1 r2=>⟨i,j,by rw[ag r1,ag r2],k _ _ (cZ s1 aS rfl)⟩
  | _=>cases e
 | _=>cases e
noncomputable def tyN:RL.Ty->String
 | .int => "int"
 | .bool => "bool"
 | .list => "list"
 | .tuple => "tuple"
 | .str => "str"
theorem yQ:bJ X (.builtin "isinstance") (fun xs H Q=>∃ y t T k,xs=[y,.ty T]/\eO X.K H y t/\PySem.W.kitOne X.K t (.type T)=some k/\Q (.bl k) H):=by
 intro pins s σ H xs us Q I r h
 obtain⟨y,t,T,k,rfl,ty,e,q⟩:=h
 obtain⟨u,w,rfl,r1,r2⟩:=vals2 r
 cases r2
 exact wU I r1 ty e fun tk=>⟨.bl k,H,I.tok tk,rfl,q⟩
theorem BF{t:RL.Ty}{d:RL.D}{k:Bool}{v:V}{H:Hp}(h:RL.cV t d=some k)(r:Rep nP X.K H d v):∃ ty,eO X.K H v ty/\PySem.W.kitOne X.K ty (.type (tyN t))=some k:=by
 cases d with
 | non=>rw[Rep]at r;subst r;refine⟨_,.non,?_⟩;cases t<;>(simp only[RL.cV]at h;cases h;rfl)
 | bl i=>rw[aX r];refine⟨_,.bl i,?_⟩;cases t<;>(simp only[RL.cV]at h;cases h;rfl)
 | int i=>rw[ag r];refine⟨_,.int i,?_⟩;cases t<;>(simp only[RL.cV]at h;cases h;rfl)
 | str i=>rw[aN r];refine⟨_,.str i,?_⟩;cases t<;>(simp only[RL.cV]at h;cases h;rfl)
 | tup i=>obtain⟨q,xs,rfl,f2,f3⟩:=bw r;refine⟨_,.tup f2,?_⟩;cases t<;>(simp only[RL.cV]at h;cases h;rfl)
 | lst i=>obtain⟨q,xs,rfl,_,f2,f3⟩:=aH r;refine⟨_,.lst f2,?_⟩;cases t<;>(simp only[RL.cV]at h;cases h;rfl)
 | _=>cases t<;>(simp only[RL.cV]at h;cases h)
theorem D8{t:RL.Ty}{y:Str}(hg:Gl X "isinstance")(hm:X.mg "isinstance" = none)(hgy:Gl X y)(hmy:X.mg y=none)(hy:bootBuiltins y=some (.type (tyN t)))(hy1:y ≠ "__name__")(hy2:(y == ("__debug__" : Str))=false)(ha:SE X cl a a')(hn:noStar a=true) :
  SE X cl (.Call (.Name "isinstance" p) [a,.Name y p2] [] pos) (.isi a' t):=by
 have hty:PE X (.Name y p2) (tC (.ty (tyN t))):=Bt hgy hmy hy rfl hy1 hy2
 refine PE.weak (gD yQ hg hm (by decide +kernel) (cb ha (cb hty dG) (aA _ hn)) (by decide) (by decide) (aA _ hn) rfl) fun σ H Q h=>?_
 obtain⟨σD,d,rv,e,k⟩:=h
 rw[RL.ev]at e
 obtain⟨u,ea,e⟩:=bind_some e
 obtain⟨t',e1,e2⟩:=map_some e
 subst e2
 refine⟨σD,u,rv,ea,fun v H1 r1=>?_⟩
 obtain⟨ty,h1,h2⟩:=BF e1 r1.rep
 exact⟨v,ty,_,t',rfl,h1,h2,k _ _ (dD r1.same)⟩
end rules
end RS
namespace L2
open PySem PySem.Spec PyProof.Rows
structure kK(prog:Program)(w:World):Prop where
 draws:∀ {A:Around},A.handled=none->∀ (ti tp:Addr),tp≠ti->∀ its:Array Value,Draws prog w A ti [ti,tp] its.size (fun i v=>its[i]?=some v) (fun i h=>h.IsTupleIter ti tp i/\h.IsTuple tp its)
 call:∀ {A:Around} {E:Value->Shared->Prop} {z:Shared} {tp:Addr} {its:Array Value} {Q:Value->Shared->Prop},z.heap.IsTuple tp its ->
  (∀ g,IsEnum g (z.heap.objs.size+1) z.heap.objs.size 0 .none->g.IsTupleIter z.heap.objs.size tp 0->(∀ b o,z.heap.get? b=some o->g.get? b=some o)->Q (.ref (z.heap.objs.size+1)) { z with heap:=g })->wpAny (model prog w) A (call (.type "enumerate") [.ref tp]) Q E z
section
variable{X:Cx}{pins:List (Addr × Obj)}{σ:St}{H:Hp}{s:Shared}
theorem Inv.nI{h':Heap}{t':Nat}{fp:List Addr}(I:Inv X pins σ H s)(k:∀ b o,b∉fp->s.heap.get? b=some o->h'.get? b=some o)(hf:∀ b∈fp,H b=none/\(b∈X.ex\/X.s₀.heap.objs.size<=b)/\b≠X.env.locals/\(∀ x c,X.env.cells.lookup x=some c->c≠b)/\∀ p∈X.pn++pins,p.1≠b) :
  Inv X pins σ H { s with heap:=h',toks:=t' }:=by
 have nf:∀ b u,H b=some u->b∉fp:=fun b u e z=>by rw[(hf b z).1]at e;cases e
 refine I.zt (s':={ s with heap:=h',toks:=t' }) (ch:=fp) rfl ⟨fun b o e _ _ hx=>k b o hx e,fun b o e _ _ hx=>⟨o.slots,k b o hx e⟩,fun _ _ _ n _=>n,fun b o e hx=>⟨o,k b o hx e⟩,fun _ _ e=>e,fun _ _ _ e=>e,fun b ps e=>⟨#[],by rw[e];simp⟩⟩ (fun b u e=>?_) I.bare fun b hb=>(hf b hb).2
 refine(I.hok b u e).cw (fun c v hc q=>k c v ?_ q) (fun _ q=>q) fun _ _ q=>q
 rcases hc with z | z
 ·rw[z];exact nf b u e
 ·exact nf c _ z
end
noncomputable def Ite(cont:Hp->List V->Prop):It :=
 ⟨fun i H=>∃ xs x,cont H xs/\xs[i]?=some x,fun i H v H'=>∃ p x,H p=none/\v=.ref p/\H'=upd H p (.tup [.int i,x])/\∀ xs,cont H xs->xs[i]?=some x,fun i H=>∃ xs,cont H xs/\xs.length=i⟩
structure Src(P:Program)(w:World)(K:PySem.W.Frag)(e it:Addr)(cont:Hp->List V->Prop)(ia:Nat->Heap->Prop):Prop where
 obj:∀ i h,ia i h->∃ o,h.get? it=some o/\∀ v,o.data≠.cell v
 keep:∀ i h h',ia i h->(∀ o,h.get? it=some o->h'.get? it=some o)->ia i h'
 inj:∀ (H:Hp) xs ys,cont H xs->cont H ys->xs=ys
 dr:∀ (X:Cx),X.prog=P->X.w=w->X.K=K->X.calm=true->∀ (pins:List (Addr × Obj)) (s:Shared) (σ:St) (H:Hp) (xs:List V),Inv X pins σ H s->H e=none->H it=none->cont H xs ->
  ∃ (fp:List Addr) (Pv:Nat->Value->Prop) (St:Nat->Heap->Prop),Draws P w X.A.in1 it fp xs.length Pv St/\e∉fp/\(∀ i,ia i s.heap->St i s.heap)/\(∀ i h,St i h->ia i h)/\∀ i v,Pv i v->∃ x,xs[i]?=some x/\RelV x v
theorem vy{P:Program}{w:World}{K:PySem.W.Frag}{elts:List Expr}{kx:Nat}{tp:Pos}{e it:Addr}{cont:Hp->List V->Prop}{ia:Nat->Heap->Prop}(hei:e≠it)(S:Src P w K e it cont ia) :
  Turn P w K (.Tuple elts kx tp) (Ite cont) [e,it] e (fun i h=>(∃ old,IsEnum h e it i old)/\ia i h) where
 mem:=by simp
 obj:=fun i h st b hb=>by
  rcases List.mem_cons.mp hb with rfl | hb
  ·obtain⟨⟨old,he⟩,_⟩:=st
   exact⟨_,he,fun v z=>by cases z⟩
  ·rw[List.mem_singleton.mp hb]
   exact S.obj i h st.2
 keep:=fun i h h' st k=>by
  obtain⟨⟨old,he⟩,hi⟩:=st
  exact⟨⟨old,k e (by simp) _ he⟩,S.keep i h h' hi fun o q=>k it (by simp) o q⟩
 item:=by
  intro X hP hw hK hc i pins s σ H E I hf st hg
  subst hP hw hK
  obtain⟨⟨old,he⟩,hi⟩:=st
  obtain⟨xs,x,hq,hx⟩:=hg
  have fe:=hf e (by simp)
  have fi:=hf it (by simp)
  obtain⟨fp,Pv,St,D,hef,h1,h2,h3⟩:=S.dr X rfl rfl rfl hc pins s σ H xs I fe.1 fi.1 hq
  have hlt:i<xs.length:=(List.getElem?_eq_some_iff.mp hx).1
  refine wpAny_pyNext_enum_itemD D he (h1 i hi) hlt hei hef fun v h' tk hP ho hs' hT hsz hk=>?_
  obtain⟨x',hx',rx⟩:=h3 i v hP
  rw[hx]at hx'
  cases hx'
  refine⟨.ref s.heap.objs.size,rfl,wpAny_letOwnedTupleGo_enum ho fun h'' he' hs''=>?_⟩
  have hn:H s.heap.objs.size=none:=I.hok.fresh (Nat.le_refl _)
  have I1:Inv X pins σ (upd H s.heap.objs.size (.tup [.int i,x])) { s with heap:=s.heap.push { cls:=.type "tuple",data:=.seq #[.int i tk,v] },toks:=tk+1 } :=
   I.laid (t':=tk+1) (fun b u q=>Heap.get?_push_of_some _ q) (Nat.le_refl _) ⟨by show 2<=sizeLine;decide,[.int i tk,v],.cons ⟨tk,rfl⟩ (.cons rx .nil),⟨_,Heap.get?_push_size _ rfl,rfl,_,rfl⟩⟩
  have hes:e<s.heap.objs.size:=Heap.lt_size he
  have hit:it<s.heap.objs.size:=by obtain⟨o,q,_⟩:=S.obj i _ hi;exact Heap.lt_size q
  have stat:∀ b∈[e,it],upd H s.heap.objs.size (.tup [.int i,x]) b=none/\(b∈X.ex\/X.s₀.heap.objs.size<=b)/\b≠X.env.locals/\(∀ x c,X.env.cells.lookup x=some c->c≠b)/\∀ p∈X.pn++pins,p.1≠b:=fun b hb=>by
   obtain⟨f0,f1,f2,f3,f4,f5⟩:=hf b hb
   have hb':b≠s.heap.objs.size:=by
    rcases List.mem_cons.mp hb with rfl | hb
    ·exact Nat.ne_of_lt hes
    ·rw[List.mem_singleton.mp hb];exact Nat.ne_of_lt hit
   exact⟨by rw[aR hb'];exact f0,f3,f1,f4,f5⟩
  have I2:Inv X pins σ (upd H s.heap.objs.size (.tup [.int i,x])) { s with heap:=h'',toks:=tk+1 }:=by
   refine Inv.nI (s:={ s with heap:=s.heap.push { cls:=.type "tuple",data:=.seq #[.int i tk,v] },toks:=tk+1 }) (h':=h'') (t':=tk+1) (fp:=[e,it]) I1 (fun b o hb q=>?_) stat
   have b1:b≠e:=fun z=>hb (by simp[z])
   have b2:b≠it:=fun z=>hb (by simp[z])
   refine hs''.extBut b o b1 ?_
   by_cases hbT:b=s.heap.objs.size
   ·subst hbT
    have q':(s.heap.push { cls:=.type "tuple",data:=.seq #[.int i tk,v] }).get? s.heap.objs.size=some o:=q
    rw[Heap.get?_push_size _ rfl]at q'
    cases q'
    exact hT
   ·have q':s.heap.get? b=some o:=(Heap.get?_push_ne _ _ _ hbT).symm.trans q
    exact hk b o b1 b2 q'
  refine⟨.ref s.heap.objs.size,_,I2,rfl,⟨s.heap.objs.size,x,hn,rfl,rfl,fun ys hy=>by rw[S.inj H ys xs hy hq];exact hx⟩,⟨⟨v,by simpa using he'⟩,S.keep _ h' h'' (h2 _ _ hs') fun o q=>hs''.extBut _ _ (Ne.symm hei) q⟩,fun b hb=>(stat b hb).1⟩
 done:=by
  intro X hP hw hK hc i pins s σ H E I hf st hg
  subst hP hw hK
  obtain⟨⟨old,he⟩,hi⟩:=st
  obtain⟨xs,hq,hx⟩:=hg
  have fe:=hf e (by simp)
  have fi:=hf it (by simp)
  obtain⟨fp,Pv,St,D,hef,h1,h2,h3⟩:=S.dr X rfl rfl rfl hc pins s σ H xs I fe.1 fi.1 hq
  subst hx
  refine wpAny_pyNext_enum_endD D he (h1 _ hi) fun h' eb=>⟨rfl,?_⟩
  obtain⟨f0,f1,f2,f3,f4,f5⟩:=fi
  exact I.turned (it:=it) (h':=h') (t':=s.toks) (fun b o hb q=>eb b o hb q) f0 f1 f3 f4 f5
 self:=fun A i s Q E st h=>by
  obtain⟨⟨old,he⟩,hi⟩:=st
  exact wpAny_pyIter_enum he h
theorem src_list{P:Program}{w:World}{K:PySem.W.Frag}{e it l:Addr}(hei:e≠it):Src P w K e it (fun H xs=>H l=some (.lst xs)) (fun i h=>h.IsListIter it l i) where
 obj:=fun i h st=>let ⟨o,ho,_,hd⟩:=st;⟨o,ho,fun v q=>by rw[hd]at q;cases q⟩
 keep:=fun i h h' st k=>st.at fun o q=>k o q
 inj:=fun H xs ys h1 h2=>by rw[h1]at h2;cases h2;rfl
 dr:=by
  intro X hP hw hK hc pins s σ H xs I he hi hx
  subst hP hw hK
  obtain⟨its,rv,p,hz⟩:=I.list (SqL.of hx)
  have hl:its.toArray.size=xs.length:=by rw[List.size_toArray,rv.length]
  have hh:X.A.in1.handled=none:=I.ok.hd hc
  have D:=Draws.list (prog:=X.prog) (w:=X.w) (A:=X.A.in1) hh it l (aQ hx hi) its.toArray
  rw[hl]at D
  refine⟨_,_,_,D,?_,fun i st=>⟨st,p.isList⟩,fun i h st=>st.1,fun i v hv=>?_⟩
  ·intro m
   rcases List.mem_cons.mp m with q | m
   ·exact hei q
   ·exact(aQ hx he).symm (List.mem_singleton.mp m)
  ·have hv:its[i]?=some v:=by simpa using hv
   have hlt:i<xs.length:=by rw[rv.length];exact(List.getElem?_eq_some_iff.mp hv).1
   obtain⟨u,h1,h2⟩:=rv.get (i:=i) (x:=xs[i]) (by simp[hlt])
   rw[hv]at h1
   cases h1
   exact⟨xs[i],by simp[hlt],h2⟩
theorem Am{P:Program}{w:World}{K:PySem.W.Frag}{e it l:Addr}(TE:kK P w)(hei:e≠it):Src P w K e it (fun H xs=>H l=some (.tup xs)) (fun i h=>h.IsTupleIter it l i) where
 obj:=fun i h st=>let ⟨o,ho,_,hd⟩:=st;⟨o,ho,fun v q=>by rw[hd]at q;cases q⟩
 keep:=fun i h h' st k=>let ⟨o,ho,r⟩:=st;⟨o,k o ho,r⟩
 inj:=fun H xs ys h1 h2=>by rw[h1]at h2;cases h2;rfl
 dr:=by
  intro X hP hw hK hc pins s σ H xs I he hi hx
  subst hP hw hK
  obtain⟨its,rv,p,hz⟩:=I.tuple (SqT.of hx)
  have hl:its.toArray.size=xs.length:=by rw[List.size_toArray,rv.length]
  have hh:X.A.in1.handled=none:=I.ok.hd hc
  have D:=TE.draws (A:=X.A.in1) hh it l (aQ hx hi) its.toArray
  rw[hl]at D
  refine⟨_,_,_,D,?_,fun i st=>⟨st,p⟩,fun i h st=>st.1,fun i v hv=>?_⟩
  ·intro m
   rcases List.mem_cons.mp m with q | m
   ·exact hei q
   ·exact(aQ hx he).symm (List.mem_singleton.mp m)
  ·have hv:its[i]?=some v:=by simpa using hv
   have hlt:i<xs.length:=by rw[rv.length];exact(List.getElem?_eq_some_iff.mp hv).1
   obtain⟨u,h1,h2⟩:=rv.get (i:=i) (x:=xs[i]) (by simp[hlt])
   rw[hv]at h1
   cases h1
   exact⟨xs[i],by simp[hlt],h2⟩
noncomputable def iD(x:Str):List V:=x.cps.toList.map fun c=>.str ⟨#[c]⟩
theorem AI{P:Program}{w:World}{K:PySem.W.Frag}{e it:Addr}{x:Str}{t:Tok}(hei:e≠it):Src P w K e it (fun _ xs=>xs=iD x) (fun i h=>h.IsStrIter it (strIterType x) x t i) where
 obj:=fun i h st=>let ⟨o,ho,_,hd⟩:=st;⟨o,ho,fun v q=>by rw[hd]at q;cases q⟩
 keep:=fun i h h' st k=>let ⟨o,ho,r⟩:=st;⟨o,k o ho,r⟩
 inj:=fun H xs ys h1 h2=>by rw[h1,h2]
 dr:=by
  intro X hP hw hK hc pins s σ H xs I he hi hx
  subst hP hw hK hx
  have hh:X.A.in1.handled=none:=I.ok.hd hc
  have hl:x.cps.size=(iD x).length:=by simp[iD]
  have pv:∀ (i:Nat) (v:Value),(∃ c u,x.cps[i]?=some c/\v=Value.str ⟨#[c]⟩ u)->∃ y,(iD x)[i]?=some y/\RelV y v:=fun i v hv=>by
   obtain⟨c,u,h1,h2⟩:=hv
   exact⟨.str ⟨#[c]⟩,by simp[iD,h1],u,h2⟩
  have ni:e∉[it]:=fun m=>hei (List.mem_singleton.mp m)
  cases ha:x.cps.all (·<128)with
  |true=>
   have ht:strIterType x = "str_ascii_iterator" := by simp[strIterType,ha]
   have D:=Draws.strAscii (prog:=X.prog) (w:=X.w) (A:=X.A.in1) hh it x t
   rw[hl]at D
   exact⟨_,_,_,D,ni,fun i st=>by rw[ht]at st;exact st,fun i h st=>by rw[ht];exact st,pv⟩
  |false=>
   have ht:strIterType x = "str_iterator" := by simp[strIterType,ha]
   have D:=Draws.strWide (prog:=X.prog) (w:=X.w) (A:=X.A.in1) hh it x t
   rw[hl]at D
   exact⟨_,_,_,D,ni,fun i st=>by rw[ht]at st;exact st,fun i h st=>by rw[ht];exact st,pv⟩
section
variable{X:Cx}{elts:List Expr}{kx:Nat}{tp p pos:Pos}{a:Expr}{ta:TA}
noncomputable def FR(ta:TA):TI:=fun σ H R=>ta σ H fun vs H1=>(∃ l xs,vs=[.ref l]/\H1 l=some (.lst xs)/\R (Ite fun H xs=>H l=some (.lst xs)) H1)\/(∃ l xs,vs=[.ref l]/\H1 l=some (.tup xs)/\R (Ite fun H xs=>H l=some (.tup xs)) H1) \/
 (∃ x,vs=[.str x]/\R (Ite fun _ xs=>xs=iD x) H1)
theorem lZ{pins:List (Addr × Obj)}{σ:St}{H:Hp}{s:Shared}{g:Heap}{R:It->Hp->Prop}{E:Value->Shared->Prop}{cont:Hp->List V->Prop}{ia:Nat->Heap->Prop}(I:Inv X pins σ H s)(S:Src X.prog X.w X.K (s.heap.objs.size+1) s.heap.objs.size cont ia)
 (he:IsEnum g (s.heap.objs.size+1) s.heap.objs.size 0 .none)(hi:ia 0 g)(hk:∀ b o,s.heap.get? b=some o->g.get? b=some o)(q:R (Ite cont) H) :
  wpAny (model X.prog X.w) X.A (pyIter (.ref (s.heap.objs.size+1))) (PIE X pins σ (.Tuple elts kx tp) R) E { s with heap:=g }:=by
 refine wpAny_pyIter_enum he ⟨s.heap.objs.size+1,[s.heap.objs.size+1,s.heap.objs.size],_,_,H,rfl,I.kept (t':=s.toks) hk,vy (Nat.succ_ne_self _) S,⟨⟨.none,he⟩,hi⟩,fun b hb=>?_,q⟩
 have hb':s.heap.objs.size<=b:=by
  rcases List.mem_cons.mp hb with z | z
  ·rw[z];exact Nat.le_succ _
  ·rw[List.mem_singleton.mp z];exact Nat.le_refl _
 exact I.nO hb' (I.hok.fresh hb')
theorem AY(TE:kK X.prog X.w)(hg:Gl X "enumerate")(hm:X.mg "enumerate" = none)(ha:PA X [a] ta)(hs:starEach [a] X.env=[(false,eval a X.env)]):PI X (.Tuple elts kx tp) (.Call (.Name "enumerate" p) [a] [] pos) (FR ta):=by
 intro pins s σ H R I h
 refine Call_ (gF I hg hm boot_enumerate (PyProof.Rows.callWith_type1 (thn (ha pos pins s σ H _ I h) fun us s1 ⟨vs,H1,I1,r1,q1⟩=>?_) hs rfl))
 rcases q1 with⟨l,xs,rfl,hx,q⟩ | ⟨l,xs,rfl,hx,q⟩ | ⟨x,rfl,q⟩
 ·obtain⟨u,rfl,ru⟩:=vals1 r1
  cases ru
  obtain⟨its,rv,pl,hz⟩:=I1.list (SqL.of hx)
  exact call_enumerate_list pl.isList fun g he hi hsz hk=>lZ I1 (src_list (Nat.succ_ne_self _)) he hi hk q
 ·obtain⟨u,rfl,ru⟩:=vals1 r1
  cases ru
  obtain⟨its,rv,pl,hz⟩:=I1.tuple (SqT.of hx)
  exact TE.call pl fun g he hi hk=>lZ I1 (Am TE (Nat.succ_ne_self _)) he hi hk q
 ·obtain⟨u,rfl,ru⟩:=vals1 r1
  obtain⟨t,rfl⟩:=ru
  exact call_enumerate_str fun g he hi hsz hk=>lZ I1 (AI (Nat.succ_ne_self _)) he hi hk q
end
end L2
namespace RS
open PySem PySem.Spec PyProof.Rows L2
theorem jE:∀ (ds:List RL.D) (k:Int),(RL.cG k ds).length=ds.length
 | [],_=>rfl
 | d::r,k=>by rw[RL.cG,List.length_cons,List.length_cons,jE r]
theorem oO:∀ (ds:List RL.D) (k:Int) (i:Nat) (d:RL.D),(RL.cG k ds)[i]?=some d->∃ e,ds[i]?=some e/\d=.tup [.int (k+i),e]
 | [],k,i,d,h=>by simp[RL.cG]at h
 | e::r,k,0,d,h=>by simp[RL.cG]at h;exact⟨e,rfl,by simp[h]⟩
 | e::r,k,i+1,d,h=>by
  rw[RL.cG,List.getElem?_cons_succ]at h
  obtain⟨e',h1,h2⟩:=oO r (k+1) i d h
  refine⟨e',by simpa using h1,?_⟩
  rw[h2]
  congr 3
  lia
theorem gj{K:PySem.W.Frag}{H:Hp}{ds:List RL.D}{xs:List V}{P:Addr->Prop}{cont:Hp->List V->Prop}(hc:∀ H',Off P H H'->cont H' xs)(hj:∀ H' ys,cont H' xs->cont H' ys->ys=xs)(r:ab nP K H ds xs)(hm:∀ b o,P b->H b=some o->cI o):ja K (Ite cont) (RL.cG 0 ds) P H where
 go:=fun H' i k hi=>by
  rw[jE]at hi
  obtain⟨x,e,_⟩:=r.get (i:=i) (d:=ds[i]) (by simp[hi])
  exact⟨xs,x,hc H' k,e⟩
 stop:=fun H' k=>⟨xs,hc H' k,by rw[jE,r.length]⟩
 yld:=fun H' i d v H2 k e y=>by
  obtain⟨p,x,hp,rfl,rfl,hx⟩:=y
  obtain⟨e',h1,rfl⟩:=oO ds 0 i d e
  obtain⟨x',h2,h3⟩:=r.get h1
  rw[hx xs (hc H' k)]at h2
  cases h2
  refine⟨a6.bP hp,fun q=>?_⟩
  have re:Rep nP K H' e' x:=by
   rcases q with q | q
   ·have q:(true&&(e'.imm&&true))=true:=q
    simp only[Bool.true_and,Bool.and_true]at q
    exact gQ hm k h3 q
   ·exact h3.same q
  rw[Rep]
  refine⟨p,[.int i,x],rfl,bC,ab.cons ?_ (ab.cons (re.same (a6.bP hp)) ab.nil)⟩
  simpa using(aS (P:=nP) (K:=K) (H:=upd H' p (.tup [.int i,x])) (i:=(i:Int)))
theorem vc{P:Addr->Prop}{K:PySem.W.Frag}{H:Hp}{d:RL.D}{ds:List RL.D}{v:V}(h:RL.eB d=some ds)(r:Rep P K H d v):(∃ p xs,v=.ref p/\H p=some (.lst xs)/\d=.lst ds/\ab P K H ds xs)\/(∃ p xs,v=.ref p/\H p=some (.tup xs)/\d=.tup ds/\ab P K H ds xs) \/
  (∃ x,v=.str x/\d=.str x/\ds=x.cps.toList.map fun c=>.str ⟨#[c]⟩):=by
 cases d<;>simp only[RL.eB]at h<;>first | (cases h;done) | skip
 case lst ys=>cases h;obtain⟨p,xs,e1,_,e2,e3⟩:=aH r;exact .inl ⟨p,xs,e1,e2,rfl,e3⟩
 case tup ys=>cases h;obtain⟨p,xs,e1,e2,e3⟩:=bw r;exact .inr (.inl ⟨p,xs,e1,e2,rfl,e3⟩)
 case str x=>cases h;exact .inr (.inr ⟨x,aN r,rfl,rfl⟩)
theorem jz{P:Addr->Prop}{K:PySem.W.Frag}{H:Hp}:∀ (cs:List Nat),ab P K H (cs.map fun c=>RL.D.str ⟨#[c]⟩) (cs.map fun c=>V.str ⟨#[c]⟩)
 | []=>ab.nil
 | c::r=>ab.cons iH (jz r)
section rules
variable{X:Cx}{cl:RL.Cl}{elts:List Expr}{kx:Nat}{tp p pos:Pos}{a:Expr}{a':RL.E}
theorem BY(TE:kK X.prog X.w)(hg:Gl X "enumerate")(hm:X.mg "enumerate" = none)(ha:SE X cl a a')(hn:noStar a=true):SI X cl (.Tuple elts kx tp) (.Call (.Name "enumerate" p) [a] [] pos) (.enm a'):=by
 intro pins s σ H R I h
 obtain⟨σD,ds,rv,e,k⟩:=h
 rw[RL.bA]at e
 obtain⟨d,e1,e2⟩:=bind_some e
 obtain⟨es,e3,e4⟩:=map_some e2
 subst e4
 have hpa:PA X [a] (mf (tE X.K cl a') uA):=cb ha dG (aA [] hn)
 refine AY TE hg hm hpa (aA [] hn) pins s σ H R I ⟨σD,d,rv,e1,fun v H1 r1=>?_⟩
 rcases vc e3 r1.rep with⟨l,xs,rfl,hx,rfl,rs⟩ | ⟨l,xs,rfl,hx,rfl,rs⟩ | ⟨x,rfl,rfl,rfl⟩
 ·refine .inl ⟨l,xs,rfl,hx,k _ _ r1.same ⟨gj (fun H' o=>o _ _ (fun z=>z) hx) (fun H' ys h1 h2=>by rw[h1]at h2;cases h2;rfl) rs gJ,fun M P z hP av=>?_⟩⟩
  exact gj (fun H' o=>o _ _ (mI r1 z hP av _ _ rfl rfl) hx) (fun H' ys h1 h2=>by rw[h1]at h2;cases h2;rfl) rs (dX r1.same hP)
 ·have np:∀ P:Addr->Prop,(∀ b o,P b->H1 b=some o->cI o)->¬ P l:=fun P hP q=>by rcases hP l _ q hx with⟨z,q⟩ | ⟨z,q⟩ | ⟨z,q⟩<;>cases q
  exact .inr (.inl ⟨l,xs,rfl,hx,k _ _ r1.same ⟨gj (fun H' o=>o _ _ (np _ gJ) hx) (fun H' ys h1 h2=>by rw[h1]at h2;cases h2;rfl) rs gJ,fun M P z hP av=>gj (fun H' o=>o _ _ (np P (dX r1.same hP)) hx) (fun H' ys h1 h2=>by rw[h1]at h2;cases h2;rfl) rs (dX r1.same hP)⟩⟩)
 ·exact .inr (.inr ⟨x,rfl,k _ _ r1.same ⟨gj (fun H' o=>rfl) (fun H' ys h1 h2=>h2) (jz _) gJ,fun M P z hP av=>gj (fun H' o=>rfl) (fun H' ys h1 h2=>h2) (jz _) (dX r1.same hP)⟩⟩)
end rules
section rules
variable{X:Cx}{cl:RL.Cl}{a b:Expr}{a' b':RL.E}{pos p p2:Pos}{M:List Nat}{st:Stmt}{i:Nat}{e' k':RL.E}
theorem Au{P:Addr->Prop}{K:PySem.W.Frag}{H:Hp}{ds:List RL.D}{v:V}(h:Rep P K H (.scr ds) v):∃ a xs,v=.ref a/\jO K H a xs/\ab P K H ds xs:=by rw[Rep]at h;exact h
theorem wO(n:Nat)(k:Int):HT.sIx n n (some k)=RL.cutAt n k:=by
 have h:=HT.kW k n n
 unfold RL.cutAt
 split at h
 ·rw[if_neg (by lia)];lia
 ·rw[if_pos (by lia)];lia
theorem Dl(ha:SE X cl a a')(hb:SE X cl b b'):SE X cl (.Subscript a (.Slice none (some b) none p2) pos) (.slT a' b'):=by
 refine PE.weak (yN (SlR.or AO EL) ha Ao (Ax hb)) fun σ H Q h=>?_
 obtain⟨σD,d,rv,e,k⟩:=h
 rw[RL.ev]at e
 obtain⟨x,ea,e⟩:=bind_some e
 obtain⟨y,eb,e⟩:=bind_some e
 refine⟨σD,x,rv,ea,fun v H1 r1=>⟨σD,y,rv.same r1.same,eb,fun u H2 r2=>?_⟩⟩
 have rx:=r1.rep.same r2.same
 have sm:=r1.same.trans r2.same
 cases y with
 |int n=>
  refine⟨n,ag r2.rep,?_⟩
  cases x with
  |lst xs=>
   cases e
   obtain⟨q,ys,rfl,_,f2,f3⟩:=aH rx
   refine .inl ⟨q,ys,rfl,SqL.of f2,fun l hl=>?_⟩
   unfold iQ
   rw[lR,<-f3.length]
   exact k _ _ (dZ sm hl (f3.take _) fun _=>rfl)
  |scr xs=>
   cases e
   obtain⟨q,ys,rfl,f2,f3⟩:=Au rx
   refine .inl ⟨q,ys,rfl,f2.seq,fun l hl=>?_⟩
   unfold iQ
   rw[lR,<-f3.length]
   exact k _ _ (dZ sm hl (f3.take _) fun _=>rfl)
  |tup xs=>
   simp only[RL.nG]at e
   split at e
   ·rename_i hz
    cases e
    obtain⟨q,ys,rfl,f2,f3⟩:=bw rx
    refine .inr ⟨q,ys,rfl,SqT.of f2,fun z=>?_,fun l hl=>?_⟩
    ·rw[wO,<-f3.length]at z
     lia
    ·unfold iQ
     rw[lR,<-f3.length]
     exact k _ _ (fh sm hl (f3.take _) fun _=>rfl)
   ·cases e
  | _=>cases e
 | _=>cases x<;>cases e
noncomputable def xI:RL.D->RL.D->Option (Option RL.D)
 | .dK ks vs,k=>(RL.keyOf k).map (RL.aK ks vs)
 | .dT ks vs,.tup k=>(RL.keysOf k).map (RL.aK ks vs)
 | _,_=>none
noncomputable def Ans(P:Addr->Prop)(K:PySem.W.Frag)(H:Hp):Option RL.D->Option V->Prop
 | some d,r=>∃ w,r=some w/\Rep P K H d w
 | none,r=>r=none
theorem oj{κ:Type} [DecidableEq κ]{P:Addr->Prop}{K:PySem.W.Frag}{H:Hp}{x:κ}:∀ {ks:List κ} {ds:List RL.D} {xs:List V},ks.length=ds.length->ab P K H ds xs ->
  Ans P K H (RL.aK ks ds x) (eK (ks.zip xs) x)
 | [],ds,xs,hl,r=>by simp[RL.aK,eK,Ans]
 | k::ks,[],xs,hl,r=>by simp at hl
 | k::ks,d::ds,xs,hl,r=>by
  rw[ab]at r
  obtain⟨v,t,rfl,r1,r2⟩:=r
  by_cases hk:k=x
  ·have h1:RL.aK (k::ks) (d::ds) x=some d:=by rw[RL.aK,if_pos hk]
   rw[h1]
   exact⟨v,by rw[List.zip_cons_cons];exact jk hk,r1⟩
  ·have ih:=oj (x:=x) (ks:=ks) (ds:=ds) (xs:=t) (by simpa using hl) r2
   have h1:RL.aK (k::ks) (d::ds) x=RL.aK ks ds x:=by rw[RL.aK,if_neg hk]
   rw[h1,List.zip_cons_cons,j0 hk]
   exact ih
theorem lC{P:Addr->Prop}{K:PySem.W.Frag}{H:Hp}{d:RL.D}{k:RL.Ky}{v:V}(h:RL.keyOf d=some k)(r:Rep P K H d v):v=kV k:=by
 cases d<;>simp only[RL.keyOf]at h<;>first | (cases h;done) | skip
 case int i=>cases h;exact ag r
 case str i=>cases h;exact aN r
theorem kc{P:Addr->Prop}{K:PySem.W.Frag}{H:Hp}:∀ {ds:List RL.D} {k:List RL.Ky} {xs:List V},RL.keysOf ds=some k->ab P K H ds xs->xs=k.map kV
 | [],k,xs,h,r=>by cases h;rw[ab]at r;exact r
 | d::ds,k,xs,h,r=>by
  rw[RL.keysOf]at h
  obtain⟨k1,h1,h⟩:=bind_some h
  obtain⟨k2,h2,h3⟩:=map_some h
  subst h3
  rw[ab]at r
  obtain⟨v,t,rfl,r1,r2⟩:=r
  rw[lC h1 r1,kc h2 r2]
  rfl
theorem nF{H:Hp}{y kx:RL.D}{v u:V}{o:Option RL.D}(ry:Rep nP X.K H y v)(rk:Rep nP X.K H kx u)(h:xI y kx=some o) :
  ∃ q r,v=.ref q/\eI H q u r/\Ans nP X.K H o r:=by
 cases y with
 |dK ks vs=>
  obtain⟨k,h1,h2⟩:=map_some h
  rw[Rep]at ry
  obtain⟨q,xs,rfl,_,f2,fl,f3⟩:=ry
  have lk:=oj (x:=k) fl f3
  rw[h2]at lk
  refine⟨q,_,rfl,by rw[lC h1 rk];exact eI.k f2,lk⟩
 |dT ks vs=>
  cases kx with
  |tup kk=>
   obtain⟨k,h1,h2⟩:=map_some h
   rw[Rep]at ry
   obtain⟨q,xs,rfl,_,f2,fl,f3⟩:=ry
   obtain⟨q',ys,rfl,g2,g3⟩:=bw rk
   rw[kc h1 g3]at g2
   have lk:=oj (x:=k) fl f3
   rw[h2]at lk
   exact⟨q,_,rfl,eI.t f2 g2,lk⟩
  | _=>cases h
 | _=>cases kx<;>cases h
theorem EN{y kx d:RL.D}(h:RL.nt y kx=some d):xI y kx=some (some d):=by
 cases y with
 | dK ks vs=>obtain⟨k,h1,h2⟩:=bind_some (show(RL.keyOf kx).bind (RL.aK ks vs)=some d from h);show(RL.keyOf kx).map (RL.aK ks vs)=_;rw[h1,Option.map_some,h2]
 |dT ks vs=>
  cases kx with
  | tup kk=>obtain⟨k,h1,h2⟩:=bind_some (show(RL.keysOf kk).bind (RL.aK ks vs)=some d from h);show(RL.keysOf kk).map (RL.aK ks vs)=_;rw[h1,Option.map_some,h2]
  | _=>cases h
 | _=>cases kx<;>cases h
theorem DP(hu:X.A.units+100<cLine)(ha:SE X cl a a')(hb:SE X cl b b')(hs:uD b):SE X cl (.Subscript a b pos) (.ixD a' b'):=by
 refine PE.weak (Ae (by lia) ha hb hs) fun σ H Q h=>?_
 obtain⟨σD,d,rv,e,k⟩:=h
 rw[RL.ev]at e
 obtain⟨x,ea,e⟩:=bind_some e
 obtain⟨y,eb,e⟩:=bind_some e
 refine⟨σD,x,rv,ea,fun v H1 r1=>⟨σD,y,rv.same r1.same,eb,fun u H2 r2=>?_⟩⟩
 obtain⟨q,r,rfl,g,w,rfl,rw'⟩:=nF (r1.rep.same r2.same) r2.rep (EN e)
 exact⟨q,w,rfl,g,k _ _ ⟨r1.same.trans r2.same,rw',fun z=>(by cases z),fun M z=>nomatch (show false=true from z)⟩⟩
theorem Dv:SE X cl (.Dict [] [] pos) .dk0:=by
 refine PE.weak zc fun σ H Q h=>?_
 obtain⟨σD,d,rv,e,k⟩:=h
 rw[RL.ev]at e
 cases e
 intro q hq
 refine k _ _ ⟨a6.bP hq,?_,fun _ _ a z=>(by cases z;exact hq),fun M z=>nomatch (show false=true from z)⟩
 rw[Rep]
 exact⟨q,[],rfl,fun z=>z,bC,rfl,ab.nil⟩
theorem EI:SE X cl (.Dict [] [] pos) .dt0:=by
 refine PE.weak xM fun σ H Q h=>?_
 obtain⟨σD,d,rv,e,k⟩:=h
 rw[RL.ev]at e
 cases e
 intro q hq
 refine k _ _ ⟨a6.bP hq,?_,fun _ _ a z=>(by cases z;exact hq),fun M z=>nomatch (show false=true from z)⟩
 rw[Rep]
 exact⟨q,[],rfl,fun z=>z,bC,rfl,ab.nil⟩
end rules
section rules
variable{X:Cx}{cl:RL.Cl}{a b:Expr}{a' b':RL.E}{pos p p2:Pos}{M:List Nat}{st:Stmt}{i:Nat}{e' k':RL.E}
theorem BX{y kx:RL.D}{k:Bool}(h:RL.x3 y kx=some k):∃ o,xI y kx=some o/\k=o.isSome:=by
 cases y with
 | dK ks vs=>obtain⟨q,h1,h2⟩:=map_some (show(RL.keyOf kx).map _=some k from h);exact⟨RL.aK ks vs q,by show(RL.keyOf kx).map _=_;rw[h1];rfl,h2.symm⟩
 |dT ks vs=>
  cases kx with
  | tup kk=>obtain⟨q,h1,h2⟩:=map_some (show(RL.keysOf kk).map _=some k from h);exact⟨RL.aK ks vs q,by show(RL.keysOf kk).map _=_;rw[h1];rfl,h2.symm⟩
  | _=>cases h
 | _=>cases kx<;>cases h
theorem Ans.isSome{P:Addr->Prop}{K:PySem.W.Frag}{H:Hp}{o:Option RL.D}{r:Option V}(h:Ans P K H o r):r.isSome=o.isSome:=by
 cases o with
 | none=>rw[show r=none from h];rfl
 | some d=>obtain⟨w,hw,_⟩:=h;rw[hw];rfl
noncomputable def zL(neg:Bool)(ty td:TE):TE:=if neg then t5 ty td else Dq ty td
theorem sR{neg:Bool}(hu:X.A.units+100<cLine)(ha:SE X cl a a')(hb:SE X cl b b'):PC X (if neg then .NotIn else .In) a b (zL neg (tE X.K cl a') (tE X.K cl b')):=by
 cases neg with
 | true=>exact xk (by lia) ha hb
 | false=>exact Dz (by lia) ha hb
theorem wx{neg:Bool}{σ:L2.St}{H:Hp}{Q:VK}{σD:RL.St}{d:RL.D}(rv:RV0 X.K σD σ H)(e:RL.ev cl σD (.inD neg a' b')=some d)(k:∀ t H',d=.bl t->a6 H H'->Q (.bl t) H'):zL neg (tE X.K cl a') (tE X.K cl b') σ H Q:=by
 rw[RL.ev]at e
 obtain⟨x,ea,e⟩:=bind_some e
 obtain⟨y,eb,e⟩:=bind_some e
 obtain⟨t,e1,e2⟩:=map_some e
 obtain⟨o,h1,h2⟩:=BX e1
 cases neg with
 |true=>
  refine two rv ea eb fun v u H1 H2 s1 s2 rx ry _ _=>?_
  obtain⟨q,r,rfl,g,an⟩:=nF ry rx h1
  refine⟨q,r,rfl,g,k _ _ ?_ (s1.trans s2)⟩
  rw[an.isSome,<-e2,h2]
  rfl
 |false=>
  refine two rv ea eb fun v u H1 H2 s1 s2 rx ry _ _=>?_
  obtain⟨q,r,rfl,g,an⟩:=nF ry rx h1
  refine⟨q,r,rfl,g,k _ _ ?_ (s1.trans s2)⟩
  rw[an.isSome,<-e2,h2]
  rfl
theorem DG{neg:Bool}(hu:X.A.units+100<cLine)(ha:SE X cl a a')(hb:SE X cl b b')(hm:lN b=true):SE X cl (.Compare a [if neg then .NotIn else .In] [b] pos) (.inD neg a' b'):=by
 refine PE.weak (DO (sR hu ha hb) (hW hm)) fun σ H Q h=>?_
 obtain⟨σD,d,rv,e,q⟩:=h
 exact wx rv e fun t H' hd sm=>by subst hd;exact q _ _ (dD sm)
theorem E6{neg:Bool}(hu:X.A.units+100<cLine)(ha:SE X cl a a')(hb:SE X cl b b')(hm:lN b=true):ST X cl (.Compare a [if neg then .NotIn else .In] [b] pos) (.inD neg a' b'):=by
 refine PT.weak (B6 (sR hu ha hb) (hW hm)) fun σ H Q h=>?_
 obtain⟨σD,k,rv,e,q⟩:=h
 obtain⟨d,e1,e2⟩:=bind_some e
 refine wx rv e1 fun t H' hd sm=>?_
 subst hd
 cases e2
 exact⟨_,rfl,q _ sm⟩
theorem sX{κ:Type} [DecidableEq κ]{x:κ}{d:RL.D}{v:V}{P:Addr->Prop}{K:PySem.W.Frag}{H:Hp}{ks:List κ}{ds:List RL.D}{xs:List V}(hl:ks.length=ds.length)(r:ab P K H ds xs)(rv:Rep P K H d v) :
  ∃ ys,putK (ks.zip xs) x v=(RL.putD ks ds x d).1.zip ys/\(RL.putD ks ds x d).1.length=(RL.putD ks ds x d).2.length/\ab P K H (RL.putD ks ds x d).2 ys:=by
 have hx:ks.length=xs.length:=hl.trans r.length
 have any:∀ (ks:List κ) (xs:List V),ks.length=xs.length->((ks.zip xs).any fun kv=>decide (kv.1=x))=decide (x∈ks):=by
  intro ks
  induction ks with
  | nil=>intro xs _;simp
  |cons k r ih=>
   intro xs h
   cases xs with
   | nil=>simp at h
   |cons y t=>
    rw[List.zip_cons_cons,List.any_cons,ih t (by simpa using h)]
    by_cases hk:k=x
    ·simp[hk]
    ·simp[hk,Ne.symm hk]
 unfold putK RL.putD
 rw[any ks xs hx]
 by_cases hm:x∈ks
 ·rw[if_pos (by simpa using hm),if_pos hm]
  refine⟨List.zipWith (fun k w=>if k=x then v else w) ks xs,?_,?_,?_⟩
  ·clear any hm hl r
   induction ks generalizing xs with
   | nil=>simp
   |cons k t ih=>
    cases xs with
    | nil=>simp at hx
    |cons y t'=>
     rw[List.zip_cons_cons,List.map_cons,List.zipWith_cons_cons,List.zip_cons_cons,ih (by simpa using hx)]
     by_cases hk:k=x<;>simp[hk]
  ·rw[List.length_zipWith,hl,Nat.min_self]
  ·clear any hm hx
   induction ks generalizing ds xs with
   | nil=>simpa using ab.nil
   |cons k t ih=>
    cases ds with
    | nil=>simp at hl
    |cons d0 ds=>
     rw[ab]at r
     obtain⟨y,t',rfl,r1,r2⟩:=r
     rw[List.zipWith_cons_cons,List.zipWith_cons_cons]
     refine ab.cons ?_ (ih (by simpa using hl) r2)
     by_cases hk:k=x
     ·rw[if_pos hk,if_pos hk];exact rv
     ·rw[if_neg hk,if_neg hk];exact r1
 ·rw[if_neg (by simpa using hm),if_neg hm]
  refine⟨xs++[v],?_,by simp[hl],ab.append r (ab.cons rv ab.nil)⟩
  rw[List.zip_append hx]
  rfl
theorem uT{κ:Type} [DecidableEq κ]{x:κ}{d:RL.D}(hd:d.imm=true):∀ {ks:List κ} {ds:List RL.D},RL.au ds=true->RL.au (RL.putD ks ds x d).2=true:=by
 have app:∀ l:List RL.D,RL.au l=true->RL.au (l++[d])=true:=fun l=>by
  induction l with
  | nil=>intro _;simp[RL.au,hd]
  | cons z r ih=>intro h;rw[RL.au,Bool.and_eq_true]at h;rw[List.cons_append,RL.au,h.1,ih h.2];rfl
 have zw:∀ (ks:List κ) (ds:List RL.D),RL.au ds=true->RL.au (List.zipWith (fun k w=>if k=x then d else w) ks ds)=true:=fun ks=>by
  induction ks with
  | nil=>intro ds _;simp[RL.au]
  |cons k r ih=>
   intro ds h
   cases ds with
   | nil=>simp[RL.au]
   |cons y t=>
    rw[RL.au,Bool.and_eq_true]at h
    rw[List.zipWith_cons_cons,RL.au,ih t h.2,Bool.and_true]
    by_cases hk:k=x
    ·rw[if_pos hk];exact hd
    ·rw[if_neg hk];exact h.1
 intro ks ds h
 unfold RL.putD
 split
 ·exact zw ks ds h
 ·exact app ds h
theorem A6(h:PS X st (tZ (jw i) (tE X.K cl k') (tE X.K cl e')))(hi:M.contains i=true):PS X st (tS X.K M fun σD=>(RL.ev cl σD e').bind fun d=>(RL.ev cl σD k').bind fun kk=>((σD[i]?).bind id).bind fun l=>match l with
  | .lst _=>none
  | _=>if d.imm then(RL.du l kk d).map fun l'=>(.nx,σD.set i (some l'))else none):=by
 refine PS.weak h fun D σ H h=>?_
 obtain⟨σD,o,σD',rv,e,k⟩:=h
 obtain⟨d,e1,e⟩:=bind_some e
 obtain⟨kk,e2,e⟩:=bind_some e
 obtain⟨l,e3,e⟩:=bind_some e
 obtain⟨v,h1,h2⟩:=rv.val i _ (slot_get e3)
 rw[if_pos hi]at h2
 obtain⟨q1,q2,q3⟩:=h2
 cases l with
 |dK ks ds=>
  dsimp only at e
  split at e
  ·rename_i him
   obtain⟨l',e4,e5⟩:=map_some e
   cases e5
   obtain⟨kx,e6,e7⟩:=bind_some (show(RL.keyOf kk).bind _=some l' from e4)
   split at e7
   ·rename_i hz
    cases e7
    rw[Rep]at q3
    obtain⟨q,xs,rfl,_,f2,fl,f3⟩:=q3
    refine⟨σD,d,rv.rv0,e1,fun y H1 r1=>⟨.ref q,h1,σD,kk,rv.rv0.same r1.same,e2,fun u H2 r2=>?_⟩⟩
    have sm:=r1.same.trans r2.same
    obtain⟨ys,p1,p2,p3⟩:=sX (x:=kx) fl (f3.same sm) (r1.rep.same r2.same)
    have hlen:(ks.zip xs).length<sizeLine:=by
     rw[List.length_zip,<-f3.length,fl,Nat.min_self,<-fl]
     exact Nat.lt_of_lt_of_le hz cm
    refine⟨q,_,rfl,by rw[lC e6 r2.rep];exact jS.k (sm _ _ f2) hlen,?_⟩
    have im:=uT (x:=kx) him (ks:=ks) q2
    obtain⟨g1,g2⟩:=(rv.same sm).i7 (d':=.dK (RL.putD ks ds kx d).1 (RL.putD ks ds kx d).2) (o':=.dK (putK (ks.zip xs) kx y)) hi h1 (sm _ _ f2) (.inr (.inl ⟨_,rfl⟩)) ⟨rfl,im,by
     rw[Rep]
     exact⟨q,ys,rfl,fun z=>z,by rw[bC,p1],p2,(ab.upd (P:=fun p=>p=q) (sm _ _ f2) (.inr (.inl ⟨_,rfl⟩)) rfl (p3.imm im)).imm im⟩⟩
    exact k _ _ g1 ((Fr'.same sm).trans g2)
   ·cases e7
  ·cases e
 |dT ks ds=>
  dsimp only at e
  split at e
  ·rename_i him
   obtain⟨l',e4,e5⟩:=map_some e
   cases e5
   cases kk with
   |tup kt=>
    obtain⟨kx,e6,e7⟩:=bind_some (show(RL.keysOf kt).bind _=some l' from e4)
    split at e7
    ·rename_i hz
     cases e7
     rw[Rep]at q3
     obtain⟨q,xs,rfl,_,f2,fl,f3⟩:=q3
     refine⟨σD,d,rv.rv0,e1,fun y H1 r1=>⟨.ref q,h1,σD,.tup kt,rv.rv0.same r1.same,e2,fun u H2 r2=>?_⟩⟩
     have sm:=r1.same.trans r2.same
     obtain⟨ys,p1,p2,p3⟩:=sX (x:=kx) fl (f3.same sm) (r1.rep.same r2.same)
     have hlen:(ks.zip xs).length<sizeLine:=by
      rw[List.length_zip,<-f3.length,fl,Nat.min_self,<-fl]
      exact Nat.lt_of_lt_of_le hz cm
     obtain⟨b,ws,rfl,g2,g3⟩:=bw r2.rep
     rw[kc e6 g3]at g2
     refine⟨q,_,rfl,jS.t (sm _ _ f2) g2 hlen,?_⟩
     have im:=uT (x:=kx) him (ks:=ks) q2
     obtain⟨g1,g2⟩:=(rv.same sm).i7 (d':=.dT (RL.putD ks ds kx d).1 (RL.putD ks ds kx d).2) (o':=.dT (putK (ks.zip xs) kx y)) hi h1 (sm _ _ f2) (.inr (.inr ⟨_,rfl⟩)) ⟨rfl,im,by
      rw[Rep]
      exact⟨q,ys,rfl,fun z=>z,by rw[bC,p1],p2,(ab.upd (P:=fun p=>p=q) (sm _ _ f2) (.inr (.inr ⟨_,rfl⟩)) rfl (p3.imm im)).imm im⟩⟩
     exact k _ _ g1 ((Fr'.same sm).trans g2)
    ·cases e7
   | _=>cases e4
  ·cases e
 | lst _=>cases e
 | _=>cases q1
end rules
end RS
namespace L2
open PySem PySem.Spec PyProof.Rows
noncomputable def Its(c lo:Int)(n:Nat):It:=⟨fun i _=>i<n,fun i H x H'=>H'=H/\x=.int (lo+i*c),fun i _=>n<=i⟩
theorem vf{P:Program}{w:World}{K:PySem.W.Frag}{tg:Expr}(it:Addr)(c lo:Int)(n:Nat):Turn P w K tg (Its c lo n) [it] it (fun i h=>IsRangeIter h it (lo+(i:Nat)*c) ((n:Int)-(i:Nat)) c) where
 mem:=by simp
 obj:=fun i h st b hb=>by
  rw[show b=it by simpa using hb]
  exact⟨_,st,fun v z=>by cases(show Data.fields _=Data.cell v from z)⟩
 keep:=fun i h h' st k=>k it (by simp) _ st
 item:=by
  intro X hP hw hK hc i pins s σ H E I hf st hg
  subst hP hw hK
  obtain⟨f0,f1,f2,f3,f4,f5⟩:=hf it (by simp)
  have W:=Walks.range (prog:=X.prog) (w:=X.w) (I.ok.hd hc) it lo c n
  refine W.item i s _ _ hg st fun v h' tk hv st' kk=>?_
  obtain⟨t,rfl⟩:=hv
  have I1:Inv X pins σ H { s with heap:=h',toks:=tk }:=I.turned (fun b o hb e=>kk b o (by simpa using hb) e) f0 f1 f3 f4 f5
  exact⟨_,rfl,pF (s:={ s with heap:=h',toks:=tk }) (n := "range_iterator") st' rfl rfl (by decide) ⟨.int (lo+i*c),H,I1,⟨t,rfl⟩,⟨rfl,rfl⟩,st',fun b hb=>(hf b hb).1⟩⟩
 done:=by
  intro X hP hw hK hc i pins s σ H E I hf st hg
  subst hP hw hK
  obtain⟨f0,f1,f2,f3,f4,f5⟩:=hf it (by simp)
  exact wpAny_pyNext_range_end (I.ok.hd hc) st (by have:n<=i:=hg;lia) fun h' eb=>⟨rfl,I.turned (t':=s.toks) (fun b o hb e=>eb b o hb e) f0 f1 f3 f4 f5⟩
 self:=fun _ _ _ _ _ st h=>wpAny_pyIter_rangeiter st h
end L2
namespace RS
open PySem PySem.Spec PyProof.Rows L2
theorem mJ(c:Int):∀ (n:Nat) (lo:Int) (i:Nat) (d:RL.D),(RL.bK c lo n)[i]?=some d->d=.int (lo+i*c)
 | 0,lo,i,d,h=>by simp[RL.bK]at h
 | n+1,lo,0,d,h=>by simp[RL.bK]at h;simp[h]
 | n+1,lo,i+1,d,h=>by
  rw[RL.bK,List.getElem?_cons_succ]at h
  rw[mJ c n (lo+c) i d h]
  congr 1
  rw[show((i+1:Nat):Int)=(i:Int)+1 by lia,Int.add_mul]
  lia
theorem jy(c:Int):∀ (n:Nat) (lo:Int),(RL.bK c lo n).length=n
 | 0,_=>rfl
 | n+1,lo=>by rw[RL.bK,List.length_cons,jy c n]
theorem sk{K:PySem.W.Frag}{H:Hp}{c lo:Int}{n:Nat}{P:Addr->Prop}:ja K (Its c lo n) (RL.bK c lo n) P H where
 go:=fun H' i k hi=>by rw[jy]at hi;exact hi
 stop:=fun H' k=>by rw[jy];exact Nat.le_refl _
 yld:=fun H' i d x H2 k e y=>by
  obtain⟨z,y⟩:=y
  subst z
  refine⟨a6.refl _,fun _=>?_⟩
  rw[mJ c n lo i d e,y]
  exact aS
section rules
variable{X:Cx}{cl:RL.Cl}{M:List Nat}{st:Stmt}{i:Nat}{e':RL.E}
theorem xm{o:RL.Bop}{f:Int->Int->Int}(hf:∀ a b,RL.a8 o (.int a) (.int b)=some (.int (f a b)))(h:PS X st (Cg i (tE X.K cl e') (ipI f)))(hi:M.contains i=false):SS X cl M st (.aug i o e'):=by
 refine PS.weak h fun D σ H h=>?_
 obtain⟨σD,ou,σD',rv,e,k⟩:=h
 rw[RL.evS]at e
 obtain⟨x,e1,e⟩:=bind_some e
 obtain⟨y,e2,e⟩:=bind_some e
 cases x with
 |int a=>
  cases y with
  |int b=>
   dsimp only at e
   rw[hf]at e
   cases e
   obtain⟨v,h1,h2⟩:=rv.val i _ (slot_get e1)
   rw[if_neg (by rw[hi];decide)]at h2
   refine⟨v,h1,σD,.int b,rv.rv0,e2,fun u H1 r1=>⟨a,b,ag h2,ag r1.rep,?_⟩⟩
   exact k _ _ ((rv.same r1.same).bind hi aS) (Fr'.bind hi r1.same)
  | _=>cases e
 | _=>cases e
end rules
noncomputable def oz(p:Addr)(a b c:Int):HO:=.ext fun h=>∃ t u v,IsRange h p a b c t u v
theorem qI(a b c:Int):0<=Builtin.Range.rangeSize a b c:=by
 unfold Builtin.Range.rangeSize
 split
 ·split
  ·have:=Int.ediv_nonneg (a:=b-a-1) (b:=c) (by lia) (by lia)
   omega
  ·lia
 ·split
  ·by_cases h0:c=0
   ·subst h0
    simp
   ·have:=Int.ediv_nonneg (a:=a-b-1) (b:=-c) (by lia) (by lia)
    omega
  ·lia
theorem x5(a b c:Int):Builtin.Range.rangeSize a b c<=(if a<b then b-a else a-b)+1:=by
 unfold Builtin.Range.rangeSize
 split
 ·split
  ·have:=Int.ediv_le_self (a:=b-a-1) c (by lia)
   lia
  ·lia
 ·split
  ·have:=Int.ediv_le_self (a:=a-b-1) (-c) (by lia)
   split<;>omega
  ·split<;>lia
theorem jM(a b c:Int):(RL.b8 c a b:Int)=Builtin.Range.rangeSize a b c:=Int.toNat_of_nonneg (qI a b c)
theorem jQ{a b c:Int}(ha:-(2 ^ 60)<=a)(ha':a<2 ^ 60)(hb:-(2 ^ 60)<=b)(hb':b<2 ^ 60)(hc:-(2 ^ 60)<=c)(hc':c<2 ^ 60):Builtin.Range.small a b c=true:=by
 have h1:=qI a b c
 have h2:=x5 a b c
 unfold Builtin.Range.small
 simp only[Builtin.Range.rangeFitsLong,Bool.and_eq_true,Bool.or_eq_true,decide_eq_true_eq,beq_iff_eq]
 refine⟨⟨⟨⟨?_,?_⟩,?_⟩,?_⟩,.inr ?_⟩
 ·lia
 ·lia
 ·lia
 ·split at h2<;>lia
 ·split<;>(rw[Bool.and_eq_true,decide_eq_true_eq,decide_eq_true_eq];lia)
section
variable{X:Cx}{cl:RL.Cl}{tg a b l:Expr}{a' b' e':RL.E}{pos p q:Pos}
noncomputable def qP(xs:List V)(a b c:Int):Prop:=(xs=[.int b]/\a=0/\c=1)\/(xs=[.int a,.int b]/\c=1)\/(xs=[.int a,.int b,.int c]/\c≠0/\c.natAbs<2 ^ 60)
theorem lJ{pins:List (Addr × Obj)}{σ:L2.St}{H:Hp}{s:Shared}{a b c:Int}{t u v:Tok}{tk:Nat}(I:Inv X pins σ H s):Inv X pins σ (upd H s.heap.objs.size (oz s.heap.objs.size a b c)) { s with heap:=s.heap.push { cls:=.type "range",data:=.fields #[.int a t,.int b u,.int c v] },toks:=tk } :=
 I.laid (fun b u e=>Heap.get?_push_of_some _ e) (Nat.le_refl _) ⟨⟨t,u,v,IsRange.new _ a b c t u v⟩,⟨_,Heap.get?_push_size _ rfl⟩,fun h1 h2 ⟨t,u,v,e⟩ k=>⟨t,u,v,k _ e⟩⟩
theorem jv:bJ X (.type "range") (fun xs H Q=>∃ a b c,qP xs a b c/\∀ p,H p=none->Q (.ref p) (upd H p (oz p a b c))):=by
 intro pins s σ H xs us Q I r h
 obtain⟨a,b,c,ha,q⟩:=h
 have hf:H s.heap.objs.size=none:=I.hok.fresh (Nat.le_refl _)
 rcases ha with⟨rfl,rfl,rfl⟩ | ⟨rfl,rfl⟩ | ⟨rfl,hc,hc2⟩
 ·cases r with
  |cons r rr=>
   cases rr
   obtain⟨t,rfl⟩:=r
   exact call_range_1 ⟨.ref _,_,lJ I,rfl,q _ hf⟩
 ·cases r with
  |cons r rr=>
   cases rr with
   |cons r2 rr=>
    cases rr
    obtain⟨t,rfl⟩:=r
    obtain⟨t2,rfl⟩:=r2
    exact call_range_2 ⟨.ref _,_,lJ I,rfl,q _ hf⟩
 ·cases r with
  |cons r rr=>
   cases rr with
   |cons r2 rr=>
    cases rr with
    |cons r3 rr=>
     cases rr
     obtain⟨t,rfl⟩:=r
     obtain⟨t2,rfl⟩:=r2
     obtain⟨t3,rfl⟩:=r3
     refine call_range_3 hc ⟨.ref _,_,lJ I,rfl,q _ hf⟩ (.inl (PyProof.noPylong_of_log2 ?_))
     have:c.natAbs.log2<60:=(Nat.log2_lt (by lia)).mpr hc2
     lia
noncomputable def dz(a c:Int)(n:Nat):List V:=(List.range n).map fun(i:Nat)=>V.int (a+(i:Int)*c)
theorem fN(hc:X.calm=true):bJ X (.type "list") (fun xs H Q=>∃ p a b c,xs=[.ref p]/\H p=some (oz p a b c)/\Builtin.Range.small a b c=true/\RL.b8 c a b<=RL.most /\
  ∀ l,H l=none->Q (.ref l) (upd H l (.lst (dz a c (RL.b8 c a b))))):=by
 intro pins s σ H xs us Q I r h
 obtain⟨p,a,b,c,rfl,hp,hs,hn,q⟩:=h
 cases r with
 |cons r rr=>
  cases rr
  cases r
  obtain⟨⟨t,u,v,hR⟩,_,_⟩:=I.hok p _ hp
  refine call_list_range (I.ok.hd hc) hR hs (jM a b c).symm (Nat.le_trans hn (by decide)) fun h' tk acc c' hk hS hI=>?_
  have hf:H s.heap.objs.size=none:=I.hok.fresh (Nat.le_refl _)
  refine⟨.ref s.heap.objs.size,upd H s.heap.objs.size (.lst (dz a c (RL.b8 c a b))),I.laid hk (Nat.le_refl _) (show _/\_ from⟨?_,acc.toList,c',?_,?_⟩),rfl,q _ hf⟩
  ·simp only[dz,List.length_map,List.length_range]
   exact Nat.le_trans hn cm
  ·have len:(dz a c (RL.b8 c a b)).length=acc.toList.length:=by
    simp only[dz,List.length_map,List.length_range,Array.length_toList,hI.1]
   have gen:∀ (xs:List V) (us:List Value),xs.length=us.length->(∀ (i:Nat) u,us[i]?=some u->∃ x,xs[i]?=some x/\RelV x u)->Vals xs us:=by
    intro xs
    induction xs with
    | nil=>intro us h _;cases us with
     | nil=>exact .nil
     | cons _ _=>cases h
    | cons x r ih=>intro us h g;cases us with
     | nil=>cases h
     |cons u us=>
      obtain⟨x',e1,e2⟩:=g 0 u rfl
      cases e1
      exact .cons e2 (ih us (by simpa using h) fun i u hu=>by
       obtain⟨y,e3,e4⟩:=g (i+1) u (by simpa using hu)
       exact⟨y,by simpa using e3,e4⟩)
   refine gen _ _ len fun i u hu=>?_
   have hu':acc[i]?=some u:=by simpa using hu
   obtain⟨tk,rfl⟩:=hI.2 i u hu'
   have hi:i<RL.b8 c a b:=by
    have:=(Array.getElem?_eq_some_iff.mp hu').1
    rw[hI.1]at this
    exact this
   exact⟨.int (a+(i:Int)*c),by simp[dz,hi],tk,rfl⟩
  ·rw[Array.toArray_toList]
   exact hS
theorem pf{P:Addr->Prop}{K:PySem.W.Frag}{H:Hp}:∀ (n:Nat) (a c:Int),ab P K H (RL.bK c a n) (dz a c n)
 | 0,a,c=>ab.nil
 | n+1,a,c=>by
  have e:dz a c (n+1)=V.int a::dz (a+c) c n:=by
   simp only[dz,List.range_succ_eq_map,List.map_cons,List.map_map]
   congr 1
   ·simp
   ·apply List.map_congr_left
    intro i _
    show V.int (a+((i+1:Nat):Int)*c)=V.int (a+c+(i:Int)*c)
    congr 1
    rw[show((i+1:Nat):Int)=(i:Int)+1 by lia,Int.add_mul]
    lia
  rw[RL.bK,e]
  exact ab.cons aS (pf n (a+c) c)
theorem lG:∀ (n:Nat) (a:Int),RL.cB a n=RL.bK 1 a n
 | 0,_=>rfl
 | n+1,a=>by rw[RL.cB,RL.bK,lG n]
theorem gc(a b:Int):RL.b8 1 a b=(b-a).toNat:=by
 have h:=jM a b 1
 rw[rangeSize_one]at h
 split at h<;>lia
theorem qz{σD:RL.St}{σ:L2.St}{H H1:Hp}{e:RL.E}{Q:VK}{vs:List V}{a b c:Int}{ds:List RL.D}(hv:qP vs a b c)(hd:ds=RL.bK c a (RL.b8 c a b))(hn:RL.b8 c a b<=RL.most)(hs:Builtin.Range.small a b c=true)(sm:a6 H H1)
 (hav:∀ M,RL.avE M e=false)(k:∀ v H',Res X.K σD σ H e (.lst ds) v H'->Q v H') :
  ∃ a b c,qP vs a b c/\∀ p,H1 p=none->(fun xs H Q=>∃ p a b c,xs=[V.ref p]/\H p=some (oz p a b c)/\Builtin.Range.small a b c=true/\RL.b8 c a b<=RL.most/\∀ l,H l=none->Q (.ref l) (upd H l (.lst (dz a c (RL.b8 c a b))))) [.ref p] (upd H1 p (oz p a b c)) Q:=by
 refine⟨a,b,c,hv,fun p hp=>⟨p,a,b,c,rfl,bC,hs,hn,fun l hl=>k _ _ ?_⟩⟩
 subst hd
 exact dZ (sm.trans (a6.bP hp)) hl (pf _ _ _) hav
theorem B0(hc:X.calm=true)(hgl:Gl X "list")(hml:X.mg "list" = none)(hg:Gl X "range")(hm:X.mg "range" = none)(ha:SE X cl a a')(hn:noStar a=true){p2 pos2:Pos}:SE X cl (.Call (.Name "list" p2) [.Call (.Name "range" p) [a] [] pos] [] pos2) (.rng1 a'):=by
 refine PE.weak (cC (fN hc) hgl hml (by decide +kernel) (cb (cC jv hg hm boot_range (bE (cl:=cl) ha cA hn) (by decide) (by decide) (aA [] hn) rfl) dG) (by decide) (by decide) rfl rfl) fun σ H Q h=>?_
 obtain⟨σD,d,rv,e,k⟩:=h
 rw[RL.ev]at e
 obtain⟨x,ea,e⟩:=bind_some e
 obtain⟨ds,e1,e2⟩:=map_some e
 subst e2
 obtain⟨i,j,e3,rfl,hb,hm2,rfl⟩:=nc e1
 cases e3
 have hb2:-(2 ^ 60)<=j/\j<2 ^ 60:=by
  simp only[RL.dt]at e1
  split at e1
  ·lia
  ·cases e1
 refine one rv ea fun v H1 s1 r1=>?_
 exact qz (a:=0) (b:=j) (c:=1) (.inl ⟨by rw[ag r1],rfl,rfl⟩) (by rw[lG,gc]) (by rw[gc];exact hm2) (jQ (by decide) (by decide) hb2.1 hb2.2 (by decide) (by decide)) s1 (fun _=>rfl) k
theorem Bq(hc:X.calm=true)(hgl:Gl X "list")(hml:X.mg "list" = none)(hg:Gl X "range")(hm:X.mg "range" = none)(ha:SE X cl a a')(hb:SE X cl b b')(hn:noStar a=true)(hn2:noStar b=true){p2 pos2:Pos}:SE X cl (.Call (.Name "list" p2) [.Call (.Name "range" p) [a,b] [] pos] [] pos2) (.rng2 a' b'):=by
 refine PE.weak (cC (fN hc) hgl hml (by decide +kernel) (cb (cC jv hg hm boot_range (bE (cl:=cl) ha (bE hb cA hn2) hn) (by decide) (by decide) (aA _ hn) (d5 (by simp[hn2]))) dG) (by decide) (by decide) rfl rfl) fun σ H Q h=>?_
 obtain⟨σD,d,rv,e,k⟩:=h
 rw[RL.ev]at e
 obtain⟨x,ea,e⟩:=bind_some e
 obtain⟨y,eb,e⟩:=bind_some e
 obtain⟨ds,e1,e2⟩:=map_some e
 subst e2
 obtain⟨i,j,rfl,rfl,hb,hm2,rfl⟩:=nc e1
 have hb2:(-(2 ^ 60)<=i/\i<2 ^ 60)/\-(2 ^ 60)<=j/\j<2 ^ 60:=by
  simp only[RL.dt]at e1
  split at e1
  ·lia
  ·cases e1
 refine pair rv ea eb fun v u H1 s1 r1 r2=>?_
 exact qz (a:=i) (b:=j) (c:=1) (.inr (.inl ⟨by rw[ag r1,ag r2],rfl⟩)) (by rw[lG,gc]) (by rw[gc];exact hm2) (jQ hb2.1.1 hb2.1.2 hb2.2.1 hb2.2.2 (by decide) (by decide)) s1 (fun _=>rfl) k
noncomputable def fV(c:Int):Expr->Bool
 | .Constant (.int i) _ _=>i == c
 | .UnaryOp .USub (.Constant (.int i) _ _) _=>-i == c
 | _=>false
theorem i6{c:Int}{e:Expr}(h:fV c e=true):PE X e (tC (.int c))/\noStar e=true:=by
 unfold fV at h
 split at h
 ·rw[beq_iff_eq]at h
  subst h
  exact⟨pT,rfl⟩
 ·rw[beq_iff_eq]at h
  subst h
  exact⟨PE.weak (zA xc pT) fun σ H Q q=>⟨_,rfl,q⟩,rfl⟩
 ·cases h
theorem sZ{c:Int}{x y:RL.D}{ds:List RL.D}(h:RL.eC c x y=some ds):∃ i j:Int,x=.int i/\y=.int j/\c≠0/\c.natAbs<2 ^ 60/\Builtin.Range.small i j c=true/\RL.b8 c i j<=RL.most/\ds=RL.bK c i (RL.b8 c i j):=by
 cases x<;>cases y<;>simp only[RL.eC]at h<;>first
  | (cases h;done)
  | (split at h
     ·rename_i i j hc
      cases h
      exact⟨i,j,rfl,rfl,hc.1,by omega,jQ hc.2.2.2.2.1 hc.2.2.2.2.2.1 hc.2.2.2.2.2.2.1 hc.2.2.2.2.2.2.2 (by omega) hc.2.2.1,hc.2.2.2.1,rfl⟩
     ·cases h)
theorem sV{c:Int}{e3:Expr}(ha:SE X cl a a')(hb:SE X cl b b')(hn:noStar a=true)(hn2:noStar b=true)(h3:fV c e3=true):PA X [a,b,e3] (fun σ H R=>tE X.K cl a' σ H fun v H1=>tE X.K cl b' σ H1 fun u H2=>R [v,u,.int c] H2) :=
 cb ha (cb hb (cb (i6 h3).1 dG (aA [] (i6 (X:=X) h3).2)) (aA _ hn2)) (aA _ hn)
theorem As{c:Int}{e3:Expr}(hc:X.calm=true)(hgl:Gl X "list")(hml:X.mg "list" = none)(hg:Gl X "range")(hm:X.mg "range" = none)(ha:SE X cl a a')(hb:SE X cl b b')(hn:noStar a=true)(hn2:noStar b=true)(h3:fV c e3=true){p2 pos2:Pos} :
  SE X cl (.Call (.Name "list" p2) [.Call (.Name "range" p) [a,b,e3] [] pos] [] pos2) (.rng3 c a' b'):=by
 refine PE.weak (cC (fN hc) hgl hml (by decide +kernel) (cb (cC jv hg hm boot_range (sV (cl:=cl) ha hb hn hn2 h3) (by decide) (by decide) (aA _ hn) (d5 (by simp[hn2,(i6 (X:=X) h3).2]))) dG) (by decide) (by decide) rfl rfl) fun σ H Q h=>?_
 obtain⟨σD,d,rv,e,k⟩:=h
 rw[RL.ev]at e
 obtain⟨x,ea,e⟩:=bind_some e
 obtain⟨y,eb,e⟩:=bind_some e
 obtain⟨ds,e1,e2⟩:=map_some e
 subst e2
 obtain⟨i,j,rfl,rfl,h0,h1,h2,h3,rfl⟩:=sZ e1
 refine two rv ea eb fun v u H1 H2 s1 s2 rx ry _ _=>?_
 exact qz (a:=i) (b:=j) (c:=c) (.inr (.inr ⟨by rw[ag rx,ag ry],h0,h1⟩)) rfl h3 h2 (s1.trans s2) (fun _=>rfl) k
theorem Bn{c:Int}{e3:Expr}(hg:Gl X "range")(hm:X.mg "range" = none)(ha:SE X cl a a')(hb:SE X cl b b')(hn:noStar a=true)(hn2:noStar b=true)(h3:fV c e3=true) :
  SI X cl tg (.Call (.Name "range" p) [a,b,e3] [] pos) (.rng3 c a' b'):=by
 intro pins s σ H R I h
 obtain⟨σD,ds,rv,e,k⟩:=h
 rw[RL.bA]at e
 obtain⟨x,ea,e⟩:=bind_some e
 obtain⟨y,eb,e⟩:=bind_some e
 obtain⟨i,j,rfl,rfl,h0,h1,hs,hl,rfl⟩:=sZ e
 refine thn (cC jv hg hm boot_range (sV (cl:=cl) ha hb hn hn2 h3) (by decide) (by decide) (aA _ hn) (d5 (by simp[hn2,(i6 (X:=X) h3).2])) pins s σ H (fun x H2=>∃ p,x=.ref p/\H2 p=some (oz p i j c)/\a6 H H2) I ?_) ?_
 ·exact two rv ea eb fun v u H1 H2 s1 s2 rx ry _ _=>⟨i,j,c,.inr (.inr ⟨by rw[ag rx,ag ry],h0,h1⟩),fun p hp=>⟨p,rfl,bC,(s1.trans s2).trans (a6.bP hp)⟩⟩
 ·rintro v s1 ⟨x,H1,I1,r1,q,rfl,hq,sm⟩
  cases r1
  obtain⟨⟨t,u,v,hR⟩,_,_⟩:=I1.hok q _ hq
  refine wpAny_pyIter_range hR hs ⟨s1.heap.objs.size,[s1.heap.objs.size],_,Its c i (RL.b8 c i j),H1,rfl,I1.kept (t':=s1.toks) fun b o e=>Heap.get?_push_of_some _ e,vf _ c i _,?_,fun b hb=>?_,k _ _ sm ⟨sk,fun _ _ _ _ _=>sk⟩⟩
  ·have e1:i+((0:Nat):Int)*c=i:=by simp
   have e2:((RL.b8 c i j:Nat):Int)-((0:Nat):Int)=Builtin.Range.rangeSize i j c:=by rw[jM];simp
   show IsRangeIter _ _ (i+((0:Nat):Int)*c) (((RL.b8 c i j:Nat):Int)-((0:Nat):Int)) c
   rw[e1,e2]
   exact Heap.get?_push_size _ rfl
  ·rw[show b=s1.heap.objs.size by simpa using hb]
   exact I1.nO (Nat.le_refl _) (I1.hok.fresh (Nat.le_refl _))
theorem AN(hl:SE X cl l e'):SI X cl tg l (.seq e'):=by
 refine PI.weak (EB (cl:=cl) hl trivial) fun σ H R h=>?_
 obtain⟨σD,ds,rv,e,k⟩:=h
 rw[RL.bA]at e
 obtain⟨d,e1,e2⟩:=bind_some e
 exact⟨σD,d,ds,rv,e1,e2,k⟩
theorem B5(ha:SE X cl a a'):SE X cl (.UnaryOp .USub a pos) (.neg a'):=by
 refine PE.weak (zA xc ha) fun σ H Q h=>?_
 obtain⟨σD,d,rv,e,k⟩:=h
 rw[RL.ev]at e
 obtain⟨x,ea,e⟩:=bind_some e
 cases x with
 | int i=>cases e;exact⟨σD,_,rv,ea,fun v H1 r1=>⟨i,ag r1.rep,k _ _ (cZ r1.same aS rfl)⟩⟩
 | _=>cases e
theorem EF(hg:Gl X "divmod")(hm:X.mg "divmod" = none)(ha:SE X cl a a')(hb:SE X cl b b')(hn:noStar a=true)(hn2:noStar b=true):SE X cl (.Call (.Name "divmod" p) [a,b] [] pos) (.dvm a' b'):=by
 refine PE.weak (gD sf hg hm (by decide +kernel) (bE (cl:=cl) ha (bE hb cA hn2) hn) (by decide) (by decide) (aA _ hn) (d5 (by simp[hn2]))) fun σ H Q h=>?_
 obtain⟨σD,d,rv,e,k⟩:=h
 rw[RL.ev]at e
 obtain⟨u,ea,e⟩:=bind_some e
 obtain⟨v,eb,e⟩:=bind_some e
 cases u with
 |int i=>
  cases v with
  |int j=>
   dsimp only at e
   by_cases c:0<j/\j<1073741824
   ·rw[if_pos c]at e
    cases e
    exact pair rv ea eb fun v u H1 s1 r1 r2=>⟨i,j,by rw[ag r1,ag r2],c,fun q hq=>k _ _ (fh s1 hq (ab.cons aS (ab.cons aS ab.nil)) fun _=>rfl)⟩
   ·rw[if_neg c]at e
    cases e
  | _=>cases e
 | _=>cases e
end
noncomputable def mAt(mp:List Nat)(vs:List V):Addr->Prop:=fun a=>∃ p,p∈mp/\vs[p]?=some (.ref a)
structure Cs(K:PySem.W.Frag)(mp:List Nat)(ds:List RL.D)(vs:List V)(H:Hp):Prop where
 jV:ab nP K H ds vs
 own:∀ p∈mp,∃ d a,ds[p]?=some d/\vs[p]?=some (.ref a)/\Own K H d (.ref a)
 sep:∀ p∈mp,∀ q∈mp,∀ a,vs[p]?=some (.ref a)->vs[q]?=some (.ref a)->p=q
 oth:∀ (q:Nat) d v,q∉mp->ds[q]?=some d->vs[q]?=some v->Rep (mAt mp vs) K H d v
structure Gj(K:PySem.W.Frag)(mp:List Nat)(outs:List RL.D)(vs:List V)(H:Hp):Prop where
 len:outs.length=mp.length
 own:∀ (k p:Nat) o,mp[k]?=some p->outs[k]?=some o->∃ a,vs[p]?=some (.ref a)/\Own K H o (.ref a)
noncomputable def spM(K:PySem.W.Frag)(cl:RL.Cl)(mp:List Nat)(f:Nat):Sp:=fun vs H Q _=>∃ ds d outs,cl f ds=some (.tup (d::outs))/\Cs K mp ds vs H/\∀ v H',Off (mAt mp vs) H H'->Rep nP K H' d v->d.imm=true->Gj K mp outs vs H'->Q v H'
noncomputable def qS(K:PySem.W.Frag)(cl:RL.Cl):RL.E->TE
 | .var j=>jw j
 | e=>tE K cl e
noncomputable def iS(K:PySem.W.Frag)(cl:RL.Cl):RL.Es->TA
 | .nil=>uA
 | .cons e es=>mf (qS K cl e) (iS K cl es)
noncomputable def cE(K:PySem.W.Frag)(M:List Nat)(σ:L2.St)(ps:List Nat)(H:Hp):Nat->RL.Es->List RL.D->List V->Prop
 | _,.nil,[],[]=>True
 | q,.cons e es,d::ds,v::vs=>Rep nP K H d v/\(if ps.contains q=true then ∃ j,e=.var j/\σ[j]?=some (some v)else Rep (bF M σ) K H d v)/\cE K M σ ps H (q+1) es ds vs
 | _,_,_,_=>False
section
variable{K:PySem.W.Frag}{M:List Nat}{cl:RL.Cl}{σD:RL.St}{σ:L2.St}{H H1:Hp}
theorem vO{j:Nat}{d:RL.D}(e:RL.ev cl σD (.var j)=some d):σD[j]?=some (some d):=by
 rw[RL.ev]at e
 exact slot_get e
theorem BA{e':RL.E}{d:RL.D}{v:V}(rv:RVm K M σD σ H)(r1:Res K σD σ H e' d v H1)(ok:RL.aU M e' d=true):Rep (bF M σ) K H1 d v:=by
 unfold RL.aU at ok
 rw[Bool.or_eq_true,Bool.or_eq_true,Bool.and_eq_true]at ok
 rcases ok with(q | ⟨q1,q2⟩) | q
 ·exact r1.rep.imm q
 ·have rp:=r1.rep
  have fr:lQ d=true->∀ a,v=.ref a->¬ bF M σ a:=fun m a z p=>rv.qq a p (r1.fresh q2 m a z)
  cases d with
  | lst ds=>obtain⟨a,xs,e1,e0,e2,e3⟩:=aH rp;rw[Rep];exact⟨a,xs,e1,fr rfl a e1,e2,e3.imm q1⟩
  | dK ks ds=>rw[Rep]at rp ⊢;obtain⟨a,xs,e1,e0,e2,el,e3⟩:=rp;exact⟨a,xs,e1,fr rfl a e1,e2,el,e3.imm q1⟩
  | dT ks ds=>rw[Rep]at rp ⊢;obtain⟨a,xs,e1,e0,e2,el,e3⟩:=rp;exact⟨a,xs,e1,fr rfl a e1,e2,el,e3.imm q1⟩
  | _=>cases q1
 ·refine r1.av M q _ rv.qq fun j dj vj hj h1 h2=>?_
  obtain⟨v',h3,h4⟩:=rv.val j dj h1
  rw[h2]at h3
  cases h3
  rw[if_neg (by rw[hj];decide)]at h4
  exact h4
theorem By{e:RL.E}{d:RL.D}{ps:List Nat}{q:Nat}{R:V->Hp->Prop}(rv:RVm K M σD σ H)(he:RL.ev cl σD e=some d)(ok:(if ps.contains q=true then RL.isVar e else RL.aU M e d)=true)
 (k:∀ v H1,a6 H H1->Rep nP K H1 d v->(if ps.contains q=true then ∃ j,e=.var j/\σ[j]?=some (some v)else Rep (bF M σ) K H1 d v)->R v H1):qS K cl e σ H R:=by
 have other:qS K cl e=tE K cl e->ps.contains q=false->qS K cl e σ H R:=fun z hq=>by
  rw[z]
  rw[if_neg (by rw[hq];decide)]at ok
  refine⟨σD,d,rv.rv0,he,fun v H1 r1=>k v H1 r1.same r1.rep ?_⟩
  rw[if_neg (by rw[hq];decide)]
  exact BA rv r1 ok
 cases e with
 |var j=>
  have hj:=vO he
  obtain⟨v,h1,h2⟩:=rv.val j d hj
  refine⟨v,h1,k v H (a6.refl H) ?_ ?_⟩
  ·obtain⟨v',h3,h4⟩:=rv.rv0.2 j d hj
   rw[h1]at h3
   cases h3
   exact h4
  ·by_cases hq:ps.contains q=true
   ·rw[if_pos hq]
    exact⟨j,rfl,h1⟩
   ·rw[if_neg hq]at ok ⊢
    by_cases hm:M.contains j=true
    ·rw[if_pos hm]at h2
     have im:d.imm=true:=by
      unfold RL.aU at ok
      rw[Bool.or_eq_true,Bool.or_eq_true,Bool.and_eq_true]at ok
      rcases ok with(z | ⟨_,z⟩) | z
      ·exact z
      ·cases z
      ·rw[RL.avE,hm]at z
       cases z
     exact h2.2.2.imm im
    ·rw[if_neg hm]at h2
     exact h2
 |_=>
  refine other rfl ?_
  cases hq:ps.contains q with
  | false=>rfl
  |true=>
   rw[if_pos hq]at ok
   cases ok
theorem qd{ps:List Nat}:∀ {es:RL.Es} {q:Nat} {ds:List RL.D} {H:Hp} {R:List V->Hp->Prop},RVm K M σD σ H->RL.evs cl σD es=some ds->RL.dI M ps q es ds=true ->
  (∀ vs H1,a6 H H1->cE K M σ ps H1 q es ds vs->R vs H1)->iS K cl es σ H R
 | .nil,q,ds,H,R,rv,he,ok,k=>by
  rw[RL.evs]at he
  cases he
  exact k [] H (a6.refl H) (by rw[cE];trivial)
 | .cons e es,q,ds,H,R,rv,he,ok,k=>by
  rw[RL.evs]at he
  obtain⟨d,e1,he⟩:=bind_some he
  obtain⟨ds',e2,e3⟩:=map_some he
  subst e3
  rw[RL.dI,Bool.and_eq_true]at ok
  refine By rv e1 ok.1 fun v H1 s1 r1 x1=>?_
  refine qd (rv.same s1) e2 ok.2 fun vs H2 s2 r2=>k (v::vs) H2 (s1.trans s2) ?_
  rw[cE]
  refine⟨r1.same s2,?_,r2⟩
  by_cases hq:ps.contains q=true
  ·rw[if_pos hq]at x1 ⊢
   exact x1
  ·rw[if_neg hq]at x1 ⊢
   exact x1.same s2
noncomputable def k6:RL.Es->Nat->Option RL.E
 | .nil,_=>none
 | .cons e _,0=>some e
 | .cons _ es,n+1=>k6 es n
theorem cE.jV{ps:List Nat}:∀ {q:Nat} {es:RL.Es} {ds:List RL.D} {vs:List V},cE K M σ ps H q es ds vs->ab nP K H ds vs
 | _,.nil,[],[],h=>ab.nil
 | q,.cons e es,d::ds,v::vs,h=>by
  rw[cE]at h
  exact ab.cons h.1 (cE.jV h.2.2)
 | _,.nil,_::_,_,h=>by simp[cE]at h
 | _,.nil,[],_::_,h=>by simp[cE]at h
 | _,.cons _ _,[],_,h=>by simp[cE]at h
 | _,.cons _ _,_::_,[],h=>by simp[cE]at h
theorem cE.get{ps:List Nat}:∀ {q:Nat} {es:RL.Es} {ds:List RL.D} {vs:List V} (n:Nat) {d:RL.D} {v:V},cE K M σ ps H q es ds vs->ds[n]?=some d->vs[n]?=some v ->
  Rep nP K H d v/\(if ps.contains (q+n)=true then ∃ j,k6 es n=some (.var j)/\σ[j]?=some (some v)else Rep (bF M σ) K H d v)
 | _,.nil,[],[],n,_,_,h,e,_=>by simp at e
 | q,.cons e es,d::ds,v::vs,0,_,_,h,e1,e2=>by
  simp at e1 e2
  subst e1 e2
  rw[cE]at h
  refine⟨h.1,?_⟩
  have h2:=h.2.1
  rw[Nat.add_zero]
  by_cases hq:ps.contains q=true
  ·rw[if_pos hq]at h2 ⊢
   obtain⟨j,z,y⟩:=h2
   subst z
   exact⟨j,rfl,y⟩
  ·rw[if_neg hq]at h2 ⊢
   exact h2
 | q,.cons e es,d::ds,v::vs,n+1,_,_,h,e1,e2=>by
  rw[cE]at h
  have:=cE.get n h.2.2 (by simpa using e1) (by simpa using e2)
  rw[show q+1+n=q+(n+1) by lia]at this
  exact this
 | _,.nil,_::_,_,_,_,_,h,_,_=>by simp[cE]at h
 | _,.nil,[],_::_,_,_,_,h,_,_=>by simp[cE]at h
 | _,.cons _ _,[],_,_,_,_,h,_,_=>by simp[cE]at h
 | _,.cons _ _,_::_,[],_,_,_,h,_,_=>by simp[cE]at h
theorem Own.off{P:Addr->Prop}{d:RL.D}{a:Addr}(h:Own K H d (.ref a))(hm:∀ b o,P b->H b=some o->cI o)(k:Off P H H1)(n:¬ P a):Own K H1 d (.ref a):=by
 obtain⟨q1,q2,q3⟩:=h
 refine⟨q1,q2,?_⟩
 have im:∀ {ds:List RL.D} {xs:List V},RL.au ds=true->ab nP K H ds xs->ab nP K H1 ds xs:=fun hi r=>((r.imm hi).off hm k).imm hi
 cases d with
 | lst ds=>obtain⟨b',xs,e1,e0,e2,e3⟩:=aH q3;cases e1;rw[Rep];exact⟨a,xs,rfl,fun z=>z,k _ _ n e2,im q2 e3⟩
 | dK ks ds=>rw[Rep]at q3 ⊢;obtain⟨b',xs,e1,e0,e2,el,e3⟩:=q3;cases e1;exact⟨a,xs,rfl,fun z=>z,k _ _ n e2,el,im q2 e3⟩
 | dT ks ds=>rw[Rep]at q3 ⊢;obtain⟨b',xs,e1,e0,e2,el,e3⟩:=q3;cases e1;exact⟨a,xs,rfl,fun z=>z,k _ _ n e2,el,im q2 e3⟩
 | _=>cases q1
theorem nY:∀ {ms:List Nat} {outs:List RL.D} {σD:RL.St} {k i:Nat} {o:RL.D},ms.Nodup->ms[k]?=some i->outs[k]?=some o->i<σD.length->(dW ms outs σD)[i]?=some (some o)
 | [],_,_,_,_,_,_,e,_,_=>by simp at e
 | m::ms,[],_,_,_,_,_,_,e,_=>by simp at e
 | m::ms,d::ds,σD,0,i,o,nd,e1,e2,hl=>by
  simp at e1 e2
  subst e1 e2
  rw[dW,kL _ _ _ _ (by simpa using(List.nodup_cons.mp nd).1),List.getElem?_set_self hl]
 | m::ms,d::ds,σD,k+1,i,o,nd,e1,e2,hl=>by
  rw[dW]
  exact nY (List.nodup_cons.mp nd).2 (by simpa using e1) (by simpa using e2) (by simpa using hl)
theorem RVm.changed{ms:List Nat}{outs:List RL.D}(h:RVm K M σD σ H)(hms:∀ i∈ms,M.contains i=true)(nd:ms.Nodup)(len:ms.length=outs.length)(k:Off (fun a=>∃ i∈ms,σ[i]?=some (some (.ref a))) H H1)
 (ow:∀ (k i:Nat) o,ms[k]?=some i->outs[k]?=some o->∃ a,σ[i]?=some (some (.ref a))/\Own K H1 o (.ref a)):RVm K M (dW ms outs σD) σ H1/\Fr' M σ H σ H1:=by
 have sub:∀ a,(∃ i∈ms,σ[i]?=some (some (.ref a)))->bF M σ a:=fun a ⟨i,hi,e⟩=>⟨i,hms i hi,e⟩
 have offA:Off (bF M σ) H H1:=fun b o n e=>k b o (fun z=>n (sub b z)) e
 have hmA:∀ b o,bF M σ b->H b=some o->cI o:=fun b o p e=>by
  obtain⟨o',e',m⟩:=h.xS b p
  rw[e]at e'
  cases e'
  exact m
 have at_:∀ i,i∈ms->∃ (kk:Nat) (o:RL.D),ms[kk]?=some i/\outs[kk]?=some o:=fun i hi=>by
  obtain⟨kk,hk,e⟩:=List.getElem_of_mem hi
  exact⟨kk,outs[kk]'(by lia),by simp[hk,e],by simp⟩
 refine⟨⟨by rw[lT];exact h.len,fun i d e=>?_,fun i v e=>?_,h.sep⟩,⟨fun b o e n=>⟨offA b o n e,n⟩,fun _ _=>rfl⟩⟩
 ·by_cases hi:i∈ms
  ·obtain⟨kk,o,e1,e2⟩:=at_ i hi
   have hl:i<σD.length:=by
    have:=(List.getElem?_eq_some_iff.mp e).1
    rw[lT]at this
    exact this
   rw[nY nd e1 e2 hl]at e
   cases e
   obtain⟨a,q1,q2⟩:=ow kk i _ e1 e2
   exact⟨.ref a,q1,by rw[if_pos (hms i hi)];exact q2⟩
  ·rw[kL _ _ _ _ (by simpa using hi)]at e
   obtain⟨v,h1,h2⟩:=h.val i d e
   refine⟨v,h1,?_⟩
   by_cases hm:M.contains i=true
   ·rw[if_pos hm]at h2 ⊢
    obtain⟨a,o,rfl,_,_⟩:=h2.ref
    refine h2.off (fun b o p e=>hmA b o (sub b p) e) k fun⟨j,hj,ej⟩=>?_
    exact hi (h.sep i j a hm (hms j hj) h1 ej▸hj)
   ·rw[if_neg hm]at h2 ⊢
    exact h2.off hmA offA
 ·obtain⟨d,hd⟩:=h.non i v e
  by_cases hi:i∈ms
  ·obtain⟨kk,o,e1,e2⟩:=at_ i hi
   exact⟨o,nY nd e1 e2 (List.getElem?_eq_some_iff.mp hd).1⟩
  ·exact⟨d,by rw[kL _ _ _ _ (by simpa using hi)];exact hd⟩
end
section rules
variable{X:Cx}{cl:RL.Cl}{M:List Nat}{st:Stmt}{i f:Nat}{es:RL.Es}{ps ms:List Nat}
noncomputable def cq(es:RL.Es):List Nat->List Nat->Bool
 | [],[]=>true
 | p::ps,m::ms=>(match k6 es p with | some (.var j)=>j == m | _=>false)&&cq es ps ms
 | _,_=>false
theorem l3:∀ {ps ms:List Nat} {k p:Nat},cq es ps ms=true->ps[k]?=some p->∃ m,ms[k]?=some m/\k6 es p=some (.var m)
 | [],_,_,_,_,e=>by simp at e
 | _::_,[],_,_,h,_=>by simp[cq]at h
 | p::ps,m::ms,0,q,h,e=>by
  rw[cq,Bool.and_eq_true]at h
  simp at e
  subst e
  have h1:=h.1
  split at h1
  ·rename_i j hj
   rw[beq_iff_eq]at h1
   subst h1
   exact⟨j,rfl,hj⟩
  ·cases h1
 | p::ps,m::ms,k+1,q,h,e=>by
  rw[cq,Bool.and_eq_true]at h
  obtain⟨m',h1,h2⟩:=l3 (k:=k) h.2 (by simpa using e)
  exact⟨m',by simpa using h1,h2⟩
theorem ie:∀ {ps ms:List Nat},cq es ps ms=true->ps.length=ms.length
 | [],[],_=>rfl
 | [],_::_,h=>by simp[cq]at h
 | _::_,[],h=>by simp[cq]at h
 | p::ps,m::ms,h=>by
  rw[cq,Bool.and_eq_true]at h
  rw[List.length_cons,List.length_cons,ie h.2]
theorem yS{σD:RL.St}{σ:L2.St}{H:Hp}{ds outs:List RL.D}{d:RL.D}{σ1:RL.St}{Q:VK}(rv:RVm X.K M σD σ H)(he:RL.evs cl σD es=some ds)(ok:RL.dI M ps 0 es ds=true)(hc:cl f ds=some (.tup (d::outs)))
 (hs:cq es ps ms=true)(hms:∀ i∈ms,M.contains i=true)(nd:ms.Nodup)(ndp:ps.Nodup)(hset:RL.bH ms outs σD=some σ1)
 (k:∀ v H',Rep nP X.K H' d v->d.imm=true->RVm X.K M σ1 σ H'->Fr' M σ H σ H'->Q v H'):pI (spM X.K cl ps f) [] E0 (iS X.K cl es) σ H Q:=by
 refine qd rv he ok fun vs H1 s1 ar=>?_
 show spM X.K cl ps f (vs++[]) H1 Q E0
 rw[List.append_nil]
 have rv1:=rv.same s1
 have rps:=ar.jV
 obtain⟨hlen,hσ1⟩:=fF hset
 subst hσ1
 have adr:∀ (k p:Nat),ps[k]?=some p->∃ m a d',ms[k]?=some m/\σ[m]?=some (some (.ref a))/\vs[p]?=some (.ref a)/\ds[p]?=some d'/\Own X.K H1 d' (.ref a)/\k6 es p=some (.var m):=by
  intro k p hk
  obtain⟨m,h1,h2⟩:=l3 hs hk
  have evg:∀ (es:RL.Es) (ds:List RL.D) (n:Nat) (e:RL.E),RL.evs cl σD es=some ds->k6 es n=some e->∃ d',ds[n]?=some d'/\RL.ev cl σD e=some d':=by
   intro es
   induction es using RL.Es.rec (motive_1:=fun _=>True) (motive_3:=fun _=>True)with
   | nil=>intro ds n e _ z;cases z
   |cons e0 es0 _ ih=>
    intro ds n e h z
    rw[RL.evs]at h
    obtain⟨d0,y1,h⟩:=bind_some h
    obtain⟨ds0,y2,y3⟩:=map_some h
    subst y3
    cases n with
    | zero=>cases z;exact⟨d0,rfl,y1⟩
    | succ n=>exact ih ds0 n e y2 z
   | _=>trivial
  obtain⟨d',g1,g2⟩:=evg es ds p _ he h2
  obtain⟨v,g3,g4⟩:=rps.get g1
  have hpc:ps.contains (0+p)=true:=by
   rw[Nat.zero_add]
   simpa using List.mem_of_getElem? hk
  have g5:=(ar.get p g1 g3).2
  rw[if_pos hpc]at g5
  obtain⟨j,z1,z2⟩:=g5
  rw[h2]at z1
  cases z1
  have hm:M.contains m=true:=hms m (List.mem_of_getElem? h1)
  obtain⟨v',z3,z4⟩:=rv1.val m d' (vO g2)
  rw[z2]at z3
  cases z3
  rw[if_pos hm]at z4
  obtain⟨a,o,rfl,_,_⟩:=z4.ref
  exact⟨m,a,d',h1,z2,g3,g1,z4,h2⟩
 have adr':∀ a,mAt ps vs a->∃ i∈ms,σ[i]?=some (some (.ref a)):=fun a ⟨p,hp,e⟩=>by
  obtain⟨k,hk,z⟩:=List.getElem_of_mem hp
  obtain⟨m,a',d',h1,h2,h3,_⟩:=adr k p (by simp[hk,z])
  rw[e]at h3
  cases h3
  exact⟨m,List.mem_of_getElem? h1,h2⟩
 refine⟨ds,d,outs,hc,⟨rps,fun p hp=>?_,fun p hp q hq a e1 e2=>?_,fun q dq v hq e1 e2=>?_⟩,fun v H' off rp im mo=>?_⟩
 ·obtain⟨k,hk,z⟩:=List.getElem_of_mem hp
  obtain⟨m,a',d',h1,h2,h3,h4,h5,_⟩:=adr k p (by simp[hk,z])
  exact⟨d',a',h4,h3,h5⟩
 ·obtain⟨k,hk,z⟩:=List.getElem_of_mem hp
  obtain⟨l,hl,y⟩:=List.getElem_of_mem hq
  have gk:ps[k]?=some p:=by simp[hk,z]
  have gl:ps[l]?=some q:=by simp[hl,y]
  obtain⟨m,a1,d1,h1,h2,h3,_⟩:=adr k p gk
  obtain⟨m',a2,d2,h1',h2',h3',_⟩:=adr l q gl
  rw[e1]at h3
  cases h3
  rw[e2]at h3'
  cases h3'
  have hmm:=rv1.sep m m' a (hms m (List.mem_of_getElem? h1)) (hms m' (List.mem_of_getElem? h1')) h2 h2'
  subst hmm
  have hkl:k=l:=(List.getElem?_inj (by rw[<-ie hs];exact hk) nd).mp (by rw[h1,h1'])
  subst hkl
  rw[gk]at gl
  exact Option.some.inj gl
 ·have hpc:ps.contains (0+q)=false:=by
   rw[Nat.zero_add]
   simpa using hq
  have g5:=(ar.get q e1 e2).2
  rw[if_neg (by rw[hpc];decide)]at g5
  exact g5.weak fun a ha=>by
   obtain⟨i,hi,e⟩:=adr' a ha
   exact⟨i,hms i hi,e⟩
 ·obtain⟨g1,g2⟩:=rv1.changed (outs:=outs) (H1:=H') hms nd hlen (fun b o n e=>off b o (fun z=>n (adr' b z)) e) fun k i o hk ho=>by
   have hkl:k<ps.length:=by
    rw[ie hs]
    exact(List.getElem?_eq_some_iff.mp hk).1
   obtain⟨m,a1,d1,h1,h2,h3,_⟩:=adr k ps[k] (by simp[hkl])
   rw[hk]at h1
   cases h1
   obtain⟨a,q1,q2⟩:=mo.own k ps[k] o (by simp[hkl]) ho
   rw[q1]at h3
   cases h3
   exact⟨_,h2,q2⟩
  exact k v H' rp im g1 ((Fr'.same s1).trans g2)
theorem Bv(h:PS X st (pO (pI (spM X.K cl ps f) [] E0 (iS X.K cl es))))(hs:cq es ps ms=true)(hms:∀ i∈ms,M.contains i=true)(nd:ms.Nodup)(ndp:ps.Nodup):SS X cl M st (.mexc f es ps ms):=by
 refine PS.weak h fun D σ H h=>?_
 obtain⟨σD,o,σD',rv,e,k⟩:=h
 rw[RL.evS]at e
 obtain⟨ds,e1,e⟩:=bind_some e
 split at e
 ·rename_i ok
  obtain⟨r,e2,e⟩:=bind_some e
  split at e
  ·rename_i d outs
   obtain⟨σ1,e3,e4⟩:=map_some e
   cases e4
   exact yS rv e1 ok e2 hs hms nd ndp e3 fun v H' _ _ rv' fr'=>k _ _ rv' fr'
  ·cases e
 ·cases e
end rules
end RS
namespace L2
open PySem PySem.Spec PyProof.Rows
section
variable{prog:Program}{w:World}{A:Around}{E:Value->Shared->Prop}
theorem rY{α:Type}{Q:α->Shared->Prop}{z:Shared}(hh:A.handled=none)(k:∀ g e,(∀ b o,z.heap.get? b=some o->g.get? b=some o)->(∃ o,g.get? e=some o/\o.cls=.type "StopIteration")->E (.ref e) { z with heap:=g }) :
  wpAny (model prog w) A (Builtin.SmallTypes.stopIteration:Sem α) Q E z:=by
 obtain⟨hp,g,d,tk,os⟩:=z
 unfold Builtin.SmallTypes.stopIteration
 simp only[newExc,newTuple,raiseNew]
 wp_walk
 exact k _ _ (fun b o e=>Heap.get?_push_of_some _ (Heap.get?_push_of_some _ e)) ⟨_,Heap.get?_push_size _ rfl,rfl⟩
theorem yv{z:Shared}{ti tp:Addr}{i:Nat}{its:Array Value}{x:Value}{Q:Value->Shared->Prop}(hi:z.heap.IsTupleIter ti tp i)(ht:z.heap.IsTuple tp its)(hx:its[i]?=some x)
 (k:∀ g,g.IsTupleIter ti tp (i+1)->Heap.SameBut ti z.heap g->Q x { z with heap:=g }):wpAny (model prog w) A (Builtin.SmallTypes.nextOf (.ref ti)) Q E z:=by
 have hty:=hi.typeIs
 obtain⟨⟨c1,d1,f1,s1⟩,g1,c1',f1'⟩:=hi
 obtain⟨⟨c2,d2,f2,s2⟩,g2,c2',n2,f2'⟩:=ht
 dsimp only at c1' f1' c2' f2'
 subst c1' f1' c2' f2'
 obtain⟨hp,g,d,tk,os⟩:=z
 unfold Builtin.SmallTypes.nextOf
 refine wpAny_bind (wpAny_callSpecial?_slot (name:=Str.ofString "__next__") hty F.slot_tuple_iterator_next (wpAny_call_entry F.slot_tuple_iterator_next hty F.entry_tuple_iterator_next ?_ (F.args_tuple_iterator_next_1 _)))
 unfold Builtin.«tuple_iterator.__next__»
 wp_walk using AutoSeq1.wpAny_loadPart' g1,AutoSeq1.wpAny_loadPart' g2
 have e:its[((i:Nat):Int).toNat]?=some x:=hx
 rw[e]
 dsimp only
 apply wpAny_bind
 apply wpAny_setField g1 rfl (by simp)
 apply wpAny_pure
 refine⟨x,rfl,?_⟩
 apply wpAny_pure
 apply k
 ·exact⟨_,Heap.get?_update_self _ g1 rfl,rfl,by simp[Obj.mapFields,rawInt]⟩
 ·exact Heap.SameBut.update ..
theorem Bb{z:Shared}{ti tp:Addr}{i:Nat}{its:Array Value}{Q:Value->Shared->Prop}(hh:A.handled=none)(hi:z.heap.IsTupleIter ti tp i)(ht:z.heap.IsTuple tp its)(hx:its[i]?=none)
 (k:∀ g e,Heap.ExtBut ti z.heap g->(∃ o,g.get? e=some o/\o.cls=.type "StopIteration")->E (.ref e) { z with heap:=g }):wpAny (model prog w) A (Builtin.SmallTypes.nextOf (.ref ti)) Q E z:=by
 have hty:=hi.typeIs
 obtain⟨⟨c1,d1,f1,s1⟩,g1,c1',f1'⟩:=hi
 obtain⟨⟨c2,d2,f2,s2⟩,g2,c2',n2,f2'⟩:=ht
 dsimp only at c1' f1' c2' f2'
 subst c1' f1' c2' f2'
 obtain⟨hp,g,d,tk,os⟩:=z
 unfold Builtin.SmallTypes.nextOf
 refine wpAny_bind (wpAny_callSpecial?_slot (name:=Str.ofString "__next__") hty F.slot_tuple_iterator_next (wpAny_call_entry F.slot_tuple_iterator_next hty F.entry_tuple_iterator_next ?_ (F.args_tuple_iterator_next_1 _)))
 unfold Builtin.«tuple_iterator.__next__»
 wp_walk using AutoSeq1.wpAny_loadPart' g1,AutoSeq1.wpAny_loadPart' g2
 have e:its[((i:Nat):Int).toNat]?=none:=hx
 rw[e]
 dsimp only
 apply wpAny_bind
 apply wpAny_rule
 apply wpAny_bind
 apply wpAny_setField g1 rfl (by simp)
 refine rY hh fun g e kp hc=>k g e (fun b o hb q=>kp b o ?_) hc
 exact(Heap.SameBut.update ..).extBut b o hb q
theorem pQ{α:Type}{m:Sem α}{S Q:α->Shared->Prop}{E:Value->Shared->Prop}{z:Shared}(h:wpAny (model prog w) A m S (fun _ _=>False) z)(k:∀ a z1,S a z1->Q a z1):wpAny (model prog w) A m Q E z:=wpAny_mono h k fun _ _ f=>f.elim
theorem vF{b:Bool}{Q:Bool->Shared->Prop}{E:Value->Shared->Prop}{z:Shared}(h:∀ b,Q b z):wpAny (model prog w) A (pure b) Q E z:=wpAny_pure (h b)
theorem xv{x:Value}{S:Addr->Shared->Prop}{z:Shared}{Q:Value->Shared->Prop}(hx:∀ A:Around,wpAny (model prog w) A (pyIter x) (fun v z1=>∃ it,v=.ref it/\S it z1) (fun _ _=>False) z)
 (k:∀ it z1,S it z1->Q (.ref z1.heap.objs.size) { z1 with heap:=z1.heap.push { cls:=.type "enumerate",data:=.fields #[.none,.bool false,.ref it,rawInt 0,.none,.none] } }):wpAny (model prog w) A (call (.type "enumerate") [x]) Q E z:=by
 have body:MeetsIn prog w (Builtin.«enumerate.__new__» ⟨[.type "enumerate",x],[]⟩) (fun A R s=>s=z/\∀ it z1,S it z1->R (.ok (.ret (.ref z1.heap.objs.size))) { z1 with heap:=z1.heap.push { cls:=.type "enumerate",data:=.fields #[.none,.bool false,.ref it,rawInt 0,.none,.none] } }):=by
  rintro A R s ⟨rfl,hR⟩
  have hsub:=sub_enumerate
  have iter:=hx A.in1
  obtain⟨hp,g,d,tk,os⟩:=s
  wp_walk
  refine wpAny_stack_any fun st=>vF fun b=>?_
  have done:∀ it z1,S it z1->wpAny (model prog w) A.in1 (do let r <- Builtin.SmallTypes.newRecord (.type "enumerate") (Builtin.SmallTypes.ownedTupleFields++[.ref it,rawInt 0,.none,.none]);ret r)
    (fun fin s'=>match fin with | .done f=>R (.ok f) s' | .again c'=>c'.quiet=true/\codeAny (model prog w) A c' R s') (fun e s'=>R (.error e) s') z1:=by
   intro it z1 h1
   have:=hR it z1 h1
   obtain⟨hp1,gg1,dd1,tk1,os1⟩:=z1
   wp_walk
   exact this
  cases b
  ·wp_walk using pQ iter
   rintro _ z1 ⟨it,rfl,h1⟩
   exact done it z1 h1
  ·wp_walk using pQ iter
   rintro _ z1 ⟨it,rfl,h1⟩
   exact done it z1 h1
 refine callType_newIn F.called_enumerate (by decide) (F.typeCall_enumerate_1 _) (F.newCall_enumerate_1 _) (fun obj=>F.args_object_init_2 obj _) F.entry_enumerate_new body ⟨rfl,fun it z1 h=>?_⟩
 exact⟨⟨_,Heap.get?_push_size _ rfl,rfl⟩,k it z1 h⟩
theorem qt:kK prog w where
 draws:=fun hh ti tp hne its=>{
  live:=fun i h st=>let ⟨o,e,_⟩:=st.1;⟨o,e⟩
  frame:=fun i h h' st kp=>by
   obtain⟨⟨o1,e1,r1⟩,⟨o2,e2,r2⟩⟩:=st
   exact⟨⟨o1,kp ti (by simp) _ e1,r1⟩,⟨o2,kp tp (by simp) _ e2,r2⟩⟩
  item:=fun i s Q E hi st k=>by
   refine yv st.1 st.2 (x:=its[i]) (by simp[hi]) fun g h1 h2=>k its[i] g s.toks (by simp[hi]) ⟨h1,st.2.extBut h2.extBut hne⟩ h2
  done:=fun s Q E st k=>Bb hh st.1 st.2 (by simp) fun g e h1 h2=>k g e h1 h2 }
 call:=fun {A E z tp its Q} ht k=>by
  refine xv (S:=fun it z1=>it=z.heap.objs.size/\z1={ z with heap:=z.heap.push { cls:=.type "tuple_iterator",data:=.fields #[.ref tp,rawInt 0] } }) (fun A=>wpAny_pyIter_tuple ht ⟨_,rfl,rfl,rfl⟩) ?_
  rintro it z1 ⟨rfl,rfl⟩
  have hz:(z.heap.push { cls:=.type "tuple_iterator",data:=.fields #[.ref tp,rawInt 0] }).objs.size=z.heap.objs.size+1:=Heap.size_push ..
  dsimp only
  rw[hz]
  refine k _ ?_ ⟨_,Heap.get?_push_of_some _ (Heap.get?_push_size _ rfl),rfl,rfl⟩ fun b o e=>Heap.get?_push_of_some _ (Heap.get?_push_of_some _ e)
  have:=Heap.get?_push_size (z.heap.push { cls:=.type "tuple_iterator",data:=.fields #[.ref tp,rawInt 0] }) (o:={ cls:=.type "enumerate",data:=.fields #[.none,.bool false,.ref z.heap.objs.size,rawInt 0,.none,.none] }) rfl
  rw[hz]at this
  exact this
end
end L2
namespace RS
open PySem PySem.Spec PyProof.Rows L2
section
variable{X:Cx}{cl:RL.Cl}{a b:Expr}{a' b':RL.E}{pos p p2 pos2:Pos}{M:List Nat}
theorem sy:∀ {bs:List Bool} {us:List Value},Vals (bs.map V.bl) us->us=bs.map Value.bool
 | [],_,h=>by cases h;rfl
 | b::bs,_,h=>by
  cases h with
  |cons r t=>
   cases r
   rw[sy t]
   rfl
theorem yK{A:Around}{bs:List Bool}:TruthOf X.prog X.w A (fun i v=>(bs.map Value.bool).toArray[i]?=some v) (fun i=>bs.getD i false):=by
 intro i v s Q E hP q
 have hP':(bs.map Value.bool)[i]?=some v:=by simpa using hP
 rw[List.getElem?_map]at hP'
 obtain⟨b,h1,h2⟩:=map_some hP'
 subst h2
 have:bs.getD i false=b:=by rw[List.getD_eq_getElem?_getD,h1];rfl
 have q':Q b s:=this▸q
 exact wpAny_truthy_bool q'
theorem range_all(bs:List Bool):(List.range bs.length).all (fun i=>bs.getD i false)=bs.all id:=by
 have:bs=(List.range bs.length).map fun i=>bs.getD i false:=by
  apply List.ext_getElem
  ·simp
  ·intro i h1 h2
   simp[List.getD_eq_getElem?_getD,h1]
 conv=>rhs;rw[this]
 rw[List.all_map]
 rfl
noncomputable def C9(f:List Bool->Bool):List V->Hp->VK->Prop:=fun xs H Q=>∃ p bs,xs=[.ref p]/\H p=some (.lst (bs.map V.bl))/\Q (.bl (f bs)) H
theorem ze(hc:X.calm=true):bJ X (.builtin "all") (C9 fun bs=>bs.all id):=by
 intro pins s σ H xs us Q I r h
 obtain⟨p,bs,rfl,hp,q⟩:=h
 cases r with
 |cons r rr=>
  cases rr
  cases r
  obtain⟨its,rv,hl,hz⟩:=I.list (SqL.of hp)
  have hits:=sy rv
  subst hits
  have hlt:p<s.heap.objs.size:=by obtain⟨o,ho,_⟩:=hl.isList;exact Heap.lt_size ho
  refine call_all_walk (wpAny_pyIter_list hl.isList ?_)
  refine⟨s.heap.objs.size,_,[s.heap.objs.size],_,_,_,_,rfl,Walks.list (A:=X.A.in1) (I.ok.hd hc) s.heap.objs.size p (Nat.ne_of_lt hlt) (bs.map Value.bool).toArray,⟨⟨_,Heap.get?_push_size _ rfl,rfl,rfl⟩,hl.isList.push _⟩,yK,fun h' tk hk=>?_⟩
  refine⟨.bl (bs.all id),H,I.kept (t':=tk) (fun b o e=>hk b o (fun z=>?_) (Heap.get?_push_of_some _ e)),?_,q⟩
  ·rw[List.mem_singleton.mp z]at e
   exact absurd (Heap.lt_size e) (Nat.lt_irrefl _)
  ·have:=range_all bs
   show Value.bool _=Value.bool _
   rw[<-this]
   simp
theorem qr{P:Addr->Prop}{K:PySem.W.Frag}{H:Hp}:∀ {ds:List RL.D} {bs:List Bool} {xs:List V},RL.eu ds=some bs->ab P K H ds xs->xs=bs.map V.bl
 | [],bs,xs,h,r=>by rw[RL.eu]at h;cases h;rw[ab]at r;exact r
 | d::ds,bs,xs,h,r=>by
  cases d<;>simp only[RL.eu]at h<;>first | (cases h;done) | skip
  rename_i b
  obtain⟨bs',h1,h2⟩:=map_some h
  subst h2
  rw[ab]at r
  obtain⟨x,t,rfl,r1,r2⟩:=r
  rw[aX r1,qr h1 r2]
  rfl
theorem CZ(hc:X.calm=true)(hg:Gl X "all")(hm:X.mg "all" = none)(ha:SE X cl a a')(hn:noStar a=true):SE X cl (.Call (.Name "all" p) [a] [] pos) (.bi .all a'):=by
 refine oN (ze hc) hg hm (by decide +kernel) ha hn (by decide) (by decide) fun σD σ H H1 y d v Q e s1 r1 k=>?_
 cases y<;>simp only[RL.biV]at e<;>first | (cases e;done) | skip
 case lst ds =>
  obtain⟨bs,e1,e2⟩:=map_some e
  subst e2
  obtain⟨q,xs,rfl,_,f2,f3⟩:=aH r1
  rw[qr e1 f3]at f2
  exact⟨q,bs,rfl,f2,k _ _ (cZ s1 qi rfl)⟩
theorem Aq{elts:List Expr}{kx:Nat}{tp:Pos}(hg:Gl X "enumerate")(hm:X.mg "enumerate" = none)(ha:SE X cl a a')(hn:noStar a=true):SI X cl (.Tuple elts kx tp) (.Call (.Name "enumerate" p) [a] [] pos) (.enm a'):=BY qt hg hm ha hn
theorem sE{P:Addr->Prop}{K:PySem.W.Frag}{H:Hp}:∀ {ds:List RL.D} {is:List Int} {xs:List V},RL.eG ds=some is->ab P K H ds xs->xs=is.map V.int
 | [],is,xs,h,r=>by rw[RL.eG]at h;cases h;rw[ab]at r;exact r
 | d::ds,is,xs,h,r=>by
  cases d<;>simp only[RL.eG]at h<;>first | (cases h;done) | skip
  rename_i b
  obtain⟨bs',h1,h2⟩:=map_some h
  subst h2
  rw[ab]at r
  obtain⟨x,t,rfl,r1,r2⟩:=r
  rw[ag r1,sE h1 r2]
  rfl
noncomputable def oE(ns:List Int):List Int:=firstMet (fun i=>ns.getD i 0) ns.length
theorem Bh(ns:List Int):oE ns=RL.iI ns:=by
 unfold oE firstMet RL.iI
 have:(List.range ns.length).map (fun i=>ns.getD i 0)=ns:=by
  apply List.ext_getElem
  ·simp
  ·intro i h1 h2
   simp[List.getD_eq_getElem?_getD,h2]
 rw[this]
 rfl
theorem ve(hc:X.calm=true):bJ X (.type "set") (fun xs H Q=>∃ p ns,xs=[.ref p]/\H p=some (.lst (ns.map V.int))/\ns.length<=1000/\∀ l,H l=none->Q (.ref l) (upd H l (.set (fun k=>(oE ns).any (· == k)) (oE ns).length))):=by
 intro pins s σ H xs us Q I r h
 obtain⟨p,ns,rfl,hp,hn,q⟩:=h
 cases r with
 |cons r rr=>
  cases rr
  cases r
  obtain⟨its,rv,hl,hz⟩:=I.list (SqL.of hp)
  have hlen:its.length=ns.length:=by
   have:=rv.length
   simp at this
   exact this.symm
  have hf:H s.heap.objs.size=none:=I.hok.fresh (Nat.le_refl _)
  refine call_set_list (I.ok.hd hc) hl.isList (ns:=ns) (by simpa using intsAre_of rv) (by rw[List.size_toArray,hlen];show ns.length+1<4096;lia) fun h' tk hS hk=>?_
  have hsz:its.toArray.size=ns.length:=by rw[List.size_toArray];exact hlen
  rw[hsz]at hS
  exact⟨.ref s.heap.objs.size,_,I.laid (o:=.set (fun k=>(oE ns).any (· == k)) (oE ns).length) (t':=tk) (fun b u e=>hk b u (Heap.lt_size e) e) (Nat.le_refl _) hS,rfl,q _ hf⟩
theorem vq:bJ X (.builtin "len") (fun xs H Q=>∃ p S n,xs=[.ref p]/\H p=some (.set S n)/\Q (.int (n:Nat)) H):=by
 intro pins s σ H xs us Q I r h
 obtain⟨p,S,n,rfl,hp,q⟩:=h
 cases r with
 |cons r rr=>
  cases rr
  cases r
  obtain⟨o,es,ep,t,h1,h2,h3,h4,h5,h6,h7,h8⟩:=I.hok p _ hp
  refine call_len_set h1 h2 h3 h7 (by have:scanBound=4096:=rfl;lia) ?_
  rw[h8]
  exact⟨.int n,H,I.tok _,⟨_,rfl⟩,q⟩
theorem wC(hc:X.calm=true)(hgl:Gl X "len")(hml:X.mg "len" = none)(hg:Gl X "set")(hm:X.mg "set" = none)(ha:SE X cl a a')(hn:noStar a=true):SE X cl (.Call (.Name "len" p2) [.Call (.Name "set" p) [a] [] pos] [] pos2) (.bi .lenSet a'):=by
 refine PE.weak (gD vq hgl hml PySem.boot_len (cb (cC (ve hc) hg hm (by decide +kernel) (bE (cl:=cl) ha cA hn) (by decide) (by decide) (aA [] hn) rfl) dG) (by decide) (by decide) rfl rfl) fun σ H Q h=>?_
 obtain⟨σD,d,rv,e,k⟩:=h
 rw[RL.ev]at e
 obtain⟨y,ea,e⟩:=bind_some e
 refine one rv ea fun v H1 s1 r1=>?_
 cases y<;>simp only[RL.biV]at e<;>first | (cases e;done) | skip
 case lst ds =>
  split at e
  ·rename_i hl
   obtain⟨is,e1,e2⟩:=map_some e
   subst e2
   obtain⟨q,xs,rfl,_,f2,f3⟩:=aH r1
   have hx:=sE e1 f3
   rw[hx]at f2
   have hil:is.length<=1000:=by
    have:=f3.length
    rw[hx]at this
    simp at this
    lia
   refine⟨q,is,rfl,f2,hil,fun l hl2=>⟨l,_,_,rfl,bC,?_⟩⟩
   rw[Bh]
   exact k _ _ (cZ (s1.trans (a6.bP hl2)) aS rfl)
  ·cases e
theorem BI{l e:Expr}{e':RL.E}{i:Nat}{A B:List Stmt}{A' B':RL.Ss}(hl:PE X l (xV X.K "list" yC (jw i)))(he:SE X cl e e')(ha:SSs X cl M A A')(hb:SSs X cl M B B')(hi:M.contains i=true):SS X cl M (.If (.Compare l [.NotEq] [e] pos) A B pos2) (.ifp i e' A' B'):=by
 refine PS.weak (zB (k8 FT hl he (r8 _)) ha hb) fun D σ H h=>?_
 obtain⟨σD,o,σD',rv,ev,k⟩:=h
 rw[RL.evS]at ev
 obtain⟨l,e3,ev⟩:=bind_some ev
 cases l with
 |lst ds=>
  obtain⟨d,e4,ev⟩:=bind_some ev
  obtain⟨y,e5,ev⟩:=bind_some ev
  obtain⟨v,h1,h2⟩:=rv.val i _ (slot_get e3)
  rw[if_pos hi]at h2
  obtain⟨q1,q2,q3⟩:=h2
  obtain⟨a,xs,rfl,_,f2,f3⟩:=aH q3
  obtain⟨u,f4,f5⟩:=f3.get e4
  have im:=ox q2
  obtain⟨g1,g2⟩:=rv.i7 (d':=.lst ds.dropLast) (o':=.lst xs.dropLast) hi h1 f2 (.inl ⟨_,rfl⟩) (nZ (ds:=ds) f2 im f3.dropLast)
  cases d with
  |int m=>
   cases y with
   |int n=>
    refine⟨.ref a,h1,.inl ⟨rfl,xs,SqL.of f2⟩,a,xs,u,rfl,rfl,f2,by rw[<-f3.length];exact f4,?_⟩
    refine⟨_,_,g1.rv0,e5,fun w H1 r1=>?_⟩
    rw[ag f5,ag r1.rep]
    have k1:=k.from (g2.trans (Fr'.same (σ:=σ) r1.same))
    refine⟨rfl,_,rfl,?_⟩
    dsimp only at ev
    by_cases hmn:m=n
    ·rw[if_pos (by simpa using hmn)]at ev
     have hd:(!decide (V.int m=V.int n))=false:=by rw[hmn];simp
     rw[hd]
     exact fM ⟨_,o,σD',g1.same r1.same,ev,k1⟩
    ·rw[if_neg (by simpa using hmn)]at ev
     have hd:(!decide (V.int m=V.int n))=true:=by
      have:V.int m≠V.int n:=fun z=>hmn (by injection z)
      simp[this]
     rw[hd]
     exact eZ ⟨_,o,σD',g1.same r1.same,ev,k1⟩
   | _=>cases ev
  | _=>cases ev
 | _=>cases ev
end
end RS
namespace L2
open PySem PySem.Spec PyProof.Rows
section
variable{prog:Program}{w:World}{A:Around}{E:Value->Shared->Prop}
theorem AU{x y:Value}{S1:Addr->Shared->Prop}{S2:Addr->Addr->Shared->Prop}{z:Shared}{Q:Value->Shared->Prop}(hx:∀ A:Around,wpAny (model prog w) A (pyIter x) (fun v z1=>∃ it,v=.ref it/\S1 it z1) (fun _ _=>False) z)
 (hy:∀ it z1,S1 it z1->∀ A:Around,wpAny (model prog w) A (pyIter y) (fun v z2=>∃ jt,v=.ref jt/\S2 it jt z2) (fun _ _=>False) z1)
 (k:∀ it jt z2,S2 it jt z2->Q (.ref (((z2.heap.push { cls:=.type "tuple",data:=.seq #[.ref it,.ref jt] }).push { cls:=.type "tuple",data:=.seq #[.none,.none] })).objs.size)
   { z2 with heap:=((z2.heap.push { cls:=.type "tuple",data:=.seq #[.ref it,.ref jt] }).push { cls:=.type "tuple",data:=.seq #[.none,.none] }).push { cls:=.type "zip",data:=.fields #[.none,.bool false,.bool false,.ref z2.heap.objs.size,.ref (z2.heap.push { cls:=.type "tuple",data:=.seq #[.ref it,.ref jt] }).objs.size] } }) :
  wpAny (model prog w) A (call (.type "zip") [x,y]) Q E z:=by
 have body:MeetsIn prog w (Builtin.«zip.__new__» ⟨[.type "zip",x,y],[]⟩) (fun A R s=>s=z/\∀ it jt z2,S2 it jt z2->R (.ok (.ret (.ref (((z2.heap.push { cls:=.type "tuple",data:=.seq #[.ref it,.ref jt] }).push { cls:=.type "tuple",data:=.seq #[.none,.none] })).objs.size)))
   { z2 with heap:=((z2.heap.push { cls:=.type "tuple",data:=.seq #[.ref it,.ref jt] }).push { cls:=.type "tuple",data:=.seq #[.none,.none] }).push { cls:=.type "zip",data:=.fields #[.none,.bool false,.bool false,.ref z2.heap.objs.size,.ref (z2.heap.push { cls:=.type "tuple",data:=.seq #[.ref it,.ref jt] }).objs.size] } }):=by
  rintro A R s ⟨rfl,hR⟩
  have hsub:=sub_zip
  have iter:=hx A.in1
  obtain⟨hp,g,d,tk,os⟩:=s
  wp_walk using pQ iter
  rintro _ z1 ⟨it,rfl,h1⟩
  have iter2:=hy it z1 h1 A.in1
  obtain⟨hp1,gg1,dd1,tk1,os1⟩:=z1
  wp_walk using pQ iter2
  rintro _ z2 ⟨jt,rfl,h2⟩
  have fin:=hR it jt z2 h2
  obtain⟨hp2,gg2,dd2,tk2,os2⟩:=z2
  wp_walk
  exact fin
 refine callType_newIn F.called_zip (by decide) (F.typeCall_zip_2 _ _) (F.newCall_zip_2 _ _) (fun obj=>F.args_object_init_3 obj _ _) F.entry_zip_new body ⟨rfl,fun it jt z2 h=>?_⟩
 exact⟨⟨_,Heap.get?_push_size _ rfl,rfl⟩,k it jt z2 h⟩
structure iJ(z TI TO i1 i2:Addr)(fp1 fp2:List Addr):Prop where
 zTI:TI≠z
 zTO:TO≠z
 TT:TI≠TO
 i1z:i1≠z
 i2z:i2≠z
 FZ:i1≠TO
 Ge:i2≠TO
 i12:i1≠i2
 z1:z∉fp1
 z2:z∉fp2
 TO1:TO∉fp1
 TO2:TO∉fp2
 i1f:i1∉fp2
 i2f:i2∉fp1
theorem yq{z TI TO i1 i2:Addr}{fp1 fp2:List Addr}{n1 n2 k:Nat}{P1 P2:Nat->Value->Prop}{S1 S2:Nat->Heap->Prop}{a b:Value}{s:Shared}{Q:Value->Shared->Prop}(Z:iJ z TI TO i1 i2 fp1 fp2)
 (D1:Draws prog w A i1 fp1 n1 P1 S1)(D2:Draws prog w A i2 fp2 n2 P2 S2)(hz:IsZip s.heap z TI TO .none)(hTI:IsPair s.heap TI (.ref i1) (.ref i2))(hTO:IsPair s.heap TO a b)(s1:S1 k s.heap)(s2:S2 k s.heap)(k1:k<n1)(k2:k<n2)
 (hQ:∀ x y g tk,P1 k x->P2 k y->IsZip g z TI TO (rawInt s.heap.objs.size)->IsPair g TO x y->S1 (k+1) g->S2 (k+1) g->IsPair g s.heap.objs.size x y->g.objs.size=s.heap.objs.size+1->(∀ c o,c≠z->c≠TO->c≠i1->c≠i2->s.heap.get? c=some o->g.get? c=some o)->Q (.ref s.heap.objs.size) { s with heap:=g,toks:=tk }) :
  wpAny (model prog w) A (Builtin.«zip.__next__» ⟨[.ref z],[]⟩) (fun fin s'=>∃ v,fin=.done (.ret v)/\Q v s') E s:=by
 obtain⟨hp,g,d,tk,os⟩:=s
 have off:∀ (f:Obj->Obj) b o,b≠z->hp.get? b=some o->(hp.update z f).get? b=some o:=fun f b o hb e=>(Heap.SameBut.update ..).extBut b o hb e
 have st1:∀ f:Obj->Obj,S1 k (hp.update z f):=fun f=>D1.frame k _ _ s1 fun b hb o e=>off f b o (fun q=>Z.z1 (q▸hb)) e
 have st2:∀ f:Obj->Obj,S2 k (hp.update z f):=fun f=>D2.frame k _ _ s2 fun b hb o e=>off f b o (fun q=>Z.z2 (q▸hb)) e
 unfold Builtin.«zip.__next__»
 wp_walk using AutoSeq1.wpAny_loadPart' hz,AutoSeq1.wpAny_loadPart' hTI,wpAny_onRaise,(D1.item k _ _ _ k1 (st1 _))
 intro x h1 t1 px st1' sb1
 have q1:IsPair h1 TO a b:=sb1.extBut _ _ (Ne.symm Z.FZ) (off _ TO _ Z.zTO hTO)
 have z1:IsZip h1 z TI TO .ellipsis:=sb1.extBut _ _ (Ne.symm Z.i1z) (Heap.get?_update_self _ hz rfl)
 have u1:=sb1.1
 have c1:∀ c o,c≠z->c≠i1->hp.get? c=some o->h1.get? c=some o:=fun c o n1 n2 e=>sb1.extBut _ _ n2 (off _ c o n1 e)
 clear sb1 st1 st2
 wp_walk using AutoSeq1.wpAny_loadPart' q1,(wpAny_updateSeq_pair q1)
 intro h2 q2 sb2
 replace q2:IsPair h2 TO x b:=q2
 have z2:IsZip h2 z TI TO .ellipsis:=sb2.extBut _ _ (Ne.symm Z.zTO) z1
 have c2:∀ c o,c≠z->c≠TO->c≠i1->hp.get? c=some o->h2.get? c=some o:=fun c o n1 n2 n3 e=>sb2.extBut _ _ n2 (c1 c o n1 n3 e)
 have e1:S1 (k+1) h2:=D1.frame _ _ _ st1' fun b hb o e=>sb2.extBut _ _ (fun q=>Z.TO1 (q▸hb)) e
 have e2:S2 k h2:=D2.frame _ _ _ s2 fun b hb o e=>c2 b o (fun q=>Z.z2 (q▸hb)) (fun q=>Z.TO2 (q▸hb)) (fun q=>Z.i1f (q▸hb)) e
 have u2:=sb2.1.trans u1
 clear sb2 u1 c1 z1 q1
 wp_walk using wpAny_onRaise,(D2.item k _ _ _ k2 e2)
 intro y h3 t3 py f2 sb3
 have q3:IsPair h3 TO x b:=sb3.extBut _ _ (Ne.symm Z.Ge) q2
 have z3:IsZip h3 z TI TO .ellipsis:=sb3.extBut _ _ (Ne.symm Z.i2z) z2
 have f1:S1 (k+1) h3:=D1.frame _ _ _ e1 fun b hb o e=>sb3.extBut _ _ (fun q=>Z.i2f (q▸hb)) e
 have c3:∀ c o,c≠z->c≠TO->c≠i1->c≠i2->hp.get? c=some o->h3.get? c=some o:=fun c o n1 n2 n3 n4 e=>sb3.extBut _ _ n4 (c2 c o n1 n2 n3 e)
 have u3:=sb3.1.trans u2
 clear sb3 u2 c2 z2 q2 e1 e2
 wp_walk using AutoSeq1.wpAny_loadPart' q3,(wpAny_updateSeq_pair q3)
 intro h4 q4 sb4
 replace q4:IsPair h4 TO x y:=q4
 have z4:IsZip h4 z TI TO .ellipsis:=sb4.extBut _ _ (Ne.symm Z.zTO) z3
 have g1:S1 (k+1) h4:=D1.frame _ _ _ f1 fun b hb o e=>sb4.extBut _ _ (fun q=>Z.TO1 (q▸hb)) e
 have g2:S2 (k+1) h4:=D2.frame _ _ _ f2 fun b hb o e=>sb4.extBut _ _ (fun q=>Z.TO2 (q▸hb)) e
 have c4:∀ c o,c≠z->c≠TO->c≠i1->c≠i2->hp.get? c=some o->h4.get? c=some o:=fun c o n1 n2 n3 n4 e=>sb4.extBut _ _ n2 (c3 c o n1 n2 n3 n4 e)
 have u4:=sb4.1.trans u3
 clear sb4 u3 c3 z3 q3 f1 f2
 wp_walk using AutoSeq1.wpAny_loadPart' q4
 have u0:h4.objs.size=hp.objs.size:=u4.trans (Heap.SameBut.update ..).1
 refine⟨_,rfl,?_⟩
 show Q (.ref h4.objs.size) _
 have zp:IsZip (h4.push { cls:=.type "tuple",data:=.seq #[x,y].toList.toArray }) z TI TO .ellipsis:=Heap.get?_push_of_some _ z4
 have zlt:z<h4.objs.size:=Heap.lt_size z4
 have up:∀ (f f':Obj->Obj) c o,c≠z->(h4.push { cls:=.type "tuple",data:=.seq #[x,y].toList.toArray }).get? c=some o->(((h4.push { cls:=.type "tuple",data:=.seq #[x,y].toList.toArray }).update z f).update z f').get? c=some o:=fun f f' c o hc e =>
  (Heap.SameBut.update ..).extBut c o hc ((Heap.SameBut.update ..).extBut c o hc e)
 have goal:=hQ x y (((h4.push { cls:=.type "tuple",data:=.seq #[x,y].toList.toArray }).update z (Obj.mapFields (·.setIfInBounds 0 (rawInt h4.objs.size)))).update z (Obj.mapFields (·.setIfInBounds 1 (.bool false)))) t3 px py ?_ ?_ ?_ ?_ ?_ ?_ ?_
 ·rw[u0]at goal ⊢
  exact goal
 ·rw[<-u0]
  exact Heap.get?_update_self _ (Heap.get?_update_self _ zp rfl) rfl
 ·exact up _ _ _ _ Z.zTO (Heap.get?_push_of_some _ q4)
 ·exact D1.frame _ _ _ g1 fun b hb o e=>up _ _ _ _ (fun q=>Z.z1 (q▸hb)) (Heap.get?_push_of_some _ e)
 ·exact D2.frame _ _ _ g2 fun b hb o e=>up _ _ _ _ (fun q=>Z.z2 (q▸hb)) (Heap.get?_push_of_some _ e)
 ·show IsPair _ hp.objs.size x y
  rw[<-u0]
  exact up _ _ _ _ (Nat.ne_of_gt zlt) (Heap.get?_push_size _ rfl)
 ·refine((Heap.SameBut.update ..).1.trans ((Heap.SameBut.update ..).1.trans ((Heap.size_push ..).trans ?_)))
  show h4.objs.size+1=hp.objs.size+1
  rw[u0]
 ·exact fun c o n1 n2 n3 n4 e=>up _ _ _ _ n1 (Heap.get?_push_of_some _ (c4 c o n1 n2 n3 n4 e))
theorem AB{z TI TO i1 i2:Addr}{fp1 fp2:List Addr}{n1:Nat}{P1:Nat->Value->Prop}{S1:Nat->Heap->Prop}{a b:Value}{s:Shared}{Q:Fin->Shared->Prop}(Z:iJ z TI TO i1 i2 fp1 fp2)
 (D1:Draws prog w A i1 fp1 n1 P1 S1)(hz:IsZip s.heap z TI TO .none)(hTI:IsPair s.heap TI (.ref i1) (.ref i2))(hTO:IsPair s.heap TO a b)(s1:S1 n1 s.heap)
 (hE:∀ g e,(∀ c o,c≠z->c≠i1->s.heap.get? c=some o->g.get? c=some o)->(∃ o,g.get? e=some o/\o.cls=.type "StopIteration")->E (.ref e) { s with heap:=g }) :
  wpAny (model prog w) A (Builtin.«zip.__next__» ⟨[.ref z],[]⟩) Q E s:=by
 obtain⟨hp,g,d,tk,os⟩:=s
 have off:∀ (f:Obj->Obj) b o,b≠z->hp.get? b=some o->(hp.update z f).get? b=some o:=fun f b o hb e=>(Heap.SameBut.update ..).extBut b o hb e
 have st1:∀ f:Obj->Obj,S1 n1 (hp.update z f):=fun f=>D1.frame n1 _ _ s1 fun b hb o e=>off f b o (fun q=>Z.z1 (q▸hb)) e
 unfold Builtin.«zip.__next__»
 wp_walk using AutoSeq1.wpAny_loadPart' hz,AutoSeq1.wpAny_loadPart' hTI,wpAny_onRaise,(D1.done _ _ _ (st1 _))
 rintro h1 e eb ⟨oe,he,hce⟩
 have z1:IsZip h1 z TI TO .ellipsis:=eb _ _ (Ne.symm Z.i1z) (Heap.get?_update_self _ hz rfl)
 have ez:e≠z:=fun q=>by
  rw[q,z1]at he
  have:=Option.some.inj he
  rw[<-this]at hce
  simp at hce
 refine wpAny_setField_rec z1 (by simp) fun h2 _ sb2=>?_
 exact hE h2 e (fun c o n1 n2 q=>sb2.extBut _ _ n1 (eb _ _ n2 (off _ _ _ n1 q))) ⟨oe,sb2.extBut _ _ ez he,hce⟩
end
section
variable{prog:Program}{w:World}{A:Around}{E:Value->Shared->Prop}{z TI TO i1 i2:Addr}{fp1 fp2:List Addr}{n1 n2 k:Nat}{P1 P2:Nat->Value->Prop}{S1 S2:Nat->Heap->Prop}{a b:Value}{s:Shared}
theorem yz{Q:Option Value->Shared->Prop}(Z:iJ z TI TO i1 i2 fp1 fp2)(D1:Draws prog w A.in1 i1 fp1 n1 P1 S1)(D2:Draws prog w A.in1 i2 fp2 n2 P2 S2)(hz:IsZip s.heap z TI TO .none)(hTI:IsPair s.heap TI (.ref i1) (.ref i2))(hTO:IsPair s.heap TO a b)(s1:S1 k s.heap)(s2:S2 k s.heap)(k1:k<n1)(k2:k<n2)
 (hQ:∀ x y g tk,P1 k x->P2 k y->IsZip g z TI TO (rawInt s.heap.objs.size)->IsPair g TO x y->S1 (k+1) g->S2 (k+1) g->IsPair g s.heap.objs.size x y->g.objs.size=s.heap.objs.size+1->(∀ c o,c≠z->c≠TO->c≠i1->c≠i2->s.heap.get? c=some o->g.get? c=some o)->Q (some (.ref s.heap.objs.size)) { s with heap:=g,toks:=tk }) :
  wpAny (model prog w) A (pyNext (.ref z)) Q E s:=by
 have hT:s.TypeIs (.ref z) "zip" := ⟨_,hz,rfl⟩
 unfold pyNext
 apply wpAny_bind
 apply wpAny_attempt
 apply wpAny_callSpecial?_slot (name:=Str.ofString "__next__") hT F.slot_zip_next
 refine wpAny_call_entry F.slot_zip_next hT F.entry_zip_next ?_ (F.args_zip_next_1 _)
 refine yq Z D1 D2 hz hTI hTO s1 s2 k1 k2 fun x y g tk px py q1 q2 q3 q4 q5 q6 q7=>?_
 apply wpAny_pure
 exact hQ x y g tk px py q1 q2 q3 q4 q5 q6 q7
theorem yt{Q:Option Value->Shared->Prop}(Z:iJ z TI TO i1 i2 fp1 fp2)(D1:Draws prog w A.in1 i1 fp1 n1 P1 S1)(hz:IsZip s.heap z TI TO .none)(hTI:IsPair s.heap TI (.ref i1) (.ref i2))(hTO:IsPair s.heap TO a b)(s1:S1 n1 s.heap)
 (hQ:∀ g,(∀ c o,c≠z->c≠i1->s.heap.get? c=some o->g.get? c=some o)->Q none { s with heap:=g }):wpAny (model prog w) A (pyNext (.ref z)) Q E s:=by
 have hT:s.TypeIs (.ref z) "zip" := ⟨_,hz,rfl⟩
 unfold pyNext
 apply wpAny_bind
 apply wpAny_attempt
 apply wpAny_callSpecial?_slot (name:=Str.ofString "__next__") hT F.slot_zip_next
 refine wpAny_call_entry F.slot_zip_next hT F.entry_zip_next ?_ (F.args_zip_next_1 _)
 refine AB Z D1 hz hTI hTO s1 fun g e hk ⟨o,he,hc⟩=>?_
 apply wpAny_bind
 refine wpAny_isInstance (T := "StopIteration") (b:=true) ⟨_,he,hc⟩ isSubtype_stop ?_
 apply wpAny_pure
 exact hQ g hk
end
noncomputable def dF(t:Bool)(xs:List V):HO:=if t then .tup xs else .lst xs
noncomputable def ic(t:Bool)(it l:Addr)(i:Nat)(h:Heap):Prop:=if t then h.IsTupleIter it l i else h.IsListIter it l i
theorem ic.obj{t:Bool}{it l:Addr}{i:Nat}{h:Heap}(st:ic t it l i h):∃ o,h.get? it=some o/\∀ v,o.data≠.cell v:=by
 cases t with
 | true=>exact let ⟨o,ho,_,hd⟩:=(show h.IsTupleIter it l i from st);⟨o,ho,fun v q=>by rw[hd]at q;cases q⟩
 | false=>exact let ⟨o,ho,_,hd⟩:=(show h.IsListIter it l i from st);⟨o,ho,fun v q=>by rw[hd]at q;cases q⟩
theorem ic.keep{t:Bool}{it l:Addr}{i:Nat}{h h':Heap}(st:ic t it l i h)(k:∀ o,h.get? it=some o->h'.get? it=some o):ic t it l i h':=by
 cases t with
 | true=>exact let ⟨o,ho,r⟩:=(show h.IsTupleIter it l i from st);⟨o,k o ho,r⟩
 | false=>exact(show h.IsListIter it l i from st).at fun o q=>k o q
theorem kd{X:Cx}{t:Bool}{it l:Addr}(hc:X.calm=true){pins:List (Addr × Obj)}{s:Shared}{σ:St}{H:Hp}{xs:List V}(I:Inv X pins σ H s)(hi:H it=none)(hx:H l=some (dF t xs)) :
  ∃ (Pv:Nat->Value->Prop) (St:Nat->Heap->Prop),Draws X.prog X.w X.A.in1 it [it,l] xs.length Pv St/\(∀ i,ic t it l i s.heap->St i s.heap)/\(∀ i h,St i h->ic t it l i h)/\∀ i v,Pv i v->∃ x,xs[i]?=some x/\RelV x v:=by
 have hh:X.A.in1.handled=none:=I.ok.hd hc
 have back:∀ {its:List Value},Vals xs its->∀ (i:Nat) (v:Value),its.toArray[i]?=some v->∃ x,xs[i]?=some x/\RelV x v:=fun {its} rv i v hv=>by
  have hv:its[i]?=some v:=by simpa using hv
  have hlt:i<xs.length:=by rw[rv.length];exact(List.getElem?_eq_some_iff.mp hv).1
  obtain⟨u,h1,h2⟩:=rv.get (i:=i) (x:=xs[i]) (by simp[hlt])
  rw[hv]at h1
  cases h1
  exact⟨xs[i],by simp[hlt],h2⟩
 cases t with
 |true=>
  have hx:H l=some (.tup xs):=hx
  obtain⟨its,rv,p,hz⟩:=I.tuple (SqT.of hx)
  have D:=qt.draws (prog:=X.prog) (w:=X.w) (A:=X.A.in1) hh it l (aQ hx hi) its.toArray
  rw[show its.toArray.size=xs.length by rw[List.size_toArray,rv.length]]at D
  exact⟨_,_,D,fun i st=>⟨st,p⟩,fun i h st=>st.1,back rv⟩
 |false=>
  have hx:H l=some (.lst xs):=hx
  obtain⟨its,rv,p,hz⟩:=I.list (SqL.of hx)
  have D:=Draws.list (prog:=X.prog) (w:=X.w) (A:=X.A.in1) hh it l (aQ hx hi) its.toArray
  rw[show its.toArray.size=xs.length by rw[List.size_toArray,rv.length]]at D
  exact⟨_,_,D,fun i st=>⟨st,p.isList⟩,fun i h st=>st.1,back rv⟩
noncomputable def Itz(t1 t2:Bool)(l1 l2:Addr):It :=
 ⟨fun i H=>∃ xs ys x y,H l1=some (dF t1 xs)/\H l2=some (dF t2 ys)/\xs[i]?=some x/\ys[i]?=some y,
   fun i H v H'=>∃ p x y,H p=none/\v=.ref p/\H'=upd H p (.tup [x,y])/\(∀ xs,H l1=some (dF t1 xs)->xs[i]?=some x)/\∀ ys,H l2=some (dF t2 ys)->ys[i]?=some y,
   fun i H=>∃ xs ys,H l1=some (dF t1 xs)/\H l2=some (dF t2 ys)/\xs.length=i/\ys.length=i⟩
theorem qw{t:Bool}{xs ys:List V}(h:dF t xs=dF t ys):xs=ys:=by
 cases t<;>(injection h)
theorem xT{P:Program}{w:World}{K:PySem.W.Frag}{elts:List Expr}{kx:Nat}{tp:Pos}{t1 t2:Bool}{z TI TO i1 i2 l1 l2:Addr}(n1:TI≠z)(n2:TO≠z)(n3:TI≠TO)(n4:i1≠z)(n5:i2≠z)(n6:i1≠TO)(n7:i2≠TO)(n8:i1≠i2)(n9:i1≠TI)(n10:i2≠TI) :
  Turn P w K (.Tuple elts kx tp) (Itz t1 t2 l1 l2) [z,TI,TO,i1,i2] z (fun i h=>IsZip h z TI TO .none/\IsPair h TI (.ref i1) (.ref i2)/\(∃ a b,IsPair h TO a b)/\ic t1 i1 l1 i h/\ic t2 i2 l2 i h) where
 mem:=by simp
 obj:=fun i h st b hb=>by
  obtain⟨h1,h2,⟨a,c,h3⟩,h4,h5⟩:=st
  simp only[List.mem_cons,List.mem_nil_iff,or_false]at hb
  rcases hb with rfl | rfl | rfl | rfl | rfl
  ·exact⟨_,h1,fun v q=>by cases q⟩
  ·exact⟨_,h2,fun v q=>by cases q⟩
  ·exact⟨_,h3,fun v q=>by cases q⟩
  ·exact h4.obj
  ·exact h5.obj
 keep:=fun i h h' st k=>by
  obtain⟨h1,h2,⟨a,c,h3⟩,h4,h5⟩:=st
  exact⟨k z (by simp) _ h1,k TI (by simp) _ h2,⟨a,c,k TO (by simp) _ h3⟩,h4.keep fun o q=>k i1 (by simp) o q,h5.keep fun o q=>k i2 (by simp) o q⟩
 item:=by
  intro X hP hw hK hc i pins s σ H E I hf st hg
  subst hP hw hK
  obtain⟨h1,h2,⟨a,c,h3⟩,h4,h5⟩:=st
  obtain⟨xs,ys,x,y,hx,hy,ex,ey⟩:=hg
  have f:∀ b∈[z,TI,TO,i1,i2],H b=none:=fun b hb=>(hf b hb).1
  obtain⟨Pv1,St1,D1,a1,a2,a3⟩:=kd hc I (f i1 (by simp)) hx
  obtain⟨Pv2,St2,D2,b1,b2,b3⟩:=kd hc I (f i2 (by simp)) hy
  have no1:∀ b∈[z,TI,TO,i1,i2],b≠l1:=fun b hb q=>by have:=f b hb;rw[q,hx]at this;cases this
  have no2:∀ b∈[z,TI,TO,i1,i2],b≠l2:=fun b hb q=>by have:=f b hb;rw[q,hy]at this;cases this
  have Z:iJ z TI TO i1 i2 [i1,l1] [i2,l2]:=by
   refine⟨n1,n2,n3,n4,n5,n6,n7,n8,?_,?_,?_,?_,?_,?_⟩<;>(simp only[List.mem_cons,List.mem_nil_iff,or_false,not_or])
   ·exact⟨Ne.symm n4,no1 z (by simp)⟩
   ·exact⟨Ne.symm n5,no2 z (by simp)⟩
   ·exact⟨Ne.symm n6,no1 TO (by simp)⟩
   ·exact⟨Ne.symm n7,no2 TO (by simp)⟩
   ·exact⟨n8,no2 i1 (by simp)⟩
   ·exact⟨Ne.symm n8,no1 i2 (by simp)⟩
  refine yz Z D1 D2 h1 h2 h3 (a1 i h4) (b1 i h5) (List.getElem?_eq_some_iff.mp ex).1 (List.getElem?_eq_some_iff.mp ey).1 fun u v g tk pu pv g1 g2 g3 g4 g5 g6 g7=>?_
  obtain⟨x',ex',rx⟩:=a3 i u pu
  obtain⟨y',ey',ry⟩:=b3 i v pv
  rw[ex]at ex'
  rw[ey]at ey'
  cases ex'
  cases ey'
  refine⟨.ref s.heap.objs.size,rfl,wpAny_letOwnedTupleGo_zip g1 fun g' gz' sb=>?_⟩
  have hn:H s.heap.objs.size=none:=I.hok.fresh (Nat.le_refl _)
  have I1:Inv X pins σ (upd H s.heap.objs.size (.tup [x,y])) { s with heap:=s.heap.push { cls:=.type "tuple",data:=.seq #[u,v] },toks:=tk } :=
   I.laid (t':=tk) (fun b o q=>Heap.get?_push_of_some _ q) (Nat.le_refl _) ⟨by show 2<=sizeLine;decide,[u,v],.cons rx (.cons ry .nil),⟨_,Heap.get?_push_size _ rfl,rfl,_,rfl⟩⟩
  have lt:∀ b∈[z,TI,TO,i1,i2],b≠s.heap.objs.size:=fun b hb=>by
   have:∃ o,s.heap.get? b=some o:=by
    simp only[List.mem_cons,List.mem_nil_iff,or_false]at hb
    rcases hb with rfl | rfl | rfl | rfl | rfl
    ·exact⟨_,h1⟩
    ·exact⟨_,h2⟩
    ·exact⟨_,h3⟩
    ·exact let ⟨o,q,_⟩:=h4.obj;⟨o,q⟩
    ·exact let ⟨o,q,_⟩:=h5.obj;⟨o,q⟩
   obtain⟨o,q⟩:=this
   exact Nat.ne_of_lt (Heap.lt_size q)
  have stat:∀ b∈[z,TI,TO,i1,i2],upd H s.heap.objs.size (.tup [x,y]) b=none/\(b∈X.ex\/X.s₀.heap.objs.size<=b)/\b≠X.env.locals/\(∀ x c,X.env.cells.lookup x=some c->c≠b)/\∀ p∈X.pn++pins,p.1≠b:=fun b hb=>by
   obtain⟨f0,f1,f2,f3,f4,f5⟩:=hf b hb
   exact⟨by rw[aR (lt b hb)];exact f0,f3,f1,f4,f5⟩
  have I2:Inv X pins σ (upd H s.heap.objs.size (.tup [x,y])) { s with heap:=g',toks:=tk }:=by
   refine Inv.nI (s:={ s with heap:=s.heap.push { cls:=.type "tuple",data:=.seq #[u,v] },toks:=tk }) (h':=g') (t':=tk) (fp:=[z,TI,TO,i1,i2]) I1 (fun b o hb q=>?_) stat
   simp only[List.mem_cons,List.mem_nil_iff,or_false,not_or]at hb
   refine sb.extBut b o hb.1 ?_
   by_cases hbT:b=s.heap.objs.size
   ·subst hbT
    have q':(s.heap.push { cls:=.type "tuple",data:=.seq #[u,v] }).get? s.heap.objs.size=some o:=q
    rw[Heap.get?_push_size _ rfl]at q'
    cases q'
    exact g5
   ·exact g7 b o hb.1 hb.2.2.1 hb.2.2.2.1 hb.2.2.2.2 ((Heap.get?_push_ne _ _ _ hbT).symm.trans q)
  have kp:∀ b∈[TI,TO,i1,i2],∀ o,g.get? b=some o->g'.get? b=some o:=fun b hb o q=>sb.extBut b o (fun e=>by
   subst e
   simp only[List.mem_cons,List.mem_nil_iff,or_false]at hb
   rcases hb with e | e | e | e
   ·exact n1 e.symm
   ·exact n2 e.symm
   ·exact n4 e.symm
   ·exact n5 e.symm) q
  refine⟨.ref s.heap.objs.size,_,I2,rfl,⟨s.heap.objs.size,x,y,hn,rfl,rfl,fun xs' hx'=>?_,fun ys' hy'=>?_⟩,⟨gz',kp TI (by simp) _ (g7 TI _ n1 n3 (Ne.symm n9) (Ne.symm n10) h2),⟨u,v,kp TO (by simp) _ g2⟩,(a2 _ _ g3).keep fun o q=>kp i1 (by simp) o q,(b2 _ _ g4).keep fun o q=>kp i2 (by simp) o q⟩,fun b hb=>(stat b hb).1⟩
  ·rw[hx]at hx'
   rw[<-qw (Option.some.inj hx')]
   exact ex
  ·rw[hy]at hy'
   rw[<-qw (Option.some.inj hy')]
   exact ey
 done:=by
  intro X hP hw hK hc i pins s σ H E I hf st hg
  subst hP hw hK
  obtain⟨h1,h2,⟨a,c,h3⟩,h4,h5⟩:=st
  obtain⟨xs,ys,hx,hy,ex,ey⟩:=hg
  have f:∀ b∈[z,TI,TO,i1,i2],H b=none:=fun b hb=>(hf b hb).1
  obtain⟨Pv1,St1,D1,a1,a2,a3⟩:=kd hc I (f i1 (by simp)) hx
  have no1:∀ b∈[z,TI,TO,i1,i2],b≠l1:=fun b hb q=>by have:=f b hb;rw[q,hx]at this;cases this
  have no2:∀ b∈[z,TI,TO,i1,i2],b≠l2:=fun b hb q=>by have:=f b hb;rw[q,hy]at this;cases this
  have Z:iJ z TI TO i1 i2 [i1,l1] [i2,l2]:=by
   refine⟨n1,n2,n3,n4,n5,n6,n7,n8,?_,?_,?_,?_,?_,?_⟩<;>(simp only[List.mem_cons,List.mem_nil_iff,or_false,not_or])
   ·exact⟨Ne.symm n4,no1 z (by simp)⟩
   ·exact⟨Ne.symm n5,no2 z (by simp)⟩
   ·exact⟨Ne.symm n6,no1 TO (by simp)⟩
   ·exact⟨Ne.symm n7,no2 TO (by simp)⟩
   ·exact⟨n8,no2 i1 (by simp)⟩
   ·exact⟨Ne.symm n8,no1 i2 (by simp)⟩
  subst ex
  refine yt Z D1 h1 h2 h3 (a1 _ h4) fun g hk=>⟨rfl,?_⟩
  refine Inv.nI (h':=g) (t':=s.toks) (fp:=[z,i1]) I (fun b o hb q=>?_) fun b hb=>?_
  ·simp only[List.mem_cons,List.mem_nil_iff,or_false,not_or]at hb
   exact hk b o hb.1 hb.2 q
  ·have hb':b∈[z,TI,TO,i1,i2]:=by
    simp only[List.mem_cons,List.mem_nil_iff,or_false]at hb ⊢
    rcases hb with q | q
    ·exact .inl q
    ·exact .inr (.inr (.inr (.inl q)))
   obtain⟨f0,f1,f2,f3,f4,f5⟩:=hf b hb'
   exact⟨f0,f3,f1,f4,f5⟩
 self:=fun A i s Q E st h=>wpAny_pyIter_zip st.1 h
noncomputable def cQ(t:Bool)(l:Addr):Obj:=if t then { cls:=.type "tuple_iterator",data:=.fields #[.ref l,rawInt 0] } else { cls:=.type "list_iterator",data:=.fields #[.ref l,.int 0 0] }
theorem rB{t:Bool}{l it:Addr}{h:Heap}(e:h.get? it=some (cQ t l)):ic t it l 0 h:=by
 cases t with
 | true=>exact⟨_,e,rfl,rfl⟩
 | false=>exact⟨_,e,rfl,rfl⟩
theorem rf{X:Cx}{pins:List (Addr × Obj)}{s:Shared}{σ:St}{H:Hp}{t:Bool}{l:Addr}{xs:List V}{A:Around}{Q:Value->Shared->Prop}{E:Value->Shared->Prop}(I:Inv X pins σ H s)(hx:H l=some (dF t xs))(q:Q (.ref s.heap.objs.size) { s with heap:=s.heap.push (cQ t l) }):wpAny (model X.prog X.w) A (pyIter (.ref l)) Q E s:=by
 cases t with
 |true=>
  obtain⟨its,rv,p,hz⟩:=I.tuple (SqT.of (show H l=some (.tup xs)from hx))
  exact wpAny_pyIter_tuple p q
 |false=>
  obtain⟨its,rv,p,hz⟩:=I.list (SqL.of (show H l=some (.lst xs)from hx))
  exact wpAny_pyIter_list p.isList q
section
variable{X:Cx}{elts:List Expr}{kx:Nat}{tp p pos:Pos}{a b:Expr}{ta:TA}
noncomputable def GK(ta:TA):TI:=fun σ H R=>ta σ H fun vs H1=>∃ t1 t2 l1 l2 xs ys,vs=[.ref l1,.ref l2]/\H1 l1=some (dF t1 xs)/\H1 l2=some (dF t2 ys)/\R (Itz t1 t2 l1 l2) H1
theorem far(n a b:Nat)(h:a≠b):n+a≠n+b:=fun q=>h (Nat.add_left_cancel q)
theorem v3:bootBuiltins "zip" = some (.type "zip"):=by decide +kernel
theorem BW(hg:Gl X "zip")(hm:X.mg "zip" = none)(ha:PA X [a,b] ta)(hs:starEach [a,b] X.env=[(false,eval a X.env),(false,eval b X.env)])(hs2:starEach [b] X.env=[(false,eval b X.env)]):PI X (.Tuple elts kx tp) (.Call (.Name "zip" p) [a,b] [] pos) (GK ta):=by
 intro pins s0 σ H0 R I0 h
 refine Call_ (gF I0 hg hm v3 (PyProof.Rows.callWith_type1 (thn (ha pos pins s0 σ H0 _ I0 h) fun us s ⟨vs,H,I,r1,q1⟩=>?_) (by rw[hs,hs2]) (by rw[hs2];rfl)))
 obtain⟨t1,t2,l1,l2,xs,ys,rfl,hx,hy,q⟩:=q1
 cases r1 with
 |cons r rr=>
  cases rr with
  |cons r2 rr=>
   cases rr
   cases r
   cases r2
   have I1:Inv X pins σ H { s with heap:=s.heap.push (cQ t1 l1) }:=I.kept (t':=s.toks) fun b o e=>Heap.get?_push_of_some _ e
   refine AU (S1:=fun it z1=>it=s.heap.objs.size/\z1={ s with heap:=s.heap.push (cQ t1 l1) }) (S2:=fun it jt z2=>it=s.heap.objs.size/\jt=(s.heap.push (cQ t1 l1)).objs.size/\z2={ s with heap:=(s.heap.push (cQ t1 l1)).push (cQ t2 l2) })
    (fun A=>rf I hx ⟨_,rfl,rfl,rfl⟩) (fun it z1 h1 A=>?_) fun it jt z2 h2=>?_
   ·obtain⟨rfl,rfl⟩:=h1
    exact rf I1 hy ⟨_,rfl,rfl,rfl,rfl⟩
   ·obtain⟨rfl,rfl,rfl⟩:=h2
    have z1:(s.heap.push (cQ t1 l1)).objs.size=s.heap.objs.size+1:=Heap.size_push ..
    generalize e1:s.heap.push (cQ t1 l1)=g1 at *
    have p1:g1.get? s.heap.objs.size=some (cQ t1 l1):=by
     rw[<-e1]
     exact Heap.get?_push_size _ (by cases t1<;>rfl)
    have k1:∀ b o,s.heap.get? b=some o->g1.get? b=some o:=fun b o e=>by rw[<-e1];exact Heap.get?_push_of_some _ e
    have z2:(g1.push (cQ t2 l2)).objs.size=s.heap.objs.size+2:=by rw[Heap.size_push,z1]
    have p2:(g1.push (cQ t2 l2)).get? (s.heap.objs.size+1)=some (cQ t2 l2):=by
     rw[<-z1]
     exact Heap.get?_push_size _ (by cases t2<;>rfl)
    have k2:∀ b o,g1.get? b=some o->(g1.push (cQ t2 l2)).get? b=some o:=fun b o e=>Heap.get?_push_of_some _ e
    generalize e2:g1.push (cQ t2 l2)=g2 at *
    dsimp only
    rw[z1]
    have z3:(g2.push { cls:=.type "tuple",data:=.seq #[.ref s.heap.objs.size,.ref (s.heap.objs.size+1)] }).objs.size=s.heap.objs.size+3:=by rw[Heap.size_push,z2]
    have p3:(g2.push { cls:=.type "tuple",data:=.seq #[.ref s.heap.objs.size,.ref (s.heap.objs.size+1)] }).get? (s.heap.objs.size+2)=some { cls:=.type "tuple",data:=.seq #[.ref s.heap.objs.size,.ref (s.heap.objs.size+1)] }:=by
     rw[<-z2]
     exact Heap.get?_push_size _ rfl
    have k3:∀ b o,g2.get? b=some o->(g2.push { cls:=.type "tuple",data:=.seq #[.ref s.heap.objs.size,.ref (s.heap.objs.size+1)] }).get? b=some o:=fun b o e=>Heap.get?_push_of_some _ e
    rw[z2]
    generalize e3:g2.push { cls:=.type "tuple",data:=.seq #[.ref s.heap.objs.size,.ref (s.heap.objs.size+1)] }=g3 at *
    rw[z3]
    have z4:(g3.push { cls:=.type "tuple",data:=.seq #[.none,.none] }).objs.size=s.heap.objs.size+4:=by rw[Heap.size_push,z3]
    have p4:(g3.push { cls:=.type "tuple",data:=.seq #[.none,.none] }).get? (s.heap.objs.size+3)=some { cls:=.type "tuple",data:=.seq #[.none,.none] }:=by
     rw[<-z3]
     exact Heap.get?_push_size _ rfl
    have k4:∀ b o,g3.get? b=some o->(g3.push { cls:=.type "tuple",data:=.seq #[.none,.none] }).get? b=some o:=fun b o e=>Heap.get?_push_of_some _ e
    generalize e4:g3.push { cls:=.type "tuple",data:=.seq #[.none,.none] }=g4 at *
    rw[z4]
    have p5:(g4.push { cls:=.type "zip",data:=.fields #[.none,.bool false,.bool false,.ref (s.heap.objs.size+2),.ref (s.heap.objs.size+3)] }).get? (s.heap.objs.size+4)=some { cls:=.type "zip",data:=.fields #[.none,.bool false,.bool false,.ref (s.heap.objs.size+2),.ref (s.heap.objs.size+3)] }:=by
     rw[<-z4]
     exact Heap.get?_push_size _ rfl
    have k5:∀ b o,g4.get? b=some o->(g4.push { cls:=.type "zip",data:=.fields #[.none,.bool false,.bool false,.ref (s.heap.objs.size+2),.ref (s.heap.objs.size+3)] }).get? b=some o:=fun b o e=>Heap.get?_push_of_some _ e
    generalize e5:g4.push { cls:=.type "zip",data:=.fields #[.none,.bool false,.bool false,.ref (s.heap.objs.size+2),.ref (s.heap.objs.size+3)] }=g5 at *
    refine wpAny_pyIter_zip (TI:=s.heap.objs.size+2) (TO:=s.heap.objs.size+3) (f0:=.none) p5 ⟨s.heap.objs.size+4,[s.heap.objs.size+4,s.heap.objs.size+2,s.heap.objs.size+3,s.heap.objs.size,s.heap.objs.size+1],_,Itz t1 t2 l1 l2,H,rfl,I.kept (t':=s.toks) fun b o e=>k5 _ _ (k4 _ _ (k3 _ _ (k2 _ _ (k1 _ _ e)))),xT (far _ 2 4 (by decide)) (far _ 3 4 (by decide)) (far _ 2 3 (by decide)) (far _ 0 4 (by decide)) (far _ 1 4 (by decide)) (far _ 0 3 (by decide)) (far _ 1 3 (by decide)) (far _ 0 1 (by decide)) (far _ 0 2 (by decide)) (far _ 1 2 (by decide)),
     ⟨p5,k5 _ _ (k4 _ _ p3),⟨_,_,k5 _ _ p4⟩,rB (k5 _ _ (k4 _ _ (k3 _ _ (k2 _ _ p1)))),rB (k5 _ _ (k4 _ _ (k3 _ _ p2)))⟩,fun b hb=>?_,q⟩
    have hb':s.heap.objs.size<=b:=by
     simp only[List.mem_cons,List.mem_nil_iff,or_false]at hb
     rcases hb with rfl | rfl | rfl | rfl | rfl<;>first | exact Nat.le_refl _ | exact Nat.le_add_right _ _
    exact I.nO hb' (I.hok.fresh hb')
end
end L2
namespace RS
open PySem PySem.Spec PyProof.Rows L2
theorem j1:∀ (ds es:List RL.D),ds.length=es.length->(RL.hZ ds es).length=ds.length
 | [],[],_=>rfl
 | [],_::_,h=>by cases h
 | _::_,[],h=>by cases h
 | d::ds,e::es,h=>by rw[RL.hZ,List.length_cons,List.length_cons,j1 ds es (by simpa using h)]
theorem rK:∀ (ds es:List RL.D) (i:Nat) (d:RL.D),(RL.hZ ds es)[i]?=some d->∃ x y,ds[i]?=some x/\es[i]?=some y/\d=.tup [x,y]
 | [],es,i,d,h=>by cases es<;>simp[RL.hZ]at h
 | _::_,[],i,d,h=>by simp[RL.hZ]at h
 | x::ds,y::es,0,d,h=>by simp[RL.hZ]at h;exact⟨x,y,rfl,rfl,h.symm⟩
 | x::ds,y::es,i+1,d,h=>by
  rw[RL.hZ,List.getElem?_cons_succ]at h
  obtain⟨x',y',h1,h2,h3⟩:=rK ds es i d h
  exact⟨x',y',by simpa using h1,by simpa using h2,h3⟩
theorem vh{K:PySem.W.Frag}{H:Hp}{ds es:List RL.D}{xs ys:List V}{P:Addr->Prop}{t1 t2:Bool}{l1 l2:Addr}(hl:ds.length=es.length)(h1:H l1=some (dF t1 xs))(h2:H l2=some (dF t2 ys))(n1:¬ P l1)(n2:¬ P l2)(r1:ab nP K H ds xs)(r2:ab nP K H es ys)(hm:∀ b o,P b->H b=some o->cI o) :
  ja K (Itz t1 t2 l1 l2) (RL.hZ ds es) P H where
 go:=fun H' i k hi=>by
  rw[j1 ds es hl]at hi
  obtain⟨x,e,_⟩:=r1.get (i:=i) (d:=ds[i]) (by simp[hi])
  obtain⟨y,e',_⟩:=r2.get (i:=i) (d:=es[i]'(by lia)) (by simp)
  exact⟨xs,ys,x,y,k _ _ n1 h1,k _ _ n2 h2,e,e'⟩
 stop:=fun H' k=>⟨xs,ys,k _ _ n1 h1,k _ _ n2 h2,by rw[j1 ds es hl,r1.length],by rw[j1 ds es hl,hl,r2.length]⟩
 yld:=fun H' i d v H2 k e y=>by
  obtain⟨p,x,w,hp,rfl,rfl,hx,hw⟩:=y
  obtain⟨dx,dw,g1,g2,rfl⟩:=rK ds es i d e
  obtain⟨x',g3,g4⟩:=r1.get g1
  obtain⟨w',g5,g6⟩:=r2.get g2
  rw[hx xs (k _ _ n1 h1)]at g3
  rw[hw ys (k _ _ n2 h2)]at g5
  cases g3
  cases g5
  refine⟨a6.bP hp,fun q=>?_⟩
  have re:Rep nP K H' dx x/\Rep nP K H' dw w:=by
   rcases q with q | q
   ·have q:(dx.imm&&(dw.imm&&true))=true:=q
    rw[Bool.and_true,Bool.and_eq_true]at q
    exact⟨gQ hm k g4 q.1,gQ hm k g6 q.2⟩
   ·exact⟨g4.same q,g6.same q⟩
  rw[Rep]
  exact⟨p,[x,w],rfl,bC,ab.cons (re.1.same (a6.bP hp)) (ab.cons (re.2.same (a6.bP hp)) ab.nil)⟩
theorem pe{P:Addr->Prop}{K:PySem.W.Frag}{H:Hp}{d:RL.D}{ds:List RL.D}{v:V}(h:RL.items d=some ds)(r:Rep P K H d v):∃ t l xs,v=.ref l/\H l=some (dF t xs)/\ab P K H ds xs/\(t=false->d=.lst ds):=by
 obtain⟨p,xs,rfl,hp,rs⟩:=fk h r
 rcases hp with⟨q,rfl⟩ | ⟨q,rfl⟩
 ·exact⟨false,p,xs,rfl,q,rs,fun _=>rfl⟩
 ·exact⟨true,p,xs,rfl,q,rs,fun z=>by cases z⟩
section rules
variable{X:Cx}{cl:RL.Cl}{elts:List Expr}{kx:Nat}{tp p pos:Pos}{a b:Expr}{a' b':RL.E}
theorem E7(hg:Gl X "zip")(hm:X.mg "zip" = none)(ha:SE X cl a a')(hb:SE X cl b b')(hn:noStar a=true)(hn2:noStar b=true):SI X cl (.Tuple elts kx tp) (.Call (.Name "zip" p) [a,b] [] pos) (.zip a' b'):=by
 intro pins s σ H R I h
 obtain⟨σD,ds,rv,e,k⟩:=h
 rw[RL.bA]at e
 obtain⟨x,ea,e⟩:=bind_some e
 obtain⟨y,eb,e⟩:=bind_some e
 obtain⟨xs,e1,e⟩:=bind_some e
 obtain⟨ys,e2,e⟩:=bind_some e
 split at e
 ·rename_i hl
  cases e
  have hpa:PA X [a,b] (mf (tE X.K cl a') (mf (tE X.K cl b') uA)):=cb ha (cb hb dG (aA [] hn2)) (aA _ hn)
  refine BW hg hm hpa (by rw[aA _ hn,aA _ hn2];rfl) (aA [] hn2) pins s σ H R I ?_
  refine⟨σD,x,rv,ea,fun v H1 r1=>⟨σD,y,rv.same r1.same,eb,fun u H2 r2=>?_⟩⟩
  obtain⟨t1,l1,vs,rfl,h1,p1,c1⟩:=pe e1 (r1.rep.same r2.same)
  obtain⟨t2,l2,us,rfl,h2,p2,c2⟩:=pe e2 r2.rep
  refine⟨t1,t2,l1,l2,vs,us,rfl,h1,h2,k _ _ (r1.same.trans r2.same) ⟨vh hl h1 h2 (fun z=>z) (fun z=>z) p1 p2 gJ,fun M P z hP av=>?_⟩⟩
  have hP2:=dX (r1.same.trans r2.same) hP
  unfold RL.uI at z
  rw[Bool.and_eq_true]at z
  have notT:∀ (t:Bool) l zs,H2 l=some (dF t zs)->t=true->¬ P l:=fun t l zs hl ht q=>by
   subst ht
   rcases hP2 l _ q hl with⟨_,q⟩ | ⟨_,q⟩ | ⟨_,q⟩<;>cases q
  refine vh hl h1 h2 ?_ ?_ p1 p2 hP2
  ·cases ht:t1 with
   | true=>exact notT t1 l1 vs h1 ht
   | false=>exact mI r1 z.1 hP av _ _ (c1 ht) rfl
  ·cases ht:t2 with
   | true=>exact notT t2 l2 us h2 ht
   |false=>
    refine mI r2 z.2 (fun b q=>?_) (fun j dj vj hj h3 h4=>(av j dj vj hj h3 h4).same r1.same) _ _ (c2 ht) rfl
    obtain⟨o,ho,hmu⟩:=hP b q
    exact⟨o,r1.same _ _ ho,hmu⟩
 ·cases e
end rules
end RS
namespace L2
open PySem PySem.Spec PyProof.Rows
theorem oM{α:Type}(xs:List α):∀ k:Nat,k<=xs.length->((List.range k).map fun(j:Nat)=>(((xs.length:Int)-1)+(-1)*(j:Int)).toNat).filterMap (xs.toArray[·]?)=xs.reverse.take k:=by
 intro k
 induction k with
 | zero=>intro _;simp
 |succ k ih=>
  intro hk
  rw[List.range_succ,List.map_append,List.filterMap_append,ih (by lia),List.take_succ]
  congr 1
  have e1:(((xs.length:Int)-1)+(-1)*(k:Int)).toNat=xs.length-1-k:=by lia
  simp only[List.map_cons,List.map_nil,List.filterMap_cons,List.filterMap_nil,e1]
  rw[List.getElem?_reverse (by lia)]
  simp only[List.getElem?_toArray]
  rw[List.getElem?_eq_getElem (by omega)]
  rfl
theorem za(its:List Value):slicePick its.toArray none none (some (-1))=its.reverse.toArray:=by
 have h:=oM its its.length (Nat.le_refl _)
 rw[List.take_of_length_le (by simp)]at h
 unfold slicePick
 have hb:sliceBounds none none (some (-1)) its.toArray.size=((its.length:Int)-1,-1,-1):=by
  simp[sliceBounds]
 rw[hb]
 dsimp only
 unfold sliceRange
 have hc:(if(-1:Int) > 0 then(if(its.length:Int)-1 < -1 then(-1-((its.length:Int)-1)+-1-1) / -1 else 0)else(if(its.length:Int)-1 > -1 then((its.length:Int)-1 - -1 - -1-1) / (- -1)else 0)).toNat=its.length:=by
  rw[if_neg (by decide)]
  rw[show(- -1:Int)=1 from rfl]
  split
  ·rw[Int.ediv_one];lia
  ·lia
 dsimp only
 rw[hc,h]
section
variable{X:Cx}{e:Expr}{te:TE}{pos p2 p3 p4:Pos}{j:Nat}
theorem vV(n:Nat):Builtin.Slice.sliceAdjust none none (-1) (n:Int)=((n:Int)-1,-1):=by
 unfold Builtin.Slice.sliceAdjust
 rfl
theorem uz(n:Nat):Builtin.Slice.slicePlaces ((n:Int)-1) (-1) (-1)=n:=by
 unfold Builtin.Slice.slicePlaces
 rw[if_neg (by decide)]
 rw[show(- -1:Int)=1 from rfl]
 split
 ·rw[Int.ediv_one];lia
 ·lia
theorem lj{prog:Program}{w:World}{A:Around}{E:Value->Shared->Prop}{s:Shared}{t sl:Addr}{its:List Value}{k:Tok}{Q:Value->Shared->Prop}(ht:IsTup s.heap t its.toArray)(hs:s.heap.IsSliceOf sl .none .none (.int (-1) k))
 (h:Q (.ref s.heap.objs.size) { s with heap:=s.heap.push { cls:=.type "tuple",data:=.seq its.reverse.toArray } })
 (hsz:its.length<=sizeLine):wpAny (model prog w) A (getItem (.ref t) (.ref sl)) Q E s:=by
 have htake:sizeOk (.seq its.reverse.toArray):=by
  show its.reverse.toArray.size<=sizeLine
  rw[List.size_toArray,List.length_reverse]
  exact hsz
 obtain⟨os,hos,hcs,hds⟩:=id hs
 have hTs:s.TypeIs (.ref sl) "slice" := ⟨os,hos,hcs⟩
 unfold getItem
 try with_reducible refine wpAny_holding ?_
 first | refine wpAny_bind (wpAny_pure ?_) | skip
 refine wpAny_bind (wpAny_sequenceKey ht.typeIs (by decide) ?_)
 refine wpAny_bind (wpAny_callSpecial?_slot (name:=Str.ofString "__getitem__") ht.typeIs PyProof.Rows.slot_tuple_getitem
  (wpAny_call_entry PyProof.Rows.slot_tuple_getitem ht.typeIs entry_tuple_getitem ?_ (args_tuple_getitem _ _)))
 show wpAny _ _ (Builtin.Tuple.tupleItemsOf (.ref t) >>= _) _ _ s
 refine wpAny_bind (tupleItemsOf_ ht ?_)
 refine wpAny_bind (wpAny_typeOf hTs ?_)
 rw[if_pos (by decide)]
 refine wpAny_bind ?_
 unfold Builtin.Slice.sliceApplied Builtin.Slice.sliceFields
 refine wpAny_bind (wpAny_bind (wpAny_field hos hds (x:=.none) rfl (wpAny_bind (wpAny_field hos hds (x:=.none) rfl (wpAny_bind (wpAny_field hos hds (x:=.int (-1) k) rfl (wpAny_pure ?_)))))))
 refine wpAny_bind (HT.eL (.int (-1) k) ?_)
 show wpAny _ _ (if((-1:Int) == 0)=true then _ else _) _ _ s
 rw[if_neg (by decide)]
 refine wpAny_bind (HT.eL .none (wpAny_bind (HT.eL .none (wpAny_bind (wpAny_pure ?_)))))
 show wpAny _ _ (match Builtin.Slice.sliceAdjust none none (-1) (its.toArray.size:Int)with | (lo,hi)=>pure (lo,(-1:Int),Builtin.Slice.slicePlaces lo hi (-1))) _ _ s
 rw[List.size_toArray,vV]
 show wpAny _ _ (pure ((its.length:Int)-1,(-1:Int),Builtin.Slice.slicePlaces ((its.length:Int)-1) (-1) (-1))) _ _ s
 rw[uz]
 refine wpAny_pure ?_
 show wpAny _ _ (if(((its.length:Int)-1 == 0)&&(-1:Int) == 1&&its.length == its.toArray.size)=true then _ else _) _ _ s
 rw[if_neg (by rw[show((-1:Int) == 1)=false from rfl,Bool.and_false,Bool.false_and];exact Bool.false_ne_true)]
 have pk:((List.range its.length).filterMap fun(m:Nat)=>its.toArray[((its.length:Int)-1+(m:Int)*-1).toNat]?).toArray=its.reverse.toArray:=by
  have h:=oM its its.length (Nat.le_refl _)
  rw[List.take_of_length_le (by simp),List.filterMap_map]at h
  rw[<-h]
  congr 2
  funext m
  simp only[Function.comp]
  congr 2
  lia
 rw[pk]
 first
  | exact wpAny_bind (m:=Builtin.Tuple.tupleExact _) (wpAny_newObj_type (wpAny_pure ⟨_,rfl,wpAny_pure h⟩) htake)
  | exact wpAny_bind (m:=Builtin.Tuple.tupleExact _) (wpAny_newObj_type (wpAny_bind (wpAny_pure (wpAny_pure ⟨_,rfl,wpAny_pure h⟩))) htake)
  | exact wpAny_bind (wpAny_bind (m:=Builtin.Tuple.tupleExact _) (wpAny_newObj_type (wpAny_pure (wpAny_pure ⟨_,rfl,wpAny_pure h⟩)) htake))
  | exact wpAny_bind (wpAny_bind (m:=Builtin.Tuple.tupleExact _) (wpAny_newObj_type (wpAny_pure ⟨_,rfl,wpAny_pure h⟩) htake))
noncomputable def FX(K:PySem.W.Frag)(te:TE):TE:=fun σ H Q=>te σ H fun x H1=>∃ a xs,x=.ref a/\((SqL K H1 a xs/\∀ p,H1 p=none->Q (.ref p) (upd H1 p (.lst xs.reverse)))\/(SqT K H1 a xs/\∀ p,H1 p=none->Q (.ref p) (upd H1 p (.tup xs.reverse))))
theorem BP{e3:Expr}(h3:PE X e3 (tC (.int (-1))))(he:PE X e te):PE X (.Subscript e (.Slice none none (some e3) p2) pos) (FX X.K te):=by
 intro pins s σ H Q I h
 refine Subscript_ (thn (he pins s σ H _ I h) fun v s1 ⟨x,H1,I1,r1,q1⟩=>?_)
 refine wpAny_Slice ?_
 rw[evalPart_none]
 refine wpAny_pure (wpAny_pure ?_)
 rw[evalPart_some]
 refine thn (h3 pins s1 σ H1 (fun y H2=>y=.int (-1)/\H2=H1) I1 ⟨rfl,rfl⟩) fun vs s3 ⟨y,H3,I3,r3,q3⟩=>?_
 obtain⟨rfl,rfl⟩:=q3
 obtain⟨t,rfl⟩:=r3
 obtain⟨a,xs,rfl,q⟩:=q1
 cases r1
 have I4:Inv X pins σ H3 { s3 with heap:=s3.heap.push { cls:=.type "slice",data:=.fields #[.none,.none,.int (-1) t] } }:=I3.kept (t':=s3.toks) fun b ob q=>Heap.get?_push_of_some _ q
 show wpAny (model X.prog X.w) X.A (subscriptTail e (.Slice none none (some e3) p2) (.ref a) (.ref s3.heap.objs.size)) (EP X pins σ Q) X.xe { s3 with heap:=s3.heap.push { cls:=.type "slice",data:=.fields #[.none,.none,.int (-1) t] } }
 rcases q with⟨hx,q⟩ | ⟨hx,q⟩
 ·obtain⟨its,r,ht,hz⟩:=I4.list hx
  have hlen:=r.length
  refine tail_any (ops:=[.ref a,.ref s3.heap.objs.size]) ht.isList.typeIs slot_list_getitem.lookup ?_ (by with_unfolding_all rfl)
  refine wpAny_getItem_list_slice ht.isList (Heap.IsSliceOf.new ..) .none .none (.int (-1) t) (by simp) ?_ (by rw[List.size_toArray]<;>lia)
  rw[za]
  refine⟨.ref _,_,I4.laid (t':=s3.toks) (o:=.lst xs.reverse) (fun b ob q=>Heap.get?_push_of_some _ q) (Nat.le_refl _) ?_,rfl,q _ (I4.hok.fresh (Nat.le_refl _))⟩
  exact⟨by rw[List.length_reverse];exact hz,_,0,r.reverse,Heap.get?_push_size _ rfl⟩
 ·obtain⟨its,r,ht,hz⟩:=I4.tuple hx
  have hlen:=r.length
  refine tail_any (ops:=[.ref a,.ref s3.heap.objs.size]) ht.typeIs PyProof.Rows.slot_tuple_getitem.lookup ?_ (by with_unfolding_all rfl)
  refine lj ht (Heap.IsSliceOf.new ..) ?_ (by lia)
  refine⟨.ref _,_,I4.laid (t':=s3.toks) (o:=.tup xs.reverse) (fun b ob q=>Heap.get?_push_of_some _ q) (Nat.le_refl _) ?_,rfl,q _ (I4.hok.fresh (Nat.le_refl _))⟩
  exact⟨by rw[List.length_reverse];exact hz,_,r.reverse,IsTup.new _ _⟩
end
end L2
namespace RS
open PySem PySem.Spec PyProof.Rows L2
section
variable{X:Cx}{cl:RL.Cl}{a b:Expr}{a' b' c':RL.E}{pos p p2:Pos}{M:List Nat}
theorem ES{e3:Expr}(ha:SE X cl a a')(h3:fV (-1) e3=true):SE X cl (.Subscript a (.Slice none none (some e3) p2) pos) (.rev a'):=by
 refine PE.weak (BP (i6 h3).1 ha) fun σ H Q h=>?_
 obtain⟨σD,d,rv,e,k⟩:=h
 rw[RL.ev]at e
 obtain⟨x,ea,e⟩:=bind_some e
 refine⟨σD,x,rv,ea,fun v H1 r1=>?_⟩
 cases x with
 |lst xs=>
  cases e
  obtain⟨q,ys,rfl,_,f2,f3⟩:=aH r1.rep
  exact⟨q,ys,rfl,.inl ⟨SqL.of f2,fun l hl=>k _ _ (dZ r1.same hl f3.rev fun _=>rfl)⟩⟩
 |tup xs=>
  cases e
  obtain⟨q,ys,rfl,f2,f3⟩:=bw r1.rep
  exact⟨q,ys,rfl,.inr ⟨SqT.of f2,fun l hl=>k _ _ (fh r1.same hl f3.rev fun _=>rfl)⟩⟩
 | _=>cases e
theorem yw{c:Expr}{body:List Stmt}{b:RL.Ss}(hx:X.xe=fun _ _=>False)(hc:ST X cl c c')(hb:SSs X cl M body b):SS X cl M (.While c body [] pos) (.whil c' b):=by
 refine PS.weak (xX (by rw[hx];exact PassesOwn.never) hc hb) fun D σ H h=>?_
 obtain⟨σD,r,σD',rv,e,k⟩:=h
 rw[RL.evS]at e
 refine⟨fun m σ2 H2=>∃ σD2,RVm X.K M σD2 σ2 H2/\Fr' M σ H σ2 H2/\RL.whF (fun σ=>(RL.ev cl σ c').bind RL.truth) (RL.ah cl M b) m σD2=some (r,σD'),⟨_,σD,rv,Fr'.same (a6.refl _),e⟩,?_⟩
 rintro m σ2 H2 ⟨σD2,rv2,fr2,hl⟩
 cases m with
 | zero=>rw[RL.whF]at hl;cases hl
 |succ m=>
  rw[RL.whF]at hl
  obtain⟨t,e1,hl⟩:=bind_some hl
  refine⟨σD2,t,rv2.rv0,e1,fun H3 s3=>?_⟩
  have fr3:=fr2.trans (Fr'.same (M:=M) (σ:=σ2) s3)
  cases t with
  |true=>
   rw[if_pos rfl]at hl
   dsimp only
   rw[if_pos rfl]
   obtain⟨⟨o,σD3⟩,e2,hl⟩:=bind_some hl
   refine⟨fun σ' H'=>∃ m',m'<m+1/\∃ σDx,RVm X.K M σDx σ' H'/\Fr' M σ H σ' H'/\RL.whF (fun σ=>(RL.ev cl σ c').bind RL.truth) (RL.ah cl M b) m' σDx=some (r,σD'),fun _ _ h=>h,σD2,o,σD3,rv2.same s3,e2,?_⟩
   cases o with
   | nx=>exact fun σ' H' rv' fr'=>⟨m,by lia,σD3,rv',fr3.trans fr',hl⟩
   |rt d=>
    cases hl
    exact fun σ' H' v H4 rv' fr' sm rp=>k σ' H' v H4 rv' (fr3.trans fr') sm rp
  |false=>
   rw[if_neg (by decide)]at hl
   dsimp only
   rw[if_neg (by decide)]
   cases hl
   exact k σ2 H3 (rv2.same s3) fr3
end
end RS
namespace L2
open PySem PySem.Spec PyProof.Rows
section
variable{X:Cx}
end
section
variable{X:Cx}{pos:Pos}{a b c g:Expr}{ta tb tc tg:TE}
end
end L2
namespace RS
open PySem PySem.Spec PyProof.Rows L2
section
variable{X:Cx}{cl:RL.Cl}{a b c g:Expr}{a' b' c' g':RL.E}{pos p p2:Pos}{M:List Nat}
end
section
variable{X:Cx}{cl:RL.Cl}{M:List Nat}{st:Stmt}{i:Nat}{k' l' a' b':RL.E}
end
theorem nos{α:Type}{P:Prop}{x:α}(h:(none:Option α)=some x):P:=by cases h
theorem ay{α:Type}{o:Option α}{f:α->Bool}(h:o.any f=true):∃ x,o=some x/\f x=true:=by
 cases o with
 | none=>cases h
 | some x=>exact⟨x,rfl,h⟩
theorem ae{a b:Bool}(h:(a&&b)=true):a=true/\b=true:=by rw[Bool.and_eq_true]at h;exact h
noncomputable def gX:Expr->Option Str
 | .Name x _=>some x
 | _=>none
theorem dU{e:Expr}{x:Str}(h:gX e=some x):∃ p,e=.Name x p:=by
 cases e
 case Name=>cases h;exact⟨_,rfl⟩
 all_goals exact nos h
noncomputable def yV:Expr->Option Const
 | .Constant k _ _=>some k
 | _=>none
theorem sO{e:Expr}{k:Const}(h:yV e=some k):∃ j p,e=.Constant k j p:=by
 cases e
 case Constant=>cases h;exact⟨_,_,rfl⟩
 all_goals exact nos h
noncomputable def EG:Expr->Option (Expr × Operator × Expr)
 | .BinOp l o r _=>some (l,o,r)
 | _=>none
theorem Bo{e:Expr}{l r:Expr}{o:Operator}(h:EG e=some (l,o,r)):∃ p,e=.BinOp l o r p:=by
 cases e
 case BinOp=>cases h;exact⟨_,rfl⟩
 all_goals exact nos h
noncomputable def vUn:Expr->Option (UnaryOp × Expr)
 | .UnaryOp o x _=>some (o,x)
 | _=>none
theorem rN{e x:Expr}{o:UnaryOp}(h:vUn e=some (o,x)):∃ p,e=.UnaryOp o x p:=by
 cases e
 case UnaryOp=>cases h;exact⟨_,rfl⟩
 all_goals exact nos h
noncomputable def lV:Expr->Option (Expr × List CmpOp × List Expr)
 | .Compare l o r _=>some (l,o,r)
 | _=>none
theorem gn{e l:Expr}{r:List Expr}{o:List CmpOp}(h:lV e=some (l,o,r)):∃ p,e=.Compare l o r p:=by
 cases e
 case Compare=>cases h;exact⟨_,rfl⟩
 all_goals exact nos h
noncomputable def vBool:Expr->Option (BoolOp × List Expr × Pos)
 | .BoolOp o es p=>some (o,es,p)
 | _=>none
theorem j4{e:Expr}{es:List Expr}{o:BoolOp}{p:Pos}(h:vBool e=some (o,es,p)):e=.BoolOp o es p:=by
 cases e
 case BoolOp=>cases h;exact rfl
 all_goals exact nos h
noncomputable def C3:Expr->Option (Expr × Expr × Expr)
 | .IfExp c a b _=>some (c,a,b)
 | _=>none
theorem AJ{e a b c:Expr}(h:C3 e=some (c,a,b)):∃ p,e=.IfExp c a b p:=by
 cases e
 case IfExp=>cases h;exact⟨_,rfl⟩
 all_goals exact nos h
noncomputable def kf:Expr->Option (List Expr)
 | .Tuple es _ _=>some es
 | _=>none
theorem eV{e:Expr}{es:List Expr}(h:kf e=some es):∃ k p,e=.Tuple es k p:=by
 cases e
 case Tuple=>cases h;exact⟨_,_,rfl⟩
 all_goals exact nos h
noncomputable def Ef:Expr->Option (List Expr)
 | .List es _=>some es
 | _=>none
theorem Aw{e:Expr}{es:List Expr}(h:Ef e=some es):∃ p,e=.List es p:=by
 cases e
 case List=>cases h;exact⟨_,rfl⟩
 all_goals exact nos h
noncomputable def oA:Expr->Option (Expr × Expr)
 | .Subscript a b _=>some (a,b)
 | _=>none
theorem iK{e a b:Expr}(h:oA e=some (a,b)):∃ p,e=.Subscript a b p:=by
 cases e
 case Subscript=>cases h;exact⟨_,rfl⟩
 all_goals exact nos h
noncomputable def vSl:Expr->Option (Option Expr × Option Expr × Option Expr)
 | .Slice a b c _=>some (a,b,c)
 | _=>none
theorem vC{e:Expr}{a b c:Option Expr}(h:vSl e=some (a,b,c)):∃ p,e=.Slice a b c p:=by
 cases e
 case Slice=>cases h;exact⟨_,rfl⟩
 all_goals exact nos h
noncomputable def mr:Expr->Option (Expr × List Expr × List Keyword × Pos)
 | .Call f as ks p=>some (f,as,ks,p)
 | _=>none
theorem jd{e f:Expr}{as:List Expr}{ks:List Keyword}{p:Pos}(h:mr e=some (f,as,ks,p)):e=.Call f as ks p:=by
 cases e
 case Call=>cases h;exact rfl
 all_goals exact nos h
noncomputable def zH:Expr->Option (Expr × Str × Pos)
 | .Attribute o x p=>some (o,x,p)
 | _=>none
theorem xA{e o:Expr}{x:Str}{p:Pos}(h:zH e=some (o,x,p)):e=.Attribute o x p:=by
 cases e
 case Attribute=>cases h;exact rfl
 all_goals exact nos h
noncomputable def uE:Expr->Option (Expr × List Comprehension × Scope × Pos)
 | .ListComp e gs sc p=>some (e,gs,sc,p)
 | _=>none
theorem rJ{e x:Expr}{gs:List Comprehension}{sc:Scope}{p:Pos}(h:uE e=some (x,gs,sc,p)):e=.ListComp x gs sc p:=by
 cases e
 case ListComp=>cases h;exact rfl
 all_goals exact nos h
noncomputable def ue:Expr->Option (List (Option Expr) × List Expr)
 | .Dict ks vs _=>some (ks,vs)
 | _=>none
theorem rQ{e:Expr}{ks:List (Option Expr)}{vs:List Expr}(h:ue e=some (ks,vs)):∃ p,e=.Dict ks vs p:=by
 cases e
 case Dict=>cases h;exact⟨_,rfl⟩
 all_goals exact nos h
noncomputable def of1{α:Type}(xs:List α)(f:α->Bool):Bool:=match xs with
 | [a]=>f a
 | _=>false
noncomputable def of2{α:Type}(xs:List α)(f:α->α->Bool):Bool:=match xs with
 | [a,b]=>f a b
 | _=>false
noncomputable def of3{α:Type}(xs:List α)(f:α->α->α->Bool):Bool:=match xs with
 | [a,b,c]=>f a b c
 | _=>false
theorem aO{α:Type}:∀ {xs:List α} {f:α->Bool},of1 xs f=true->∃ a,xs=[a]/\f a=true
 | [a],_,h=>⟨a,rfl,h⟩
theorem dO{α:Type}:∀ {xs:List α} {f:α->α->Bool},of2 xs f=true->∃ a b,xs=[a,b]/\f a b=true
 | [a,b],_,h=>⟨a,b,rfl,h⟩
theorem uU{α:Type}:∀ {xs:List α} {f:α->α->α->Bool},of3 xs f=true->∃ a b c,xs=[a,b,c]/\f a b c=true
 | [a,b,c],_,h=>⟨a,b,c,rfl,h⟩
noncomputable def ofM{α:Type}(xs:List α)(f:α->α->List α->Bool):Bool:=match xs with
 | a::b::r=>f a b r
 | _=>false
theorem mL{α:Type}:∀ {xs:List α} {f:α->α->List α->Bool},ofM xs f=true->∃ a b r,xs=a::b::r/\f a b r=true
 | a::b::r,_,h=>⟨a,b,r,rfl,h⟩
noncomputable def lO:Stmt->Option (List Expr × Expr)
 | .Assign ts e _=>some (ts,e)
 | _=>none
theorem gp{st:Stmt}{ts:List Expr}{e:Expr}(h:lO st=some (ts,e)):∃ p,st=.Assign ts e p:=by
 cases st
 case Assign=>cases h;exact⟨_,rfl⟩
 all_goals exact nos h
noncomputable def Dw:Stmt->Option (Expr × Operator × Expr)
 | .AugAssign t o e _=>some (t,o,e)
 | _=>none
theorem Bx{st:Stmt}{t e:Expr}{o:Operator}(h:Dw st=some (t,o,e)):∃ p,st=.AugAssign t o e p:=by
 cases st
 case AugAssign=>cases h;exact⟨_,rfl⟩
 all_goals exact nos h
noncomputable def uQ:Stmt->Option Expr
 | .Expr e _=>some e
 | _=>none
theorem nE{st:Stmt}{e:Expr}(h:uQ st=some e):∃ p,st=.Expr e p:=by
 cases st
 case Expr=>cases h;exact⟨_,rfl⟩
 all_goals exact nos h
noncomputable def wIf:Stmt->Option (Expr × List Stmt × List Stmt)
 | .If c a b _=>some (c,a,b)
 | _=>none
theorem v8{st:Stmt}{c:Expr}{a b:List Stmt}(h:wIf st=some (c,a,b)):∃ p,st=.If c a b p:=by
 cases st
 case If=>cases h;exact⟨_,rfl⟩
 all_goals exact nos h
noncomputable def BB:Stmt->Option (Expr × Expr × List Stmt × List Stmt)
 | .For t i b o _=>some (t,i,b,o)
 | _=>none
theorem Br{st:Stmt}{t i:Expr}{b o:List Stmt}(h:BB st=some (t,i,b,o)):∃ p,st=.For t i b o p:=by
 cases st
 case For=>cases h;exact⟨_,rfl⟩
 all_goals exact nos h
noncomputable def DR:Stmt->Option (Expr × List Stmt × List Stmt)
 | .While c b o _=>some (c,b,o)
 | _=>none
theorem A1{st:Stmt}{c:Expr}{b o:List Stmt}(h:DR st=some (c,b,o)):∃ p,st=.While c b o p:=by
 cases st
 case While=>cases h;exact⟨_,rfl⟩
 all_goals exact nos h
noncomputable def C0:Stmt->Option (Option Expr)
 | .Return e _=>some e
 | _=>none
theorem Aa{st:Stmt}{e:Option Expr}(h:C0 st=some e):∃ p,st=.Return e p:=by
 cases st
 case Return=>cases h;exact⟨_,rfl⟩
 all_goals exact nos h
structure CC where
 N:List Str
 sc:Scope
 B:List Str
 G:List (Str × Int)
 F:List (Str × List Nat)
noncomputable def Eh(scope sc:Scope):Scope:={ scope with names:=scope.names.map fun(n,k)=>if(k == NameKind.free&&sc.kind == .function&&sc.names.lookup n == some .cell)then(n,NameKind.cell)else(n,k) }
noncomputable def CC.inner(C:CC)(scope:Scope):CC:={ C with sc:=Eh scope C.sc }
noncomputable def i5(x:Str):Bool:=!(x == ("__debug__" : Str)) && !(x == ("__classdict__" : Str))
noncomputable def xG(C:CC)(x:Str):Bool:=C.sc.names.lookup x == some .local || C.sc.names.lookup x == some .cell
noncomputable def x6(C:CC)(x:Str):Bool:=C.sc.names.lookup x == some .local || C.sc.names.lookup x == some .cell || C.sc.names.lookup x == some .free
noncomputable def glB(C:CC)(x:Str):Bool:=C.sc.names.lookup x == some .globalImplicit&&i5 x
noncomputable def uK(C:CC)(x:Str):Bool:=glB C x&&C.B.contains x
noncomputable def nmB(C:CC)(i:Nat)(x:Str):Bool:=C.N[i]? == some x&&i5 x
structure XOk(C:CC)(X:Cx)(cl:RL.Cl):Prop where
 scope:X.env.scope=C.sc
 names:X.N=C.N
 nd:C.N.Nodup
 calm:X.calm=true
 xe:X.xe=fun _ _=>False
 hu:X.A.units+100<cLine
 blt:∀ x∈C.B,X.mg x=none
 glb:∀ x i,C.G.lookup x=some i->∃ u,X.mg x=some u/\RelV (.int i) u
 fns:∀ (f:Nat) (x:Str) (mp:List Nat),C.F[f]?=some (x,mp)->∃ k fa fd ps,ij X.prog X.w X.K X.mg X.base CX0 k fa fd ps (if mp=[]then spF X.K cl f else spM X.K cl mp f)/\dS k X.A/\X.mg x=some (.ref fa)/\PySem.W.keepIn X.K (.ref fa)=true/\Binds X.K fd ps []
section
variable{C:CC}{X:Cx}{cl:RL.Cl}{e:Expr}
theorem XOk.vis(h:XOk C X cl){x:Str}(v:x6 C x=true):Vis X.env.scope x:=by
 unfold x6 at v
 rw[<-h.scope,Bool.or_eq_true,Bool.or_eq_true,beq_iff_eq,beq_iff_eq,beq_iff_eq]at v
 rcases v with(v | v) | v
 ·exact .inl v
 ·exact .inr (.inl v)
 ·exact .inr (.inr v)
theorem XOk.loc(h:XOk C X cl){x:Str}(v:xG C x=true):Loc X.env.scope x:=by
 unfold xG at v
 rw[<-h.scope,Bool.or_eq_true,beq_iff_eq,beq_iff_eq]at v
 exact v
theorem eN{x:Str}(h:i5 x=true):(x == ("__debug__" : Str))=false/\(x == ("__classdict__" : Str))=false:=by
 unfold i5 at h
 rw[Bool.and_eq_true,Bool.not_eq_true',Bool.not_eq_true']at h
 exact h
theorem XOk.gl(h:XOk C X cl){x:Str}(v:glB C x=true):Gl X x/\i5 x=true:=by
 unfold glB at v
 rw[<-h.scope,Bool.and_eq_true,beq_iff_eq]at v
 exact v
theorem XOk.bl(h:XOk C X cl){x:Str}(v:uK C x=true):Gl X x/\X.mg x=none:=by
 unfold uK at v
 rw[Bool.and_eq_true]at v
 exact⟨(h.gl v.1).1,h.blt x (by simpa using v.2)⟩
theorem XOk.nm(h:XOk C X cl){i:Nat}{x:Str}(v:nmB C i x=true):X.N[i]?=some x/\i5 x=true:=by
 unfold nmB at v
 rw[<-h.names,Bool.and_eq_true,beq_iff_eq]at v
 exact v
theorem XOk.ndX(h:XOk C X cl):X.N.Nodup:=by rw[h.names];exact h.nd
theorem XOk.blk(h:XOk C X cl){scope:Scope}(cls:List (Str × Addr))(Ca:Addr)(fp:List Addr)(s:Shared)(H:Hp):XOk (C.inner scope) (L2.blk X scope cls Ca fp s H) cl where
 scope:=by
  show relabel scope X.env=Eh scope C.sc
  rw[<-h.scope]
  rfl
 names:=h.names
 nd:=h.nd
 calm:=h.calm
 xe:=rfl
 hu:=h.hu
 blt:=h.blt
 glb:=h.glb
 fns:=h.fns
noncomputable def kU:RL.D->Const->Bool
 | .int i,.int j=>i == j
 | .bl i,.bool j=>i == j
 | .non,.none=>true
 | .str x,.str y=>x == y
 | _,_=>false
noncomputable def plainT:Expr->Bool
 | .UnaryOp .Not _ _=>false
 | .BoolOp _ _ _=>false
 | .IfExp _ _ _ _=>false
 | .Compare _ _ _ _=>false
 | _=>true
noncomputable def qZ:Expr->Bool
 | .BoolOp _ _ _=>true
 | _=>false
noncomputable def m6:Expr->Bool
 | .Set _ _ _=>false
 | _=>true
noncomputable def uN:RL.Bi->Option Str
 | .len=>some "len"
 | .list=>some "list"
 | .tuple=>some "tuple"
 | .int=>some "int"
 | .all=>some "all"
 | _=>none
noncomputable def uk:RL.Ty->Str
 | .int => "int"
 | .bool => "bool"
 | .list => "list"
 | .tuple => "tuple"
 | .str => "str"
noncomputable def GH(neg:Bool):CmpOp:=if neg then .IsNot else .Is
noncomputable def BN(neg:Bool):CmpOp:=if neg then .NotIn else .In
noncomputable def pK(C:CC)(i:Nat)(e:Expr):Bool:=(gX e).any fun x=>nmB C i x&&x6 C x
noncomputable def gS(C:CC)(i:Nat)(e:Expr):Bool:=(gX e).any fun x=>nmB C i x&&xG C x
noncomputable def kJ(C:CC):List Nat->List Expr->Bool
 | [],es=>es.isEmpty
 | i::is,es=>match es with
  | e::es=>gS C i e&&kJ C is es
  | []=>false
noncomputable def oH(C:CC)(tg:List Nat)(e:Expr):Bool :=
 match tg with
 | [i]=>gS C i e
 | tg=>(kf e).any fun es=>kJ C tg es
noncomputable def mE(C:CC)(scope:Scope)(tg:List Nat):Bool:=tg.all fun i=>match C.N[i]? with
 | some x=>scope.names.lookup x == some .local || scope.names.lookup x == some .cell
 | none=>false
noncomputable def mB(C:CC)(scope:Scope)(tg:List Nat):Bool:=(List.range C.N.length).all fun i=>match C.N[i]? with
 | some x=>!(scope.names.lookup x == some .local || scope.names.lookup x == some .cell) || tg.contains i
 | none=>true
noncomputable def scB(scope sc:Scope):Bool:=scope.kind == .function&&scope.names.all (fun x=>(!(x.2 == .cell) || scope.names.lookup x.1 == some .cell)&&(!(x.2 == .local) || scope.names.lookup x.1 == some .local)&&(!(x.2 == .free) || sc.names.lookup x.1 == some .cell || sc.names.lookup x.1 == some .free))
noncomputable def bZ(C:CC)(e:Expr)(nm:Str)(f:List Expr->Bool):Bool:=(mr e).any fun q=>(gX q.1).any (fun x=>x == nm&&uK C x)&&q.2.2.1.isEmpty&&q.2.1.all noStar&&f q.2.1
theorem bD{nm:Str}{f:List Expr->Bool}(h:XOk C X cl)(z:bZ C e nm f=true):∃ p as pos,e=.Call (.Name nm p) as [] pos/\Gl X nm/\X.mg nm=none/\as.all noStar=true/\f as=true:=by
 unfold bZ at z
 obtain⟨⟨g,as,ks,pos⟩,z0,z⟩:=ay z
 have e0:=jd z0
 subst e0
 obtain⟨z,z4⟩:=ae z
 obtain⟨z,z3⟩:=ae z
 obtain⟨z1,z2⟩:=ae z
 obtain⟨x,y0,z1⟩:=ay z1
 obtain⟨p,rfl⟩:=dU y0
 obtain⟨y1,y2⟩:=ae z1
 rw[beq_iff_eq]at y1
 subst y1
 obtain⟨b1,b2⟩:=h.bl y2
 rw[List.isEmpty_iff]at z2
 subst z2
 exact⟨p,as,pos,rfl,b1,b2,z3,z4⟩
theorem all1{a:Expr}(h:[a].all noStar=true):noStar a=true:=by simpa using h
theorem all2{a b:Expr}(h:[a,b].all noStar=true):noStar a=true/\noStar b=true:=by simpa using h
theorem gG{a b c:Expr}(h:[a,b,c].all noStar=true):noStar a=true/\noStar b=true/\noStar c=true:=by simpa using h
end
mutual
noncomputable def chk(C:CC)(t:Bool):RL.E->Expr->Bool
 | .var i=>fun e=>pK C i e
 | .cst d=>fun e=>(yV e).any fun k=>kU d k
 | .glb y i=>fun e=>(gX e).any fun x=>x == y&&glB C x&&C.G.lookup x == some i
 | .bin o a b=>fun e=>(EG e).any fun q=>q.2.1 == q0 o&&chk C false a q.1&&chk C false b q.2.2
 | .neg a=>fun e=>(vUn e).any fun q=>q.1 == .USub&&chk C false a q.2
 | .cmp c a b=>fun e=>(lV e).any fun q=>of1 q.2.1 fun op=>of1 q.2.2 fun r=>op == dk c&&chk C false a q.1&&chk C false b r
 | .chain c c' a b d=>fun e=>(lV e).any fun q=>of2 q.2.1 fun op op'=>of2 q.2.2 fun r s=>op == dk c&&op' == dk c'&&chk C false a q.1&&chk C false b r&&chk C false d s
 | .isB _ _ _=>fun _=>false
 | .isN neg a=>fun e=>(lV e).any fun q=>of1 q.2.1 fun op=>of1 q.2.2 fun r=>op == GH neg&&(yV r).any (fun k=>kU .non k)&&chk C false a q.1
 | .inn neg a b=>fun e=>(lV e).any fun q=>of1 q.2.1 fun op=>of1 q.2.2 fun r=>op == BN neg&&lN r&&chk C false a q.1&&chk C false b r
 | .inD neg a b=>fun e=>(lV e).any fun q=>of1 q.2.1 fun op=>of1 q.2.2 fun r=>op == BN neg&&lN r&&chk C false a q.1&&chk C false b r
 | .and a b=>fun e=>(vBool e).any fun q=>ofM q.2.1 fun l r rest=>q.1 == .And&&chk C t a l&&(if rest.isEmpty then chk C t b r else chk C t b (.BoolOp .And (r::rest) q.2.2))
 | .or a b=>fun e=>(vBool e).any fun q=>ofM q.2.1 fun l r rest=>q.1 == .Or&&chk C t a l&&(if rest.isEmpty then chk C t b r else chk C t b (.BoolOp .Or (r::rest) q.2.2))
 | .not a=>fun e=>(vUn e).any fun q=>q.1 == .Not&&chk C t a q.2
 | .ifx c a b=>fun e=>(C3 e).any fun q=>!t&&chk C true c q.1&&chk C false a q.2.1&&chk C false b q.2.2
 | .tup es=>fun e=>(kf e).any fun xs=>m5 C es xs&&decide (eJ es<=1000)
 | .lst es=>fun e=>(Ef e).any fun xs=>m5 C es xs&&decide (eJ es<=1000)
 | .ix a b=>fun e=>(oA e).any fun q=>lE q.2&&chk C false a q.1&&chk C false b q.2
 | .ixD a b=>fun e=>(oA e).any fun q=>lE q.2&&chk C false a q.1&&chk C false b q.2
 | .slT a b=>fun e=>(oA e).any fun q=>chk C false a q.1&&(vSl q.2).any fun s=>s.1.isNone&&s.2.2.isNone&&s.2.1.any fun r=>chk C false b r
 | .slF _ _=>fun _=>false
 | .rev a=>fun e=>(oA e).any fun q=>chk C false a q.1&&(vSl q.2).any fun s=>s.1.isNone&&s.2.1.isNone&&s.2.2.any fun r=>fV (-1) r
 | .call f es=>fun e=>(mr e).any fun q=>(gX q.1).any (fun x=>glB C x&&C.F[f]? == some (x,[]))&&q.2.2.1.isEmpty && !q.2.1.isEmpty&&m5 C es q.2.1
 | .bi b a=>fun e=>match b with
  | .lenSet=>bZ C e "len" fun ys=>of1 ys fun y=>bZ C y "set" fun zs=>of1 zs fun z=>chk C false a z
  | b=>(uN b).any fun x=>bZ C e x fun ys=>of1 ys fun y=>chk C false a y
 | .max a b=>fun e=>bZ C e "max" fun ys=>of2 ys fun y z=>chk C false a y&&chk C false b z
 | .min _ _=>fun _=>false
 | .dvm a b=>fun e=>bZ C e "divmod" fun ys=>of2 ys fun y z=>chk C false a y&&chk C false b z
 | .isi a ty=>fun e=>bZ C e "isinstance" fun ys=>of2 ys fun y z=>(gX z).any (fun x=>x == uk ty&&uK C x)&&chk C false a y
 | .rng1 a=>fun e=>bZ C e "list" fun ys=>of1 ys fun y=>bZ C y "range" fun zs=>of1 zs fun z=>chk C false a z
 | .rng2 a b=>fun e=>bZ C e "list" fun ys=>of1 ys fun y=>bZ C y "range" fun zs=>of2 zs fun z u=>chk C false a z&&chk C false b u
 | .rng3 c a b=>fun e=>bZ C e "list" fun ys=>of1 ys fun y=>bZ C y "range" fun zs=>of3 zs fun z u q=>fV c q&&chk C false a z&&chk C false b u
 | .comp d tg it c=>fun e=>(uE e).any fun q=>of1 q.2.1 fun g=>of1 g.ifs fun w=>g.is_async == 0&&scB q.2.2.1 C.sc&&mB C q.2.2.1 tg&&m6 g.iter&&oH (C.inner q.2.2.1) tg g.target&&mE C q.2.2.1 tg&&je C it g.target g.iter&&chk (C.inner q.2.2.1) false d q.1&&chk (C.inner q.2.2.1) true c w
 | .compA d tg it=>fun e=>(uE e).any fun q=>of1 q.2.1 fun g=>g.ifs.isEmpty&&g.is_async == 0&&scB q.2.2.1 C.sc&&mB C q.2.2.1 tg&&m6 g.iter&&oH (C.inner q.2.2.1) tg g.target&&mE C q.2.2.1 tg&&je C it g.target g.iter&&chk (C.inner q.2.2.1) false d q.1
 | .compL _ _ _=>fun _=>false
 | .dk0=>fun e=>(ue e).any fun q=>q.1.isEmpty&&q.2.isEmpty
 | .dt0=>fun e=>(ue e).any fun q=>q.1.isEmpty&&q.2.isEmpty
 | .chain3 _ _ _ _ _ _ _=>fun _=>false
 | .slB _ _ _=>fun _=>false
 | .index _ _=>fun _=>false
 | .join _=>fun _=>false
noncomputable def m5(C:CC):RL.Es->List Expr->Bool
 | .nil=>fun xs=>xs.isEmpty
 | .cons e es=>fun xs=>match xs with
  | x::xs=>noStar x&&chk C false e x&&m5 C es xs
  | []=>false
noncomputable def je(C:CC):RL.It->Expr->Expr->Bool
 | .seq a=>fun _ e=>chk C false a e
 | .rng1 a=>fun _ e=>bZ C e "range" fun ys=>of1 ys fun y=>chk C false a y
 | .rng2 a b=>fun _ e=>bZ C e "range" fun ys=>of2 ys fun y z=>chk C false a y&&chk C false b z
 | .rng3 c a b=>fun _ e=>bZ C e "range" fun ys=>of3 ys fun y z q=>fV c q&&chk C false a y&&chk C false b z
 | .chr _=>fun _ _=>false
 | .enm a=>fun tg e=>(kf tg).isSome&&bZ C e "enumerate" fun ys=>of1 ys fun y=>chk C false a y
 | .zip a b=>fun tg e=>(kf tg).isSome&&bZ C e "zip" fun ys=>of2 ys fun y z=>chk C false a y&&chk C false b z
 | .nope=>fun _ _=>false
end
noncomputable def rq(X:Cx)(cl:RL.Cl)(e:Expr)(e':RL.E)(b b':Bool):Prop:=(b=true->SE X cl e e')/\(b'=true->ST X cl e e'/\(qZ e=true->SW X cl e e'))
section
variable{C:CC}{X:Cx}{cl:RL.Cl}{e:Expr}{e':RL.E}{b:Bool}
theorem tY{env:Env}(h:plainT e=true)(whole:Sem Value):isTrue e env whole=(do let v <- whole;standAt e.pos;holding [v] (truthy v)):=by
 cases e<;>first
  | rfl
  | (cases h;done)
  | (rename_i op _ _;cases op<;>first | rfl | (cases h;done))
theorem aI(h:b=true->SE X cl e e'/\plainT e=true):rq X cl e e' b b :=
 ⟨fun z=>(h z).1,fun z=>⟨yF (h z).1 (tY (h z).2),fun q=>by
  have:=(h z).2
  cases e<;>first | (cases q;done) | (cases this;done)⟩⟩
theorem gO(h:b=true->SE X cl e e'/\ST X cl e e'/\qZ e=false):rq X cl e e' b b :=
 ⟨fun z=>(h z).1,fun z=>⟨(h z).2.1,fun q=>by rw[(h z).2.2]at q;cases q⟩⟩
theorem gZ(h:b=false){b':Bool}(h':b'=false):rq X cl e e' b b':=⟨fun z=>(by rw[h]at z;cases z),fun z=>(by rw[h']at z;cases z)⟩
theorem CN{d:RL.D}{k:Const}{j:Nat}{pos:Pos}(h:kU d k=true):SE X cl (.Constant k j pos) (.cst d):=by
 cases d<;>cases k<;>simp only[kU]at h<;>first | (cases h;done) | skip
 case non.none=>exact mW qE (fun P H=>by rw[Rep]) rfl
 case bl.bool i j=>rw[beq_iff_eq]at h;subst h;exact mW F2 (fun P H=>qi) rfl
 case int.int i j=>rw[beq_iff_eq]at h;subst h;exact mW pT (fun P H=>aS) rfl
 case str.str i j=>rw[beq_iff_eq]at h;subst h;exact mW Eu (fun P H=>iH) rfl
theorem zZ{k:Const}(h:kU .non k=true):k=.none:=by
 cases k<;>simp only[kU]at h<;>first | (cases h;done) | rfl
theorem vM(t:RL.Ty):bootBuiltins (uk t)=some (.type (tyN t))/\uk t ≠ "__name__" /\ (uk t == ("__debug__" : Str))=false:=by
 cases t<;>exact⟨by decide +kernel,by decide +kernel,by decide +kernel⟩
theorem fE(h:m6 e=true)(env:Env)(x:Value):foldedSetIterable e env x=pure x:=by
 cases e<;>first | rfl | (cases h;done)
theorem FL(hcalm:X.calm=true){o:RL.Bi}{x:Str}{p pos:Pos}{y:Expr}{a':RL.E}(hx:uN o=some x)(hb:Gl X x)(hb2:X.mg x=none)(ha:SE X cl y a')(hn:noStar y=true):SE X cl (.Call (.Name x p) [y] [] pos) (.bi o a'):=by
 cases o<;>simp only[uN]at hx<;>first | (cases hx;done) | skip
 case len=>cases hx;exact E1 hb hb2 ha hn
 case list=>cases hx;exact AZ hb hb2 ha hn
 case tuple=>cases hx;exact yl hb hb2 ha hn
 case int=>cases hx;exact Ee hb hb2 ha hn
 case all=>cases hx;exact CZ hcalm hb hb2 ha hn
theorem vE{r:Expr}(h:lE r=true):uD r:=by
 cases r<;>first | (cases h;done) | (intro a b;rfl) | skip
theorem iy{i:Nat}(h:XOk C X cl)(z:pK C i e=true):∃ x p,e=.Name x p/\X.N[i]?=some x/\Vis X.env.scope x/\(x == ("__debug__" : Str))=false/\(x == ("__classdict__" : Str))=false:=by
 obtain⟨x,z0,z⟩:=ay z
 obtain⟨p,rfl⟩:=dU z0
 obtain⟨z1,z2⟩:=ae z
 obtain⟨g1,g2⟩:=h.nm z1
 exact⟨x,p,rfl,g1,h.vis z2,(eN g2).1,(eN g2).2⟩
theorem gH{i:Nat}(h:XOk C X cl)(z:gS C i e=true):∃ x p,e=.Name x p/\X.N[i]?=some x/\Loc X.env.scope x:=by
 obtain⟨x,z0,z⟩:=ay z
 obtain⟨p,rfl⟩:=dU z0
 obtain⟨z1,z2⟩:=ae z
 exact⟨x,p,rfl,(h.nm z1).1,h.loc z2⟩
theorem n0(h:XOk C X cl){T:List Nat}(hf:∀ i x,i∈T->X.N[i]?=some x->X.fn x=true\/X.env.scope.names.lookup x=some .local):∀ {is:List Nat} {es:List Expr},(∀ i∈is,i∈T)->kJ C is es=true->PGs X es (gs is)/\(assignEach es X.env).length=is.length/\(assignEach es X.env).findIdx? (·.1)=none
 | [],es,_,z=>by
  rw[kJ,List.isEmpty_iff]at z
  subst z
  exact⟨AW,rfl,rfl⟩
 | i::is,[],_,z=>by cases z
 | i::is,e::es,hs,z=>by
  rw[kJ]at z
  obtain⟨z1,z2⟩:=ae z
  obtain⟨x,p,rfl,g1,g2⟩:=gH h z1
  obtain⟨h1,h2,h3⟩:=n0 h hf (fun j hj=>hs j (List.mem_cons_of_mem _ hj)) z2
  refine⟨xE (t7 h.ndX g1 g2 (hf i x (hs i List.mem_cons_self) g1)) h1,?_,?_⟩
  ·show(assignEach es X.env).length+1=is.length+1
   rw[h2]
  ·show List.findIdx? (·.1) ((false,assign (.Name x p) X.env)::assignEach es X.env)=none
   rw[List.findIdx?_cons]
   simp only[Bool.false_eq_true,if_false,h3,Option.map_none]
theorem wZ{tg:List Nat}{tgE:Expr}(h:XOk C X cl)(hf:∀ i x,i∈tg->X.N[i]?=some x->X.fn x=true\/X.env.scope.names.lookup x=some .local)(hc:oH C tg tgE=true):PG X tgE (gT X.K tg):=by
 unfold oH at hc
 split at hc
 ·obtain⟨x,p,rfl,g1,g2⟩:=gH h hc
  exact t7 h.ndX g1 g2 (hf _ x (by simp) g1)
 ·rename_i hne
  obtain⟨es,z0,z⟩:=ay hc
  obtain⟨k,p,rfl⟩:=eV z0
  obtain⟨h1,h2,h3⟩:=n0 h hf (fun i hi=>hi) z
  have e:gT X.K tg=fun v σ H Q=>ny X.K tg.length (gs tg) v σ H Q\/nJ X.K tg.length (gs tg) v σ H Q:=by
   unfold gT
   split
   ·rename_i i
    exact absurd rfl (hne i)
   ·rfl
  rw[e]
  exact v5 (xo h.calm h1 h2 h3) (xq h.calm h1 h2 h3)
theorem EH{x:Str}{i:Int}{pos:Pos}(h:XOk C X cl)(hg:glB C x=true)(hl:C.G.lookup x=some i):SE X cl (.Name x pos) (.glb x i):=by
 obtain⟨u,h1,h2⟩:=h.glb x i hl
 obtain⟨g1,g2⟩:=h.gl hg
 exact B9 (u:=u) (AD g1 h1 h2 (eN g2).1)
theorem Bj{x:Str}{f:Nat}{p pos:Pos}{y:Expr}{ys:List Expr}{es:RL.Es}(h:XOk C X cl)(hg:glB C x=true)(hf:C.F[f]?=some (x,[]))(he:SEs X cl (y::ys) es)(hl:eJ es=ys.length+1)(hn:noStar y=true)(hns:ys.all noStar=true) :
  SE X cl (.Call (.Name x p) (y::ys) [] pos) (.call f es):=by
 obtain⟨k,fa,fd,ps,F,hr,hm,hk,hb⟩:=h.fns f x [] hf
 obtain⟨g1,g2⟩:=h.gl hg
 rw[if_pos rfl]at F
 cases es with
 | nil=>simp[eJ]at hl
 | cons e' es'=>exact AE F hr g1 hm hk hb he (eN g2).1 hn hns
theorem pM{scope sc:Scope}(h:scB scope sc=true):oy scope sc:=by
 unfold scB at h
 obtain⟨h1,h2⟩:=ae h
 rw[List.all_eq_true]at h2
 refine⟨by simpa using h1,fun x hx z=>?_,fun x hx z=>?_,fun x hx z=>?_⟩
 ·have:=h2 x hx
  rw[z]at this
  simpa using this
 ·have:=h2 x hx
  rw[z]at this
  simpa using this
 ·have:=h2 x hx
  rw[z]at this
  simpa using this
theorem jr{scope:Scope}{tg:List Nat}(h:mB C scope tg=true)(i:Nat)(x:Str)(hx:C.N[i]?=some x)(hl:scope.names.lookup x=some .local\/scope.names.lookup x=some .cell):tg.contains i=true:=by
 unfold mB at h
 rw[List.all_eq_true]at h
 have:=h i (List.mem_range.mpr (List.getElem?_eq_some_iff.mp hx).1)
 rw[hx]at this
 rcases hl with hl | hl
 ·simp only[hl,beq_self_eq_true,Bool.true_or,Bool.not_true,Bool.false_or]at this
  exact this
 ·simp only[hl,beq_self_eq_true,Bool.or_true,Bool.not_true,Bool.false_or]at this
  exact this
theorem oY{X:Cx}{cls:List (Str × Addr)}{scope:Scope}{Ca:Addr}{fp:List Addr}{s:Shared}{H:Hp}{pins:List (Addr × Obj)}{s':Shared}{σ:L2.St}{H':Hp}{Q:Bool->Hp->Prop}(I:Inv (L2.blk X scope cls Ca fp s H) pins σ H' s')(q:mD σ H' Q) :
  wpAny (model X.prog X.w) X.A (gB [] (compEnvC scope cls Ca X.env)) (TP (L2.blk X scope cls Ca fp s H) pins σ Q) (fun _ _=>False) s':=by
 unfold gB
 exact wpAny_pure ⟨H',I,q⟩
theorem oQ{X:Cx}{cls:List (Str × Addr)}{scope:Scope}{Ca:Addr}{fp:List Addr}{s:Shared}{H:Hp}{pins:List (Addr × Obj)}{s':Shared}{σ:L2.St}{H':Hp}{Q:Bool->Hp->Prop}{c:Expr}{t:TT}(hc:PT (L2.blk X scope cls Ca fp s H) c t)(I:Inv (L2.blk X scope cls Ca fp s H) pins σ H' s')(q:t σ H' Q) :
  wpAny (model X.prog X.w) X.A (gB [c] (compEnvC scope cls Ca X.env)) (TP (L2.blk X scope cls Ca fp s H) pins σ Q) (fun _ _=>False) s':=by
 have h:=hc pins s' σ H' Q I q
 unfold gB
 simp only[List.forIn_cons,List.forIn_nil,if_true]
 refine wpAny_bind (wpAny_bind (thn h fun b s1 hb=>wpAny_pure ?_))
 exact wpAny_pure hb
theorem mG(h:XOk C X cl){scope:Scope}{cls:List (Str × Addr)}{Ca:Addr}{fp:List Addr}{s:Shared}{H:Hp}{tg:List Nat}(ha:mE C scope tg=true){tgE:Expr}(hc:oH (C.inner scope) tg tgE=true):PG (L2.blk X scope cls Ca fp s H) tgE (gT X.K tg):=by
 have hb:=h.blk (scope:=scope) cls Ca fp s H
 unfold mE at ha
 rw[List.all_eq_true]at ha
 refine wZ hb (fun i x hi hx=>?_) hc
 have:=ha i hi
 have hx:X.N[i]?=some x:=hx
 rw[h.names]at hx
 rw[hx]at this
 simp only[Bool.or_eq_true,beq_iff_eq]at this
 rcases this with z | z
 ·exact .inr (lookup_relabel_local z)
 ·exact .inl (by show(scope.names.lookup x == some .cell)=true;rw[z];rfl)
theorem kY{α:Type}{o:Option α}(h:o.isNone=true):o=none:=by
 cases o with
 | none=>rfl
 | some _=>cases h
end
mutual
theorem ak{cl:RL.Cl}:∀ (e':RL.E) {C:CC} {X:Cx} (h:XOk C X cl) (e:Expr),rq X cl e e' (chk C false e' e) (chk C true e' e)
 | .var i,C,X,h,e=>aI (b:=chk C false (.var i) e) fun z=>by
  obtain⟨x,p,rfl,g1,g2,g3,g4⟩:=iy h z
  exact⟨DU g1 g2 g3 g4,rfl⟩
 | .cst d,C,X,h,e=>aI (b:=chk C false (.cst d) e) fun z=>by
  obtain⟨k,z0,z⟩:=ay z
  obtain⟨j,p,rfl⟩:=sO z0
  exact⟨CN z,rfl⟩
 | .glb y i,C,X,h,e=>aI (b:=chk C false (.glb y i) e) fun z=>by
  obtain⟨x,z0,z⟩:=ay z
  obtain⟨p,rfl⟩:=dU z0
  obtain⟨z,z3⟩:=ae z
  obtain⟨z1,z2⟩:=ae z
  rw[beq_iff_eq]at z1 z3
  subst z1
  exact⟨EH h z2 z3,rfl⟩
 | .bin o a b,C,X,h,e=>aI (b:=chk C false (.bin o a b) e) fun z=>by
  obtain⟨⟨l,op,r⟩,z0,z⟩:=ay z
  obtain⟨p,rfl⟩:=Bo z0
  obtain⟨z,z3⟩:=ae z
  obtain⟨z1,z2⟩:=ae z
  rw[beq_iff_eq]at z1
  have z1:op=q0 o:=z1
  subst z1
  exact⟨BQ ((ak a h l).1 z2) ((ak b h r).1 z3),rfl⟩
 | .neg a,C,X,h,e=>aI (b:=chk C false (.neg a) e) fun z=>by
  obtain⟨⟨op,x⟩,z0,z⟩:=ay z
  obtain⟨p,rfl⟩:=rN z0
  obtain⟨z1,z2⟩:=ae z
  rw[beq_iff_eq]at z1
  have z1:op=.USub:=z1
  subst z1
  exact⟨B5 ((ak a h x).1 z2),rfl⟩
 | .cmp c a b,C,X,h,e=>gO (b:=chk C false (.cmp c a b) e) fun z=>by
  obtain⟨⟨l,os,rs⟩,z0,z⟩:=ay z
  obtain⟨p,rfl⟩:=gn z0
  obtain⟨op,y1,z⟩:=aO z
  obtain⟨r,y2,z⟩:=aO z
  have y1:os=[op]:=y1
  have y2:rs=[r]:=y2
  subst y1 y2
  obtain⟨z,z3⟩:=ae z
  obtain⟨z1,z2⟩:=ae z
  rw[beq_iff_eq]at z1
  subst z1
  exact⟨DH h.hu ((ak a h l).1 z2) ((ak b h r).1 z3),CL h.hu ((ak a h l).1 z2) ((ak b h r).1 z3),rfl⟩
 | .chain c c' a b d,C,X,h,e=>gO (b:=chk C false (.chain c c' a b d) e) fun z=>by
  obtain⟨⟨l,os,rs⟩,z0,z⟩:=ay z
  obtain⟨p,rfl⟩:=gn z0
  obtain⟨op,op',y1,z⟩:=dO z
  obtain⟨r,s,y2,z⟩:=dO z
  have y1:os=[op,op']:=y1
  have y2:rs=[r,s]:=y2
  subst y1 y2
  obtain⟨z,z5⟩:=ae z
  obtain⟨z,z4⟩:=ae z
  obtain⟨z,z3⟩:=ae z
  obtain⟨z1,z2⟩:=ae z
  rw[beq_iff_eq]at z1 z2
  subst z1 z2
  exact⟨x4 h.hu ((ak a h l).1 z3) ((ak b h r).1 z4) ((ak d h s).1 z5),xP h.hu ((ak a h l).1 z3) ((ak b h r).1 z4) ((ak d h s).1 z5),rfl⟩
 | .isB _ _ _,C,X,h,e=>gZ rfl rfl
 | .isN neg a,C,X,h,e=>gO (b:=chk C false (.isN neg a) e) fun z=>by
  obtain⟨⟨l,os,rs⟩,z0,z⟩:=ay z
  obtain⟨p,rfl⟩:=gn z0
  obtain⟨op,y1,z⟩:=aO z
  obtain⟨r,y2,z⟩:=aO z
  have y1:os=[op]:=y1
  have y2:rs=[r]:=y2
  subst y1 y2
  obtain⟨z,z3⟩:=ae z
  obtain⟨z1,z2⟩:=ae z
  rw[beq_iff_eq]at z1
  subst z1
  obtain⟨k,w0,w⟩:=ay z2
  obtain⟨j,q,rfl⟩:=sO w0
  have w:=zZ w
  subst w
  exact⟨Cm ((ak a h l).1 z3),DB ((ak a h l).1 z3),rfl⟩
 | .inn neg a b,C,X,h,e=>gO (b:=chk C false (.inn neg a b) e) fun z=>by
  obtain⟨⟨l,os,rs⟩,z0,z⟩:=ay z
  obtain⟨p,rfl⟩:=gn z0
  obtain⟨op,y1,z⟩:=aO z
  obtain⟨r,y2,z⟩:=aO z
  have y1:os=[op]:=y1
  have y2:rs=[r]:=y2
  subst y1 y2
  obtain⟨z,z4⟩:=ae z
  obtain⟨z,z3⟩:=ae z
  obtain⟨z1,z2⟩:=ae z
  rw[beq_iff_eq]at z1
  subst z1
  exact⟨Ey ((ak a h l).1 z3) ((ak b h r).1 z4) z2,C1 ((ak a h l).1 z3) ((ak b h r).1 z4) z2,rfl⟩
 | .inD neg a b,C,X,h,e=>gO (b:=chk C false (.inD neg a b) e) fun z=>by
  obtain⟨⟨l,os,rs⟩,z0,z⟩:=ay z
  obtain⟨p,rfl⟩:=gn z0
  obtain⟨op,y1,z⟩:=aO z
  obtain⟨r,y2,z⟩:=aO z
  have y1:os=[op]:=y1
  have y2:rs=[r]:=y2
  subst y1 y2
  obtain⟨z,z4⟩:=ae z
  obtain⟨z,z3⟩:=ae z
  obtain⟨z1,z2⟩:=ae z
  rw[beq_iff_eq]at z1
  subst z1
  exact⟨DG h.hu ((ak a h l).1 z3) ((ak b h r).1 z4) z2,E6 h.hu ((ak a h l).1 z3) ((ak b h r).1 z4) z2,rfl⟩
 | .and a b,C,X,h,e=>⟨(fun z=>by
   obtain⟨⟨op,es,p⟩,z0,z⟩:=ay z
   obtain⟨l,r,rest,y1,z⟩:=mL z
   have e0:=j4 z0
   have y1:es=l::r::rest:=y1
   obtain⟨z,z3⟩:=ae z
   obtain⟨z1,z2⟩:=ae z
   rw[beq_iff_eq]at z1
   have z1:op=.And:=z1
   subst y1 z1 e0
   refine Ct ((ak a h l).1 z2) ?_
   split at z3
   ·rename_i hr
    rw[List.isEmpty_iff]at hr
    subst hr
    exact vz ((ak b h r).1 z3)
   ·exact(ak b h _).1 z3),(fun z=>by
   obtain⟨⟨op,es,p⟩,z0,z⟩:=ay z
   obtain⟨l,r,rest,y1,z⟩:=mL z
   have e0:=j4 z0
   have y1:es=l::r::rest:=y1
   obtain⟨z,z3⟩:=ae z
   obtain⟨z1,z2⟩:=ae z
   rw[beq_iff_eq]at z1
   have z1:op=.And:=z1
   subst y1 z1 e0
   have w:SW X cl (.BoolOp .And (l::r::rest) p) (.and a b):=by
    refine De ((ak a h l).2 z2).1 ?_
    split at z3
    ·rename_i hr
     rw[List.isEmpty_iff]at hr
     subst hr
     exact wD ((ak b h r).2 z3).1
    ·exact((ak b h _).2 z3).2 rfl
   exact⟨w.pt,fun _=>w⟩)⟩
 | .or a b,C,X,h,e=>⟨(fun z=>by
   obtain⟨⟨op,es,p⟩,z0,z⟩:=ay z
   obtain⟨l,r,rest,y1,z⟩:=mL z
   have e0:=j4 z0
   have y1:es=l::r::rest:=y1
   obtain⟨z,z3⟩:=ae z
   obtain⟨z1,z2⟩:=ae z
   rw[beq_iff_eq]at z1
   have z1:op=.Or:=z1
   subst y1 z1 e0
   refine F4 ((ak a h l).1 z2) ?_
   split at z3
   ·rename_i hr
    rw[List.isEmpty_iff]at hr
    subst hr
    exact vz ((ak b h r).1 z3)
   ·exact(ak b h _).1 z3),(fun z=>by
   obtain⟨⟨op,es,p⟩,z0,z⟩:=ay z
   obtain⟨l,r,rest,y1,z⟩:=mL z
   have e0:=j4 z0
   have y1:es=l::r::rest:=y1
   obtain⟨z,z3⟩:=ae z
   obtain⟨z1,z2⟩:=ae z
   rw[beq_iff_eq]at z1
   have z1:op=.Or:=z1
   subst y1 z1 e0
   have w:SW X cl (.BoolOp .Or (l::r::rest) p) (.or a b):=by
    refine F0 ((ak a h l).2 z2).1 ?_
    split at z3
    ·rename_i hr
     rw[List.isEmpty_iff]at hr
     subst hr
     exact wD ((ak b h r).2 z3).1
    ·exact((ak b h _).2 z3).2 rfl
   exact⟨w.pt,fun _=>w⟩)⟩
 | .not a,C,X,h,e=>⟨(fun z=>by
   obtain⟨⟨op,x⟩,z0,z⟩:=ay z
   obtain⟨p,rfl⟩:=rN z0
   obtain⟨z1,z2⟩:=ae z
   rw[beq_iff_eq]at z1
   have z1:op=.Not:=z1
   subst z1
   exact D6 ((ak a h x).1 z2)),(fun z=>by
   obtain⟨⟨op,x⟩,z0,z⟩:=ay z
   obtain⟨p,rfl⟩:=rN z0
   obtain⟨z1,z2⟩:=ae z
   rw[beq_iff_eq]at z1
   have z1:op=.Not:=z1
   subst z1
   exact⟨Ec ((ak a h x).2 z2).1,fun q=>by cases q⟩)⟩
 | .ifx c a b,C,X,h,e=>⟨(fun z=>by
   obtain⟨⟨q,l,r⟩,z0,z⟩:=ay z
   obtain⟨p,rfl⟩:=AJ z0
   obtain⟨z,z4⟩:=ae z
   obtain⟨z,z3⟩:=ae z
   obtain⟨z1,z2⟩:=ae z
   exact ED ((ak c h q).2 z2).1 ((ak a h l).1 z3) ((ak b h r).1 z4)),(fun z=>by
   obtain⟨⟨q,l,r⟩,z0,z⟩:=ay z
   obtain⟨z,z4⟩:=ae z
   obtain⟨z,z3⟩:=ae z
   obtain⟨z1,z2⟩:=ae z
   cases z1)⟩
 | .tup es,C,X,h,e=>aI (b:=chk C false (.tup es) e) fun z=>by
  obtain⟨xs,z0,z⟩:=ay z
  obtain⟨k,p,rfl⟩:=eV z0
  obtain⟨z1,z2⟩:=ae z
  exact⟨CA (j6 es h _ z1).1 (by simpa using z2),rfl⟩
 | .lst es,C,X,h,e=>aI (b:=chk C false (.lst es) e) fun z=>by
  obtain⟨xs,z0,z⟩:=ay z
  obtain⟨p,rfl⟩:=Aw z0
  obtain⟨z1,z2⟩:=ae z
  exact⟨Dd (j6 es h _ z1).1 (by simpa using z2),rfl⟩
 | .ix a b,C,X,h,e=>aI (b:=chk C false (.ix a b) e) fun z=>by
  obtain⟨⟨l,r⟩,z0,z⟩:=ay z
  obtain⟨p,rfl⟩:=iK z0
  obtain⟨z,z3⟩:=ae z
  obtain⟨z1,z2⟩:=ae z
  exact⟨EV ((ak a h l).1 z2) ((ak b h r).1 z3) z1,rfl⟩
 | .ixD a b,C,X,h,e=>aI (b:=chk C false (.ixD a b) e) fun z=>by
  obtain⟨⟨l,r⟩,z0,z⟩:=ay z
  obtain⟨p,rfl⟩:=iK z0
  obtain⟨z,z3⟩:=ae z
  obtain⟨z1,z2⟩:=ae z
  exact⟨DP h.hu ((ak a h l).1 z2) ((ak b h r).1 z3) (vE z1),rfl⟩
 | .slT a b,C,X,h,e=>aI (b:=chk C false (.slT a b) e) fun z=>by
  obtain⟨⟨l,s⟩,z0,z⟩:=ay z
  obtain⟨p,rfl⟩:=iK z0
  obtain⟨z1,z⟩:=ae z
  obtain⟨⟨s1,s2,s3⟩,z0,z⟩:=ay z
  obtain⟨q,e0⟩:=vC z0
  have e0:s=.Slice s1 s2 s3 q:=e0
  obtain⟨z,z4⟩:=ae z
  obtain⟨z2,z3⟩:=ae z
  have w2:s1=none:=kY z2
  have w3:s3=none:=kY z3
  obtain⟨r,y0,z4⟩:=ay z4
  have y1:s2=some r:=y0
  rw[w2,w3,y1]at e0
  subst e0
  exact⟨Dl ((ak a h l).1 z1) ((ak b h r).1 z4),rfl⟩
 | .slF _ _,C,X,h,e=>gZ rfl rfl
 | .rev a,C,X,h,e=>aI (b:=chk C false (.rev a) e) fun z=>by
  obtain⟨⟨l,s⟩,z0,z⟩:=ay z
  obtain⟨p,rfl⟩:=iK z0
  obtain⟨z1,z⟩:=ae z
  obtain⟨⟨s1,s2,s3⟩,z0,z⟩:=ay z
  obtain⟨q,e0⟩:=vC z0
  have e0:s=.Slice s1 s2 s3 q:=e0
  obtain⟨z,z4⟩:=ae z
  obtain⟨z2,z3⟩:=ae z
  have w2:s1=none:=kY z2
  have w3:s2=none:=kY z3
  obtain⟨r,y0,z4⟩:=ay z4
  have y1:s3=some r:=y0
  rw[w2,w3,y1]at e0
  subst e0
  exact⟨ES ((ak a h l).1 z1) z4,rfl⟩
 | .call f es,C,X,h,e=>aI (b:=chk C false (.call f es) e) fun z=>by
  obtain⟨⟨g,as,ks,p⟩,z0,z⟩:=ay z
  have z0:=jd z0
  subst z0
  obtain⟨z,z4⟩:=ae z
  obtain⟨z,z3⟩:=ae z
  obtain⟨z1,z2⟩:=ae z
  obtain⟨x,y0,z1⟩:=ay z1
  obtain⟨q,e0⟩:=dU y0
  have e0:g=.Name x q:=e0
  obtain⟨y1,y2⟩:=ae z1
  rw[beq_iff_eq]at y2
  have w2:ks=[]:=by rw[List.isEmpty_iff]at z2;exact z2
  subst e0 w2
  obtain⟨q1,q2,q3⟩:=j6 es h _ z4
  dsimp only at z3 q1 q2 q3
  cases as with
  | nil=>cases z3
  |cons y ys=>
   rw[List.all_cons]at q3
   exact⟨Bj h y1 y2 q1 q2 (ae q3).1 (ae q3).2,rfl⟩
 | .bi o a,C,X,h,e=>by
  have gen:(∀ t,chk C t (.bi o a) e=((uN o).any fun x=>bZ C e x fun ys=>of1 ys fun y=>chk C false a y))->rq X cl e (.bi o a) (chk C false (.bi o a) e) (chk C true (.bi o a) e):=fun heq=>by
   rw[heq,heq]
   refine aI fun z=>?_
   obtain⟨x,y0,z⟩:=ay z
   obtain⟨p,as,pos,rfl,b1,b2,z3,z4⟩:=bD h z
   obtain⟨y,rfl,z4⟩:=aO z4
   exact⟨FL h.calm y0 b1 b2 ((ak a h y).1 z4) (all1 z3),rfl⟩
  cases o
  case lenSet =>
   refine aI (b:=chk C false (.bi .lenSet a) e) fun z=>?_
   rw[chk]at z
   obtain⟨p,as,pos,rfl,b1,b2,z3,z4⟩:=bD h z
   obtain⟨y,rfl,z5⟩:=aO z4
   obtain⟨p',as',pos',rfl,b1',b2',z3',z6⟩:=bD h z5
   obtain⟨y,rfl,z7⟩:=aO z6
   exact⟨wC h.calm b1 b2 b1' b2' ((ak a h y).1 z7) (all1 z3'),rfl⟩
  all_goals exact gen fun t=>rfl
 | .max a b,C,X,h,e=>aI (b:=chk C false (.max a b) e) fun z=>by
  rw[chk]at z
  obtain⟨p,as,pos,rfl,b1,b2,z3,z4⟩:=bD h z
  obtain⟨y,u,rfl,z4⟩:=dO z4
  exact⟨B7 h.calm b1 b2 ((ak a h y).1 (ae z4).1) ((ak b h u).1 (ae z4).2) (all2 z3).1 (all2 z3).2,rfl⟩
 | .min _ _,C,X,h,e=>gZ rfl rfl
 | .dvm a b,C,X,h,e=>aI (b:=chk C false (.dvm a b) e) fun z=>by
  rw[chk]at z
  obtain⟨p,as,pos,rfl,b1,b2,z3,z4⟩:=bD h z
  obtain⟨y,u,rfl,z4⟩:=dO z4
  exact⟨EF b1 b2 ((ak a h y).1 (ae z4).1) ((ak b h u).1 (ae z4).2) (all2 z3).1 (all2 z3).2,rfl⟩
 | .isi a ty,C,X,h,e=>aI (b:=chk C false (.isi a ty) e) fun z=>by
  rw[chk]at z
  obtain⟨p,as,pos,rfl,b1,b2,z3,z4⟩:=bD h z
  obtain⟨y,u,rfl,z4⟩:=dO z4
  obtain⟨z5,z6⟩:=ae z4
  obtain⟨x,w0,w⟩:=ay z5
  obtain⟨q,rfl⟩:=dU w0
  obtain⟨w1,w2⟩:=ae w
  rw[beq_iff_eq]at w1
  subst w1
  obtain⟨t1,t2,t3⟩:=vM ty
  exact⟨D8 b1 b2 (h.bl w2).1 (h.bl w2).2 t1 t2 t3 ((ak a h y).1 z6) (all2 z3).1,rfl⟩
 | .rng1 a,C,X,h,e=>aI (b:=chk C false (.rng1 a) e) fun z=>by
  rw[chk]at z
  obtain⟨p,as,pos,rfl,b1,b2,z3,z4⟩:=bD h z
  obtain⟨y,rfl,z5⟩:=aO z4
  obtain⟨p',as',pos',rfl,b1',b2',z3',z6⟩:=bD h z5
  obtain⟨y,rfl,z7⟩:=aO z6
  exact⟨B0 h.calm b1 b2 b1' b2' ((ak a h y).1 z7) (all1 z3'),rfl⟩
 | .rng2 a b,C,X,h,e=>aI (b:=chk C false (.rng2 a b) e) fun z=>by
  rw[chk]at z
  obtain⟨p,as,pos,rfl,b1,b2,z3,z4⟩:=bD h z
  obtain⟨y,rfl,z5⟩:=aO z4
  obtain⟨p',as',pos',rfl,b1',b2',z3',z6⟩:=bD h z5
  obtain⟨y,u,rfl,z7⟩:=dO z6
  exact⟨Bq h.calm b1 b2 b1' b2' ((ak a h y).1 (ae z7).1) ((ak b h u).1 (ae z7).2) (all2 z3').1 (all2 z3').2,rfl⟩
 | .rng3 c a b,C,X,h,e=>aI (b:=chk C false (.rng3 c a b) e) fun z=>by
  rw[chk]at z
  obtain⟨p,as,pos,rfl,b1,b2,z3,z4⟩:=bD h z
  obtain⟨y,rfl,z5⟩:=aO z4
  obtain⟨p',as',pos',rfl,b1',b2',z3',z6⟩:=bD h z5
  obtain⟨y,u,q,rfl,z7⟩:=uU z6
  obtain⟨z7,z9⟩:=ae z7
  obtain⟨z7,z8⟩:=ae z7
  exact⟨As h.calm b1 b2 b1' b2' ((ak a h y).1 z8) ((ak b h u).1 z9) (gG z3').1 (gG z3').2.1 z7,rfl⟩
 | .comp d tg it c,C,X,h,e=>aI (b:=chk C false (.comp d tg it c) e) fun z=>by
  obtain⟨⟨elt,gens,scope,p⟩,z0,z⟩:=ay z
  have z0:=rJ z0
  subst z0
  obtain⟨⟨tgE,iter,ifs,asy⟩,y1,z⟩:=aO z
  have y1:gens=[⟨tgE,iter,ifs,asy⟩]:=y1
  obtain⟨w,y2,z⟩:=aO z
  have y2:ifs=[w]:=y2
  obtain⟨z,z8⟩:=ae z
  obtain⟨z,z7⟩:=ae z
  obtain⟨z,z6⟩:=ae z
  obtain⟨z,z5⟩:=ae z
  obtain⟨z,z4⟩:=ae z
  obtain⟨z,z3⟩:=ae z
  obtain⟨z,z2⟩:=ae z
  obtain⟨z0,z1⟩:=ae z
  rw[beq_iff_eq]at z0
  have w0:asy=0:=z0
  subst y1 w0
  subst y2
  refine⟨yX h.calm (by rw[h.scope];exact pM z1) (i4 it h _ _ z6) ?_ (fE z3 _),rfl⟩
  exact⟨fun cls Ca fp s H=>mG h z5 z4,fun cls Ca fp s H pins s' σ H' Q I q=>oQ ((ak c (h.blk cls Ca fp s H) _).2 z8).1 I q,fun cls Ca fp s H=>(ak d (h.blk cls Ca fp s H) _).1 z7,fun i x hx hl=>jr z2 i x (by rw[<-h.names];exact hx) hl⟩
 | .compA d tg it,C,X,h,e=>aI (b:=chk C false (.compA d tg it) e) fun z=>by
  obtain⟨⟨elt,gens,scope,p⟩,z0,z⟩:=ay z
  have z0:=rJ z0
  subst z0
  obtain⟨⟨tgE,iter,ifs,asy⟩,y1,z⟩:=aO z
  have y1:gens=[⟨tgE,iter,ifs,asy⟩]:=y1
  obtain⟨z,z7⟩:=ae z
  obtain⟨z,z6⟩:=ae z
  obtain⟨z,z5⟩:=ae z
  obtain⟨z,z4⟩:=ae z
  obtain⟨z,z3⟩:=ae z
  obtain⟨z,z2⟩:=ae z
  obtain⟨z,z1⟩:=ae z
  obtain⟨y2,z0⟩:=ae z
  rw[beq_iff_eq]at z0
  have w0:asy=0:=z0
  have w2:ifs=[]:=by rw[List.isEmpty_iff]at y2;exact y2
  subst y1 w0
  subst w2
  refine⟨xC h.calm (by rw[h.scope];exact pM z1) (i4 it h _ _ z6) ?_ (fE z3 _),rfl⟩
  exact⟨fun cls Ca fp s H=>mG h z5 z4,fun cls Ca fp s H pins s' σ H' Q I q=>oY I q,fun cls Ca fp s H=>(ak d (h.blk cls Ca fp s H) _).1 z7,fun i x hx hl=>jr z2 i x (by rw[<-h.names];exact hx) hl⟩
 | .compL _ _ _,C,X,h,e=>gZ rfl rfl
 | .dk0,C,X,h,e=>aI (b:=chk C false .dk0 e) fun z=>by
  obtain⟨⟨ks,vs⟩,z0,z⟩:=ay z
  obtain⟨p,rfl⟩:=rQ z0
  obtain⟨z1,z2⟩:=ae z
  rw[List.isEmpty_iff]at z1 z2
  have z1:ks=[]:=z1
  have z2:vs=[]:=z2
  subst z1 z2
  exact⟨Dv,rfl⟩
 | .dt0,C,X,h,e=>aI (b:=chk C false .dt0 e) fun z=>by
  obtain⟨⟨ks,vs⟩,z0,z⟩:=ay z
  obtain⟨p,rfl⟩:=rQ z0
  obtain⟨z1,z2⟩:=ae z
  rw[List.isEmpty_iff]at z1 z2
  have z1:ks=[]:=z1
  have z2:vs=[]:=z2
  subst z1 z2
  exact⟨EI,rfl⟩
 | .chain3 _ _ _ _ _ _ _,C,X,h,e=>gZ rfl rfl
 | .slB _ _ _,C,X,h,e=>gZ rfl rfl
 | .index _ _,C,X,h,e=>gZ rfl rfl
 | .join _,C,X,h,e=>gZ rfl rfl
theorem j6{cl:RL.Cl}:∀ (es':RL.Es) {C:CC} {X:Cx} (h:XOk C X cl) (es:List Expr),m5 C es' es=true->SEs X cl es es'/\eJ es'=es.length/\es.all noStar=true
 | .nil,C,X,h,es,z=>by
  have z:es=[]:=List.isEmpty_iff.mp z
  subst z
  exact⟨cA,rfl,rfl⟩
 | .cons e' es',C,X,h,es,z=>by
  cases es with
  | nil=>cases z
  |cons e es=>
   obtain⟨z,z3⟩:=ae z
   obtain⟨z1,z2⟩:=ae z
   obtain⟨q1,q2,q3⟩:=j6 es' h es z3
   exact⟨bE ((ak e' h e).1 z2) q1 z1,by rw[eJ,q2,List.length_cons],by rw[List.all_cons,z1,q3];rfl⟩
theorem i4{cl:RL.Cl}:∀ (it:RL.It) {C:CC} {X:Cx} (h:XOk C X cl) (tg e:Expr),je C it tg e=true->SI X cl tg e it
 | .seq a,C,X,h,tg,e,z=>AN ((ak a h e).1 z)
 | .rng1 a,C,X,h,tg,e,z=>by
  rw[je]at z
  obtain⟨p,as,pos,rfl,b1,b2,z3,z4⟩:=bD h z
  obtain⟨y,rfl,z4⟩:=aO z4
  exact Ai b1 b2 ((ak a h y).1 z4) (all1 z3)
 | .rng2 a b,C,X,h,tg,e,z=>by
  rw[je]at z
  obtain⟨p,as,pos,rfl,b1,b2,z3,z4⟩:=bD h z
  obtain⟨y,u,rfl,z4⟩:=dO z4
  exact AQ b1 b2 ((ak a h y).1 (ae z4).1) ((ak b h u).1 (ae z4).2) (all2 z3).1 (all2 z3).2
 | .rng3 c a b,C,X,h,tg,e,z=>by
  rw[je]at z
  obtain⟨p,as,pos,rfl,b1,b2,z3,z4⟩:=bD h z
  obtain⟨y,u,q,rfl,z4⟩:=uU z4
  obtain⟨z4,z6⟩:=ae z4
  obtain⟨z4,z5⟩:=ae z4
  exact Bn b1 b2 ((ak a h y).1 z5) ((ak b h u).1 z6) (gG z3).1 (gG z3).2.1 z4
 | .chr _,C,X,h,tg,e,z=>by cases z
 | .enm a,C,X,h,tg,e,z=>by
  rw[je]at z
  obtain⟨z0,zz⟩:=ae z
  obtain⟨ts,z0⟩:=Option.isSome_iff_exists.mp z0
  obtain⟨k,tp,rfl⟩:=eV z0
  obtain⟨p,as,pos,rfl,b1,b2,z3,z4⟩:=bD h zz
  obtain⟨y,rfl,z4⟩:=aO z4
  exact Aq b1 b2 ((ak a h y).1 z4) (all1 z3)
 | .zip a b,C,X,h,tg,e,z=>by
  rw[je]at z
  obtain⟨z0,zz⟩:=ae z
  obtain⟨ts,z0⟩:=Option.isSome_iff_exists.mp z0
  obtain⟨k,tp,rfl⟩:=eV z0
  obtain⟨p,as,pos,rfl,b1,b2,z3,z4⟩:=bD h zz
  obtain⟨y,u,rfl,z4⟩:=dO z4
  exact E7 b1 b2 ((ak a h y).1 (ae z4).1) ((ak b h u).1 (ae z4).2) (all2 z3).1 (all2 z3).2
 | .nope,C,X,h,tg,e,z=>by cases z
end
noncomputable def iB:Expr->Bool
 | .ListComp _ _ _ _=>false
 | .SetComp _ _ _ _=>false
 | .DictComp _ _ _ _ _=>false
 | _=>true
noncomputable def xh:Expr->Bool
 | .Tuple _ _ _=>false
 | _=>true
noncomputable def y9(e:Expr):Bool:=match e with
 | .SetComp _ _ _ _=>false
 | .DictComp _ _ _ _ _=>false
 | _=>true
noncomputable def yr(C:CC)(x y:Str)(px py:Pos)(a b:Expr):Bool :=
 C.sc.kind == .function&&C.sc.names.lookup x == some .local&&C.sc.names.lookup y == some .local&&px.line == py.line && !(x == y)&&noStar a&&noStar b && !(foldedForSure 8 a&&foldedForSure 8 b) && !(constantsAlone 8 a&&constantsAlone 8 b)
noncomputable def sr(M:List Nat):RL.E->Bool
 | .var i=>M.contains i
 | _=>false
noncomputable def ug(C:CC):RL.Es->List Expr->Bool
 | .nil=>fun xs=>xs.isEmpty
 | .cons e es=>fun xs=>match xs with
  | x::xs=>noStar x&&chk C false e x&&ug C es xs
  | []=>false
noncomputable def zq:RL.Bop->Operator->Bool
 | .add,.Add=>true
 | .sub,.Sub=>true
 | _,_=>false
noncomputable def qY:Expr->Option (Str × Pos)
 | .Name x p=>some (x,p)
 | _=>none
theorem pz{e:Expr}{x:Str}{p:Pos}(h:qY e=some (x,p)):e=.Name x p:=by
 cases e
 case Name=>cases h;rfl
 all_goals exact nos h
noncomputable def mM(C:CC)(i:Nat)(nm:Str)(e:Expr)(f:List Expr->Bool):Bool:=(mr e).any fun q=>(zH q.1).any (fun a=>pK C i a.1&&a.2.1 == nm&&a.2.2.endLine == q.2.2.2.line)&&q.2.2.1.isEmpty&&f q.2.1
noncomputable def qo(C:CC)(M:List Nat)(f:Nat)(es:RL.Es)(ps ms:List Nat)(e:Expr):Bool:=(mr e).any fun q=>(gX q.1).any (fun x=>glB C x&&C.F[f]? == some (x,ps))&&q.2.2.1.isEmpty && !q.2.1.isEmpty && !ps.isEmpty&&ug C es q.2.1&&cq es ps ms&&ms.all (fun i=>M.contains i)&&decide ms.Nodup&&decide ps.Nodup
mutual
noncomputable def CY(C:CC)(M:List Nat):RL.S->Stmt->Bool
 | .asg i e'=>fun st=>(lO st).any fun q=>of1 q.1 fun t=>gS C i t && !M.contains i&&y9 q.2&&chk C false e' q.2
 | .own i e'=>fun st=>(lO st).any fun q=>of1 q.1 fun t=>gS C i t&&M.contains i&&decide (M.count i<2)&&y9 q.2&&chk C false e' q.2
 | .unp is e'=>fun st=>(lO st).any fun q=>of1 q.1 fun t=>(kf t).any fun ts=>kJ C is ts&&is.all (fun i=>!M.contains i)&&xh q.2&&chk C false e' q.2
 | .par i j a' b'=>fun st=>(lO st).any fun q=>of1 q.1 fun t=>(kf t).any fun ts=>of2 ts fun s u=>(qY s).any fun x=>(qY u).any fun y=>(kf q.2).any fun vs=>of2 vs fun a b=>nmB C i x.1&&nmB C j y.1 && !(i == j) && !M.contains i && !M.contains j&&yr C x.1 y.1 x.2 y.2 a b&&chk C false a' a&&chk C false b' b
 | .parO _ _ _ _=>fun _=>false
 | .app i e'=>fun st=>(uQ st).any fun e=>mM C i "append" e fun as=>of1 as fun y=>M.contains i&&noStar y&&chk C false e' y
 | .put i k' e'=>fun st=>(lO st).any fun q=>of1 q.1 fun t=>(oA t).any fun u=>pK C i u.1&&M.contains i&&lE u.2&&iB q.2&&chk C false k' u.2&&chk C false e' q.2
 | .pop i j=>fun st=>(lO st).any fun q=>of1 q.1 fun t=>gS C j t&&M.contains i && !M.contains j&&mM C i "pop" q.2 fun as=>as.isEmpty
 | .clr _=>fun _=>false
 | .aug i o e'=>fun st=>(Dw st).any fun q=>gS C i q.1 && !M.contains i&&zq o q.2.1&&chk C false e' q.2.2
 | .ife c' a' b'=>fun st=>(wIf st).any fun q=>chk C true c' q.1&&fY C M a' q.2.1&&fY C M b' q.2.2
 | .forr tg it b'=>fun st=>(BB st).any fun q=>q.2.2.2.isEmpty&&je C it q.1 q.2.1&&oH C tg q.1&&m6 q.2.1&&RL.uI M it&&tg.all (fun i=>!M.contains i)&&fY C M b' q.2.2.1
 | .mexc f es ps ms=>fun st=>(uQ st).any fun e=>qo C M f es ps ms e
 | .maug _ _ _ _ _=>fun _=>false
 | .ret e'=>fun st=>(C0 st).any fun o=>o.any fun e=>chk C false e' e
 | .exc e'=>fun st=>(uQ st).any fun e=>iB e&&chk C false e' e
 | .never=>fun _=>true
 | .put2 _ _ _ _ _=>fun _=>false
 | .ifp i e' a' b'=>fun st=>(wIf st).any fun q=>(lV q.1).any fun u=>of1 u.2.1 fun op=>of1 u.2.2 fun e=>op == .NotEq&&M.contains i&&chk C false e' e&&fY C M a' q.2.1&&fY C M b' q.2.2&&mM C i "pop" u.1 fun as=>as.isEmpty
 | .whil c' b'=>fun st=>(DR st).any fun q=>q.2.2.isEmpty&&chk C true c' q.1&&fY C M b' q.2.1
noncomputable def fY(C:CC)(M:List Nat):RL.Ss->List Stmt->Bool
 | .nil=>fun xs=>xs.isEmpty
 | .cons s r=>fun xs=>match xs with
  | x::xs=>CY C M s x&&fY C M r xs
  | []=>false
end
structure YOk(C:CC)(X:Cx)(cl:RL.Cl):Prop extends XOk C X cl where
 fn:∀ x,X.fn x=true
section
variable{C:CC}{X:Cx}{cl:RL.Cl}{M:List Nat}{st:Stmt}{e:Expr}{e' k':RL.E}{i:Nat}
theorem gw{t:Option Expr}{l:Nat}{env:Env}(h:iB e=true):swapsWith e t l env=pure false:=by
 cases e<;>first | rfl | (cases h;done)
theorem zS{t:Expr}{spos:Pos}(h:YOk C X cl)(hn:gS C i t=true)(ha:y9 e=true)(hc:chk C false e' e=true):SA X cl (.Assign [t] e spos) i e':=by
 obtain⟨y,py,rfl,hN,hl⟩:=gH h.toXOk hn
 have plain:swapsWith e (some (.Name y py)) spos.line X.env=pure false->SA X cl (.Assign [.Name y py] e spos) i e':=fun z =>
  xY h.ndX hN hl ((ak e' h.toXOk e).1 hc) (.inl (h.fn y)) z trivial
 by_cases hcomp:iB e=true
 ·exact plain (gw hcomp)
 ·have:∃ elt gens scope p,e=.ListComp elt gens scope p:=by
   cases e<;>first | exact absurd rfl hcomp | exact Bool.noConfusion ha | exact⟨_,_,_,_,rfl⟩
  obtain⟨elt,gens,scope,p,rfl⟩:=this
  have hsw:swapsWith (.ListComp elt gens scope p) (some (.Name y py)) spos.line X.env=pure (X.env.blockKind == .function&&X.env.kindOf y == some .local&&py.line == p.line && !(scope.names.any fun(n,k)=>n == y&&(k == .local || k == .cell))):=rfl
  by_cases hb:(X.env.blockKind == .function&&X.env.kindOf y == some .local&&py.line == p.line && !(scope.names.any fun(n,k)=>n == y&&(k == .local || k == .cell)))=true
  ·have hy:X.env.scope.names.lookup y=some .local:=by
    obtain⟨q,_⟩:=ae (ae hb).1
    have q2:=(ae q).2
    rw[beq_iff_eq]at q2
    exact q2
   rw[hb]at hsw
   by_cases hk:∃ d tg it c,e'=.comp d tg it c
   ·obtain⟨d,tg,it,c,rfl⟩:=hk
    obtain⟨⟨tgE,iter,ifs,asy⟩,y1,z⟩:=aO hc
    have y1:gens=[⟨tgE,iter,ifs,asy⟩]:=y1
    obtain⟨w,y2,z⟩:=aO z
    have y2:ifs=[w]:=y2
    obtain⟨z,z8⟩:=ae z
    obtain⟨z,z7⟩:=ae z
    obtain⟨z,z6⟩:=ae z
    obtain⟨z,z5⟩:=ae z
    obtain⟨z,z4⟩:=ae z
    obtain⟨z,z3⟩:=ae z
    obtain⟨z,z2⟩:=ae z
    obtain⟨z0,z1⟩:=ae z
    rw[beq_iff_eq]at z0
    have w0:asy=0:=z0
    subst y1 w0
    subst y2
    refine x9 h.calm h.ndX hN hy (by rw[h.scope];exact pM z1) (i4 it h.toXOk _ _ z6) ?_ (fE z3 _) hsw
    exact⟨fun cls Ca fp s H=>mG h.toXOk z5 z4,fun cls Ca fp s H pins s' σ H' Q I q=>oQ ((ak c (h.toXOk.blk cls Ca fp s H) _).2 z8).1 I q,fun cls Ca fp s H=>(ak d (h.toXOk.blk cls Ca fp s H) _).1 z7,fun i x hx hl=>jr z2 i x (by rw[<-h.names];exact hx) hl⟩
   ·by_cases hk2:∃ d tg it,e'=.compA d tg it
    ·obtain⟨d,tg,it,rfl⟩:=hk2
     obtain⟨⟨tgE,iter,ifs,asy⟩,y1,z⟩:=aO hc
     have y1:gens=[⟨tgE,iter,ifs,asy⟩]:=y1
     obtain⟨z,z7⟩:=ae z
     obtain⟨z,z6⟩:=ae z
     obtain⟨z,z5⟩:=ae z
     obtain⟨z,z4⟩:=ae z
     obtain⟨z,z3⟩:=ae z
     obtain⟨z,z2⟩:=ae z
     obtain⟨z,z1⟩:=ae z
     obtain⟨y2,z0⟩:=ae z
     rw[beq_iff_eq]at z0
     have w0:asy=0:=z0
     have w2:ifs=[]:=by rw[List.isEmpty_iff]at y2;exact y2
     subst y1 w0
     subst w2
     refine yH h.calm h.ndX hN hy (by rw[h.scope];exact pM z1) (i4 it h.toXOk _ _ z6) ?_ (fE z3 _) hsw
     exact⟨fun cls Ca fp s H=>mG h.toXOk z5 z4,fun cls Ca fp s H pins s' σ H' Q I q=>oY I q,fun cls Ca fp s H=>(ak d (h.toXOk.blk cls Ca fp s H) _).1 z7,fun i x hx hl=>jr z2 i x (by rw[<-h.names];exact hx) hl⟩
    ·cases e'<;>first | exact Bool.noConfusion hc | exact absurd ⟨_,_,_,_,rfl⟩ hk | exact absurd ⟨_,_,_,rfl⟩ hk2 | (rename_i b a;cases b<;>exact Bool.noConfusion hc)
  ·have hb':=Bool.not_eq_true _▸hb
   rw[hb']at hsw
   exact plain hsw
theorem rM(h:XOk C X cl):∀ {es':RL.Es} {es:List Expr},ug C es' es=true->PA X es (iS X.K cl es')/\es.all noStar=true
 | .nil,es,z=>by
  have z:es=[]:=List.isEmpty_iff.mp z
  subst z
  exact⟨dG,rfl⟩
 | .cons _ _,[],z=>by cases z
 | .cons e' es',e::es,z=>by
  obtain⟨z,z3⟩:=ae z
  obtain⟨z1,z2⟩:=ae z
  obtain⟨q1,q2⟩:=rM h z3
  refine⟨?_,by rw[List.all_cons,z1,q2];rfl⟩
  rw[iS]
  refine cb ?_ q1 (aA es z1)
  by_cases hv:∃ j,e'=.var j
  ·obtain⟨j,rfl⟩:=hv
   obtain⟨x,p,rfl,g1,g2,g3,g4⟩:=iy h z2
   exact gN g1 g2 g3 g4
  ·have ht:qS X.K cl e'=tE X.K cl e':=by
    cases e'<;>first | rfl | exact absurd ⟨_,rfl⟩ hv
   rw[ht]
   exact(ak _ h e).1 z2
theorem tG{is:List Nat}(h:is.all (fun i=>!M.contains i)=true):∀ i∈is,M.contains i=false:=fun i hi=>by
 rw[List.all_eq_true]at h
 simpa using h i hi
theorem EM{is:List Nat}(h:is.all (fun i=>M.contains i)=true):∀ i∈is,M.contains i=true:=fun i hi=>by
 rw[List.all_eq_true]at h
 exact h i hi
theorem iw{b:Bool}(h:(!b)=true):b=false:=by simpa using h
theorem yP{f:Nat}{ps ms:List Nat}{es:RL.Es}(h:XOk C X cl)(z:qo C M f es ps ms e=true):PE X e (pI (spM X.K cl ps f) [] E0 (iS X.K cl es))/\cq es ps ms=true/\(∀ i∈ms,M.contains i=true)/\ms.Nodup/\ps.Nodup/\iB e=true:=by
 unfold qo at z
 obtain⟨⟨g,as,ks,pos⟩,z0,z⟩:=ay z
 have e0:=jd z0
 obtain⟨z,z9⟩:=ae z
 obtain⟨z,z8⟩:=ae z
 obtain⟨z,z7⟩:=ae z
 obtain⟨z,z6⟩:=ae z
 obtain⟨z,z5⟩:=ae z
 obtain⟨z,z4⟩:=ae z
 obtain⟨z,z3⟩:=ae z
 obtain⟨z1,z2⟩:=ae z
 obtain⟨x,y0,z1⟩:=ay z1
 obtain⟨p,e1⟩:=dU y0
 have e1:g=.Name x p:=e1
 obtain⟨y1,y2⟩:=ae z1
 rw[beq_iff_eq]at y2
 have w2:ks=[]:=by rw[List.isEmpty_iff]at z2;exact z2
 rw[e1,w2]at e0
 subst e0
 refine⟨?_,z6,EM z7,by simpa using z8,by simpa using z9,rfl⟩
 obtain⟨k,fa,fd,pn,F,hr,hm,hk,hb⟩:=h.fns f x ps y2
 rw[if_neg (fun z=>by subst z;cases z4)]at F
 obtain⟨q1,q2⟩:=rM h z5
 obtain⟨g1,g2⟩:=h.gl y1
 cases as with
 | nil=>cases z3
 |cons y ys=>
  rw[List.all_cons]at q2
  exact sY F hr g1 hm hk hb .nil zW q1 (eN g2).1 (aA ys (ae q2).1) (d5 (ae q2).2)
theorem nL{nm:Str}{f:List Expr->Bool}(h:XOk C X cl)(z:mM C i nm e f=true):∃ x p apos as pos,e=.Call (.Attribute (.Name x p) nm apos) as [] pos/\X.N[i]?=some x/\Vis X.env.scope x/\(x == ("__debug__" : Str))=false/\(x == ("__classdict__" : Str))=false/\(apos.endLine == pos.line)=true/\f as=true:=by
 unfold mM at z
 obtain⟨⟨g,as,ks,pos⟩,z0,z⟩:=ay z
 have e0:=jd z0
 obtain⟨z,z3⟩:=ae z
 obtain⟨z1,z2⟩:=ae z
 obtain⟨⟨o,a,apos⟩,y0,z1⟩:=ay z1
 have e1:=xA y0
 have e1:g=.Attribute o a apos:=e1
 obtain⟨z1,y3⟩:=ae z1
 obtain⟨y1,y2⟩:=ae z1
 rw[beq_iff_eq]at y2
 have y2:a=nm:=y2
 have w2:ks=[]:=by rw[List.isEmpty_iff]at z2;exact z2
 obtain⟨x,p,e2,g1,g2,g3,g4⟩:=iy h y1
 have e2:o=.Name x p:=e2
 rw[e1,w2,y2,e2]at e0
 exact⟨x,p,apos,as,pos,e0,g1,g2,g3,g4,y3,z3⟩
theorem A7(h1:PS X st (nQ (tE X.K cl e') (xK (jw i) (tE X.K cl k') uL)))(h2:PS X st (tZ (jw i) (tE X.K cl k') (tE X.K cl e')))(hi:M.contains i=true):SS X cl M st (.put i k' e'):=by
 have a1:=E5 h1 hi trivial
 have a2:=A6 h2 hi
 intro pins s σ H D I h
 obtain⟨σD,o,σD',rv,e,k⟩:=h
 rw[RL.evS]at e
 obtain⟨d,e1,e⟩:=bind_some e
 obtain⟨kk,e2,e⟩:=bind_some e
 obtain⟨l,e3,e⟩:=bind_some e
 cases l with
 | lst ds=>exact a1 pins s σ H D I ⟨σD,o,σD',rv,by dsimp only;rw[e1];dsimp only[Option.bind_some];rw[e2];dsimp only[Option.bind_some];rw[e3];exact e,k⟩
 | _=>exact a2 pins s σ H D I ⟨σD,o,σD',rv,by dsimp only;rw[e1];dsimp only[Option.bind_some];rw[e2];dsimp only[Option.bind_some];rw[e3];exact e,k⟩
theorem tU{o k:Expr}{pos:Pos}{env:Env}(h:lE k=true)(v:Value):assign (.Subscript o k pos) env v=(do
   let ov <- holding [v] (eval o env)
   let iv <- holding [v,ov] (eval k env)
   standAt pos
   holding [v,ov,iv] (setItem ov iv v)
   release [v,ov,iv] []):=by
 cases k<;>first | rfl | (cases h;done)
theorem xf{us:List Expr}{kk:Nat}{tp:Pos}{env:Env}(h:xh e=true):swappedStores [.Tuple us kk tp] e env=pure none:=by
 cases e<;>first | rfl | (cases h;done)
theorem DN{x y:Str}{px py pt pt2:Pos}{kt k2:Nat}{a b:Expr}(h:XOk C X cl)(hp:yr C x y px py a b=true):swappedStores [.Tuple [.Name x px,.Name y py] kt pt] (.Tuple [a,b] k2 pt2) X.env=pure (some [x,y]) /\
  X.env.scope.names.lookup x=some .local/\X.env.scope.names.lookup y=some .local/\noStar a=true/\noStar b=true:=by
 unfold yr at hp
 obtain⟨hp,h9⟩:=ae hp
 obtain⟨hp,h8⟩:=ae hp
 obtain⟨hp,h7⟩:=ae hp
 obtain⟨hp,h6⟩:=ae hp
 obtain⟨hp,h5⟩:=ae hp
 obtain⟨hp,h4⟩:=ae hp
 obtain⟨hp,h3⟩:=ae hp
 obtain⟨h1,h2⟩:=ae hp
 rw[beq_iff_eq]at h1 h2 h3 h4
 rw[<-h.scope]at h1 h2 h3
 refine⟨?_,h2,h3,h6,h7⟩
 have bk:X.env.blockKind=.function:=by
  unfold Env.blockKind
  rw[h1]
  rfl
 have k1:X.env.kindOf x=some .local:=h2
 have k2:X.env.kindOf y=some .local:=h3
 have hxy:x≠y:=by simpa using h5
 have fs':foldedForSure 8 a=true->foldedForSure 8 b=false:=fun z=>by simpa[z]using h8
 have ca':constantsAlone 8 a=true->constantsAlone 8 b=false:=fun z=>by simpa[z]using h9
 have ed:[x,y].eraseDups=[x,y]:=by
  rw[List.eraseDups_cons]
  simp[Ne.symm hxy]
  rfl
 unfold swappedStores
 simp only[bk]
 simp[show ∀ (x:Str) (p:Pos),(Expr.Name x p).pos=p from fun _ _=>rfl,k1,k2,h4,ed]
 refine(if_neg ?_).trans ((if_neg ?_).trans (if_neg ?_))
 ·intro hh
  rcases hh with hh | hh
  ·cases a<;>first | exact Bool.noConfusion (show false=true from hh) | exact Bool.noConfusion (show false=true from h6)
  ·cases b<;>first | exact Bool.noConfusion (show false=true from hh) | exact Bool.noConfusion (show false=true from h7)
 ·intro hh
  have:=fs' hh.1
  rw[hh.2]at this
  cases this
 ·intro hh
  have:=ca' hh.1
  rw[hh.2]at this
  cases this
end
section
variable{X:Cx}{cl:RL.Cl}
mutual
theorem Ag:∀ (s:RL.S) {C:CC} {M:List Nat} (h:YOk C X cl) (st:Stmt),CY C M s st=true->SS X cl M st s
 | .asg i e',C,M,h,st,z=>by
  obtain⟨⟨ts,e⟩,z0,z⟩:=ay z
  obtain⟨p,rfl⟩:=gp z0
  obtain⟨t,y1,z⟩:=aO z
  have y1:ts=[t]:=y1
  obtain⟨z,z4⟩:=ae z
  obtain⟨z,z3⟩:=ae z
  obtain⟨z1,z2⟩:=ae z
  subst y1
  exact Dj (zS h z1 z3 z4) (iw z2)
 | .own i e',C,M,h,st,z=>by
  obtain⟨⟨ts,e⟩,z0,z⟩:=ay z
  obtain⟨p,rfl⟩:=gp z0
  obtain⟨t,y1,z⟩:=aO z
  have y1:ts=[t]:=y1
  obtain⟨z,z5⟩:=ae z
  obtain⟨z,z4⟩:=ae z
  obtain⟨z,z3⟩:=ae z
  obtain⟨z1,z2⟩:=ae z
  subst y1
  exact Ek (zS h z1 z4 z5) z2 (by simpa using z3)
 | .unp is e',C,M,h,st,z=>by
  obtain⟨⟨ts,e⟩,z0,z⟩:=ay z
  obtain⟨p,rfl⟩:=gp z0
  obtain⟨t,y1,z⟩:=aO z
  have y1:ts=[t]:=y1
  obtain⟨us,y2,z⟩:=ay z
  obtain⟨k,tp,rfl⟩:=eV y2
  obtain⟨z,z4⟩:=ae z
  obtain⟨z,z3⟩:=ae z
  obtain⟨z1,z2⟩:=ae z
  subst y1
  obtain⟨g1,g2,g3⟩:=n0 h.toXOk (T:=is) (fun i x _ _=>.inl (h.fn x)) (fun _ h=>h) z1
  refine An (vd ((ak e' h.toXOk e).1 z4) (v5 (xo h.calm g1 g2 g3) (xq h.calm g1 g2 g3)) ?_ (xf z3)) (tG z2)
  cases e<;>rfl
 | .par i j a' b',C,M,h,st,z=>by
  obtain⟨⟨ts,e⟩,z0,z⟩:=ay z
  obtain⟨p,rfl⟩:=gp z0
  obtain⟨t,y1,z⟩:=aO z
  have y1:ts=[t]:=y1
  obtain⟨us,y2,z⟩:=ay z
  obtain⟨k,tp,e2⟩:=eV y2
  obtain⟨s1,s2,y3,z⟩:=dO z
  obtain⟨⟨x,px⟩,y4,z⟩:=ay z
  obtain⟨⟨y,py⟩,y5,z⟩:=ay z
  obtain⟨vs,y6,z⟩:=ay z
  obtain⟨k',tp',e6⟩:=eV y6
  have e6:e=.Tuple vs k' tp':=e6
  obtain⟨a,b,y7,w⟩:=dO z
  rw[pz y4,pz y5]at y3
  rw[y3]at e2
  have e7:e=.Tuple [a,b] k' tp':=by rw[<-y7];exact e6
  rw[e2]at y1
  subst y1 e7
  obtain⟨w,z8⟩:=ae w
  obtain⟨w,z7⟩:=ae w
  obtain⟨w,z6⟩:=ae w
  obtain⟨w,z5⟩:=ae w
  obtain⟨w,z4⟩:=ae w
  obtain⟨w,z3⟩:=ae w
  obtain⟨z1,z2⟩:=ae w
  obtain⟨g1,g2,g3,g4,g5⟩:=DN h.toXOk z6
  exact Ei (DS h.calm h.ndX (h.nm z1).1 (h.nm z2).1 (by simpa using z3) g2 g3 (bE (cl:=cl) ((ak a' h.toXOk a).1 z7) (bE ((ak b' h.toXOk b).1 z8) cA g5) g4) g1) (iw z4) (iw z5)
 | .parO _ _ _ _,C,M,h,st,z=>by cases z
 | .app i e',C,M,h,st,z=>by
  obtain⟨e,z0,z8⟩:=ay z
  obtain⟨p0,rfl⟩:=nE z0
  obtain⟨x,p,apos,as,pos,rfl,g1,g2,g3,g4,z6,z7⟩:=nL h.toXOk z8
  obtain⟨y,rfl,z9⟩:=aO z7
  obtain⟨z9,z7⟩:=ae z9
  obtain⟨z4,z5⟩:=ae z9
  refine E2 (nB (F5 PySem.F.plainAttrs_list PySem.F.slot_list_append PySem.F.type_list_append oU (gN g1 g2 g3 g4) (bE (cl:=cl) ((ak e' h.toXOk y).1 z7) cA z5) rfl ?_ z6 (aA [] z5) rfl)) z4
  rw[aA [] z5]
  rfl
 | .put i k' e',C,M,h,st,z=>by
  obtain⟨⟨ts,e⟩,z0,z⟩:=ay z
  obtain⟨p,rfl⟩:=gp z0
  obtain⟨t,y1,z⟩:=aO z
  have y1:ts=[t]:=y1
  obtain⟨⟨o,k⟩,y2,z⟩:=ay z
  obtain⟨sp,e2⟩:=iK y2
  obtain⟨z,z7⟩:=ae z
  obtain⟨z,z6⟩:=ae z
  obtain⟨z,z5⟩:=ae z
  obtain⟨z,z4⟩:=ae z
  obtain⟨z1,z3⟩:=ae z
  obtain⟨x,px,e3,g1,g2,g3,g4⟩:=iy h.toXOk z1
  have e3:o=.Name x px:=e3
  rw[e3]at e2
  rw[e2]at y1
  subst y1
  have pv:=fun pos=>gN (X:=X) (pos:=pos) g1 g2 g3 g4
  refine A7 (vd ((ak e' h.toXOk e).1 z7) (Cw (pv _) ((ak k' h.toXOk k).1 z6) set_list (tU z4)) ?_ ?_) (AV (Nat.lt_of_le_of_lt (by lia) h.hu) (pv _) ((ak k' h.toXOk k).1 z6) ((ak e' h.toXOk e).1 z7) (gw z5)) z3
  ·unfold swapsWithSole
   exact gw z5
  ·rfl
 | .pop i j,C,M,h,st,z=>by
  obtain⟨⟨ts,e⟩,z0,z⟩:=ay z
  obtain⟨p,rfl⟩:=gp z0
  obtain⟨t,y1,z⟩:=aO z
  have y1:ts=[t]:=y1
  obtain⟨z,z4⟩:=ae z
  obtain⟨z,z3⟩:=ae z
  obtain⟨z1,z2⟩:=ae z
  obtain⟨y,py,rfl,l1,l2⟩:=gH h.toXOk z1
  obtain⟨x,px,apos,as,pos,e2,g1,g2,g3,g4,z6,z5⟩:=nL h.toXOk z4
  have e2:e=.Call (.Attribute (.Name x px) "pop" apos) as [] pos:=e2
  have z5:as=[]:=List.isEmpty_iff.mp z5
  subst y1 z5 e2
  exact BC (xb h.ndX l1 l2 (uR PySem.F.plainAttrs_list PySem.F.slot_list_pop PySem.F.type_list_pop vQ (gN g1 g2 g3 g4) rfl z6) rfl (.inl (h.fn _))) z2 (iw z3)
 | .clr _,C,M,h,st,z=>by cases z
 | .aug i o e',C,M,h,st,z=>by
  obtain⟨⟨t,op,e⟩,z0,z⟩:=ay z
  obtain⟨p,rfl⟩:=Bx z0
  obtain⟨z,z4⟩:=ae z
  obtain⟨z,z3⟩:=ae z
  obtain⟨z1,z2⟩:=ae z
  obtain⟨x,px,e1,l1,l2⟩:=gH h.toXOk z1
  have e1:t=.Name x px:=e1
  subst e1
  have z3:zq o op=true:=z3
  have z4:chk C false e' e=true:=z4
  clear z0 z1 z
  cases o<;>cases op<;>first | (cases z3;done) | skip
  ·exact xm (f:=fun a b=>a+b) (fun a b=>rfl) (wV h.ndX l1 l2 ((ak e' h.toXOk e).1 z4) C2 (.inl (h.fn x))) (iw z2)
  ·exact xm (f:=fun a b=>a-b) (fun a b=>rfl) (wV h.ndX l1 l2 ((ak e' h.toXOk e).1 z4) Em (.inl (h.fn x))) (iw z2)
 | .ife c' a' b',C,M,h,st,z=>by
  obtain⟨⟨c,a,b⟩,z0,z⟩:=ay z
  obtain⟨p,rfl⟩:=v8 z0
  obtain⟨z,z3⟩:=ae z
  obtain⟨z1,z2⟩:=ae z
  exact Fs ((ak c' h.toXOk c).2 z1).1 (d7 a' h a z2) (d7 b' h b z3)
 | .forr tg it b',C,M,h,st,z=>by
  obtain⟨⟨t,it',b,o⟩,z0,z⟩:=ay z
  obtain⟨p,rfl⟩:=Br z0
  obtain⟨z,z7⟩:=ae z
  obtain⟨z,z6⟩:=ae z
  obtain⟨z,z5⟩:=ae z
  obtain⟨z,z4⟩:=ae z
  obtain⟨z,z3⟩:=ae z
  obtain⟨z1,z2⟩:=ae z
  have z1:o=[]:=List.isEmpty_iff.mp z1
  subst z1
  exact B8 h.xe h.calm (i4 it h.toXOk t it' z2) (wZ h.toXOk (fun i x _ _=>.inl (h.fn x)) z3) (d7 b' h b z7) (fE z4 _) z5 (tG z6)
 | .mexc f es ps ms,C,M,h,st,z=>by
  obtain⟨e,z0,z⟩:=ay z
  obtain⟨p0,rfl⟩:=nE z0
  obtain⟨g1,g2,g3,g4,g5,g6⟩:=yP h.toXOk z
  exact Bv (nB g1 (gw g6)) g2 g3 g4 g5
 | .maug _ _ _ _ _,C,M,h,st,z=>by cases z
 | .ret e',C,M,h,st,z=>by
  obtain⟨o,z0,z⟩:=ay z
  obtain⟨p,rfl⟩:=Aa z0
  obtain⟨e,rfl,zz⟩:=ay z
  by_cases hv:sr M e'=true
  ·have:∃ i,e'=.var i:=by
    cases e'<;>first | exact⟨_,rfl⟩ | exact Bool.noConfusion hv
   obtain⟨i,rfl⟩:=this
   obtain⟨x,q,rfl,g1,g2,g3,g4⟩:=iy h.toXOk zz
   exact AA g1 g2 g3 g4 hv
  ·exact DI ((ak e' h.toXOk e).1 zz) fun i hi=>by
    subst hi
    simpa[sr]using hv
 | .exc e',C,M,h,st,z=>by
  obtain⟨e,z0,z⟩:=ay z
  obtain⟨p0,rfl⟩:=nE z0
  obtain⟨z1,z2⟩:=ae z
  exact CU (nB ((ak e' h.toXOk e).1 z2) (gw z1))
 | .never,C,M,h,st,z=>xQ
 | .put2 _ _ _ _ _,C,M,h,st,z=>by cases z
 | .ifp i e' a' b',C,M,h,st,z=>by
  obtain⟨⟨c,a,b⟩,z0,z⟩:=ay z
  obtain⟨p,rfl⟩:=v8 z0
  obtain⟨⟨l,os,rs⟩,z0,z⟩:=ay z
  obtain⟨cp,ec⟩:=gn z0
  have ec:c=.Compare l os rs cp:=ec
  obtain⟨op,y1,z⟩:=aO z
  obtain⟨e,y2,z⟩:=aO z
  have y1:os=[op]:=y1
  have y2:rs=[e]:=y2
  obtain⟨z,z6⟩:=ae z
  obtain⟨z,z5⟩:=ae z
  obtain⟨z,z4⟩:=ae z
  obtain⟨z,z3⟩:=ae z
  obtain⟨z1,z2⟩:=ae z
  rw[beq_iff_eq]at z1
  obtain⟨x,px,apos,as,pos,e2,g1,g2,g3,g4,z7,z8⟩:=nL h.toXOk z6
  have e2:l=.Call (.Attribute (.Name x px) "pop" apos) as [] pos:=e2
  have z8:as=[]:=List.isEmpty_iff.mp z8
  rw[z8]at e2
  rw[y1,y2,z1,e2]at ec
  subst ec
  exact BI (uR PySem.F.plainAttrs_list PySem.F.slot_list_pop PySem.F.type_list_pop vQ (gN g1 g2 g3 g4) rfl z7) ((ak e' h.toXOk e).1 z3) (d7 a' h a z4) (d7 b' h b z5) z2
 | .whil c' b',C,M,h,st,z=>by
  obtain⟨⟨c,b,o⟩,z0,z⟩:=ay z
  obtain⟨p,rfl⟩:=A1 z0
  obtain⟨z,z3⟩:=ae z
  obtain⟨z1,z2⟩:=ae z
  have z1:o=[]:=List.isEmpty_iff.mp z1
  subst z1
  exact yw h.xe ((ak c' h.toXOk c).2 z2).1 (d7 b' h b z3)
theorem d7:∀ (s:RL.Ss) {C:CC} {M:List Nat} (h:YOk C X cl) (st:List Stmt),fY C M s st=true->SSs X cl M st s
 | .nil,C,M,h,st,z=>by
  have z:st=[]:=List.isEmpty_iff.mp z
  subst z
  exact Bz
 | .cons s r,C,M,h,st,z=>by
  cases st with
  | nil=>cases z
  |cons x xs=>
   obtain⟨z1,z2⟩:=ae z
   exact yD (Ag s h x z1) (d7 r h xs z2)
end
end
structure nC where
 name:Str
 st:Stmt
 ps:List Str
 N:List Str
structure PT' where
 B:List Str
 G:List (Str × Int)
 Ds:List nC
 T:List RL.Fn
noncomputable def PT'.F(p:PT'):List (Str × List Nat):=(p.Ds.zip p.T).map fun q=>(q.1.name,q.2.mp)
noncomputable def PT'.cc(p:PT')(d:nC):CC:=⟨d.N,c8 d.st,p.B,p.G,p.F⟩
noncomputable def qM(N ps:List Str)(sc:Scope):Bool :=
 sc.kind == .function && !sc.isCoroutine && !sc.isGenerator&&decide N.Nodup&&N.take ps.length == ps&&ps.all (fun x=>sc.names.lookup x == some .local || sc.names.lookup x == some .cell)&&sc.names.all (fun y=>!(y.2 == .free))
noncomputable def fnB(p:PT')(d:nC)(fn:RL.Fn):Bool :=
 qM d.N d.ps (c8 d.st)&&fn.ps == d.ps.length&&fn.nn == d.N.length&&decide (d.ps.length<=d.N.length)&&(List.range fn.ps).all (fun i=>!fn.M.contains i || fn.mp.contains i)&&fn.mp.all (fun i=>decide (i<fn.ps)&&decide (2<=fn.M.count i))&&fY (p.cc d) fn.M fn.body (eX d.st)
noncomputable def PT'.ok(p:PT'):Bool:=p.Ds.length == p.T.length&&(p.Ds.zip p.T).all fun q=>fnB p q.1 q.2
theorem xF{N ps:List Str}{sc:Scope}(h:qM N ps sc=true):kE N ps sc:=by
 unfold qM at h
 obtain⟨h,h7⟩:=ae h
 obtain⟨h,h6⟩:=ae h
 obtain⟨h,h5⟩:=ae h
 obtain⟨h,h4⟩:=ae h
 obtain⟨h,h3⟩:=ae h
 obtain⟨h1,h2⟩:=ae h
 refine⟨by simpa using h1,by simpa using h2,by simpa using h3,by simpa using h4,by simpa using h5,fun x hx=>?_,fun y hy=>?_⟩
 ·rw[List.all_eq_true]at h6
  have:=h6 x hx
  rw[Bool.or_eq_true,beq_iff_eq,beq_iff_eq]at this
  exact this
 ·rw[List.all_eq_true]at h7
  have:=h7 y hy
  intro z
  rw[z]at this
  simp at this
structure zX(p:PT')(K:PySem.W.Frag)(mg:Str->Option Value):Prop where
 defs:∀ (f:Nat) (d:nC),p.Ds[f]?=some d->∃ fa fd,mg d.name=some (.ref fa)/\Fun K d.name d.name d.st fa fd/\PySem.W.keepIn K (.ref fa)=true/\Binds K fd d.ps []
 blt:∀ x∈p.B,mg x=none
 glb:∀ x i,p.G.lookup x=some i->∃ u,mg x=some u/\RelV (.int i) u
section
variable{p:PT'}{K:PySem.W.Frag}{mg:Str->Option Value}{base:Heap}{P:Program}{w:World}
noncomputable def pZ(K:PySem.W.Frag)(cl:RL.Cl)(mp:List Nat)(f:Nat):Sp:=if mp=[]then spF K cl f else spM K cl mp f
theorem bz{α:Type}(vs:List α)(k:Nat)(i:Nat)(v:α):(vs.map some++List.replicate k none)[i]?=some (some v)↔vs[i]?=some v:=by
 by_cases h:i<vs.length
 ·rw[List.getElem?_append_left (by simpa using h)]
  simp[h]
 ·rw[List.getElem?_append_right (by simpa using h)]
  constructor
  ·intro e
   rw[List.getElem?_replicate]at e
   split at e<;>cases e
  ·intro e
   have:=(List.getElem?_eq_some_iff.mp e).1
   lia
theorem AM{ds:List RL.D}{vs:List V}{H:Hp}{M:List Nat}{k n:Nat}(r:ab nP K H ds vs)(hM:∀ i,i<n->M.contains i=false)(hn:ds.length=n):RVm K M (ds.map some++List.replicate k none) (vs.map some++List.replicate k none) H:=by
 have nA:∀ a,¬ bF M (vs.map some++List.replicate k none) a:=fun a ⟨i,hi,e⟩=>by
  rw[bz]at e
  have:=(List.getElem?_eq_some_iff.mp e).1
  rw[hM i (by rw[<-hn,r.length];exact this)]at hi
  cases hi
 refine⟨by simp[r.length],fun i d e=>?_,fun i v e=>?_,fun i j a hi hj e1 e2=>(nA a ⟨i,hi,e1⟩).elim⟩
 ·rw[bz]at e
  obtain⟨v,h1,h2⟩:=r.get e
  have hl:=(List.getElem?_eq_some_iff.mp e).1
  refine⟨v,(bz _ _ _ _).mpr h1,?_⟩
  rw[if_neg (by rw[hM i (by lia)];decide)]
  exact h2.weak fun a ha=>nA a ha
 ·rw[bz]at e
  have hl:=(List.getElem?_eq_some_iff.mp e).1
  exact⟨ds[i]'(by rw[r.length];exact hl),(bz _ _ _ _).mpr (by simp)⟩
theorem A9{ds:List RL.D}{vs:List V}{H:Hp}{M mp:List Nat}{k n:Nat}(a:Cs K mp ds vs H)(hM:∀ i,i<n->M.contains i=true->i∈mp)(hp:∀ i∈mp,M.contains i=true)(hn:ds.length=n):RVm K M (ds.map some++List.replicate k none) (vs.map some++List.replicate k none) H:=by
 have r:=a.jV
 have inM:∀ i v,(vs.map some++List.replicate k none)[i]?=some (some v)->M.contains i=true->i∈mp/\vs[i]?=some v:=fun i v e hi=>by
  rw[bz]at e
  have:=(List.getElem?_eq_some_iff.mp e).1
  exact⟨hM i (by rw[<-hn,r.length];exact this) hi,e⟩
 refine⟨by simp[r.length],fun i d e=>?_,fun i v e=>?_,fun i j b hi hj e1 e2=>?_⟩
 ·rw[bz]at e
  obtain⟨v,h1,h2⟩:=r.get e
  have hl:=(List.getElem?_eq_some_iff.mp e).1
  refine⟨v,(bz _ _ _ _).mpr h1,?_⟩
  by_cases hm:M.contains i=true
  ·rw[if_pos hm]
   obtain⟨d',b,g1,g2,g3⟩:=a.own i (hM i (by lia) hm)
   rw[e]at g1
   cases g1
   rw[h1]at g2
   cases g2
   exact g3
  ·rw[if_neg hm]
   refine(a.oth i d v (fun z=>hm (hp i z)) e h1).weak fun b ⟨j,hj,ej⟩=>?_
   obtain⟨q1,q2⟩:=inM j _ ej hj
   exact⟨j,q1,q2⟩
 ·rw[bz]at e
  have hl:=(List.getElem?_eq_some_iff.mp e).1
  exact⟨ds[i]'(by rw[r.length];exact hl),(bz _ _ _ _).mpr (by simp)⟩
 ·obtain⟨q1,q2⟩:=inM i _ e1 hi
  obtain⟨q3,q4⟩:=inM j _ e2 hj
  exact a.sep i q1 j q3 b q2 q4
theorem rO{σ:RL.St}:∀ {mp:List Nat} {outs:List RL.D},RL.fC σ mp=some outs->outs.length=mp.length/\∀ (k i:Nat) o,mp[k]?=some i->outs[k]?=some o->σ[i]?=some (some o)
 | [],outs,h=>by
  rw[RL.fC]at h
  cases h
  exact⟨rfl,fun k i o e=>by simp at e⟩
 | m::mp,outs,h=>by
  rw[RL.fC]at h
  obtain⟨d,h1,h⟩:=bind_some h
  obtain⟨os,h2,h3⟩:=map_some h
  subst h3
  obtain⟨g1,g2⟩:=rO h2
  refine⟨by simp[g1],fun k i o e1 e2=>?_⟩
  cases k with
  |zero=>
   simp at e1 e2
   subst e1 e2
   exact slot_get h1
  | succ k=>exact g2 k i o (by simpa using e1) (by simpa using e2)
theorem wM{fn:RL.Fn}{d r:RL.D}{σ:RL.St}(h:RL.aT fn d σ=some r)(hm:fn.mp=[]):r=d:=by
 unfold RL.aT at h
 rw[hm]at h
 simpa using h.symm
theorem BV{fn:RL.Fn}{d r:RL.D}{σ:RL.St}(h:RL.aT fn d σ=some r)(hm:fn.mp≠[]):d.imm=true/\∃ outs,RL.fC σ fn.mp=some outs/\r=.tup (d::outs):=by
 unfold RL.aT at h
 rw[if_neg (by simpa using hm)]at h
 split at h
 ·rename_i im
  obtain⟨os,h1,h2⟩:=map_some h
  exact⟨im,os,h1,h2.symm⟩
 ·cases h
theorem uS(hok:p.ok=true)(tp:zX p K mg):∀ (n f:Nat) (d:nC) (fn:RL.Fn),p.Ds[f]?=some d->p.T[f]?=some fn->∀ fa fd,Fun K d.name d.name d.st fa fd->ij P w K mg base CX0 n fa fd d.ps (pZ K (RL.aq p.T n) fn.mp f)
 | 0,f,d,fn,hd,hf,fa,fd,F=>by
  have no:∀ vs H Q E,¬ pZ K (RL.aq p.T 0) fn.mp f vs H Q E:=fun vs H Q E h=>by
   unfold pZ at h
   split at h
   ·obtain⟨ds,r,_,e,_⟩:=h
    cases e
   ·obtain⟨ds,r,o,e,_⟩:=h
    cases e
  exact⟨fun vs H Q E h=>(no vs H Q E h).elim,fun A outer s H args us vs Q E _ _ _ _ h=>(no vs H Q E h).elim⟩
 | n+1,f,d,fn,hd,hf,fa,fd,F=>by
  have hok':=hok
  unfold PT'.ok at hok'
  obtain⟨hl,hall⟩:=ae hok'
  rw[beq_iff_eq]at hl
  rw[List.all_eq_true]at hall
  have hz:(p.Ds.zip p.T)[f]?=some (d,fn):=by
   rw[List.getElem?_zip_eq_some]
   exact⟨hd,hf⟩
  have hB:=hall (d,fn) (List.mem_of_getElem? hz)
  unfold fnB at hB
  dsimp only at hB
  obtain⟨hB,b7⟩:=ae hB
  obtain⟨hB,b6⟩:=ae hB
  obtain⟨hB,b5⟩:=ae hB
  obtain⟨hB,b4⟩:=ae hB
  obtain⟨hB,b3⟩:=ae hB
  obtain⟨b1,b2⟩:=ae hB
  rw[beq_iff_eq]at b2 b3
  rw[decide_eq_true_eq]at b4
  rw[List.all_eq_true]at b5 b6
  have S:=xF b1
  have hM:∀ i,i<fn.ps->fn.M.contains i=true->i∈fn.mp:=fun i hi hm=>by
   have:=b5 i (List.mem_range.mpr hi)
   rw[hm]at this
   simpa using this
  have hp2:∀ i∈fn.mp,i<fn.ps/\2<=fn.M.count i:=fun i hi=>by simpa using b6 i hi
  have unf:∀ ds r,RL.aq p.T (n+1) f ds=some r->ds.length=fn.ps/\∃ o σ',RL.ah (RL.aq p.T n) fn.M fn.body (ds.map some++List.replicate (fn.nn-fn.ps) none)=some (o,σ')/\(match o with | .nx=>RL.aT fn .non σ' | .rt d=>RL.aT fn d σ')=some r:=by
   intro ds r h
   rw[RL.aq,hf]at h
   dsimp only[Option.bind_some]at h
   split at h
   ·rename_i hlen
    obtain⟨⟨o,σ'⟩,h1,h2⟩:=bind_some h
    exact⟨hlen,o,σ',h1,h2⟩
   ·cases h
  refine Fun.ok F S (fun vs H Q E h=>?_) fun cdv A outer s H vs Q E hr h=>?_
  ·unfold pZ at h
   split at h
   ·obtain⟨ds,r,r1,e,_⟩:=h
    rw[<-r1.length,(unf ds r e).1,b2]
   ·obtain⟨ds,r,o,e,a,_⟩:=h
    rw[<-a.jV.length,(unf ds _ e).1,b2]
  ·-- the body's context
   have Y:YOk (p.cc d) (lD CX0 P w K mg base d.N d.name (c8 d.st) fa cdv A outer s H E).nox (RL.aq p.T n):={
    scope:=rfl
    names:=rfl
    nd:=S.nd
    calm:=rfl
    xe:=rfl
    hu:=by
     have:=hr.un
     show(A.deeper _).units+100<cLine
     lia
    blt:=tp.blt
    glb:=tp.glb
    fns:=fun g x mp hg=>by
     have hg':p.F[g]?=some (x,mp):=hg
     unfold PT'.F at hg'
     rw[List.getElem?_map]at hg'
     obtain⟨⟨d',fn'⟩,q1,q2⟩:=map_some hg'
     cases q2
     rw[List.getElem?_zip_eq_some]at q1
     obtain⟨fa',fd',t1,t2,t3,t4⟩:=tp.defs g d' q1.1
     exact⟨n,fa',fd',d'.ps,uS hok tp n g d' fn' q1.1 q1.2 fa' fd' t2,hr,t1,t3,t4⟩
    fn:=fun _=>rfl }
   have body:=d7 fn.body Y (M:=fn.M) _ b7
   refine⟨_,body,?_⟩
   have hst:start d.N vs=vs.map some++List.replicate (d.N.length-vs.length) none:=rfl
   unfold pZ at h
   split at h
   ·rename_i hmp
    obtain⟨ds,r,r1,e,k⟩:=h
    obtain⟨hlen,o,σ',e1,e2⟩:=unf ds r e
    have hvl:vs.length=fn.ps:=by rw[<-r1.length];exact hlen
    refine⟨_,o,σ',?_,e1,?_⟩
    ·rw[hst,hvl,<-b3]
     exact AM r1 (fun i hi=>by
      cases hc:fn.M.contains i with
      | false=>rfl
      |true=>
       have:=hM i hi hc
       rw[hmp]at this
       cases this) hlen
    ·have noA:∀ a,¬ bF fn.M (start d.N vs) a:=fun a ⟨i,hi,ei⟩=>by
      rw[hst,bz]at ei
      have h3:=(List.getElem?_eq_some_iff.mp ei).1
      have:=hM i (by lia) hi
      rw[hmp]at this
      cases this
     cases o with
     |nx=>
      have hr':=wM (d:=.non) e2 hmp
      subst hr'
      intro σ1 H1 rv1 fr1
      refine k .non H1 (fun b u eb=>(fr1.1 b u eb (noA b)).1) (by rw[Rep])
     |rt d0=>
      have hr':=wM (d:=d0) e2 hmp
      subst hr'
      intro σ1 H1 v H' rv1 fr1 sm rp
      refine k v H' (fun b u eb=>sm _ _ (fr1.1 b u eb (noA b)).1) (rp _ fun q hq=>?_)
      obtain⟨u,hu⟩:=Option.ne_none_iff_exists'.mp hq
      have:=fr1.1 q u hu (noA q)
      exact⟨(by rw[this.1];exact fun z=>nomatch z),this.2⟩
   ·rename_i hmp
    obtain⟨ds,r,outs,e,a,k⟩:=h
    obtain⟨hlen,o,σ',e1,e2⟩:=unf ds _ e
    have hvl:vs.length=fn.ps:=by rw[<-a.jV.length];exact hlen
    refine⟨_,o,σ',?_,e1,?_⟩
    ·rw[hst,hvl,<-b3]
     exact A9 a hM (fun i hi=>kH (hp2 i hi).2) hlen
    ·-- the lists behind it
     have fin:∀ (d0:RL.D) (σ1:L2.St) (H1 H':Hp) (v:V),RL.aT fn d0 σ'=some (.tup (r::outs))->RVm K fn.M σ' σ1 H1->Fr' fn.M (start d.N vs) H σ1 H1->a6 H1 H'->(d0.imm=true->Rep nP K H' d0 v)->Q v H':=by
      intro d0 σ1 H1 H' v ht rv1 fr1 sm rp
      obtain⟨im,os,g1,g2⟩:=BV ht hmp
      cases g2
      obtain⟨l1,l2⟩:=rO g1
      refine k v H' (fun b u nb eb=>sm _ _ (fr1.1 b u eb fun⟨i,hi,ei⟩=>?_).1) (rp im) im ⟨l1,fun kk pp oo hk ho=>?_⟩
      ·rw[hst,bz]at ei
       have h3:=(List.getElem?_eq_some_iff.mp ei).1
       exact nb ⟨i,hM i (by lia) hi,ei⟩
      ·have hpm:=List.mem_of_getElem? hk
       obtain⟨dp,ap,g3,g4,g5⟩:=a.own pp hpm
       have g6:=fr1.2 pp (hp2 pp hpm).2
       have g7:(start d.N vs)[pp]?=some (some (.ref ap)):=by rw[hst,bz];exact g4
       rw[g7]at g6
       obtain⟨v',g8,g9⟩:=rv1.val pp oo (l2 kk pp oo hk ho)
       rw[g6]at g8
       cases g8
       rw[if_pos (kH (hp2 pp hpm).2)]at g9
       exact⟨ap,g4,g9.same sm⟩
     cases o with
     |nx=>
      intro σ1 H1 rv1 fr1
      exact fin .non σ1 H1 H1 .non e2 rv1 fr1 (a6.refl _) fun _=>by rw[Rep]
     |rt d0=>
      intro σ1 H1 v H' rv1 fr1 sm rp
      exact fin d0 σ1 H1 H' v e2 rv1 fr1 sm fun im=>rp nP fun _ z=>z.elim
end
noncomputable def spL(n:Nat)(p:PT')(f:Nat)(K:PySem.W.Frag):Sp:=spF K (RL.aq p.T n) f
theorem C4{n:Nat}{p:PT'}{f:Nat}{K:PySem.W.Frag}{H:Hp}{a:Addr}{ns:List Int}(hO:rC H)(hS:SqL K H a (ns.map V.int))(h:RL.aq p.T n f [.scr (ns.map RL.D.int)]=some (.bl true)):spL n p f K [.ref a] H (fun v _=>v=.bl true) fun _ _ _=>False:=by
 refine⟨_,_,?_,h,fun v H' _ r=>aX r⟩
 refine ab.cons ?_ ab.nil
 rw[Rep]
 refine⟨a,ns.map V.int,rfl,?_,?_⟩
 ·rcases hS with(z | ⟨o,z⟩) | z
  ·rcases hO a with q | ⟨o,xs,q⟩
   ·rw[q]at z
    cases z
   ·rw[q]at z
    cases z
  ·exact .inl ⟨o,z⟩
  ·exact .inr (.inr z)
 ·clear hS h
  induction ns with
  | nil=>exact ab.nil
  | cons i r ih=>exact ab.cons aS ih
end RS
namespace K39
open PySem PySem.Spec PyProof.Rows L2
noncomputable def top(i:Nat):Stmt:=PySem.Challenge.pw_ribbonloft_k39_families_and_frames_that.main.body.getD i (.Pass ⟨0,0,0,0⟩)
noncomputable def Ds:List RS.nC:=[
 ⟨"is_number",top 8,["value"],["value"]⟩,
 ⟨"is_peg_count",top 9,["value"],["value"]⟩,
 ⟨"check_pegs",top 10,["pegs"],["pegs"]⟩,
 ⟨"is_pairing",top 12,["row"],["row", "place"]⟩,
 ⟨"names_back",top 13,["row", "place"],["row", "place", "other"]⟩,
 ⟨"is_uncrossed",top 14,["row"],["row", "waiting", "place", "other"]⟩,
 ⟨"run",top 15,["one", "other", "start"],["one", "other", "start", "places", "onward", "side"]⟩,
 ⟨"rings_of",top 16,["one", "other"],["one", "other", "seen", "start", "many"]⟩,
 ⟨"mark",top 17,["seen", "places"],["seen", "places", "place"]⟩,
 ⟨"is_frame",top 19,["frame"],["frame", "pegs", "alone", "peg", "other"]⟩,
 ⟨"check_frame",top 20,["frame"],["frame"]⟩,
 ⟨"check_two_frames",top 21,["one", "other"],["one", "other"]⟩,
 ⟨"pegs_of",top 22,["frame"],["frame"]⟩,
 ⟨"plain",top 23,["pegs"],["pegs"]⟩,
 ⟨"over",top 24,["frame"],["frame"]⟩,
 ⟨"round_place",top 25,["pegs", "peg"],["pegs", "peg"]⟩,
 ⟨"in_round",top 26,["frame"],["frame", "pegs", "peg"]⟩,
 ⟨"moved",top 27,["frame", "to"],["frame", "to", "ends", "peg", "other"]⟩,
 ⟨"is_half",top 29,["half"],["half"]⟩,
 ⟨"check_half",top 30,["half"],["half"]⟩,
 ⟨"upper",top 31,["frame"],["frame", "pegs", "peg", "other"]⟩,
 ⟨"lower",top 32,["frame"],["frame"]⟩,
 ⟨"through_of",top 33,["half"],["half"]⟩,
 ⟨"going",top 34,["half"],["half", "peg", "other"]⟩,
 ⟨"hung",top 36,["upper", "lower"],["upper", "lower"]⟩,
 ⟨"put_under",top 37,["upper", "lower"],["upper", "lower", "pegs", "ribbons", "joints", "outer", "ends", "frame", "peg", "end"]⟩,
 ⟨"joints_between",top 38,["pegs"],["pegs", "top", "above", "beneath", "bottom"]⟩,
 ⟨"how_many_halves",top 40,["pegs", "going"],["pegs", "going"]⟩,
 ⟨"half_of",top 41,["pegs", "going", "number"],["pegs", "going", "number"]⟩,
 ⟨"half_number",top 42,["half"],["half"]⟩,
 ⟨"half_from",top 43,["first", "many", "going", "number"],["first", "many", "going", "number", "ahead", "width", "other", "behind", "within", "inner", "outer"]⟩,
 ⟨"number_from",top 44,["half", "first", "end", "going"],["half", "first", "end", "going", "other", "many", "ahead", "width"]⟩,
 ⟨"tied_around",top 45,["many", "going", "width"],["many", "going", "width"]⟩,
 ⟨"ways",top 46,["steps", "height"],["steps", "height", "downward"]⟩,
 ⟨"choices",top 47,["many", "chosen"],["many", "chosen", "found", "at"]⟩,
 ⟨"check_number",top 48,["number", "many"],["number", "many"]⟩,
 ⟨"family",top 50,["frame"],["frame"]⟩,
 ⟨"itself",top 51,["frame"],["frame"]⟩,
 ⟨"_law_mix",top 53,["_law_seed"],["_law_seed", "_law_one", "_law_two"]⟩,
 ⟨"_law_raw",top 54,["_law_script", "_law_k"],["_law_script", "_law_k", "_law_cell", "_law_found", "_law_turn"]⟩,
 ⟨"_law_digits",top 55,["_law_script", "_law_k", "_law_sizes"],["_law_script", "_law_k", "_law_sizes", "_law_rest", "_law_found", "_law_size"]⟩,
 ⟨"_law_plain",top 56,["_law_pegs"],["_law_pegs", "_law_peg"]⟩,
 ⟨"_law_hook",top 57,["_law_pegs", "_law_number"],["_law_pegs", "_law_number", "_law_found", "_law_start"]⟩,
 ⟨"_law_circle",top 58,["_law_pegs"],["_law_pegs"]⟩,
 ⟨"_law_from_text",top 59,["_law_text_here"],["_law_text_here", "_law_pegs", "_law_circle_here", "_law_found", "_law_line", "_law_place", "_law_sign", "_law_peg", "_law_other"]⟩,
 ⟨"_law_text",top 60,["_law_raw_here", "_law_pegs"],["_law_raw_here", "_law_pegs", "_law_text_here", "_law_deep", "_law_left", "_law_up", "_law_step"]⟩,
 ⟨"_law_rings_by",top 61,["_law_high", "_law_low", "_law_inner"],["_law_high", "_law_low", "_law_inner", "_law_pegs", "_law_head", "_law_peg", "_law_other", "_law_one", "_law_keep", "_law_go"]⟩,
 ⟨"_law_hung",top 62,["_law_high", "_law_low"],["_law_high", "_law_low", "_law_pegs", "_law_near", "_law_peg", "_law_found", "_law_gone", "_law_here", "_law_turn"]⟩,
 ⟨"_law_over",top 63,["_law_frame_here"],["_law_frame_here", "_law_pegs", "_law_peg"]⟩,
 ⟨"_law_frame",top 64,["_law_script", "_law_k", "_law_pegs"],["_law_script", "_law_k", "_law_pegs", "_law_found", "_law_way", "_law_raw_here", "_law_number"]⟩,
 ⟨"_law_upper",top 65,["_law_frame_here"],["_law_frame_here", "_law_pegs", "_law_peg"]⟩,
 ⟨"_law_lower",top 66,["_law_frame_here"],["_law_frame_here"]⟩,
 ⟨"_law_same",top 67,["_law_told", "_law_due"],["_law_told", "_law_due", "_law_one", "_law_other"]⟩,
 ⟨"law",top 68,["_law_script"],["_law_script", "_law_k", "_law_pegs", "_law_frame_here", "_law_told", "_law_gone", "_law_both", "_law_end", "_law_number"]⟩]
noncomputable def p:RS.PT':=⟨["all", "bool", "divmod", "enumerate", "int", "isinstance", "len", "list", "max", "range", "set", "str", "tuple", "zip"],[("MOST_PEGS",10)],Ds,T⟩
theorem GP:p.ok=true:=by decide +kernel
theorem all1{P:List Value->Prop}(h:∀ a0,P [a0]):∀ us:List Value,us.length=1->P us
 | [a0],_=>h a0
theorem all2{P:List Value->Prop}(h:∀ a0 a1,P [a0,a1]):∀ us:List Value,us.length=2->P us
 | [a0,a1],_=>h a0 a1
theorem gG{P:List Value->Prop}(h:∀ a0 a1 a2,P [a0,a1,a2]):∀ us:List Value,us.length=3->P us
 | [a0,a1,a2],_=>h a0 a1 a2
theorem Ez{P:List Value->Prop}(h:∀ a0 a1 a2 a3,P [a0,a1,a2,a3]):∀ us:List Value,us.length=4->P us
 | [a0,a1,a2,a3],_=>h a0 a1 a2 a3
structure aD(K:PySem.W.Frag)(mg:Str->Option Value)(x:Str)(st:Stmt):Prop where
 ex:∃ f fd,mg x=some (.ref f)/\Fun K x x st f fd/\PySem.W.keepIn K (.ref f)=true
theorem DD{K:PySem.W.Frag}{h:Heap}{mg:Str->Option Value}{x:Str}{st:Stmt}{f:Addr}{oc kV dc pm cd ct:Value}{od an:Option Addr}{sl:Array (Option Value)}(X:K.In h)(G:h.Ns mainGlobals mg)(a:PySem.W.nsIn K mainGlobals x=some (some (.ref f)))
 (l:K.lookup f=some ⟨oc,od,.func (PySem.W.fnOf x x (iA st) (eX st) (c8 st) .none kV dc pm an cd ct),sl⟩)(c:PySem.W.codeIn K cd x=true)(k:PySem.W.keepIn K (.ref f)=true):aD K mg x st :=
 ⟨f,_,PySem.W.mg_of X G a,E9 (st:=st) l c k,k⟩
structure sQ(K:PySem.W.Frag)(mg:Str->Option Value):Prop where
 d8:aD K mg "is_number" (top 8)
 d9:aD K mg "is_peg_count" (top 9)
 d10:aD K mg "check_pegs" (top 10)
 d12:aD K mg "is_pairing" (top 12)
 d13:aD K mg "names_back" (top 13)
 d14:aD K mg "is_uncrossed" (top 14)
 d15:aD K mg "run" (top 15)
 d16:aD K mg "rings_of" (top 16)
 d17:aD K mg "mark" (top 17)
 d19:aD K mg "is_frame" (top 19)
 d20:aD K mg "check_frame" (top 20)
 d21:aD K mg "check_two_frames" (top 21)
 d22:aD K mg "pegs_of" (top 22)
 d23:aD K mg "plain" (top 23)
 d24:aD K mg "over" (top 24)
 d25:aD K mg "round_place" (top 25)
 d26:aD K mg "in_round" (top 26)
 d27:aD K mg "moved" (top 27)
 d29:aD K mg "is_half" (top 29)
 d30:aD K mg "check_half" (top 30)
 d31:aD K mg "upper" (top 31)
 d32:aD K mg "lower" (top 32)
 d33:aD K mg "through_of" (top 33)
 d34:aD K mg "going" (top 34)
 d36:aD K mg "hung" (top 36)
 d37:aD K mg "put_under" (top 37)
 d38:aD K mg "joints_between" (top 38)
 d40:aD K mg "how_many_halves" (top 40)
 d41:aD K mg "half_of" (top 41)
 d42:aD K mg "half_number" (top 42)
 d43:aD K mg "half_from" (top 43)
 d44:aD K mg "number_from" (top 44)
 d45:aD K mg "tied_around" (top 45)
 d46:aD K mg "ways" (top 46)
 d47:aD K mg "choices" (top 47)
 d48:aD K mg "check_number" (top 48)
 d50:aD K mg "family" (top 50)
 d51:aD K mg "itself" (top 51)
 d53:aD K mg "_law_mix" (top 53)
 d54:aD K mg "_law_raw" (top 54)
 d55:aD K mg "_law_digits" (top 55)
 d56:aD K mg "_law_plain" (top 56)
 d57:aD K mg "_law_hook" (top 57)
 d58:aD K mg "_law_circle" (top 58)
 d59:aD K mg "_law_from_text" (top 59)
 d60:aD K mg "_law_text" (top 60)
 d61:aD K mg "_law_rings_by" (top 61)
 d62:aD K mg "_law_hung" (top 62)
 d63:aD K mg "_law_over" (top 63)
 d64:aD K mg "_law_frame" (top 64)
 d65:aD K mg "_law_upper" (top 65)
 d66:aD K mg "_law_lower" (top 66)
 d67:aD K mg "_law_same" (top 67)
 d68:aD K mg "law" (top 68)
 Fo:PySem.W.nsIn K mainGlobals "all" = some none
 C8:PySem.W.nsIn K mainGlobals "bool" = some none
 zf:PySem.W.nsIn K mainGlobals "divmod" = some none
 rT:PySem.W.nsIn K mainGlobals "enumerate" = some none
 Fc:PySem.W.nsIn K mainGlobals "int" = some none
 qX:PySem.W.nsIn K mainGlobals "isinstance" = some none
 FJ:PySem.W.nsIn K mainGlobals "len" = some none
 CG:PySem.W.nsIn K mainGlobals "list" = some none
 Fh:PySem.W.nsIn K mainGlobals "max" = some none
 AK:PySem.W.nsIn K mainGlobals "range" = some none
 EZ:PySem.W.nsIn K mainGlobals "set" = some none
 Fb:PySem.W.nsIn K mainGlobals "str" = some none
 A5:PySem.W.nsIn K mainGlobals "tuple" = some none
 Ff:PySem.W.nsIn K mainGlobals "zip" = some none
 si:∃ t,PySem.W.nsIn K mainGlobals "MOST_PEGS" = some (some (.int 10 t))
theorem Eg{K:PySem.W.Frag}{h:Heap}{mg:Str->Option Value}(X:K.In h)(G:h.Ns mainGlobals mg)(A:sQ K mg):RS.zX p K mg where
 defs:=by
  intro f d hf
  match f,hf with
  | 0,hf=>cases hf;obtain⟨fa,fd,h1,h2,h3⟩:=A.d8.ex;exact⟨fa,fd,h1,h2,h3,h2.binds (ps:=["value"]) (fun _ _ _ _ _ _=>all1 (fun _=>rfl))⟩
  | 1,hf=>cases hf;obtain⟨fa,fd,h1,h2,h3⟩:=A.d9.ex;exact⟨fa,fd,h1,h2,h3,h2.binds (ps:=["value"]) (fun _ _ _ _ _ _=>all1 (fun _=>rfl))⟩
  | 2,hf=>cases hf;obtain⟨fa,fd,h1,h2,h3⟩:=A.d10.ex;exact⟨fa,fd,h1,h2,h3,h2.binds (ps:=["pegs"]) (fun _ _ _ _ _ _=>all1 (fun _=>rfl))⟩
  | 3,hf=>cases hf;obtain⟨fa,fd,h1,h2,h3⟩:=A.d12.ex;exact⟨fa,fd,h1,h2,h3,h2.binds (ps:=["row"]) (fun _ _ _ _ _ _=>all1 (fun _=>rfl))⟩
  | 4,hf=>cases hf;obtain⟨fa,fd,h1,h2,h3⟩:=A.d13.ex;exact⟨fa,fd,h1,h2,h3,h2.binds (ps:=["row", "place"]) (fun _ _ _ _ _ _=>all2 (fun _ _=>rfl))⟩
  | 5,hf=>cases hf;obtain⟨fa,fd,h1,h2,h3⟩:=A.d14.ex;exact⟨fa,fd,h1,h2,h3,h2.binds (ps:=["row"]) (fun _ _ _ _ _ _=>all1 (fun _=>rfl))⟩
  | 6,hf=>cases hf;obtain⟨fa,fd,h1,h2,h3⟩:=A.d15.ex;exact⟨fa,fd,h1,h2,h3,h2.binds (ps:=["one", "other", "start"]) (fun _ _ _ _ _ _=>gG (fun _ _ _=>rfl))⟩
  | 7,hf=>cases hf;obtain⟨fa,fd,h1,h2,h3⟩:=A.d16.ex;exact⟨fa,fd,h1,h2,h3,h2.binds (ps:=["one", "other"]) (fun _ _ _ _ _ _=>all2 (fun _ _=>rfl))⟩
  | 8,hf=>cases hf;obtain⟨fa,fd,h1,h2,h3⟩:=A.d17.ex;exact⟨fa,fd,h1,h2,h3,h2.binds (ps:=["seen", "places"]) (fun _ _ _ _ _ _=>all2 (fun _ _=>rfl))⟩
  | 9,hf=>cases hf;obtain⟨fa,fd,h1,h2,h3⟩:=A.d19.ex;exact⟨fa,fd,h1,h2,h3,h2.binds (ps:=["frame"]) (fun _ _ _ _ _ _=>all1 (fun _=>rfl))⟩
  | 10,hf=>cases hf;obtain⟨fa,fd,h1,h2,h3⟩:=A.d20.ex;exact⟨fa,fd,h1,h2,h3,h2.binds (ps:=["frame"]) (fun _ _ _ _ _ _=>all1 (fun _=>rfl))⟩
  | 11,hf=>cases hf;obtain⟨fa,fd,h1,h2,h3⟩:=A.d21.ex;exact⟨fa,fd,h1,h2,h3,h2.binds (ps:=["one", "other"]) (fun _ _ _ _ _ _=>all2 (fun _ _=>rfl))⟩
  | 12,hf=>cases hf;obtain⟨fa,fd,h1,h2,h3⟩:=A.d22.ex;exact⟨fa,fd,h1,h2,h3,h2.binds (ps:=["frame"]) (fun _ _ _ _ _ _=>all1 (fun _=>rfl))⟩
  | 13,hf=>cases hf;obtain⟨fa,fd,h1,h2,h3⟩:=A.d23.ex;exact⟨fa,fd,h1,h2,h3,h2.binds (ps:=["pegs"]) (fun _ _ _ _ _ _=>all1 (fun _=>rfl))⟩
  | 14,hf=>cases hf;obtain⟨fa,fd,h1,h2,h3⟩:=A.d24.ex;exact⟨fa,fd,h1,h2,h3,h2.binds (ps:=["frame"]) (fun _ _ _ _ _ _=>all1 (fun _=>rfl))⟩
  | 15,hf=>cases hf;obtain⟨fa,fd,h1,h2,h3⟩:=A.d25.ex;exact⟨fa,fd,h1,h2,h3,h2.binds (ps:=["pegs", "peg"]) (fun _ _ _ _ _ _=>all2 (fun _ _=>rfl))⟩
  | 16,hf=>cases hf;obtain⟨fa,fd,h1,h2,h3⟩:=A.d26.ex;exact⟨fa,fd,h1,h2,h3,h2.binds (ps:=["frame"]) (fun _ _ _ _ _ _=>all1 (fun _=>rfl))⟩
  | 17,hf=>cases hf;obtain⟨fa,fd,h1,h2,h3⟩:=A.d27.ex;exact⟨fa,fd,h1,h2,h3,h2.binds (ps:=["frame", "to"]) (fun _ _ _ _ _ _=>all2 (fun _ _=>rfl))⟩
  | 18,hf=>cases hf;obtain⟨fa,fd,h1,h2,h3⟩:=A.d29.ex;exact⟨fa,fd,h1,h2,h3,h2.binds (ps:=["half"]) (fun _ _ _ _ _ _=>all1 (fun _=>rfl))⟩
  | 19,hf=>cases hf;obtain⟨fa,fd,h1,h2,h3⟩:=A.d30.ex;exact⟨fa,fd,h1,h2,h3,h2.binds (ps:=["half"]) (fun _ _ _ _ _ _=>all1 (fun _=>rfl))⟩
  | 20,hf=>cases hf;obtain⟨fa,fd,h1,h2,h3⟩:=A.d31.ex;exact⟨fa,fd,h1,h2,h3,h2.binds (ps:=["frame"]) (fun _ _ _ _ _ _=>all1 (fun _=>rfl))⟩
  | 21,hf=>cases hf;obtain⟨fa,fd,h1,h2,h3⟩:=A.d32.ex;exact⟨fa,fd,h1,h2,h3,h2.binds (ps:=["frame"]) (fun _ _ _ _ _ _=>all1 (fun _=>rfl))⟩
  | 22,hf=>cases hf;obtain⟨fa,fd,h1,h2,h3⟩:=A.d33.ex;exact⟨fa,fd,h1,h2,h3,h2.binds (ps:=["half"]) (fun _ _ _ _ _ _=>all1 (fun _=>rfl))⟩
  | 23,hf=>cases hf;obtain⟨fa,fd,h1,h2,h3⟩:=A.d34.ex;exact⟨fa,fd,h1,h2,h3,h2.binds (ps:=["half"]) (fun _ _ _ _ _ _=>all1 (fun _=>rfl))⟩
  | 24,hf=>cases hf;obtain⟨fa,fd,h1,h2,h3⟩:=A.d36.ex;exact⟨fa,fd,h1,h2,h3,h2.binds (ps:=["upper", "lower"]) (fun _ _ _ _ _ _=>all2 (fun _ _=>rfl))⟩
  | 25,hf=>cases hf;obtain⟨fa,fd,h1,h2,h3⟩:=A.d37.ex;exact⟨fa,fd,h1,h2,h3,h2.binds (ps:=["upper", "lower"]) (fun _ _ _ _ _ _=>all2 (fun _ _=>rfl))⟩
  | 26,hf=>cases hf;obtain⟨fa,fd,h1,h2,h3⟩:=A.d38.ex;exact⟨fa,fd,h1,h2,h3,h2.binds (ps:=["pegs"]) (fun _ _ _ _ _ _=>all1 (fun _=>rfl))⟩
  | 27,hf=>cases hf;obtain⟨fa,fd,h1,h2,h3⟩:=A.d40.ex;exact⟨fa,fd,h1,h2,h3,h2.binds (ps:=["pegs", "going"]) (fun _ _ _ _ _ _=>all2 (fun _ _=>rfl))⟩
  | 28,hf=>cases hf;obtain⟨fa,fd,h1,h2,h3⟩:=A.d41.ex;exact⟨fa,fd,h1,h2,h3,h2.binds (ps:=["pegs", "going", "number"]) (fun _ _ _ _ _ _=>gG (fun _ _ _=>rfl))⟩
  | 29,hf=>cases hf;obtain⟨fa,fd,h1,h2,h3⟩:=A.d42.ex;exact⟨fa,fd,h1,h2,h3,h2.binds (ps:=["half"]) (fun _ _ _ _ _ _=>all1 (fun _=>rfl))⟩
  | 30,hf=>cases hf;obtain⟨fa,fd,h1,h2,h3⟩:=A.d43.ex;exact⟨fa,fd,h1,h2,h3,h2.binds (ps:=["first", "many", "going", "number"]) (fun _ _ _ _ _ _=>Ez (fun _ _ _ _=>rfl))⟩
  | 31,hf=>cases hf;obtain⟨fa,fd,h1,h2,h3⟩:=A.d44.ex;exact⟨fa,fd,h1,h2,h3,h2.binds (ps:=["half", "first", "end", "going"]) (fun _ _ _ _ _ _=>Ez (fun _ _ _ _=>rfl))⟩
  | 32,hf=>cases hf;obtain⟨fa,fd,h1,h2,h3⟩:=A.d45.ex;exact⟨fa,fd,h1,h2,h3,h2.binds (ps:=["many", "going", "width"]) (fun _ _ _ _ _ _=>gG (fun _ _ _=>rfl))⟩
  | 33,hf=>cases hf;obtain⟨fa,fd,h1,h2,h3⟩:=A.d46.ex;exact⟨fa,fd,h1,h2,h3,h2.binds (ps:=["steps", "height"]) (fun _ _ _ _ _ _=>all2 (fun _ _=>rfl))⟩
  | 34,hf=>cases hf;obtain⟨fa,fd,h1,h2,h3⟩:=A.d47.ex;exact⟨fa,fd,h1,h2,h3,h2.binds (ps:=["many", "chosen"]) (fun _ _ _ _ _ _=>all2 (fun _ _=>rfl))⟩
  | 35,hf=>cases hf;obtain⟨fa,fd,h1,h2,h3⟩:=A.d48.ex;exact⟨fa,fd,h1,h2,h3,h2.binds (ps:=["number", "many"]) (fun _ _ _ _ _ _=>all2 (fun _ _=>rfl))⟩
  | 36,hf=>cases hf;obtain⟨fa,fd,h1,h2,h3⟩:=A.d50.ex;exact⟨fa,fd,h1,h2,h3,h2.binds (ps:=["frame"]) (fun _ _ _ _ _ _=>all1 (fun _=>rfl))⟩
  | 37,hf=>cases hf;obtain⟨fa,fd,h1,h2,h3⟩:=A.d51.ex;exact⟨fa,fd,h1,h2,h3,h2.binds (ps:=["frame"]) (fun _ _ _ _ _ _=>all1 (fun _=>rfl))⟩
  | 38,hf=>cases hf;obtain⟨fa,fd,h1,h2,h3⟩:=A.d53.ex;exact⟨fa,fd,h1,h2,h3,h2.binds (ps:=["_law_seed"]) (fun _ _ _ _ _ _=>all1 (fun _=>rfl))⟩
  | 39,hf=>cases hf;obtain⟨fa,fd,h1,h2,h3⟩:=A.d54.ex;exact⟨fa,fd,h1,h2,h3,h2.binds (ps:=["_law_script", "_law_k"]) (fun _ _ _ _ _ _=>all2 (fun _ _=>rfl))⟩
  | 40,hf=>cases hf;obtain⟨fa,fd,h1,h2,h3⟩:=A.d55.ex;exact⟨fa,fd,h1,h2,h3,h2.binds (ps:=["_law_script", "_law_k", "_law_sizes"]) (fun _ _ _ _ _ _=>gG (fun _ _ _=>rfl))⟩
  | 41,hf=>cases hf;obtain⟨fa,fd,h1,h2,h3⟩:=A.d56.ex;exact⟨fa,fd,h1,h2,h3,h2.binds (ps:=["_law_pegs"]) (fun _ _ _ _ _ _=>all1 (fun _=>rfl))⟩
  | 42,hf=>cases hf;obtain⟨fa,fd,h1,h2,h3⟩:=A.d57.ex;exact⟨fa,fd,h1,h2,h3,h2.binds (ps:=["_law_pegs", "_law_number"]) (fun _ _ _ _ _ _=>all2 (fun _ _=>rfl))⟩
  | 43,hf=>cases hf;obtain⟨fa,fd,h1,h2,h3⟩:=A.d58.ex;exact⟨fa,fd,h1,h2,h3,h2.binds (ps:=["_law_pegs"]) (fun _ _ _ _ _ _=>all1 (fun _=>rfl))⟩
  | 44,hf=>cases hf;obtain⟨fa,fd,h1,h2,h3⟩:=A.d59.ex;exact⟨fa,fd,h1,h2,h3,h2.binds (ps:=["_law_text_here"]) (fun _ _ _ _ _ _=>all1 (fun _=>rfl))⟩
  | 45,hf=>cases hf;obtain⟨fa,fd,h1,h2,h3⟩:=A.d60.ex;exact⟨fa,fd,h1,h2,h3,h2.binds (ps:=["_law_raw_here", "_law_pegs"]) (fun _ _ _ _ _ _=>all2 (fun _ _=>rfl))⟩
  | 46,hf=>cases hf;obtain⟨fa,fd,h1,h2,h3⟩:=A.d61.ex;exact⟨fa,fd,h1,h2,h3,h2.binds (ps:=["_law_high", "_law_low", "_law_inner"]) (fun _ _ _ _ _ _=>gG (fun _ _ _=>rfl))⟩
  | 47,hf=>cases hf;obtain⟨fa,fd,h1,h2,h3⟩:=A.d62.ex;exact⟨fa,fd,h1,h2,h3,h2.binds (ps:=["_law_high", "_law_low"]) (fun _ _ _ _ _ _=>all2 (fun _ _=>rfl))⟩
  | 48,hf=>cases hf;obtain⟨fa,fd,h1,h2,h3⟩:=A.d63.ex;exact⟨fa,fd,h1,h2,h3,h2.binds (ps:=["_law_frame_here"]) (fun _ _ _ _ _ _=>all1 (fun _=>rfl))⟩
  | 49,hf=>cases hf;obtain⟨fa,fd,h1,h2,h3⟩:=A.d64.ex;exact⟨fa,fd,h1,h2,h3,h2.binds (ps:=["_law_script", "_law_k", "_law_pegs"]) (fun _ _ _ _ _ _=>gG (fun _ _ _=>rfl))⟩
  | 50,hf=>cases hf;obtain⟨fa,fd,h1,h2,h3⟩:=A.d65.ex;exact⟨fa,fd,h1,h2,h3,h2.binds (ps:=["_law_frame_here"]) (fun _ _ _ _ _ _=>all1 (fun _=>rfl))⟩
  | 51,hf=>cases hf;obtain⟨fa,fd,h1,h2,h3⟩:=A.d66.ex;exact⟨fa,fd,h1,h2,h3,h2.binds (ps:=["_law_frame_here"]) (fun _ _ _ _ _ _=>all1 (fun _=>rfl))⟩
  | 52,hf=>cases hf;obtain⟨fa,fd,h1,h2,h3⟩:=A.d67.ex;exact⟨fa,fd,h1,h2,h3,h2.binds (ps:=["_law_told", "_law_due"]) (fun _ _ _ _ _ _=>all2 (fun _ _=>rfl))⟩
  | 53,hf=>cases hf;obtain⟨fa,fd,h1,h2,h3⟩:=A.d68.ex;exact⟨fa,fd,h1,h2,h3,h2.binds (ps:=["_law_script"]) (fun _ _ _ _ _ _=>all1 (fun _=>rfl))⟩
  | f+54,hf=>cases hf
 blt:=by
  intro x hx
  simp only[p,List.mem_cons,List.mem_nil_iff,or_false]at hx
  rcases hx with rfl | rfl | rfl | rfl | rfl | rfl | rfl | rfl | rfl | rfl | rfl | rfl | rfl | rfl
  ·exact PySem.W.mg_none_of X G A.Fo
  ·exact PySem.W.mg_none_of X G A.C8
  ·exact PySem.W.mg_none_of X G A.zf
  ·exact PySem.W.mg_none_of X G A.rT
  ·exact PySem.W.mg_none_of X G A.Fc
  ·exact PySem.W.mg_none_of X G A.qX
  ·exact PySem.W.mg_none_of X G A.FJ
  ·exact PySem.W.mg_none_of X G A.CG
  ·exact PySem.W.mg_none_of X G A.Fh
  ·exact PySem.W.mg_none_of X G A.AK
  ·exact PySem.W.mg_none_of X G A.EZ
  ·exact PySem.W.mg_none_of X G A.Fb
  ·exact PySem.W.mg_none_of X G A.A5
  ·exact PySem.W.mg_none_of X G A.Ff
 glb:=by
  intro x i hx
  obtain⟨t,ht⟩:=A.si
  have e:x = "MOST_PEGS" /\ i=10:=by
   simp only[p,List.lookup]at hx
   split at hx
   ·rename_i he
    cases hx
    exact⟨by simpa using he,rfl⟩
   ·cases hx
  obtain⟨rfl,rfl⟩:=e
  exact⟨_,PySem.W.mg_of X G ht,t,rfl⟩
end K39
namespace PySem.W.Fast
theorem tw6549848700635514912:True:=trivial
theorem tw10470105497792837728:True:=trivial
theorem tw13586489818018255136:True:=trivial
theorem tw5548034795190078816:True:=trivial
theorem tw14758179163856198144:True:=trivial
theorem tw11658990483492223520:True:=trivial
theorem tw2371766887218818656:True:=trivial
theorem tw10901632096146569824:True:=trivial
theorem tw5361032441166869152:True:=trivial
theorem tw15029710278854582976:True:=trivial
theorem tw8030747260579687104:True:=trivial
theorem tw16728819194470543104:True:=trivial
theorem tw11574011305611054880:True:=trivial
theorem tw1500002187808185280:True:=trivial
theorem tw10051972907470193665:True:=trivial
theorem tw11165635700738033665:True:=trivial
theorem tw11135434131421033473:True:=trivial
theorem tw12917088004798709793:True:=trivial
theorem tw2238193351046634529:True:=trivial
theorem tw15453493838210890817:True:=trivial
theorem tw15734065743052970081:True:=trivial
theorem tw14532156631331862657:True:=trivial
theorem tw8391828463778698433:True:=trivial
theorem tw18159296936783531201:True:=trivial
theorem tw14463929077052886369:True:=trivial
theorem tw15763521331914051969:True:=trivial
theorem tw11035585242769235329:True:=trivial
theorem tw11454157896987014529:True:=trivial
theorem tw4650663064687348257:True:=trivial
theorem tw5638910854017789569:True:=trivial
theorem tw9067978172823176033:True:=trivial
theorem tw1632138126997828481:True:=trivial
theorem tw13082142513540649857:True:=trivial
theorem tw14949227796275427297:True:=trivial
theorem tw12712626983814943042:True:=trivial
theorem tw5459339455319033250:True:=trivial
theorem tw3423122709396993602:True:=trivial
theorem tw15502045971136884418:True:=trivial
theorem tw8680831162220794594:True:=trivial
theorem tw909014145166924738:True:=trivial
theorem tw10529370153018375138:True:=trivial
theorem tw12440009209114968067:True:=trivial
theorem tw10199465890141380643:True:=trivial
theorem tw16352522389780043843:True:=trivial
theorem tw1565307539338292515:True:=trivial
theorem tw9910936060414968451:True:=trivial
theorem tw18241773927571175171:True:=trivial
theorem tw15496643538309355299:True:=trivial
theorem tw2971310874556898147:True:=trivial
theorem tw6086343248995889027:True:=trivial
theorem tw2057758418465708003:True:=trivial
theorem tw14814724151645261860:True:=trivial
theorem tw3039766240528230500:True:=trivial
theorem tw9313707425470089348:True:=trivial
theorem tw7479600300812587204:True:=trivial
theorem tw11236040128542754020:True:=trivial
theorem tw4356692405467765028:True:=trivial
theorem tw14743566271532130628:True:=trivial
theorem tw17063702366693299556:True:=trivial
theorem tw12308587212999871940:True:=trivial
theorem tw4247422093870553572:True:=trivial
theorem tw7355797038378428932:True:=trivial
theorem tw3493401184318158436:True:=trivial
theorem tw10130555637428842180:True:=trivial
theorem tw7860734516883562244:True:=trivial
theorem tw17377797710674048900:True:=trivial
theorem tw2819421355758371716:True:=trivial
theorem tw2402989494773630884:True:=trivial
theorem tw255931983925386180:True:=trivial
theorem tw4488988963461358661:True:=trivial
theorem tw520751670773149765:True:=trivial
theorem tw17714530547475391621:True:=trivial
theorem tw11675364650928032997:True:=trivial
theorem tw4200102394681025797:True:=trivial
theorem tw5299531661788411141:True:=trivial
theorem tw14468559939642614117:True:=trivial
theorem tw14137272971319004613:True:=trivial
theorem tw2345376734935450085:True:=trivial
theorem tw7695805153205232165:True:=trivial
theorem tw17917234009418309221:True:=trivial
theorem tw8348175074362789509:True:=trivial
theorem tw99478335359354661:True:=trivial
theorem tw14864846576144682917:True:=trivial
theorem tw17922158346409533510:True:=trivial
theorem tw3103232371793652806:True:=trivial
theorem tw2529429984564124838:True:=trivial
theorem tw10312005533367160038:True:=trivial
theorem tw3052390341730646406:True:=trivial
theorem tw2280834045922469286:True:=trivial
theorem tw9407322574076473766:True:=trivial
theorem tw12124557358138597830:True:=trivial
theorem tw10347764949170902598:True:=trivial
theorem tw2251337196486109926:True:=trivial
theorem tw3613610030842377030:True:=trivial
theorem tw9371926444132815911:True:=trivial
theorem tw3885664813723160743:True:=trivial
theorem tw15870334588888253671:True:=trivial
theorem tw17041443359771844871:True:=trivial
theorem tw7598339186675156359:True:=trivial
theorem tw16794630569713669511:True:=trivial
theorem tw5958761448761209319:True:=trivial
theorem tw5599997872401886791:True:=trivial
theorem tw7214242235818144423:True:=trivial
theorem tw1332835988309328679:True:=trivial
theorem tw382685790480389927:True:=trivial
theorem tw15033773504405197671:True:=trivial
theorem tw7648147380672323463:True:=trivial
theorem tw12680762369025036296:True:=trivial
theorem tw9148183093966540904:True:=trivial
theorem tw4585766962467259528:True:=trivial
theorem tw2003427171306052840:True:=trivial
theorem tw3069380907540439304:True:=trivial
theorem tw18367145323824012680:True:=trivial
theorem tw6411396019197703688:True:=trivial
theorem tw16836243328004815368:True:=trivial
theorem tw18029036033182545448:True:=trivial
theorem tw1825013702908923432:True:=trivial
theorem tw5274834354122381896:True:=trivial
theorem tw18108836699196112488:True:=trivial
theorem tw7175495078598961768:True:=trivial
theorem tw2677109909369646696:True:=trivial
theorem tw7216924847350751048:True:=trivial
theorem tw4222991421283889000:True:=trivial
theorem tw9877843016367931304:True:=trivial
theorem tw3702636211003998249:True:=trivial
theorem tw11155655809939627081:True:=trivial
theorem tw7313729066796875945:True:=trivial
theorem tw16323865042851676617:True:=trivial
theorem tw16531385580474266057:True:=trivial
theorem tw7092843167137991177:True:=trivial
theorem tw9805346830591916713:True:=trivial
theorem tw7810582739224839945:True:=trivial
theorem tw2502199018897239817:True:=trivial
theorem tw13969643178097595273:True:=trivial
theorem tw17064367748078377066:True:=trivial
theorem tw9786331607261386:True:=trivial
theorem tw17768539848165290346:True:=trivial
theorem tw9778480506098283882:True:=trivial
theorem tw13537474516008833450:True:=trivial
theorem tw6903325540267814314:True:=trivial
theorem tw15548701731961482698:True:=trivial
theorem tw11316058747623195114:True:=trivial
theorem tw12667581624180350602:True:=trivial
theorem tw9739226547159378762:True:=trivial
theorem tw13520867347531979626:True:=trivial
theorem tw9788454614193548202:True:=trivial
theorem tw210411917096917994:True:=trivial
theorem tw7348236731247866987:True:=trivial
theorem tw16907114470085425323:True:=trivial
theorem tw10468357081400639755:True:=trivial
theorem tw2066857428761924971:True:=trivial
theorem tw11795899940855824779:True:=trivial
theorem tw9595758927443258891:True:=trivial
theorem tw15271519681780856363:True:=trivial
theorem tw14010499431859822155:True:=trivial
theorem tw18074904063277312683:True:=trivial
theorem tw5240711069309965003:True:=trivial
theorem tw13504623904631079659:True:=trivial
theorem tw72612551587170123:True:=trivial
theorem tw6033742486055322443:True:=trivial
theorem tw6508577620048905195:True:=trivial
theorem tw18084790540390068236:True:=trivial
theorem tw15029539949957997612:True:=trivial
theorem tw4690765810263187532:True:=trivial
theorem tw10208810979359994028:True:=trivial
theorem tw15517585008500456620:True:=trivial
theorem tw6935233250098347212:True:=trivial
theorem tw15902306298231576844:True:=trivial
theorem tw12457335855860816204:True:=trivial
theorem tw14434198264720230764:True:=trivial
theorem tw12272140815258124748:True:=trivial
theorem tw15536158246262919628:True:=trivial
theorem tw636313535176940044:True:=trivial
theorem tw2966327571902875180:True:=trivial
theorem tw7344948247978408652:True:=trivial
theorem tw16643337860438061996:True:=trivial
theorem tw13391599455674127308:True:=trivial
theorem tw17135820262359000077:True:=trivial
theorem tw9584639203710444653:True:=trivial
theorem tw15409943873452361869:True:=trivial
theorem tw11527079970640077:True:=trivial
theorem tw202772623985553613:True:=trivial
theorem tw17456197302943817037:True:=trivial
theorem tw9984280877288308109:True:=trivial
theorem tw881609044025236941:True:=trivial
theorem tw7381619961095820781:True:=trivial
theorem tw8454800152201325101:True:=trivial
theorem tw6848257892295396973:True:=trivial
theorem tw16311738855050040941:True:=trivial
theorem tw1066760362202266349:True:=trivial
theorem tw11952975402745094957:True:=trivial
theorem tw14878760869283303245:True:=trivial
theorem tw12641580052579523405:True:=trivial
theorem tw10891825293760183149:True:=trivial
theorem tw8437311095524214637:True:=trivial
theorem tw7161519189939195757:True:=trivial
theorem tw5662683106424006541:True:=trivial
theorem tw17522544310465941389:True:=trivial
theorem tw18319725772274328461:True:=trivial
theorem tw9069607327772317613:True:=trivial
theorem tw9535684121490727853:True:=trivial
theorem tw1943715863782373293:True:=trivial
theorem tw4420445258960407533:True:=trivial
theorem tw16368560760973238253:True:=trivial
theorem tw2673721286718103533:True:=trivial
theorem tw10446444291908989006:True:=trivial
theorem tw3077131899857311854:True:=trivial
theorem tw14379524766507591790:True:=trivial
theorem tw3459002939109903502:True:=trivial
theorem tw9324507011621550222:True:=trivial
theorem tw3801285748182068462:True:=trivial
theorem tw8436410683427137806:True:=trivial
theorem tw13602036885385665806:True:=trivial
theorem tw6695527635122360686:True:=trivial
theorem tw11759470099240389038:True:=trivial
theorem tw16881979603038678830:True:=trivial
theorem tw14565447612427538350:True:=trivial
theorem tw17473855609584529358:True:=trivial
theorem tw4032331738229399631:True:=trivial
theorem tw2844595425955325071:True:=trivial
theorem tw17778152663496194191:True:=trivial
theorem tw2338220340009090223:True:=trivial
theorem tw5229159174737756399:True:=trivial
theorem tw6136716775647038703:True:=trivial
theorem tw18314357077658721519:True:=trivial
theorem tw16523282231113301263:True:=trivial
theorem tw9247274358512873231:True:=trivial
theorem tw3873711515464225647:True:=trivial
theorem tw9549316249793584111:True:=trivial
theorem tw10419681941097056400:True:=trivial
theorem tw3653447160381705456:True:=trivial
theorem tw12293190655864783120:True:=trivial
theorem tw9872236886456868208:True:=trivial
theorem tw17264858317762349424:True:=trivial
theorem tw11652052268537216528:True:=trivial
theorem tw6117651077467243056:True:=trivial
theorem tw14874504832268422736:True:=trivial
theorem tw7693721887808860784:True:=trivial
theorem tw1256073856014420624:True:=trivial
theorem tw16071189082796878480:True:=trivial
theorem tw6324337566515492560:True:=trivial
theorem tw13808232053475196656:True:=trivial
theorem tw15889351595394635825:True:=trivial
theorem tw16359616867597890673:True:=trivial
theorem tw13703719081601813617:True:=trivial
theorem tw15970455602748774641:True:=trivial
theorem tw13067548204974131473:True:=trivial
theorem tw12780067037337805169:True:=trivial
theorem tw10868058147253412305:True:=trivial
theorem tw2054957370471000689:True:=trivial
theorem tw618985433592051794:True:=trivial
theorem tw1153741821137117266:True:=trivial
theorem tw513016804410018962:True:=trivial
theorem tw3617926739292814482:True:=trivial
theorem tw14339972316106724594:True:=trivial
theorem tw8294951454620931346:True:=trivial
theorem tw7453938153904779570:True:=trivial
theorem tw12539377892450898258:True:=trivial
theorem tw8165610655608959410:True:=trivial
theorem tw3780127064859098674:True:=trivial
theorem tw14981136657386232434:True:=trivial
theorem tw12770050379244693330:True:=trivial
theorem tw12403647389580882834:True:=trivial
theorem tw10794130368810012594:True:=trivial
theorem tw15698340855510639827:True:=trivial
theorem tw8871800016011482355:True:=trivial
theorem tw5496424694874301683:True:=trivial
theorem tw3645508491876358451:True:=trivial
theorem tw12010803037430069619:True:=trivial
theorem tw1315765537149034931:True:=trivial
theorem tw7448952383626063315:True:=trivial
theorem tw8817426389570302675:True:=trivial
theorem tw4231887051143694067:True:=trivial
theorem tw17017821849900479251:True:=trivial
theorem tw15667150139560117075:True:=trivial
theorem tw5418793334179732339:True:=trivial
theorem tw17283538695302316979:True:=trivial
theorem tw9580645660829619:True:=trivial
theorem tw15091696749571706900:True:=trivial
theorem tw3764609500060005396:True:=trivial
theorem tw17308877054865473684:True:=trivial
theorem tw264701864044644500:True:=trivial
theorem tw4687206233142145204:True:=trivial
theorem tw7003231783424805332:True:=trivial
theorem tw8304139791459780084:True:=trivial
theorem tw8070056966529192436:True:=trivial
theorem tw3358283169850466836:True:=trivial
theorem tw7238567644528564756:True:=trivial
theorem tw5886813037882962452:True:=trivial
theorem tw14338818829664377396:True:=trivial
theorem tw5575800069395029620:True:=trivial
theorem tw17782007746556336788:True:=trivial
theorem tw12771583954534775572:True:=trivial
theorem tw4004732500053000084:True:=trivial
theorem tw13778770003046556596:True:=trivial
theorem tw6789688528849176629:True:=trivial
theorem tw16722184566219104309:True:=trivial
theorem tw5031042384605535381:True:=trivial
theorem tw17666682677799466165:True:=trivial
theorem tw243044442239790293:True:=trivial
theorem tw16776183319688660213:True:=trivial
theorem tw15560654860680452373:True:=trivial
theorem tw869397412448138613:True:=trivial
theorem tw10852285920610965941:True:=trivial
theorem tw17059641035367326197:True:=trivial
theorem tw10251097619859266101:True:=trivial
theorem tw1774468390365733461:True:=trivial
theorem tw17308150107903370869:True:=trivial
theorem tw15579875588607569525:True:=trivial
theorem tw15648194064051226325:True:=trivial
theorem tw12396903486066959125:True:=trivial
theorem tw9062411529046287125:True:=trivial
theorem tw14151642906950992725:True:=trivial
theorem tw355473186842426229:True:=trivial
theorem tw4503175832763280406:True:=trivial
theorem tw13323645017618500726:True:=trivial
theorem tw759507192626850966:True:=trivial
theorem tw11525689453915763862:True:=trivial
theorem tw4101811466280731862:True:=trivial
theorem tw7939025345868112086:True:=trivial
theorem tw8274448307573988598:True:=trivial
theorem tw10620107780956242198:True:=trivial
theorem tw5346408987610007894:True:=trivial
theorem tw17227190932351649206:True:=trivial
theorem tw1103019459817160214:True:=trivial
theorem tw12963628173791939126:True:=trivial
theorem tw12191999711030377078:True:=trivial
theorem tw9172128456824236694:True:=trivial
theorem tw3619486105690430198:True:=trivial
theorem tw11977552296428213046:True:=trivial
theorem tw10444570231942474582:True:=trivial
theorem tw4622646952989215702:True:=trivial
theorem tw17170375782326088694:True:=trivial
theorem tw2206318528533756918:True:=trivial
theorem tw14958892059397326871:True:=trivial
theorem tw7726836982623037591:True:=trivial
theorem tw1895194329367198103:True:=trivial
theorem tw14823865467121611191:True:=trivial
theorem tw5350465252208000439:True:=trivial
theorem tw16862616228160947671:True:=trivial
theorem tw11933222311362592599:True:=trivial
theorem tw10455220343172777847:True:=trivial
theorem tw17160401682552972247:True:=trivial
theorem tw13035772267253625912:True:=trivial
theorem tw8510712188840465496:True:=trivial
theorem tw10945099060839163032:True:=trivial
theorem tw13776262756476733720:True:=trivial
theorem tw11776570453713022264:True:=trivial
theorem tw4500153257121155416:True:=trivial
theorem tw16146091601576398200:True:=trivial
theorem tw7503653916388983192:True:=trivial
theorem tw4656058856447434200:True:=trivial
theorem tw12323996933839165976:True:=trivial
theorem tw14526597474605800024:True:=trivial
theorem tw18045395821583559288:True:=trivial
theorem tw4920165221059919672:True:=trivial
theorem tw17100004905797197656:True:=trivial
theorem tw4989499341760164792:True:=trivial
theorem tw17341016330811302872:True:=trivial
theorem tw16417821179474774008:True:=trivial
theorem tw18420828528771310584:True:=trivial
theorem tw17783547476145153049:True:=trivial
theorem tw15118965241875569849:True:=trivial
theorem tw14236600427473153241:True:=trivial
theorem tw1486177018655095033:True:=trivial
theorem tw12546432067889976729:True:=trivial
theorem tw7400403922420554265:True:=trivial
theorem tw1268679022658000441:True:=trivial
theorem tw7489023719896745561:True:=trivial
theorem tw11191472876245618425:True:=trivial
theorem tw2492611254621555738:True:=trivial
theorem tw6516089953135686714:True:=trivial
theorem tw5380951006163534970:True:=trivial
theorem tw477798922491940346:True:=trivial
theorem tw9199576239200780794:True:=trivial
theorem tw9253364593920627226:True:=trivial
theorem tw18203987581875574298:True:=trivial
theorem tw3915541648188805754:True:=trivial
theorem tw16760711421406881402:True:=trivial
theorem tw4478427229240185466:True:=trivial
theorem tw4095590783029934874:True:=trivial
theorem tw2885629773772298106:True:=trivial
theorem tw2562116674617045882:True:=trivial
theorem tw9083878401905086458:True:=trivial
theorem tw742727710552257563:True:=trivial
theorem tw8715314326580780123:True:=trivial
theorem tw1446463037739288731:True:=trivial
theorem tw11780933870947665083:True:=trivial
theorem tw11943076124160095451:True:=trivial
theorem tw15099270371089996123:True:=trivial
theorem tw6007300129229826427:True:=trivial
theorem tw10940864855932288411:True:=trivial
theorem tw8833259963512191387:True:=trivial
theorem tw14767067488135643:True:=trivial
theorem tw13515669161861000731:True:=trivial
theorem tw7161920191989627451:True:=trivial
theorem tw13949010960705074779:True:=trivial
theorem tw16528643493732443739:True:=trivial
theorem tw4998356506954259099:True:=trivial
theorem tw2270316506759554715:True:=trivial
theorem tw13516739621867822811:True:=trivial
theorem tw12095974581377038107:True:=trivial
theorem tw10648252600804344635:True:=trivial
theorem tw15984080402150931387:True:=trivial
theorem tw16037207266357514203:True:=trivial
theorem tw2404040326125463612:True:=trivial
theorem tw1889867904291048540:True:=trivial
theorem tw4844507641239352476:True:=trivial
theorem tw2394694693038307516:True:=trivial
theorem tw9744492263535127900:True:=trivial
theorem tw9964024136946049372:True:=trivial
theorem tw1467848581988766076:True:=trivial
theorem tw2438616245110675836:True:=trivial
theorem tw15435079493870493212:True:=trivial
theorem tw254224889943367260:True:=trivial
theorem tw4835634069384380092:True:=trivial
theorem tw12381356247805107932:True:=trivial
theorem tw10196503805229625244:True:=trivial
theorem tw8050676509699905500:True:=trivial
theorem tw678478110766520316:True:=trivial
theorem tw13829767026542150685:True:=trivial
theorem tw15567859420311659613:True:=trivial
theorem tw16224935809310636157:True:=trivial
theorem tw1811308669171752061:True:=trivial
theorem tw10855466885465212253:True:=trivial
theorem tw13286017667048977757:True:=trivial
theorem tw8712288867046786653:True:=trivial
theorem tw15646801555689777789:True:=trivial
theorem tw5544775163668192925:True:=trivial
theorem tw2872786396467769021:True:=trivial
theorem tw2272923931041159965:True:=trivial
theorem tw17261380293481611101:True:=trivial
theorem tw10708191924207602557:True:=trivial
theorem tw17874361855931767677:True:=trivial
theorem tw11329398457518550973:True:=trivial
theorem tw516831661399343166:True:=trivial
theorem tw14208102809317851390:True:=trivial
theorem tw6617970829916933406:True:=trivial
theorem tw15423248894901899710:True:=trivial
theorem tw1652890312485101182:True:=trivial
theorem tw13454121743066676926:True:=trivial
theorem tw14042999538212949726:True:=trivial
theorem tw16660314357242905374:True:=trivial
theorem tw316260907709546334:True:=trivial
theorem tw16641399262304081918:True:=trivial
theorem tw8569173712923130943:True:=trivial
theorem tw5649585427658055871:True:=trivial
theorem tw3982827892960932255:True:=trivial
theorem tw11774513841314671167:True:=trivial
theorem tw16574784620886027839:True:=trivial
theorem tw4691820839123355231:True:=trivial
theorem tw15726628414634563167:True:=trivial
theorem tw3796493542045553279:True:=trivial
theorem tw15593671157334742655:True:=trivial
theorem tw17296602514042979007:True:=trivial
theorem tw1519514911841631967:True:=trivial
theorem tw7184624138767793919:True:=trivial
theorem tw12144763222621579039:True:=trivial
theorem tw7436314290455143263:True:=trivial
theorem tw12135472419362642911:True:=trivial
theorem tw439784094753520639:True:=trivial
theorem tw422415557905473888:True:=trivial
end PySem.W.Fast
open PySem PySem.W PyProof.Rows
set_option maxRecDepth 100000 in
set_option maxHeartbeats 0 in
theorem PySem.Challenge.cw_ribbonloft_k39_families_and_frames_that_holds : PySem.Challenge.rw_ribbonloft_k39_families_and_frames_that.Holds := by
 w_on;o_law;k_head;(case hw=>w_witness2)
 k_fill
 refine L2.zb (l:=PySem.Challenge.rw_ribbonloft_k39_families_and_frames_that) (n:=63) (k:=30) (x := "_law_script") (CX:=L2.CX0) (sp:=RS.spL 30 K39.p 53) rfl (by decide) rfl ⟨rfl,by decide,by decide⟩ (fun w h Y=>PySem.W.kIn_of Y) ?F ?S ?C
 case F =>
  intro w mg fa h KX G hmg
  have T:K39.sQ (L2.KOf KX) mg:=by
   dsimp only[L2.KOf]
   constructor
   iterate 54 (refine' K39.DD KX G ?a ?l ?c ?k;(case a=>k_is);(case l=>k_is);(case c=>k_is);(case k=>k_is))
   iterate 14 k_is
   exact⟨_,by k_is⟩
  have tp:=K39.Eg KX G T
  obtain⟨fa',fd,h1,h2,h3,h4⟩:=tp.defs 53 _ rfl
  have e0:=hmg.symm.trans h1
  cases e0
  refine⟨fd,fun s u=>?_,fun base kb nb=>RS.uS K39.GP tp 30 53 _ _ rfl rfl _ _ h2⟩
  obtain⟨oc,od,kV,doc,pm,an,cdv,ct,osl,e9,_,_⟩:=h2.ex
  subst e9
  exact .of_eq rfl
 case S=>exact fun K H a ns hl hO hS=>RS.C4 hO hS (K39.main ns hl)
 case C=>exact fun _ _ _ _ h=>h
