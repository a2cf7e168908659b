import PyProof.Rows.All
import Wide.All
import OpenK.AllK
import Wide.FinOn
import PyProof.EqAt
import PyProof.EqKinds
import PyProof.TupleCall
import PySem.Str
import PyProof.NeKinds
import PyProof.CompMap
import PyProof.CompFree
import PyProof.EnumMake
import PyProof.Draws
import PyProof.ListRange
import PyProof.ConsumeWalk
import PyProof.Rows.SetFrom
import PyProof.SetRoads
import PyProof.ZipIter
import PyProof.Rows.SumAny
import PyProof.Rows.SortWalk
import PyProof.Rows.SeqMore2
import PySem.Challenge.RW_ribbonloft_k20_whole_two_halves_make_a_f
set_option Elab.async false
set_option linter.all false
set_option maxRecDepth 100000
set_option maxHeartbeats 4000000
set_option genSizeOf false
set_option genSizeOfSpec false
namespace RL
open PySem (Str)
abbrev Ky:=Sum Int Str
inductive D where
 | non
 | bl (b:Bool)
 | int (i:Int)
 | str (x:Str)
 | tup (xs:List D)
 | lst (xs:List D)
 | dK (ks:List Ky) (vs:List D)
 | dT (ks:List (List Ky)) (vs:List D)
 | scr (xs:List D)
 deriving Inhabited
mutual
noncomputable def D.imm:D->Bool
 | .tup xs=>au xs
 | .lst _=>false
 | .dK _ _=>false
 | .dT _ _=>false
 | .scr xs=>au xs
 | _=>true
noncomputable def au:List D->Bool
 | []=>true
 | d::r=>d.imm&&au r
end
inductive Bop where | add | sub | mul | fdiv | mod | pow
 deriving DecidableEq
inductive Cop where | lt | le | gt | ge | eq | ne
 deriving DecidableEq
inductive Bi where | len | list | tuple | int | all | any | lenSet | sorted | sortedSet | abs | sum
 deriving DecidableEq
inductive Ty where | int | bool | list | tuple | str
 deriving DecidableEq
mutual
inductive E where
 | var (i:Nat)
 | cst (d:D)
 | glb (x:Str) (i:Int)
 | bin (o:Bop) (a b:E)
 | cmp (c:Cop) (a b:E)
 | chain (c c':Cop) (a b e:E)
 | isB (neg:Bool) (a:E) (b:Bool)
 | isN (neg:Bool) (a:E)
 | inn (neg:Bool) (a b:E)
 | inD (neg:Bool) (a b:E)
 | and (a b:E)
 | or (a b:E)
 | not (a:E)
 | ifx (t a b:E)
 | tup (es:Es)
 | lst (es:Es)
 | ix (a b:E)
 | ixD (a b:E)
 | slT (a b:E)
 | slF (a b:E)
 | rev (a:E)
 | call (f:Nat) (es:Es)
 | bi (b:Bi) (a:E)
 | max (a b:E)
 | min (a b:E)
 | dvm (a b:E)
 | get (a b c:E)
 | isi (a:E) (t:Ty)
 | rng1 (a:E)
 | rng2 (a b:E)
 | rng3 (c:Int) (a b:E)
 | neg (a:E)
 | comp (e:E) (tg:List Nat) (it:It) (c:E)
 | compA (e:E) (tg:List Nat) (it:It)
 | compL (e:E) (tg:List Nat) (it:It)
 | index (a b:E)
 | chain3 (c c' c'':Cop) (a b e g:E)
 | slB (a b c:E)
 | join (a:E)
 | dk0
 | dt0
inductive Es where
 | nil
 | cons (e:E) (es:Es)
inductive It where
 | seq (e:E)
 | rng1 (a:E)
 | rng2 (a b:E)
 | rng3 (c:Int) (a b:E)
 | chr (e:E)
 | enm (e:E)
 | zip (a b:E)
 | nope
end
mutual
inductive S where
 | asg (i:Nat) (e:E)
 | own (i:Nat) (e:E)
 | unp (is:List Nat) (e:E)
 | par (i j:Nat) (a b:E)
 | parO (i j:Nat) (a b:E)
 | app (i:Nat) (e:E)
 | put (i:Nat) (k e:E)
 | put2 (i:Nat) (k l a b:E)
 | pop (i j:Nat)
 | clr (i:Nat)
 | aug (i:Nat) (o:Bop) (e:E)
 | ife (t:E) (a b:Ss)
 | ifp (i:Nat) (e:E) (a b:Ss)
 | forr (tg:List Nat) (it:It) (b:Ss)
 | whil (t:E) (b:Ss)
 | mexc (f:Nat) (es:Es) (ps ms:List Nat)
 | maug (i f:Nat) (es:Es) (ps ms:List Nat)
 | ret (e:E)
 | exc (e:E)
 | never
inductive Ss where
 | nil
 | cons (s:S) (r:Ss)
end
abbrev St:=List (Option D)
abbrev Cl:=Nat->List D->Option D
noncomputable def most:Nat:=100000
noncomputable def bR{α:Type}(xs:List α)(i:Int):Option α :=
 if 0<=i then xs[i.toNat]? else if -(xs.length:Int)<=i then xs[(i+xs.length).toNat]? else none
noncomputable def jQ(n:Nat)(i:Int):Option Nat :=
 if 0<=i then(if i<n then some i.toNat else none)else if -(n:Int)<=i then some (i+n).toNat else none
noncomputable def cutAt(n:Nat)(i:Int):Nat:=if 0<=i then min i.toNat n else(i+n).toNat
noncomputable def a8:Bop->D->D->Option D
 | .add,.int a,.int b=>some (.int (a+b))
 | .add,.str a,.str b=>if a.length+b.length<=most then some (.str (a++b))else none
 | .add,.lst a,.lst b=>if a.length+b.length<=most then some (.lst (a++b))else none
 | .add,.tup a,.tup b=>if a.length+b.length<=most/\0<a.length then some (.tup (a++b))else none
 | .sub,.int a,.int b=>some (.int (a-b))
 | .mul,.int a,.int b=>if(-(2 ^ 64)<a/\a<2 ^ 64)\/(-(2 ^ 64)<b/\b<2 ^ 64)then some (.int (a*b))else none
 | .mul,.lst a,.int b=>if 0<=b/\b<=most/\a.length*b.toNat<=most then some (.lst (List.replicate b.toNat a).flatten)else none
 | .fdiv,.int a,.int b=>if 0<b/\b<2 ^ 200 then some (.int (a / b))else none
 | .mod,.int a,.int b=>if 0<b then some (.int (a%b))else none
 | .pow,.int a,.int b=>if 0<=b/\b<=1000/\a.natAbs<2 ^ 64 then some (.int (a ^ b.toNat))else none
 | _,_,_=>none
noncomputable def eqs(f:D->D->Option Bool):List D->List D->Option Bool
 | a::r,b::s=>(f a b).bind fun e=>(eqs f r s).map fun k=>e&&k
 | _,_=>some true
noncomputable def eqD:Nat->D->D->Option Bool
 | _,.int a,.int b=>some (a == b)
 | _,.str a,.str b=>some (a == b)
 | _,.bl a,.bl b=>some (a == b)
 | n+1,.tup a,.tup b=>(eqs (eqD n) a b).map fun k=>k&&a.length == b.length
 | n+1,.lst a,.lst b=>(eqs (eqD n) a b).map fun k=>k&&a.length == b.length
 | _,_,_=>none
noncomputable def aT:Cop->D->D->Option Bool
 | .lt,.int a,.int b=>some (decide (a<b))
 | .le,.int a,.int b=>some (decide (a<=b))
 | .gt,.int a,.int b=>some (decide (b<a))
 | .ge,.int a,.int b=>some (decide (b<=a))
 | .eq,a,b=>eqD 8 a b
 | .ne,a,b=>(eqD 8 a b).map not
 | _,_,_=>none
noncomputable def truth:D->Option Bool
 | .bl b=>some b
 | .lst xs=>some (!xs.isEmpty)
 | .tup xs=>some (!xs.isEmpty)
 | .int i=>some (i != 0)
 | _=>none
noncomputable def cL:List D->Option (List Int)
 | []=>some []
 | .int i::r=>(cL r).map (i :: ·)
 | _=>none
noncomputable def c7:List D->Option (List Bool)
 | []=>some []
 | .bl i::r=>(c7 r).map (i :: ·)
 | _=>none
noncomputable def strs?:List D->Option (List Str)
 | []=>some []
 | .str i::r=>(strs? r).map (i :: ·)
 | _=>none
noncomputable def oB(a:Int):List Int->List Int
 | []=>[a]
 | b::r=>if a<=b then a::b::r else b::oB a r
noncomputable def sortI:List Int->List Int
 | []=>[]
 | a::r=>oB a (sortI r)
noncomputable def rK(xs:List Int):List Int:=xs.foldl (fun m k=>if m.any (· == k)then m else m++[k]) []
noncomputable def items:D->Option (List D)
 | .lst xs=>some xs
 | .tup xs=>some xs
 | _=>none
noncomputable def eK:D->Option (List D)
 | .lst xs=>some xs
 | .tup xs=>some xs
 | .str x=>some (x.cps.toList.map fun c=>.str ⟨#[c]⟩)
 | _=>none
noncomputable def biV:Bi->D->Option D
 | .len,.str x=>if x.length<=most then some (.int x.length)else none
 | .len,.dK ks _=>some (.int ks.length)
 | .len,.dT ks _=>some (.int ks.length)
 | .len,d=>(items d).map fun xs=>.int xs.length
 | .list,d=>(items d).map .lst
 | .tuple,d=>(items d).map .tup
 | .int,.bl b=>some (.int (if b then 1 else 0))
 | .int,.int i=>some (.int i)
 | .int,_=>none
 | .all,.lst xs=>(c7 xs).map fun bs=>.bl (bs.all id)
 | .any,.lst xs=>(c7 xs).map fun bs=>.bl (bs.any id)
 | .all,_=>none
 | .any,_=>none
 | .lenSet,.lst xs=>if xs.length<=1000 then(cL xs).map fun is=>.int (rK is).length else none
 | .lenSet,_=>none
 | .sorted,.lst xs=>if xs.length<64 then(cL xs).map fun is=>.lst ((sortI is).map .int)else none
 | .sorted,_=>none
 | .sortedSet,.lst xs=>(cL xs).map fun is=>.lst ((sortI (rK is)).map .int)
 | .sortedSet,_=>none
 | .abs,.int i=>some (.int (if i<0 then -i else i))
 | .abs,_=>none
 | .sum,.lst xs=>(cL xs).map fun is=>.int is.sum
 | .sum,_=>none
noncomputable def cb:Ty->D->Option Bool
 | .int,.int _=>some true
 | .int,.bl _=>some true
 | .bool,.bl _=>some true
 | .list,.lst _=>some true
 | .tuple,.tup _=>some true
 | .str,.str _=>some true
 | _,.non=>some false
 | _,.bl _=>some false
 | _,.int _=>some false
 | _,.str _=>some false
 | _,.tup _=>some false
 | _,.lst _=>some false
 | _,_=>none
noncomputable def keyOf:D->Option Ky
 | .int i=>some (.inl i)
 | .str x=>some (.inr x)
 | _=>none
noncomputable def keysOf:List D->Option (List Ky)
 | []=>some []
 | d::r=>(keyOf d).bind fun k=>(keysOf r).map (k :: ·)
noncomputable def aQ{κ:Type} [DecidableEq κ]:List κ->List D->κ->Option D
 | k::ks,v::vs,x=>if k=x then some v else aQ ks vs x
 | _,_,_=>none
noncomputable def putD{κ:Type} [DecidableEq κ](ks:List κ)(vs:List D)(x:κ)(d:D):List κ × List D :=
 if x∈ks then(ks,List.zipWith (fun k v=>if k=x then d else v) ks vs)else(ks++[x],vs++[d])
noncomputable def ixV:D->D->Option D
 | .lst xs,.int i=>bR xs i
 | .tup xs,.int i=>bR xs i
 | .str x,.int i=>if x.length<=most then(bR x.cps.toList i).map fun c=>.str ⟨#[c]⟩else none
 | _,_=>none
noncomputable def AE:D->D->Option D
 | .dK ks vs,k=>(keyOf k).bind (aQ ks vs)
 | .dT ks vs,.tup k=>(keysOf k).bind (aQ ks vs)
 | _,_=>none
noncomputable def pW:D->D->D->Option D
 | .dK ks vs,k,z=>(keyOf k).map fun q=>(aQ ks vs q).getD z
 | .dT ks vs,.tup k,z=>(keysOf k).map fun q=>(aQ ks vs q).getD z
 | _,_,_=>none
noncomputable def AY:D->D->Option Bool
 | .dK ks vs,k=>(keyOf k).map fun k=>(aQ ks vs k).isSome
 | .dT ks vs,.tup k=>(keysOf k).map fun k=>(aQ ks vs k).isSome
 | _,_=>none
noncomputable def flat:D->Bool
 | .int _=>true
 | .str _=>true
 | _=>false
noncomputable def eqF:D->D->Bool
 | .int a,.int b=>a == b
 | .str a,.str b=>a == b
 | _,_=>false
noncomputable def inV(a b:D):Option Bool :=
 (items b).bind fun xs=>if flat a&&xs.all flat then some (xs.any fun x=>eqF x a)else none
noncomputable def mS:D->D->Option D
 | .scr xs,.int k=>some (.lst (xs.take (cutAt xs.length k)))
 | .lst xs,.int k=>some (.lst (xs.take (cutAt xs.length k)))
 | .tup xs,.int k=>if cutAt xs.length k<xs.length then some (.tup (xs.take (cutAt xs.length k)))else none
 | _,_=>none
noncomputable def Bu:D->D->Option D
 | .lst xs,.int k=>some (.lst (xs.drop (cutAt xs.length k)))
 | .tup xs,.int k=>if 0<cutAt xs.length k then some (.tup (xs.drop (cutAt xs.length k)))else none
 | _,_=>none
noncomputable def Bo:D->D->D->Option D
 | .lst xs,.int i,.int k=>some (.lst ((xs.take (cutAt xs.length k)).drop (cutAt xs.length i)))
 | .tup xs,.int i,.int k=>if 0<cutAt xs.length i\/cutAt xs.length k<xs.length then some (.tup ((xs.take (cutAt xs.length k)).drop (cutAt xs.length i)))else none
 | _,_,_=>none
noncomputable def bO(lo:Int):Nat->List D
 | 0=>[]
 | n+1=>.int lo::bO (lo+1) n
noncomputable def bB(c lo:Int):Nat->List D
 | 0=>[]
 | n+1=>.int lo::bB c (lo+c) n
noncomputable def bc(c a b:Int):Nat:=(if c > 0 then(if a<b then(b-a-1) / c+1 else 0)else(if a > b then(a-b-1) / (-c)+1 else 0)).toNat
noncomputable def cK:D->D->Option (List D)
 | .int a,.int b=>if(b-a).toNat<=most/\-(2 ^ 60)<=a/\a<2 ^ 60/\-(2 ^ 60)<=b/\b<2 ^ 60 then some (bO a (b-a).toNat)else none
 | _,_=>none
noncomputable def eW(c:Int):D->D->Option (List D)
 | .int a,.int b=>if c≠0/\-(2 ^ 60)<c/\c<2 ^ 60/\bc c a b<=most/\-(2 ^ 60)<=a/\a<2 ^ 60/\-(2 ^ 60)<=b/\b<2 ^ 60 then some (bB c a (bc c a b))else none
 | _,_=>none
noncomputable def cx(i:Int):List D->List D
 | []=>[]
 | d::r=>.tup [.int i,d]::cx (i+1) r
noncomputable def cG:List D->List D->List D
 | a::r,b::s=>.tup [a,b]::cG r s
 | _,_=>[]
noncomputable def bg:List Nat->List D->St->Option St
 | [],[],σ=>some σ
 | i::is,d::ds,σ=>bg is ds (σ.set i (some d))
 | _,_,_=>none
noncomputable def aI(tg:List Nat)(d:D)(σ:St):Option St :=
 match tg with
 | [i]=>some (σ.set i (some d))
 | tg=>match d with
  | .tup ds=>bg tg ds σ
  | .lst ds=>bg tg ds σ
  | _=>none
noncomputable def jc(y:Option D)(ys:List D):Option (List D) :=
 match y with
 | some e=>if e.imm then some (e::ys)else none
 | none=>some ys
noncomputable def c6(f:St->Option (Option D))(tg:List Nat)(σ:St):List D->Option (List D)
 | []=>some []
 | d::r=>(aI tg d σ).bind fun σ1=>(f σ1).bind fun y=>(c6 f tg σ r).bind (jc y)
noncomputable def aJ:D->Bool
 | .lst xs=>au xs
 | .dK _ vs=>au vs
 | .dT _ vs=>au vs
 | _=>false
noncomputable def yk(f:St->Option D)(fr:Bool)(tg:List Nat)(σ:St):List D->Option (List D)
 | []=>some []
 | d::r=>(aI tg d σ).bind fun σ1=>(f σ1).bind fun y=>if aJ y&&fr then(yk f fr tg σ r).map (y :: ·)else none
noncomputable def fits(xs:List D):Option (List D):=if xs.length<=most then some xs else none
noncomputable def az:E->Bool
 | .lst _=>true
 | .tup _=>true
 | .comp _ _ _ _=>true
 | .compA _ _ _=>true
 | .compL _ _ _=>true
 | .bin _ _ _=>true
 | .slT _ _=>true
 | .slF _ _=>true
 | .slB _ _ _=>true
 | .rev _=>true
 | .call _ _=>true
 | .bi _ _=>true
 | .rng1 _=>true
 | .rng2 _ _=>true
 | .rng3 _ _ _=>true
 | .dk0=>true
 | .dt0=>true
 | _=>false
mutual
noncomputable def ev(cl:Cl)(σ:St):E->Option D
 | .var i=>(σ[i]?).bind id
 | .cst d=>some d
 | .glb _ i=>some (.int i)
 | .bin o a b=>(ev cl σ a).bind fun x=>(ev cl σ b).bind fun y=>a8 o x y
 | .cmp c a b=>(ev cl σ a).bind fun x=>(ev cl σ b).bind fun y=>(aT c x y).map .bl
 | .chain c c' a b e=>(ev cl σ a).bind fun x=>(ev cl σ b).bind fun y=>(aT c x y).bind fun k=>if k then(ev cl σ e).bind fun z=>(aT c' y z).map .bl else some (.bl false)
 | .isB neg a b=>(ev cl σ a).bind fun x=>match x with
  | .bl k=>some (.bl (if neg then !decide (k=b)else decide (k=b)))
  | _=>none
 | .isN neg a=>(ev cl σ a).bind fun x=>match x with
  | .non=>some (.bl (!neg))
  | .dK _ _=>none
  | .dT _ _=>none
  | _=>some (.bl neg)
 | .inn neg a b=>(ev cl σ a).bind fun x=>(ev cl σ b).bind fun y=>(inV x y).map fun k=>.bl (if neg then !k else k)
 | .inD neg a b=>(ev cl σ a).bind fun x=>(ev cl σ b).bind fun y=>(AY y x).map fun k=>.bl (if neg then !k else k)
 | .and a b=>(ev cl σ a).bind fun x=>match x with
  | .bl true=>ev cl σ b
  | .bl false=>some (.bl false)
  | _=>none
 | .or a b=>(ev cl σ a).bind fun x=>match x with
  | .bl false=>ev cl σ b
  | .bl true=>some (.bl true)
  | _=>none
 | .not a=>((ev cl σ a).bind truth).map fun k=>.bl (!k)
 | .ifx t a b=>((ev cl σ t).bind truth).bind fun k=>if k then ev cl σ a else ev cl σ b
 | .tup es=>(evs cl σ es).map .tup
 | .lst es=>(evs cl σ es).map .lst
 | .ix a b=>(ev cl σ a).bind fun x=>(ev cl σ b).bind fun y=>ixV x y
 | .ixD a b=>(ev cl σ a).bind fun x=>(ev cl σ b).bind fun y=>AE x y
 | .slT a b=>(ev cl σ a).bind fun x=>(ev cl σ b).bind fun y=>mS x y
 | .slF a b=>(ev cl σ a).bind fun x=>(ev cl σ b).bind fun y=>Bu x y
 | .rev a=>(ev cl σ a).bind fun x=>match x with
  | .lst xs=>some (.lst xs.reverse)
  | .tup xs=>some (.tup xs.reverse)
  | _=>none
 | .call f es=>(evs cl σ es).bind fun ds=>cl f ds
 | .bi b a=>(ev cl σ a).bind fun x=>biV b x
 | .max a b=>(ev cl σ a).bind fun x=>(ev cl σ b).bind fun y=>match x,y with
  | .int i,.int j=>some (.int (if j > i then j else i))
  | _,_=>none
 | .min a b=>(ev cl σ a).bind fun x=>(ev cl σ b).bind fun y=>match x,y with
  | .int i,.int j=>some (.int (if j<i then j else i))
  | _,_=>none
 | .dvm a b=>(ev cl σ a).bind fun x=>(ev cl σ b).bind fun y=>match x,y with
  | .int i,.int j=>if 0<j/\j<1073741824 then some (.tup [.int (i / j),.int (i%j)])else none
  | _,_=>none
 | .get a b c=>(ev cl σ a).bind fun x=>(ev cl σ b).bind fun y=>(ev cl σ c).bind fun z=>pW x y z
 | .isi a t=>(ev cl σ a).bind fun x=>(cb t x).map .bl
 | .rng1 a=>(ev cl σ a).bind fun x=>(cK (.int 0) x).map .lst
 | .rng2 a b=>(ev cl σ a).bind fun x=>(ev cl σ b).bind fun y=>(cK x y).map .lst
 | .rng3 c a b=>(ev cl σ a).bind fun x=>(ev cl σ b).bind fun y=>(eW c x y).map .lst
 | .neg a=>(ev cl σ a).bind fun x=>match x with
  | .int i=>some (.int (-i))
  | _=>none
 | .comp e tg it c=>(aZ cl σ it).bind fun ds=>(fits ds).bind fun ds=>(c6 (fun σ1=>((ev cl σ1 c).bind truth).bind fun k=>if k then(ev cl σ1 e).map some else some none) tg σ ds).map .lst
 | .compA e tg it=>(aZ cl σ it).bind fun ds=>(fits ds).bind fun ds=>(c6 (fun σ1=>(ev cl σ1 e).map some) tg σ ds).map .lst
 | .compL e tg it=>(aZ cl σ it).bind fun ds=>(fits ds).bind fun ds=>(yk (fun σ1=>ev cl σ1 e) (az e) tg σ ds).map .lst
 | .index a b=>(ev cl σ a).bind fun x=>(ev cl σ b).bind fun y=>match x,y with
  | .lst xs,.int i=>(cL xs).bind fun is=>if i∈is then some (.int (is.idxOf i))else none
  | _,_=>none
 | .join a=>(ev cl σ a).bind fun x=>match x with
  | .lst xs=>(strs? xs).bind fun ss=>if ss.length<=most/\ss.all (fun s=>s.length<=10)then some (.str ⟨(ss.flatMap fun s=>s.cps.toList).toArray⟩)else none
  | _=>none
 | .chain3 c c' c'' a b e g=>(ev cl σ a).bind fun x=>(ev cl σ b).bind fun y=>(aT c x y).bind fun k=>if k then(ev cl σ e).bind fun z=>(aT c' y z).bind fun k'=>if k' then(ev cl σ g).bind fun w=>(aT c'' z w).map .bl else some (.bl false)else some (.bl false)
 | .slB a b c=>(ev cl σ a).bind fun x=>(ev cl σ b).bind fun y=>(ev cl σ c).bind fun z=>Bo x y z
 | .dk0=>some (.dK [] [])
 | .dt0=>some (.dT [] [])
noncomputable def evs(cl:Cl)(σ:St):Es->Option (List D)
 | .nil=>some []
 | .cons e es=>(ev cl σ e).bind fun d=>(evs cl σ es).map (d :: ·)
noncomputable def aZ(cl:Cl)(σ:St):It->Option (List D)
 | .seq e=>(ev cl σ e).bind items
 | .rng1 a=>(ev cl σ a).bind fun x=>cK (.int 0) x
 | .rng2 a b=>(ev cl σ a).bind fun x=>(ev cl σ b).bind fun y=>cK x y
 | .rng3 c a b=>(ev cl σ a).bind fun x=>(ev cl σ b).bind fun y=>eW c x y
 | .chr e=>(ev cl σ e).bind fun x=>match x with
  | .str x=>eK (.str x)
  | _=>none
 | .enm e=>(ev cl σ e).bind fun x=>(eK x).map (cx 0)
 | .zip a b=>(ev cl σ a).bind fun x=>(ev cl σ b).bind fun y=>(items x).bind fun xs=>(items y).bind fun ys=>if xs.length=ys.length then some (cG xs ys)else none
 | .nope=>none
end
inductive Out where
 | nx
 | rt (d:D)
noncomputable def avE(M:List Nat):E->Bool
 | .var j=>!M.contains j
 | .ix a _=>avE M a
 | .call _ _=>true
 | .compL _ _ _=>true
 | .ifx _ a b=>avE M a&&avE M b
 | _=>false
noncomputable def pO(M:List Nat):It->Bool
 | .seq e=>avE M e || az e
 | .enm e=>avE M e || az e
 | .zip a b=>(avE M a || az a)&&(avE M b || az b)
 | _=>true
noncomputable def b9(M:List Nat)(e:E)(d:D):Bool :=
 d.imm || (aJ d&&(az e || match e with | .var i=>M.contains i | _=>false))
noncomputable def bz(M:List Nat)(e:E)(d:D):Bool:=d.imm || (aJ d&&az e) || avE M e
noncomputable def isVar:E->Bool
 | .var _=>true
 | _=>false
noncomputable def eT(M ps:List Nat):Nat->Es->List D->Bool
 | _,.nil,[]=>true
 | q,.cons e es,d::ds=>(if ps.contains q then isVar e else bz M e d)&&eT M ps (q+1) es ds
 | _,_,_=>false
noncomputable def eY:D->D->D->Option D
 | .lst xs,.int k,d=>(jQ xs.length k).map fun j=>.lst (xs.set j d)
 | .dK ks vs,k,d=>(keyOf k).bind fun k=>if ks.length<most then some (.dK (putD ks vs k d).1 (putD ks vs k d).2)else none
 | .dT ks vs,.tup k,d=>(keysOf k).bind fun k=>if ks.length<most then some (.dT (putD ks vs k d).1 (putD ks vs k d).2)else none
 | _,_,_=>none
noncomputable def bh(f:St->Option (Out × St))(tg:List Nat):List D->St->Option (Out × St)
 | [],σ=>some (.nx,σ)
 | d::r,σ=>if d.imm then(aI tg d σ).bind fun σ1=>(f σ1).bind fun p=>match p.1 with
   | .nx=>bh f tg r p.2
   | .rt d=>some (.rt d,p.2)
  else none
noncomputable def whF(t:St->Option Bool)(f:St->Option (Out × St)):Nat->St->Option (Out × St)
 | 0,_=>none
 | n+1,σ=>(t σ).bind fun k=>if k then(f σ).bind fun p=>match p.1 with
   | .nx=>whF t f n p.2
   | .rt d=>some (.rt d,p.2)
  else some (.nx,σ)
mutual
noncomputable def evS(cl:Cl)(M:List Nat):S->St->Option (Out × St)
 | .asg i e,σ=>(ev cl σ e).bind fun d=>if bz M e d then some (.nx,σ.set i (some d))else none
 | .own i e,σ=>(ev cl σ e).bind fun d=>if aJ d&&az e then some (.nx,σ.set i (some d))else none
 | .unp is e,σ=>(ev cl σ e).bind fun d=>(items d).bind fun ds=>if au ds then(bg is ds σ).map fun σ1=>(.nx,σ1)else none
 | .par i j a b,σ=>(ev cl σ a).bind fun x=>(ev cl σ b).bind fun y=>if x.imm&&y.imm then some (.nx,(σ.set i (some x)).set j (some y))else none
 | .parO i j a b,σ=>(ev cl σ a).bind fun x=>(ev cl σ b).bind fun y=>if(aJ x&&az a)&&(aJ y&&az b)then some (.nx,(σ.set i (some x)).set j (some y))else none
 | .app i e,σ=>(ev cl σ e).bind fun d=>((σ[i]?).bind id).bind fun l=>match l with
  | .lst xs=>if d.imm&&decide (xs.length<most)then some (.nx,σ.set i (some (.lst (xs++[d]))))else none
  | _=>none
 | .put i k e,σ=>(ev cl σ e).bind fun d=>(ev cl σ k).bind fun kk=>((σ[i]?).bind id).bind fun l=>if d.imm then(eY l kk d).map fun l'=>(.nx,σ.set i (some l'))else none
 | .put2 i k l a b,σ=>(ev cl σ a).bind fun x=>(ev cl σ b).bind fun y=>if x.imm&&y.imm then
   (ev cl σ k).bind fun kk=>((σ[i]?).bind id).bind fun c=>match c with
   | .lst _=>(eY c kk x).bind fun c1=>(ev cl (σ.set i (some c1)) l).bind fun ll=>(eY c1 ll y).map fun c2=>(.nx,(σ.set i (some c1)).set i (some c2))
   | _=>none
  else none
 | .pop i j,σ=>((σ[i]?).bind id).bind fun l=>match l with
  | .lst xs=>(xs[xs.length-1]?).map fun d=>(.nx,(σ.set i (some (.lst xs.dropLast))).set j (some d))
  | _=>none
 | .clr i,σ=>((σ[i]?).bind id).bind fun l=>match l with
  | .lst _=>some (.nx,σ.set i (some (.lst [])))
  | _=>none
 | .aug i o e,σ=>((σ[i]?).bind id).bind fun x=>(ev cl σ e).bind fun y=>match x,y with
  | .int a,.int b=>(a8 o (.int a) (.int b)).map fun z=>(.nx,σ.set i (some z))
  | _,_=>none
 | .ife t a b,σ=>((ev cl σ t).bind truth).bind fun k=>if k then aj cl M a σ else aj cl M b σ
 | .ifp i e a b,σ=>((σ[i]?).bind id).bind fun l=>match l with
  | .lst xs=>(xs[xs.length-1]?).bind fun d=>(ev cl (σ.set i (some (.lst xs.dropLast))) e).bind fun y=>match d,y with
   | .int p,.int q=>if decide (p=q)then aj cl M b (σ.set i (some (.lst xs.dropLast)))else aj cl M a (σ.set i (some (.lst xs.dropLast)))
   | _,_=>none
  | _=>none
 | .forr tg it b,σ=>(aZ cl σ it).bind fun ds=>bh (aj cl M b) tg ds σ
 | .whil t b,σ=>whF (fun σ=>(ev cl σ t).bind truth) (aj cl M b) most σ
 | .mexc f es ps ms,σ=>(evs cl σ es).bind fun ds=>if eT M ps 0 es ds then(cl f ds).bind fun r=>match r with
  | .tup (_::outs)=>(bg ms outs σ).map fun σ1=>(.nx,σ1)
  | _=>none
  else none
 | .maug i f es ps ms,σ=>((σ[i]?).bind id).bind fun x=>(evs cl σ es).bind fun ds=>if eT M ps 0 es ds then(cl f ds).bind fun r=>match r with
  | .tup (y::outs)=>match x,y with
   | .int a,.int b=>(bg ms outs σ).map fun σ1=>(.nx,σ1.set i (some (.int (a+b))))
   | _,_=>none
  | _=>none
  else none
 | .ret e,σ=>(ev cl σ e).bind fun d=>if b9 M e d then some (.rt d,σ)else none
 | .exc e,σ=>(ev cl σ e).map fun _=>(.nx,σ)
 | .never,_=>none
noncomputable def aj(cl:Cl)(M:List Nat):Ss->St->Option (Out × St)
 | .nil,σ=>some (.nx,σ)
 | .cons s r,σ=>(evS cl M s σ).bind fun p=>match p.1 with
  | .nx=>aj cl M r p.2
  | .rt d=>some (.rt d,p.2)
end
structure Fn where
 ps:Nat
 nn:Nat
 M:List Nat
 mp:List Nat
 body:Ss
noncomputable def eB(σ:St):List Nat->Option (List D)
 | []=>some []
 | i::is=>((σ[i]?).bind id).bind fun d=>(eB σ is).map (d :: ·)
noncomputable def aS(fn:Fn)(d:D)(σ:St):Option D :=
 if fn.mp.isEmpty then some d else if d.imm then(eB σ fn.mp).map fun os=>.tup (d::os)else none
noncomputable def ao(T:List Fn):Nat->Cl
 | 0,_,_=>none
 | n+1,f,ds=>(T[f]?).bind fun fn=>if ds.length=fn.ps then(aj (ao T n) fn.M fn.body (ds.map some++List.replicate (fn.nn-fn.ps) none)).bind fun p=>match p.1 with
  | .nx=>aS fn .non p.2
  | .rt d=>aS fn d p.2
  else none
end RL
namespace RT
open RL
noncomputable def fj:Fn :=
 ⟨1,1,[],[],(.cons (.ret (.and (.isi (.var 0) .int) (.not (.isi (.var 0) .bool)))) .nil)⟩
noncomputable def cE(f_is_number:Nat):Fn :=
 ⟨1,1,[],[],(.cons (.ret (.and (.call f_is_number (.cons (.var 0) .nil)) (.chain .le .le (.cst (.int 1)) (.var 0) (.glb "MOST_PEGS" 10)))) .nil)⟩
noncomputable def bC(f_is_peg_count:Nat):Fn :=
 ⟨1,1,[],[],(.cons (.ife (.not (.call f_is_peg_count (.cons (.var 0) .nil))) (.cons .never .nil) .nil) .nil)⟩
noncomputable def lC:Fn :=
 ⟨3,3,[0,0],[0],(.cons (.put 0 (.var 1) (.var 2)) (.cons (.put 0 (.var 2) (.var 1)) .nil))⟩
noncomputable def hW:Fn :=
 ⟨1,1,[],[],(.cons (.ret (.bin .fdiv (.bi .len (.var 0)) (.cst (.int 2)))) .nil)⟩
noncomputable def e8(f_check_pegs:Nat):Fn :=
 ⟨1,1,[],[],(.cons (.exc (.call f_check_pegs (.cons (.var 0) .nil))) (.cons (.ret (.bi .tuple (.bin .add (.rng2 (.var 0) (.bin .mul (.cst (.int 2)) (.var 0))) (.rng1 (.var 0))))) .nil))⟩
noncomputable def gK:Fn :=
 ⟨1,3,[],[],(.cons (.asg 1 (.bin .mod (.bin .add (.bin .mul (.var 0) (.cst (.int 48271))) (.cst (.int 11))) (.cst (.int 2147483647)))) (.cons (.asg 2 (.bin .mod (.bin .add (.bin .add (.bin .mul (.var 1) (.var 1)) (.bin .mul (.cst (.int 40692)) (.var 1))) (.var 0)) (.cst (.int 2147483399)))) (.cons (.ret (.bin .mod (.bin .add (.bin .add (.bin .mul (.var 2) (.var 2)) (.bin .mul (.cst (.int 69621)) (.var 2))) (.var 1)) (.cst (.int 2147483563)))) .nil)))⟩
noncomputable def fU(f_law_mix:Nat):Ss :=
 (.cons (.asg 3 (.bin .add (.bin .mul (.var 3) (.cst (.int 2147483563))) (.call f_law_mix (.cons (.bin .add (.bin .add (.var 2) (.bin .mul (.cst (.int 1009)) (.var 1))) (.bin .mul (.cst (.int 7919)) (.var 4))) .nil)))) .nil)
noncomputable def hZ(f_law_mix:Nat):Fn :=
 ⟨2,5,[],[],(.cons (.asg 2 (.bin .add (.bin .mul (.cst (.int 7)) (.var 1)) (.cst (.int 3)))) (.cons (.ife (.cmp .gt (.bi .len (.var 0)) (.cst (.int 0))) (.cons (.asg 2 (.bin .add (.ix (.var 0) (.bin .mod (.var 1) (.bi .len (.var 0)))) (.bin .mul (.cst (.int 9973)) (.bin .fdiv (.var 1) (.bi .len (.var 0)))))) .nil) .nil) (.cons (.ife (.and (.cmp .lt (.var 1) (.bi .len (.var 0))) (.cmp .ge (.var 2) (.bin .pow (.cst (.int 10)) (.cst (.int 18))))) (.cons (.ret (.bin .sub (.var 2) (.bin .pow (.cst (.int 10)) (.cst (.int 18))))) .nil) .nil) (.cons (.asg 3 (.cst (.int 0))) (.cons (.forr [4] (.rng1 (.cst (.int 40))) (fU f_law_mix)) (.cons (.ret (.var 3)) .nil))))))⟩
noncomputable def dO(f_law_raw:Nat):Ss :=
 (.cons (.app 4 (.bin .mod (.var 3) (.var 5))) (.cons (.asg 3 (.bin .fdiv (.var 3) (.var 5))) .nil))
noncomputable def cW(f_law_raw:Nat):Fn :=
 ⟨3,6,[4],[],(.cons (.asg 3 (.call f_law_raw (.cons (.var 0) (.cons (.var 1) .nil)))) (.cons (.own 4 (.lst .nil)) (.cons (.forr [5] (.seq (.var 2)) (dO f_law_raw)) (.cons (.ret (.var 4)) .nil))))⟩
noncomputable def eG(f_names_back:Nat):Fn :=
 ⟨1,2,[],[],(.cons (.ret (.and (.isi (.var 0) .tuple) (.bi .all (.compA (.call f_names_back (.cons (.var 0) (.cons (.var 1) .nil))) [1] (.rng1 (.bi .len (.var 0))))))) .nil)⟩
noncomputable def eR(f_is_number:Nat):Fn :=
 ⟨2,3,[],[],(.cons (.asg 2 (.ix (.var 0) (.var 1))) (.cons (.ret (.and (.call f_is_number (.cons (.var 2) .nil)) (.and (.chain .le .lt (.cst (.int 0)) (.var 2) (.bi .len (.var 0))) (.cmp .eq (.ix (.var 0) (.var 2)) (.var 1))))) .nil))⟩
noncomputable def bj:Ss :=
 (.cons (.ife (.cmp .gt (.var 3) (.var 2)) (.cons (.app 1 (.var 2)) .nil) (.cons (.ife (.cmp .eq (.var 3) (.var 2)) (.cons (.ife (.var 1) (.cons (.ret (.cst (.bl false))) .nil) .nil) .nil) (.cons (.ifp 1 (.var 3) (.cons (.ret (.cst (.bl false))) .nil) .nil) .nil)) .nil)) .nil)
noncomputable def dt:Fn :=
 ⟨1,4,[1],[],(.cons (.own 1 (.lst .nil)) (.cons (.forr [2,3] (.enm (.var 0)) (bj)) (.cons (.ret (.cst (.bl true))) .nil)))⟩
noncomputable def ee(f_is_uncrossed f_in_round f_is_pairing f_is_peg_count f_pegs_of:Nat):Fn :=
 ⟨1,5,[],[],(.cons (.asg 1 (.call f_pegs_of (.cons (.var 0) .nil))) (.cons (.ife (.or (.cmp .ne (.bi .len (.var 0)) (.bin .mul (.cst (.int 2)) (.var 1))) (.or (.not (.call f_is_peg_count (.cons (.var 1) .nil))) (.not (.call f_is_pairing (.cons (.var 0) .nil))))) (.cons (.ret (.cst (.bl false))) .nil) .nil) (.cons (.asg 2 (.comp (.var 3) [3,4] (.enm (.var 0)) (.cmp .eq (.var 3) (.var 4)))) (.cons (.ret (.and (.not (.var 2)) (.call f_is_uncrossed (.cons (.call f_in_round (.cons (.var 0) .nil)) .nil)))) .nil))))⟩
noncomputable def cM(f_is_frame:Nat):Fn :=
 ⟨1,1,[],[],(.cons (.ife (.not (.call f_is_frame (.cons (.var 0) .nil))) (.cons .never .nil) .nil) .nil)⟩
noncomputable def cq:Fn :=
 ⟨2,2,[],[],(.cons (.ret (.ifx (.cmp .lt (.var 1) (.var 0)) (.var 1) (.bin .sub (.bin .sub (.bin .mul (.cst (.int 3)) (.var 0)) (.cst (.int 1))) (.var 1)))) .nil)⟩
noncomputable def dX(f_moved f_round_place f_pegs_of:Nat):Fn :=
 ⟨1,3,[],[],(.cons (.asg 1 (.call f_pegs_of (.cons (.var 0) .nil))) (.cons (.ret (.call f_moved (.cons (.var 0) (.cons (.compA (.call f_round_place (.cons (.var 1) (.cons (.var 2) .nil))) [2] (.rng1 (.bin .mul (.cst (.int 2)) (.var 1)))) .nil)))) .nil))⟩
noncomputable def iW:Ss :=
 (.cons (.put 2 (.ix (.var 1) (.var 3)) (.ix (.var 1) (.var 4))) .nil)
noncomputable def ic:Fn :=
 ⟨2,5,[2],[],(.cons (.own 2 (.bin .mul (.lst (.cons (.cst (.int 0)) .nil)) (.bi .len (.var 0)))) (.cons (.forr [3,4] (.enm (.var 0)) (iW)) (.cons (.ret (.bi .tuple (.var 2))) .nil)))⟩
noncomputable def bY(f_law_same:Nat):Fn :=
 ⟨2,4,[],[],(.cons (.ife (.isN false (.var 1)) (.cons (.ret (.isN false (.var 0))) .nil) .nil) (.cons (.ife (.or (.cmp .ne (.isi (.var 0) .bool) (.isi (.var 1) .bool)) (.cmp .ne (.isi (.var 0) .int) (.isi (.var 1) .int))) (.cons (.ret (.cst (.bl false))) .nil) .nil) (.cons (.ife (.or (.cmp .ne (.isi (.var 0) .list) (.isi (.var 1) .list)) (.cmp .ne (.isi (.var 0) .tuple) (.isi (.var 1) .tuple))) (.cons (.ret (.cst (.bl false))) .nil) .nil) (.cons (.ife (.and (.not (.isi (.var 1) .list)) (.not (.isi (.var 1) .tuple))) (.cons (.ret (.and (.cmp .eq (.isi (.var 0) .str) (.isi (.var 1) .str)) (.cmp .eq (.var 0) (.var 1)))) .nil) .nil) (.cons (.ret (.and (.cmp .eq (.bi .len (.var 0)) (.bi .len (.var 1))) (.bi .all (.compA (.call f_law_same (.cons (.var 2) (.cons (.var 3) .nil))) [2,3] (.zip (.var 0) (.var 1)))))) .nil)))))⟩
noncomputable def hG(f_moved f_plain f_pegs_of f_check_frame:Nat):Fn :=
 ⟨1,1,[],[],(.cons (.exc (.call f_check_frame (.cons (.var 0) .nil))) (.cons (.ret (.call f_moved (.cons (.var 0) (.cons (.call f_plain (.cons (.call f_pegs_of (.cons (.var 0) .nil)) .nil)) .nil)))) .nil))⟩
noncomputable def gD(f_is_uncrossed f_is_pairing f_is_peg_count:Nat):Fn :=
 ⟨1,1,[],[],(.cons (.ret (.and (.call f_is_peg_count (.cons (.bi .len (.var 0)) .nil)) (.and (.call f_is_pairing (.cons (.var 0) .nil)) (.call f_is_uncrossed (.cons (.var 0) .nil))))) .nil)⟩
end RT
namespace M
section
variable{l r s p q:Nat}{g:Nat->Nat}
end
end M
namespace RL
noncomputable def evF(cl:Cl)(fn:Fn)(ds:List D):Option D:=if ds.length=fn.ps then(aj cl fn.M fn.body (ds.map some++List.replicate (fn.nn-fn.ps) none)).bind fun p=>match p.1 with
  | .nx=>aS fn .non p.2
  | .rt d=>aS fn d p.2
  else none
theorem ah{T:List Fn}{n f:Nat}{fn:Fn}{ds:List D}(h:T[f]?=some fn):ao T (n+1) f ds=evF (ao T n) fn ds:=by
 rw[ao,h];rfl
noncomputable def L(xs:List Nat):List D:=xs.map fun(i:Nat)=>.int (i:Int)
theorem oj{f:St->Option (Out × St)}{tg:List Nat}(I:List D->St->Prop):∀ (ds done:List D) (σ:St),(∀ pre d post σ,done++ds=pre++d::post->I pre σ->d.imm=true/\∃ σ2,(aI tg d σ).bind f=some (.nx,σ2)/\I (pre++[d]) σ2)->I done σ->∃ σ',bh f tg ds σ=some (.nx,σ')/\I (done++ds) σ'
 | [],done,σ,_,h=>⟨σ,rfl,by simpa using h⟩
 | d::ds,done,σ,hs,h=>by
  obtain⟨im,σ2,h1,h3⟩:=hs done d ds σ rfl h
  obtain⟨σ',h4,h5⟩:=oj I ds (done++[d]) σ2 (fun pre e post σ he=>hs pre e post σ (by simpa using he)) h3
  refine⟨σ',?_,by simpa using h5⟩
  rw[bh,if_pos im]
  cases hb:aI tg d σ with
  | none=>rw[hb]at h1;cases h1
  |some σ1=>
   rw[hb]at h1
   simp only[Option.bind_some]at h1 ⊢
   rw[h1]
   exact h4
theorem vt{f:St->Option (Out × St)}{tg:List Nat}{ds:List D}{σ:St}(I:List D->St->Prop)(h0:I [] σ)(hs:∀ pre d post σ,ds=pre++d::post->I pre σ->d.imm=true/\∃ σ2,(aI tg d σ).bind f=some (.nx,σ2)/\I (pre++[d]) σ2):∃ σ',bh f tg ds σ=some (.nx,σ')/\I ds σ' :=
 oj I ds [] σ (by simpa using hs) h0
@[simp] theorem tf_lst {a:Es}:az (.lst a)=true:=rfl
@[simp] theorem tf_tup {a:Es}:az (.tup a)=true:=rfl
@[simp] theorem tf_comp {a:E} {b:List Nat} {c:It} {d:E}:az (.comp a b c d)=true:=rfl
@[simp] theorem tf_compA {a:E} {b:List Nat} {c:It}:az (.compA a b c)=true:=rfl
@[simp] theorem tf_bin {a:Bop} {b:E} {c:E}:az (.bin a b c)=true:=rfl
@[simp] theorem tf_slT {a:E} {b:E}:az (.slT a b)=true:=rfl
@[simp] theorem tf_slF {a:E} {b:E}:az (.slF a b)=true:=rfl
@[simp] theorem tf_slB {a:E} {b:E} {c:E}:az (.slB a b c)=true:=rfl
@[simp] theorem tf_rev {a:E}:az (.rev a)=true:=rfl
@[simp] theorem tf_call {a:Nat} {b:Es}:az (.call a b)=true:=rfl
@[simp] theorem tf_bi {a:Bi} {b:E}:az (.bi a b)=true:=rfl
@[simp] theorem tf_rng1 {a:E}:az (.rng1 a)=true:=rfl
@[simp] theorem tf_rng2 {a:E} {b:E}:az (.rng2 a b)=true:=rfl
@[simp] theorem tf_rng3 {a:Int} {b:E} {c:E}:az (.rng3 a b c)=true:=rfl
@[simp] theorem tf_dk0:az .dk0=true:=rfl
@[simp] theorem tf_dt0:az .dt0=true:=rfl
end RL
namespace RM
open RL RT
section basics
variable{a b:Int}
theorem cX:aT .lt (.int a) (.int b)=some (decide (a<b)):=rfl
theorem pT:aT .le (.int a) (.int b)=some (decide (a<=b)):=rfl
theorem ke:aT .gt (.int a) (.int b)=some (decide (b<a)):=rfl
theorem pA:aT .ge (.int a) (.int b)=some (decide (b<=a)):=rfl
theorem cz:aT .eq (.int a) (.int b)=some (a == b):=rfl
theorem pI:aT .ne (.int a) (.int b)=some (!(a == b)):=rfl
theorem aP:a8 .add (.int a) (.int b)=some (.int (a+b)):=rfl
theorem aU:a8 .sub (.int a) (.int b)=some (.int (a-b)):=rfl
theorem dE(h:0<b):a8 .mod (.int a) (.int b)=some (.int (a%b)):=by dsimp only[a8];rw[if_pos h]
theorem l5(h:0<b)(h':b<2 ^ 200):a8 .fdiv (.int a) (.int b)=some (.int (a / b)):=by dsimp only[a8];rw[if_pos ⟨h,h'⟩]
theorem bM(h1:-(2 ^ 64)<a)(h2:a<2 ^ 64):a8 .mul (.int a) (.int b)=some (.int (a*b)):=by dsimp only[a8];rw[if_pos (.inl ⟨h1,h2⟩)]
theorem nC(h1:-(2 ^ 64)<b)(h2:b<2 ^ 64):a8 .mul (.int a) (.int b)=some (.int (a*b)):=by dsimp only[a8];rw[if_pos (.inr ⟨h1,h2⟩)]
end basics
theorem vG{xs:List Nat}{pre post:List D}{d:D}(h:L xs=pre++d::post):∃ p x q,xs=p++x::q/\pre=L p/\d=.int (x:Nat)/\post=L q:=by
 unfold L at h
 obtain⟨p,r,rfl,h1,h2⟩:=List.map_eq_append_iff.mp h
 obtain⟨x,q,rfl,h3,h4⟩:=List.map_eq_cons_iff.mp h2
 exact⟨p,x,q,rfl,h1.symm,h3.symm,h4.symm⟩
theorem qd:∀ {a b:List Nat},L a=L b->a=b
 | [],[],_=>rfl
 | [],_::_,h=>by simp[L]at h
 | _::_,[],h=>by simp[L]at h
 | x::a,y::b,h=>by
  unfold L at h
  rw[List.map_cons,List.map_cons,List.cons.injEq]at h
  have h1:(x:Int)=y:=by injection h.1
  rw[qd (a:=a) (b:=b) h.2,Int.ofNat_inj.mp h1]
theorem lN{f:St->Option (Out × St)}{tg:List Nat}{xs:List Nat}{σ:St}(I:List Nat->St->Prop)(h0:I [] σ)(hs:∀ p x q σ,xs=p++x::q->I p σ->∃ σ2,(aI tg (.int (x:Nat)) σ).bind f=some (.nx,σ2)/\I (p++[x]) σ2):∃ σ',bh f tg (L xs) σ=some (.nx,σ')/\I xs σ':=by
 obtain⟨σ',e,p,hp,hi⟩:=vt (f:=f) (tg:=tg) (ds:=L xs) (σ:=σ) (fun pre σ=>∃ p,pre=L p/\I p σ) ⟨[],rfl,h0⟩ (by
  rintro pre d post σ hd ⟨p',hp',hi⟩
  obtain⟨p,x,q,rfl,rfl,rfl,rfl⟩:=vG hd
  have:=qd hp'
  subst this
  obtain⟨σ2,h1,h2⟩:=hs p x q σ rfl hi
  exact⟨rfl,σ2,h1,p++[x],by simp[L],h2⟩)
 have:=qd hp
 subst this
 exact⟨σ',e,hi⟩
theorem aF(xs:List Nat):(L xs).length=xs.length:=by simp[L]
theorem jJ(xs:List Nat)(i:Nat):(L xs)[i]?=(xs[i]?).map fun(i:Nat)=>.int (i:Int):=by simp[L]
theorem uD(xs:List Nat)(i j:Nat):(L xs).set i (.int j)=L (xs.set i j):=by simp[L,List.map_set]
theorem bx:∀ xs:List Nat,au (L xs)=true
 | []=>rfl
 | x::xs=>by
  show((D.int x).imm&&au (L xs))=true
  rw[bx xs];rfl
theorem dC(xs ys:List Nat):L (xs++ys)=L xs++L ys:=by simp[L]
theorem cS{α:Type}(xs:List α)(i:Nat):bR xs (i:Int)=xs[i]?:=by
 unfold bR
 rw[if_pos (Int.natCast_nonneg i)]
 rfl
theorem sJ{n i:Nat}(h:i<n):jQ n (i:Int)=some i:=by
 unfold jQ
 rw[if_pos (Int.natCast_nonneg i),if_pos (by lia)]
 rfl
theorem iV(a:Nat):∀ n:Nat,bO (a:Int) n=L (List.range' a n)
 | 0=>rfl
 | n+1=>by
  rw[bO,List.range'_succ]
  have:=iV (a+1) n
  rw[show((a+1:Nat):Int)=(a:Int)+1 by lia]at this
  rw[this]
  rfl
theorem gY{a b:Nat}(h1:a<=1000)(h2:b<=1000):cK (.int a) (.int b)=some (L (List.range' a (b-a))):=by
 dsimp only[cK]
 have:((b:Int)-a).toNat=b-a:=by lia
 rw[if_pos ⟨by unfold most;lia,by lia,by lia,by lia,by lia⟩,this,iV]
section
variable{cl:Cl}
theorem kZ(i:Int):evF cl fj [.int i]=some (.bl true):=rfl
theorem iU{f:Nat}(h:∀ i:Int,cl f [.int i]=some (.bl true))(i:Int):evF cl (cE f) [.int i]=some (.bl (decide (1<=i/\i<=10))):=by
 simp[evF,cE,aj,evS,ev,evs,h,aT,b9,D.imm,aS]
 by_cases h1:1<=i<;>simp[h1,b9,D.imm,aS]
theorem jR{f:Nat}{i:Int}(h:cl f [.int i]=some (.bl true)):evF cl (bC f) [.int i]=some .non:=by
 simp[evF,bC,aj,evS,ev,evs,h,truth,aS]
theorem vW(xs:List Nat){i j:Nat}(hi:i<xs.length)(hj:j<xs.length):evF cl lC [.lst (L xs),.int i,.int j]=some (.tup [.non,.lst (L ((xs.set i j).set j i))]):=by
 simp[evF,lC,aj,evS,ev,evs,eY,jQ,hi,hj,D.imm,aS,eB,aF,uD]
theorem nF(xs:List D):evF cl hW [.tup xs]=some (.int (xs.length / 2)):=rfl
noncomputable def cH(n:Nat):List Nat:=List.range' n n++List.range' 0 n
theorem run_plain{f:Nat}{n:Nat}(hn:n<=10)(h:cl f [.int n]=some .non):evF cl (e8 f) [.int n]=some (.tup (L (cH n))):=by
 have e1:=gY (a:=n) (b:=2*n) (by lia) (by lia)
 rw[show 2*n-n=n by lia,show((2*n:Nat):Int)=2*(n:Int) by lia]at e1
 have e2:=gY (a:=0) (b:=n) (by lia) (by lia)
 rw[Nat.sub_zero]at e2
 have e3:a8 .mul (.int 2) (.int n)=some (.int (2*n)):=by
  dsimp only[a8]
  rw[if_pos (by lia)]
 have e4:a8 .add (.lst (L (List.range' n n))) (.lst (L (List.range' 0 n)))=some (.lst (L (cH n))):=by
  dsimp only[a8]
  rw[if_pos (by simp[aF,most];lia),cH,dC]
 simp only[Int.natCast_zero]at e2
 simp[evF,e8,aj,evS,ev,evs,h,e1,e2,e3,e4,biV,items,b9,D.imm,bx,aS]
noncomputable def at'(f:List Nat)(x:Nat):Nat:=(f[x]?).getD x
structure Frm(n:Nat)(f:List Nat):Prop where
 len:f.length=2*n
 lt:∀ x,x<2*n->at' f x<2*n
 inv:∀ x,at' f (at' f x)=x
 no:∀ x,x<2*n->at' f x≠x
theorem cC{f:List Nat}{x:Nat}(h:x<f.length):f[x]?=some (at' f x):=by simp[at',h]
theorem js{f:List Nat}{x:Nat}(h:f.length<=x):at' f x=x:=by simp[at',h]
theorem mX{f:List Nat}{i j x:Nat}(h:i<f.length):at' (f.set i j) x=if x=i then j else at' f x:=by
 unfold at'
 rw[List.getElem?_set]
 by_cases e:i=x
 ·subst e
  simp[h]
 ·simp[e,Ne.symm e]
end
section
variable{cl:Cl}
theorem plain_at(n x:Nat):at' (cH n) x=if x<n then n+x else if x<2*n then x-n else x:=by
 unfold at' cH
 by_cases h1:x<n
 ·rw[List.getElem?_append_left (by simpa using h1),if_pos h1]
  simp[h1]
 ·rw[List.getElem?_append_right (by simpa using h1),if_neg h1]
  by_cases h2:x<2*n
  ·rw[if_pos h2]
   simp[show x-n<n by lia]
  ·rw[if_neg h2]
   simp[show ¬ x-n<n by lia]
end
end RM
namespace RL
section
variable{cl:Cl}{M:List Nat}{σ σ':St}{e t:E}{d:D}{r a b:Ss}{i j:Nat}{res:Option (Out × St)}
theorem aO:aj cl M .nil σ=some (.nx,σ):=by rw[aj]
theorem cD{s:S}(h:evS cl M s σ=some (.nx,σ'))(k:aj cl M r σ'=res):aj cl M (.cons s r) σ=res:=by
 rw[aj,h];exact k
theorem l7{s:S}(h:evS cl M s σ=some (.rt d,σ')):aj cl M (.cons s r) σ=some (.rt d,σ'):=by
 rw[aj,h];rfl
theorem aB(h:ev cl σ e=some d)(ok:bz M e d=true)(k:aj cl M r (σ.set i (some d))=res):aj cl M (.cons (.asg i e) r) σ=res :=
 cD (by rw[evS,h];show(if bz M e d=true then _ else _)=_;rw[if_pos ok]) k
theorem gW(h:ev cl σ e=some d)(ok:(aJ d&&az e)=true)(k:aj cl M r (σ.set i (some d))=res):aj cl M (.cons (.own i e) r) σ=res :=
 cD (by rw[evS,h];show(if(aJ d&&az e)=true then _ else _)=_;rw[if_pos ok]) k
theorem cZ(h:ev cl σ e=some d)(k:aj cl M r σ=res):aj cl M (.cons (.exc e) r) σ=res :=
 cD (by rw[evS,h];rfl) k
theorem a7(h:ev cl σ e=some d)(ok:b9 M e d=true):aj cl M (.cons (.ret e) r) σ=some (.rt d,σ) :=
 l7 (by rw[evS,h];show(if b9 M e d=true then _ else _)=_;rw[if_pos ok])
theorem jm(h:(ev cl σ t).bind truth=some true)(h1:aj cl M a σ=some (.nx,σ'))(k:aj cl M r σ'=res):aj cl M (.cons (.ife t a b) r) σ=res :=
 cD (by rw[evS,h];exact h1) k
theorem bN(h:(ev cl σ t).bind truth=some true)(h1:aj cl M a σ=some (.rt d,σ')):aj cl M (.cons (.ife t a b) r) σ=some (.rt d,σ') :=
 l7 (by rw[evS,h];exact h1)
theorem jF(h:(ev cl σ t).bind truth=some false)(h1:aj cl M b σ=some (.nx,σ'))(k:aj cl M r σ'=res):aj cl M (.cons (.ife t a b) r) σ=res :=
 cD (by rw[evS,h];exact h1) k
theorem i6(h:(ev cl σ t).bind truth=some false)(h1:aj cl M b σ=some (.rt d,σ')):aj cl M (.cons (.ife t a b) r) σ=some (.rt d,σ') :=
 l7 (by rw[evS,h];exact h1)
theorem aX(h:(ev cl σ t).bind truth=some false)(k:aj cl M r σ=res):aj cl M (.cons (.ife t a .nil) r) σ=res:=jF h aO k
theorem qN{is:List Nat}{ds:List D}(h:ev cl σ e=some d)(hd:items d=some ds)(im:au ds=true)(hs:bg is ds σ=some σ')(k:aj cl M r σ'=res):aj cl M (.cons (.unp is e) r) σ=res :=
 cD (by rw[evS,h,Option.bind_some,hd];show(if au ds=true then _ else _)=_;rw[if_pos im,hs];rfl) k
theorem yq{x y:D}{e':E}(h:ev cl σ e=some x)(h':ev cl σ e'=some y)(im:(x.imm&&y.imm)=true)(k:aj cl M r ((σ.set i (some x)).set j (some y))=res):aj cl M (.cons (.par i j e e') r) σ=res :=
 cD (by rw[evS,h,Option.bind_some,h'];show(if(x.imm&&y.imm)=true then _ else _)=_;rw[if_pos im]) k
theorem zf{xs:List D}(h:ev cl σ e=some d)(hi:(σ[i]?).bind id=some (.lst xs))(im:d.imm=true)(hl:xs.length<most)(k:aj cl M r (σ.set i (some (.lst (xs++[d]))))=res):aj cl M (.cons (.app i e) r) σ=res :=
 cD (by rw[evS,h,Option.bind_some,hi];show(if(d.imm&&decide (xs.length<most))=true then _ else _)=_;rw[if_pos (by rw[im,decide_eq_true hl];rfl)]) k
theorem rh{x kk l l':D}{e':E}(h:ev cl σ e'=some x)(h':ev cl σ e=some kk)(hi:(σ[i]?).bind id=some l)(im:x.imm=true)(hp:eY l kk x=some l')(k:aj cl M r (σ.set i (some l'))=res):aj cl M (.cons (.put i e e') r) σ=res :=
 cD (by rw[evS,h,Option.bind_some,h',Option.bind_some,hi,Option.bind_some,if_pos im,hp];rfl) k
theorem jC{x y z:Int}{o:Bop}(hi:(σ[i]?).bind id=some (.int x))(h:ev cl σ e=some (.int y))(hb:a8 o (.int x) (.int y)=some (.int z))(k:aj cl M r (σ.set i (some (.int z)))=res):aj cl M (.cons (.aug i o e) r) σ=res :=
 cD (by rw[evS,hi,Option.bind_some,h];show Option.map _ (a8 o (.int x) (.int y))=_;rw[hb];rfl) k
theorem cY{tg:List Nat}{it:It}{ds:List D}{b:Ss}(h:aZ cl σ it=some ds)(h1:bh (aj cl M b) tg ds σ=some (.nx,σ'))(k:aj cl M r σ'=res):aj cl M (.cons (.forr tg it b) r) σ=res :=
 cD (by rw[evS,h];exact h1) k
theorem vv{tg:List Nat}{it:It}{ds:List D}{b:Ss}(h:aZ cl σ it=some ds)(h1:bh (aj cl M b) tg ds σ=some (.rt d,σ')):aj cl M (.cons (.forr tg it b) r) σ=some (.rt d,σ') :=
 l7 (by rw[evS,h];exact h1)
theorem xW{b:Ss}(h1:whF (fun σ=>(ev cl σ t).bind truth) (aj cl M b) most σ=some (.nx,σ'))(k:aj cl M r σ'=res):aj cl M (.cons (.whil t b) r) σ=res :=
 cD (by rw[evS];exact h1) k
theorem uY{f:Nat}{es:Es}{ps ms:List Nat}{ds outs:List D}(h:evs cl σ es=some ds)(ok:eT M ps 0 es ds=true)(hc:cl f ds=some (.tup (d::outs)))(hs:bg ms outs σ=some σ')(k:aj cl M r σ'=res):aj cl M (.cons (.mexc f es ps ms) r) σ=res :=
 cD (by rw[evS,h,Option.bind_some,if_pos ok,hc,Option.bind_some];show Option.map _ (bg ms outs σ)=_;rw[hs];rfl) k
theorem aa(h:(σ[i]?).bind id=some d):ev cl σ (.var i)=some d:=by rw[ev];exact h
theorem ag:ev cl σ (.cst d)=some d:=by rw[ev]
theorem x_call{f:Nat}{es:Es}{ds:List D}(h:evs cl σ es=some ds)(hc:cl f ds=some d):ev cl σ (.call f es)=some d:=by rw[ev,h];exact hc
theorem bF:evs cl σ .nil=some []:=by rw[evs]
theorem a9{es:Es}{ds:List D}(h:ev cl σ e=some d)(hr:evs cl σ es=some ds):evs cl σ (.cons e es)=some (d::ds):=by rw[evs,h,Option.bind_some,hr];rfl
theorem aY{f:Nat}(h:ev cl σ e=some d){x:D}(hc:cl f [d]=some x):ev cl σ (.call f (.cons e .nil))=some x:=x_call (a9 h bF) hc
theorem bG{f:Nat}{e':E}{d' x:D}(h:ev cl σ e=some d)(h':ev cl σ e'=some d')(hc:cl f [d,d']=some x):ev cl σ (.call f (.cons e (.cons e' .nil)))=some x:=x_call (a9 h (a9 h' bF)) hc
theorem gh{f:Nat}{e' e'':E}{d' d'' x:D}(h:ev cl σ e=some d)(h':ev cl σ e'=some d')(h'':ev cl σ e''=some d'')(hc:cl f [d,d',d'']=some x):ev cl σ (.call f (.cons e (.cons e' (.cons e'' .nil))))=some x:=x_call (a9 h (a9 h' (a9 h'' bF))) hc
theorem ai{o:Bop}{e':E}{x y:D}(h:ev cl σ e=some x)(h':ev cl σ e'=some y)(hb:a8 o x y=some d):ev cl σ (.bin o e e')=some d:=by rw[ev,h,Option.bind_some,h'];exact hb
theorem a5{o:Cop}{e':E}{x y:D}{k:Bool}(h:ev cl σ e=some x)(h':ev cl σ e'=some y)(hb:aT o x y=some k):ev cl σ (.cmp o e e')=some (.bl k):=by rw[ev,h,Option.bind_some,h',Option.bind_some,hb];rfl
theorem gc{e':E}{x y:D}(h:ev cl σ e=some x)(h':ev cl σ e'=some y)(hb:ixV x y=some d):ev cl σ (.ix e e')=some d:=by rw[ev,h,Option.bind_some,h'];exact hb
theorem br{o:Bi}{x:D}(h:ev cl σ e=some x)(hb:biV o x=some d):ev cl σ (.bi o e)=some d:=by rw[ev,h];exact hb
theorem uG{e':E}{x y:D}(h:ev cl σ e=some x)(h':ev cl σ e'=some y)(hb:mS x y=some d):ev cl σ (.slT e e')=some d:=by rw[ev,h,Option.bind_some,h'];exact hb
theorem bV{t:Ty}{x:D}{k:Bool}(h:ev cl σ e=some x)(hb:cb t x=some k):ev cl σ (.isi e t)=some (.bl k):=by rw[ev,h,Option.bind_some,hb];rfl
theorem A0{e':E}{x y:Int}(h:ev cl σ e=some (.int x))(h':ev cl σ e'=some (.int y))(h0:0<y)(h1:y<1073741824):ev cl σ (.dvm e e')=some (.tup [.int (x / y),.int (x%y)]):=by
 rw[ev,h,Option.bind_some,h',Option.bind_some]
 exact if_pos ⟨h0,h1⟩
theorem jX{c c':Cop}{e' e'':E}{x y z:D}{k:Bool}(h:ev cl σ e=some x)(h':ev cl σ e'=some y)(h'':ev cl σ e''=some z)(b1:aT c x y=some true)(b2:aT c' y z=some k):ev cl σ (.chain c c' e e' e'')=some (.bl k):=by rw[ev,h,Option.bind_some,h',Option.bind_some,b1,Option.bind_some,if_pos rfl,h'',Option.bind_some,b2];rfl
theorem t7{c c':Cop}{e' e'':E}{x y:D}(h:ev cl σ e=some x)(h':ev cl σ e'=some y)(b1:aT c x y=some false):ev cl σ (.chain c c' e e' e'')=some (.bl false):=by rw[ev,h,Option.bind_some,h',Option.bind_some,b1];rfl
theorem jh{es:Es}{ds:List D}(h:evs cl σ es=some ds):ev cl σ (.lst es)=some (.lst ds):=by rw[ev,h];rfl
theorem eo{es:Es}{ds:List D}(h:evs cl σ es=some ds):ev cl σ (.tup es)=some (.tup ds):=by rw[ev,h];rfl
theorem cB{e':E}(h:ev cl σ e=some (.bl true))(h':ev cl σ e'=some d):ev cl σ (.and e e')=some d:=by rw[ev,h];exact h'
theorem gN{e':E}(h:ev cl σ e=some (.bl false)):ev cl σ (.and e e')=some (.bl false):=by rw[ev,h];rfl
theorem fM{e':E}(h:ev cl σ e=some (.bl false))(h':ev cl σ e'=some d):ev cl σ (.or e e')=some d:=by rw[ev,h];exact h'
theorem uH{e':E}(h:ev cl σ e=some (.bl true)):ev cl σ (.or e e')=some (.bl true):=by rw[ev,h];rfl
theorem zJ{k:Bool}(h:(ev cl σ e).bind truth=some k):ev cl σ (.not e)=some (.bl (!k)):=by rw[ev,h];rfl
theorem c5{k:Bool}(h:ev cl σ e=some (.bl k)):ev cl σ (.not e)=some (.bl (!k)):=zJ (by rw[h];rfl)
theorem l4{t e':E}{k:Bool}(h:(ev cl σ t).bind truth=some k)(h':ev cl σ (if k then e else e')=some d):ev cl σ (.ifx t e e')=some d:=by
 rw[ev,h];cases k<;>exact h'
theorem aD{k:Bool}(h:ev cl σ e=some (.bl k)):(ev cl σ e).bind truth=some k:=by rw[h];rfl
theorem du{tg:List Nat}{it:It}{ds ys:List D}(h:aZ cl σ it=some ds)(hf:ds.length<=most)(hm:c6 (fun σ1=>(ev cl σ1 e).map some) tg σ ds=some ys):ev cl σ (.compA e tg it)=some (.lst ys):=by
 rw[ev,h,Option.bind_some,fits,if_pos hf,Option.bind_some,hm];rfl
theorem yo{tg:List Nat}{it:It}{ds ys:List D}(h:aZ cl σ it=some ds)(hf:ds.length<=most)(hm:c6 (fun σ1=>((ev cl σ1 t).bind truth).bind fun k=>if k then(ev cl σ1 e).map some else some none) tg σ ds=some ys):ev cl σ (.comp e tg it t)=some (.lst ys):=by
 rw[ev,h,Option.bind_some,fits,if_pos hf,Option.bind_some,hm];rfl
theorem fI{x:D}{ds:List D}(h:ev cl σ e=some x)(hr:cK (.int 0) x=some ds):aZ cl σ (.rng1 e)=some ds:=by rw[aZ,h];exact hr
theorem qL{c:Int}{e':E}{x y:D}{ds:List D}(h:ev cl σ e=some x)(h':ev cl σ e'=some y)(hr:eW c x y=some ds):aZ cl σ (.rng3 c e e')=some ds:=by rw[aZ,h,Option.bind_some,h'];exact hr
theorem l3{x:D}{ds:List D}(h:ev cl σ e=some x)(hr:items x=some ds):aZ cl σ (.seq e)=some ds:=by rw[aZ,h];exact hr
theorem uK{e':E}{x y:D}{xs ys:List D}(h:ev cl σ e=some x)(h':ev cl σ e'=some y)(hx:items x=some xs)(hy:items y=some ys)(hl:xs.length=ys.length):aZ cl σ (.zip e e')=some (cG xs ys):=by rw[aZ,h,Option.bind_some,h',Option.bind_some,hx,Option.bind_some,hy,Option.bind_some,if_pos hl]
theorem zM{x:D}{n k:Bool}(hk:(match x with | .non=>some (D.bl (!n)) | .dK _ _=>none | .dT _ _=>none | _=>some (.bl n))=some (D.bl k))(h:ev cl σ e=some x):ev cl σ (.isN n e)=some (.bl k):=by rw[ev,h];exact hk
theorem lB{x:D}{ds:List D}(h:ev cl σ e=some x)(hr:eK x=some ds):aZ cl σ (.enm e)=some (cx 0 ds):=by rw[aZ,h,Option.bind_some,hr];rfl
end
theorem a4{cl:Cl}{fn:Fn}{ds:List D}{d:D}{σ':St}(hl:ds.length=fn.ps)(hm:fn.mp=[])(h:aj cl fn.M fn.body (ds.map some++List.replicate (fn.nn-fn.ps) none)=some (.rt d,σ')):evF cl fn ds=some d:=by
 unfold evF
 rw[if_pos hl,h]
 show aS fn d σ'=_
 unfold aS
 rw[hm]
 rfl
theorem jB{cl:Cl}{fn:Fn}{ds:List D}{σ':St}(hl:ds.length=fn.ps)(hm:fn.mp=[])(h:aj cl fn.M fn.body (ds.map some++List.replicate (fn.nn-fn.ps) none)=some (.nx,σ')):evF cl fn ds=some .non:=by
 unfold evF
 rw[if_pos hl,h]
 show aS fn .non σ'=_
 unfold aS
 rw[hm]
 rfl
end RL
namespace RM
open RL RT
noncomputable def LI(xs:List Int):List D:=xs.map D.int
theorem rN(xs:List Int):(LI xs).length=xs.length:=by simp[LI]
theorem qk:∀ xs:List Int,au (LI xs)=true
 | []=>rfl
 | x::xs=>by
  show((D.int x).imm&&au (LI xs))=true
  rw[qk xs];rfl
section
variable{cl:Cl}
theorem mod_lt{a b:Int}(h:0<b):0<=a%b/\a%b<b:=⟨Int.emod_nonneg _ (by lia),Int.emod_lt_of_pos _ h⟩
theorem uW(s:Int):∃ m:Int,evF cl gK [.int s]=some (.int m):=by
 have a1:=mod_lt (a:=s*48271+11) (b:=2147483647) (by decide)
 generalize h1:(s*48271+11)%2147483647=one at a1
 have a2:=mod_lt (a:=one*one+40692*one+s) (b:=2147483399) (by decide)
 generalize h2:(one*one+40692*one+s)%2147483399=two at a2
 exact⟨_,a4 rfl rfl (aB (d:=.int one) (ai (ai (ai (aa rfl) ag (nC (by decide) (by decide))) ag aP) ag (by rw[dE (by decide),h1])) rfl
  (aB (d:=.int two) (ai (ai (ai (ai (aa rfl) (aa rfl) (bM (by lia) (by lia))) (ai ag (aa rfl) (bM (by decide) (by decide))) aP) (aa rfl) aP) ag (by rw[dE (by decide),h2])) rfl
  (a7 (ai (ai (ai (ai (aa rfl) (aa rfl) (bM (by omega) (by omega))) (ai ag (aa rfl) (bM (by decide) (by decide))) aP) (aa rfl) aP) ag (dE (by decide))) rfl)))⟩
theorem we{f:Nat}(h:∀ s:Int,∃ m:Int,cl f [.int s]=some (.int m)){ns:List Int}(hl:ns.length<=63){k:Nat}(hk:k<=1000):∃ r:Int,evF cl (hZ f) [.lst (LI ns),.int k]=some (.int r):=by
 have pw:a8 .pow (.int 10) (.int 18)=some (.int 1000000000000000000):=rfl
 have rest:∀ c:Int,∃ r σ',aj cl [] (.cons (.asg 3 (.cst (.int 0))) (.cons (.forr [4] (.rng1 (.cst (.int 40))) (fU f)) (.cons (.ret (.var 3)) .nil))) [some (.lst (LI ns)),some (.int k),some (.int c),none,none]=some (.rt (.int r),σ'):=by
  intro c
  have hr:cK (.int 0) (.int 40)=some (L (List.range' 0 40)):=congrArg some (iV 0 40)
  obtain⟨σ',e,r,o,rfl⟩:=lN (f:=aj cl [] (fU f)) (tg:=[4]) (xs:=List.range' 0 40) (σ:=[some (.lst (LI ns)),some (.int k),some (.int c),some (.int 0),none])
   (fun p σ=>∃ (r:Int) (o:Option D),σ=[some (.lst (LI ns)),some (.int k),some (.int c),some (.int r),o]) ⟨0,none,rfl⟩ (by
    rintro p x q σ hx ⟨r,o,rfl⟩
    obtain⟨m,hm⟩:=h (c+1009*k+7919*x)
    exact⟨_,aB (ai (ai (aa rfl) ag (nC (by decide) (by decide))) (aY (ai (ai (aa rfl) (ai ag (aa rfl) (bM (by decide) (by decide))) aP) (ai ag (aa rfl) (bM (by decide) (by decide))) aP) hm) aP) rfl aO,_,_,rfl⟩)
  exact⟨r,_,aB ag rfl (cY (fI ag hr) e (a7 (aa rfl) rfl))⟩
 have len:biV .len (.lst (LI ns))=some (.int ns.length):=congrArg (fun n:Nat=>some (D.int n)) (rN ns)
 have first:ev cl [some (.lst (LI ns)),some (.int k),none,none,none] (.bin .add (.bin .mul (.cst (.int 7)) (.var 1)) (.cst (.int 3)))=some (.int (7*k+3)):=ai (ai ag (aa rfl) (bM (by decide) (by decide))) ag aP
 by_cases h0:0<ns.length
 ·have hmod:=mod_lt (a:=(k:Int)) (b:=(ns.length:Int)) (by lia)
  obtain⟨j,hj⟩:=Int.eq_ofNat_of_zero_le hmod.1
  have hjl:j<ns.length:=by lia
  have ix:ixV (.lst (LI ns)) (.int ((k:Int)%ns.length))=some (.int ns[j]):=by
   show bR (LI ns) _=_
   rw[hj,cS]
   simp[LI,hjl]
  obtain⟨r,σ',hr⟩:=rest (ns[j]+9973*((k:Int) / ns.length))
  generalize hc:ns[j]+9973*((k:Int) / ns.length)=cell at hr
  have cel:∀ {r':Ss} {res:Option (Out × St)},aj cl [] r' [some (.lst (LI ns)),some (.int k),some (.int cell),none,none]=res->aj cl [] (.cons (.asg 2 (.bin .add (.bin .mul (.cst (.int 7)) (.var 1)) (.cst (.int 3)))) (.cons (.ife (.cmp .gt (.bi .len (.var 0)) (.cst (.int 0))) (.cons (.asg 2 (.bin .add (.ix (.var 0) (.bin .mod (.var 1) (.bi .len (.var 0)))) (.bin .mul (.cst (.int 9973)) (.bin .fdiv (.var 1) (.bi .len (.var 0)))))) .nil) .nil) r')) [some (.lst (LI ns)),some (.int k),none,none,none]=res:=fun z =>
   aB first rfl (jm (aD (a5 (br (aa rfl) len) ag (by rw[ke,decide_eq_true (by lia)]))) (aB (d:=.int cell) (ai (gc (aa rfl) (ai (aa rfl) (br (aa rfl) len) (dE (by lia))) ix) (ai ag (ai (aa rfl) (br (aa rfl) len) (l5 (by lia) (by lia))) (bM (by decide) (by decide))) (by rw[aP,hc])) rfl aO) z)
  by_cases h1:k<ns.length
  ·have c1:aT .lt (.int (k:Nat)) (.int (ns.length:Nat))=some true:=by rw[cX,decide_eq_true (by lia)]
   by_cases h2:(1000000000000000000:Int)<=cell
   ·exact⟨_,a4 rfl rfl (cel (bN (aD (cB (a5 (aa rfl) (br (aa rfl) len) c1) (a5 (aa rfl) (ai ag ag pw) (by rw[pA,decide_eq_true h2])))) (a7 (ai (aa rfl) (ai ag ag pw) aU) rfl)))⟩
   ·exact⟨r,a4 rfl rfl (cel (aX (aD (cB (a5 (aa rfl) (br (aa rfl) len) c1) (a5 (aa rfl) (ai ag ag pw) (by rw[pA,decide_eq_false h2])))) hr))⟩
  ·exact⟨r,a4 rfl rfl (cel (aX (aD (gN (a5 (aa rfl) (br (aa rfl) len) (by rw[cX,decide_eq_false (by lia)])))) hr))⟩
 ·obtain⟨r,σ',hr⟩:=rest (7*k+3)
  exact⟨r,a4 rfl rfl (aB first rfl (aX (aD (a5 (br (aa rfl) len) ag (by rw[ke,decide_eq_false (by lia)]))) (aX (aD (gN (a5 (aa rfl) (br (aa rfl) len) (by rw[cX,decide_eq_false (by lia)])))) hr)))⟩
end
section
variable{cl:Cl}
noncomputable def hV(ds sizes:List Nat):Prop:=ds.length=sizes.length/\∀ (i d s:Nat),ds[i]?=some d->sizes[i]?=some s->d<s
theorem hV.snoc{ds sizes:List Nat}{d s:Nat}(h:hV ds sizes)(hd:d<s):hV (ds++[d]) (sizes++[s]):=by
 refine⟨by simp[h.1],fun i x y h1 h2=>?_⟩
 by_cases hi:i<ds.length
 ·rw[List.getElem?_append_left hi]at h1
  rw[List.getElem?_append_left (by rw[<-h.1];exact hi)]at h2
  exact h.2 i x y h1 h2
 ·rw[List.getElem?_append_right (by lia)]at h1
  rw[List.getElem?_append_right (by rw[<-h.1];lia)]at h2
  rw[h.1]at h1
  cases hk:i-sizes.length with
  | zero=>rw[hk]at h1 h2;simp at h1 h2;lia
  | succ k=>rw[hk]at h1;simp at h1
theorem pb{f:Nat}{scr:D}{k:Nat}{sizes:List Nat}{r:Int}(h:cl f [scr,.int k]=some (.int r))(hp:∀ s∈sizes,0<s/\s<2 ^ 200)(hlen:sizes.length<=1000):∃ ds:List Nat,hV ds sizes/\evF cl (cW f) [scr,.int k,.lst (L sizes)]=some (.lst (L ds)):=by
 obtain⟨σ',e,r',ds,o,hds,rfl⟩:=lN (f:=aj cl [4] (dO f)) (tg:=[5]) (xs:=sizes) (σ:=[some scr,some (.int k),some (.lst (L sizes)),some (.int r),some (.lst []),none])
  (fun p σ=>∃ (r:Int) (ds:List Nat) (o:Option D),hV ds p/\σ=[some scr,some (.int k),some (.lst (L sizes)),some (.int r),some (.lst (L ds)),o]) ⟨r,[],none,⟨rfl,by simp⟩,rfl⟩ (by
   rintro p x q σ hx ⟨r,ds,o,hds,rfl⟩
   have hx0:=hp x (by rw[hx];simp)
   have hpl:p.length<1000:=by
    have:=congrArg List.length hx
    simp at this
    lia
   have hx1:(0:Int)<x:=by lia
   have hx2:(x:Int)<2 ^ 200:=by
    have:=hx0.2
    lia
   obtain⟨d,hd⟩:=Int.eq_ofNat_of_zero_le (Int.emod_nonneg r (show(x:Int)≠0 by lia))
   have hdx:d<x:=by
    have:=Int.emod_lt_of_pos r hx1
    lia
   refine⟨[some scr,some (.int k),some (.lst (L sizes)),some (.int (r / x)),some (.lst (L (ds++[d]))),some (.int x)],?_,_,_,_,hds.snoc hdx,rfl⟩
   have hl:(L ds).length<most:=by
    rw[aF,hds.1]
    unfold most
    lia
   simp[aI,dO,aj,evS,ev,dE hx1,l5 hx1 hx2,hd,D.imm,hl,bz,dC]
   rfl)
 refine⟨ds,hds,?_⟩
 simp[evF,cW,aj,evS,ev,evs,aZ,items,h,bz,D.imm,aJ,au]
 simp[e,ev,b9,aJ,bx,aS]
end
section
variable{cl:Cl}
theorem xv(xs:List Nat)(n:Nat):(L xs).take n=L (xs.take n):=by simp[L]
end
section
variable{n:Nat}{f:List Nat}{l:Nat}
end
theorem bQ{k:Nat}{g:Nat->Nat}{p q:List Nat}{x:Nat}(h:(List.range k).map g=p++x::q):p.length<k/\x=g p.length:=by
 have l:((List.range k).map g).length=(p++x::q).length:=by rw[h]
 have e:((List.range k).map g)[p.length]?=(p++x::q)[p.length]?:=by rw[h]
 simp at l e
 obtain⟨y,hy,e⟩:=e
 refine⟨by lia,?_⟩
 rw[List.getElem?_range (by lia)]at hy
 cases hy
 exact e.symm
noncomputable def rd(n q:Nat):Nat:=if q<n then q else 3*n-1-q
theorem cy{n q:Nat}(h:q<2*n):rd n q<2*n:=by unfold rd;split<;>omega
theorem dD{n q:Nat}(h:q<2*n):rd n (rd n q)=q:=by
 unfold rd
 by_cases e:q<n
 ·rw[if_pos e,if_pos e]
 ·rw[if_neg e,if_neg (by omega)]
  lia
theorem zc{n p q:Nat}(hp:p<2*n)(hq:q<2*n)(h:rd n p=rd n q):p=q:=by rw[<-dD hp,h,dD hq]
noncomputable def rnd(n:Nat)(f:List Nat)(q:Nat):Nat:=rd n (at' f (rd n q))
structure Val(n:Nat)(f:List Nat):Prop where
 frm:Frm n f
 nox:∀ q q',q<2*n->q'<2*n->¬ (q<q'/\q'<rnd n f q/\rnd n f q<rnd n f q')
noncomputable def me(n:Nat):List Nat:=(List.range (2*n)).map (rd n)
theorem vY{n q:Nat}(h:q<2*n):ixV (.lst (L (me n))) (.int (q:Int))=some (.int ((rd n q:Nat):Int)):=by
 show bR _ _=_
 rw[cS,jJ]
 simp[me,h]
theorem wN{f:List Nat}{i j:Nat}(h:i<f.length):eY (.lst (L f)) (.int (i:Int)) (.int (j:Int))=some (.lst (L (f.set i j))):=by
 dsimp only[eY]
 rw[aF,sJ h]
 simp[uD]
theorem mO{F:St->Option (Option D)}{tg:List Nat}{σ:St}{g:Nat->D}(im:∀ x,(g x).imm=true):∀ xs:List Nat,(∀ x∈xs,(aI tg (.int (x:Nat)) σ).bind F=some (some (g x)))->c6 F tg σ (L xs)=some (xs.map g)
 | [],_=>rfl
 | x::r,h=>by
  have a:=h x (by simp)
  have b:=mO im r (fun y hy=>h y (by simp[hy]))
  rw[show L (x::r)=.int x::L r from rfl,c6]
  cases hb:aI tg (.int (x:Nat)) σ with
  | none=>rw[hb]at a;cases a
  |some σ1=>
   rw[hb]at a
   simp only[Option.bind_some]at a ⊢
   rw[a,b]
   simp[jc,im]
theorem AB(xs:List Nat)(g:Nat->Nat):(xs.map fun x=>D.int (g x:Nat))=L (xs.map g):=by simp[L]
theorem yg{xs:List Nat}(h:xs.length<=1000):fits (L xs)=some (L xs):=by
 unfold fits
 rw[if_pos (by rw[aF];unfold most;lia)]
theorem dk{n:Nat}(h:n<=1000):cK (.int 0) (.int n)=some (L (List.range n)):=by
 have e2:=gY (a:=0) (b:=n) (by lia) h
 rw[Nat.sub_zero,<-List.range_eq_range']at e2
 exact e2
set_option synthInstance.maxSize 10000 in
set_option synthInstance.maxHeartbeats 0 in
theorem half{xs:List D}{n:Nat}(h:xs.length=2*n):biV .len (.tup xs)=some (.int (2*n)):=by
 simp[biV,items,h]
theorem mn{f:List Nat}{x:Nat}(h:x<f.length):ixV (.tup (L f)) (.int (x:Nat))=some (.int (at' f x:Nat)):=by
 show bR _ _=_
 rw[cS,jJ,cC h]
 rfl
section dicts
variable{κ:Type} [DecidableEq κ]
theorem lZ:∀ {ks:List κ} {vs:List D} {x:κ} {d:D} {y:κ},ks.length=vs.length->x∉ks->aQ (ks++[x]) (vs++[d]) y=if x=y then some d else aQ ks vs y
 | [],[],x,d,y,_,_=>by simp[aQ]
 | k::ks,v::vs,x,d,y,h,hn=>by
  simp at h hn
  have:=lZ (ks:=ks) (vs:=vs) (x:=x) (d:=d) (y:=y) h hn.2
  simp only[List.cons_append,aQ]
  by_cases e:k=y
  ·rw[if_pos e,if_pos e,if_neg (fun c=>hn.1 (c.trans e.symm))]
  ·rw[if_neg e,if_neg e,this]
theorem m5:∀ {ks:List κ} {vs:List D} {x:κ} {d:D} {y:κ},ks.length=vs.length->x∈ks->aQ ks (List.zipWith (fun k v=>if k=x then d else v) ks vs) y=if x=y then some d else aQ ks vs y
 | k::ks,v::vs,x,d,y,h,hm=>by
  simp at h
  simp only[List.zipWith_cons_cons,aQ]
  by_cases e:k=y
  ·rw[if_pos e,if_pos e]
   by_cases e':k=x
   ·rw[if_pos e',if_pos (e'.symm.trans e)]
   ·rw[if_neg e',if_neg (fun c=>e' (e.trans c.symm))]
  ·rw[if_neg e,if_neg e]
   by_cases hx:x∈ks
   ·exact m5 h hx
   ·have kx:x=k:=by simpa[hx]using hm
    rw[if_neg (fun c=>e (kx.symm.trans c))]
    have:List.zipWith (fun k v=>if k=x then d else v) ks vs=vs:=by
     clear e hm kx
     induction ks generalizing vs with
     | nil=>cases vs with | nil=>rfl | cons _ _=>simp at h
     | cons a ks ih=>cases vs with
      | nil=>simp at h
      |cons b vs=>
       simp at h hx
       simp only[List.zipWith_cons_cons]
       rw[if_neg (fun c=>hx.1 c.symm),ih (vs:=vs) (h:=h) (hx:=hx.2)]
    rw[this]
theorem sI{ks:List κ}{vs:List D}{x:κ}{d:D}{y:κ}(h:ks.length=vs.length):aQ (putD ks vs x d).1 (putD ks vs x d).2 y=if x=y then some d else aQ ks vs y:=by
 unfold putD
 split
 ·exact m5 h ‹_›
 ·exact lZ h ‹_›
end dicts
section
variable{fr n:Nat}{h l:List Nat}{ks:List (List Ky)}{vs:List D}{fnd:List Nat}
end
section
variable{n:Nat}{h l inner:List Nat}
end
section
variable{n:Nat}{f:List Nat}
end
theorem mm{F:St->Option (Option D)}{tg:List Nat}{σ:St}{h g:Nat->D}{c:Nat->Bool}(im:∀ x,(g x).imm=true):∀ xs:List Nat,(∀ x∈xs,(aI tg (h x) σ).bind F=some (if c x then some (g x)else none))->c6 F tg σ (xs.map h)=some ((xs.filter c).map g)
 | [],_=>rfl
 | x::r,hh=>by
  have a:=hh x (by simp)
  have b:=mm im r (fun y hy=>hh y (by simp[hy]))
  rw[List.map_cons,c6]
  cases hb:aI tg (h x) σ with
  | none=>rw[hb]at a;cases a
  |some σ1=>
   rw[hb]at a
   simp only[Option.bind_some]at a ⊢
   rw[a,b]
   cases hc:c x<;>simp[jc,im,hc]
noncomputable def pr(f:List Nat)(p:Nat):D:=.tup [.int (p:Nat),.int (at' f p:Nat)]
theorem oJ:∀ (f:List Nat) (k:Nat),cx (k:Int) (L f)=(List.range f.length).map fun p=>.tup [.int ((k+p:Nat):Int),.int (at' f p:Nat)]
 | [],k=>rfl
 | x::r,k=>by
  rw[show L (x::r)=.int x::L r from rfl,cx,show(k:Int)+1=((k+1:Nat):Int) by lia,oJ r (k+1),List.length_cons,List.range_succ_eq_map,List.map_cons,List.map_map]
  congr 1
  apply List.map_congr_left
  intro p hp
  simp at hp
  have e:at' (x::r) (p+1)=at' r p:=by simp[at',hp]
  simp[e]
  lia
theorem gF{f:List Nat}{m:Nat}(h:f.length=m):cx 0 (L f)=(List.range m).map (pr f):=by
 have:=oJ f 0
 rw[h]at this
 simp only[Nat.zero_add]at this
 exact this
theorem dF{β:Type}{f:St->Option (Out × St)}{tg:List Nat}(g:β->D)(im:∀ b,(g b).imm=true)(I:List β->St->Prop):∀ (w done:List β) (σ:St),(∀ u b v σ,done++w=u++b::v->I u σ->∃ σ2,(aI tg (g b) σ).bind f=some (.nx,σ2)/\I (u++[b]) σ2)->I done σ->∃ σ',bh f tg (w.map g) σ=some (.nx,σ')/\I (done++w) σ'
 | [],done,σ,_,h=>⟨σ,rfl,by simpa using h⟩
 | b::w,done,σ,hs,h=>by
  obtain⟨σ2,h1,h3⟩:=hs done b w σ rfl h
  obtain⟨σ',h4,h5⟩:=dF g im I w (done++[b]) σ2 (fun pre e post σ he=>hs pre e post σ (by simpa using he)) h3
  refine⟨σ',?_,by simpa using h5⟩
  rw[List.map_cons,bh,if_pos (im b)]
  cases hb:aI tg (g b) σ with
  | none=>rw[hb]at h1;cases h1
  |some σ1=>
   rw[hb]at h1
   simp only[Option.bind_some]at h1 ⊢
   rw[h1]
   exact h4
section
variable{n:Nat}{f:List Nat}
theorem jj{p:Nat}(hp:p<2*n):evF cl cq [.int n,.int (p:Nat)]=some (.int (rd n p:Nat)):=by
 have e1:a8 .mul (.int 3) (.int n)=some (.int (3*n)):=bM (by decide) (by decide)
 by_cases c:p<n
 ·have c1:decide ((p:Int)<n)=true:=by simp;lia
  simp[evF,cq,aj,evS,ev,cX,c1,truth,b9,D.imm,aS,rd,c]
 ·have c1:decide ((p:Int)<n)=false:=by simp;lia
  simp[evF,cq,aj,evS,ev,cX,c1,truth,e1,aU,b9,D.imm,aS,rd,c]
  lia
theorem qw{T:D}{to:Nat->Nat}(hn:n<=10)(F:Frm n f)(hT:∀ p:Nat,p<2*n->ixV T (.int (p:Nat))=some (.int (to p:Nat)))(hlt:∀ p,p<2*n->to p<2*n)(inj:∀ p q,p<2*n->q<2*n->to p=to q->p=q) :
  ∃ E:List Nat,E.length=2*n/\(∀ p,p<2*n->at' E (to p)=to (at' f p))/\evF cl ic [.tup (L f),T]=some (.tup (L E)):=by
 have ln:=half (xs:=L f) (n:=n) (by rw[aF,F.len])
 have en:=gF F.len
 have e0:a8 .mul (.lst [.int 0]) (.int (2*(n:Int)))=some (.lst (L (List.replicate (2*n) 0))):=by
  dsimp only[a8]
  rw[if_pos ⟨by lia,by unfold most;lia,by simp[most];lia⟩]
  have:(2*(n:Int)).toNat=2*n:=by lia
  rw[this]
  simp[L]
 obtain⟨σ',e,E,o3,o4,rfl,El,EE⟩:=dF (f:=aj cl [2] iW) (tg:=[3,4]) (pr f) (fun _=>rfl)
  (fun u σ=>∃ (E:List Nat) (o3 o4:Option D),σ=[some (.tup (L f)),some T,some (.lst (L E)),o3,o4]/\E.length=2*n/\∀ p∈u,at' E (to p)=to (at' f p))
  (List.range (2*n)) [] [some (.tup (L f)),some T,some (.lst (L (List.replicate (2*n) 0))),none,none] (by
   rintro u p v σ hu ⟨E,o3,o4,rfl,El,EE⟩
   have hp:p<2*n:=by
    have:p∈List.range (2*n):=by
     simp only[List.nil_append]at hu
     rw[hu];simp
    simpa using this
   have hpu:∀ x∈u,x<2*n/\x≠p:=by
    intro x hx
    simp only[List.nil_append]at hu
    have nd:(List.range (2*n)).Nodup:=List.nodup_range
    have m:x∈List.range (2*n):=by rw[hu];simp[hx]
    rw[hu,List.nodup_append]at nd
    exact⟨by simpa using m,nd.2.2 x hx p (by simp)⟩
   have t1:=hT p hp
   have t2:=hT (at' f p) (F.lt p hp)
   have pt:=wN (f:=E) (i:=to p) (j:=to (at' f p)) (by have:=hlt p hp;lia)
   refine⟨_,?_,E.set (to p) (to (at' f p)),some (.int (p:Nat)),some (.int (at' f p:Nat)),rfl,by simp[El],fun x hx=>?_⟩
   ·simp[aI,bg,pr,iW,aj,evS,ev,t1,t2,D.imm,pt]
   ·rw[mX (by have:=hlt p hp;lia)]
    simp at hx
    rcases hx with hx | rfl
    ·rw[if_neg (fun c=>(hpu x hx).2 (inj x p (hpu x hx).1 hp c))]
     exact EE x hx
    ·rw[if_pos rfl])
  ⟨_,none,none,rfl,by simp,by simp⟩
 refine⟨E,El,fun p hp=>EE p (by simp[hp]),?_⟩
 simp only[evF,ic,aj,evS,ev,evs,aZ]
 simp[ev,evs,ln,e0,aJ,bx,eK,en]
 rw[e]
 simp[aj,evS,ev,biV,items,b9,D.imm,bx,aS]
theorem m3{fm frp fpo:Nat}(hn:n<=10)(F:Frm n f)(hpo:∀ xs:List D,cl fpo [.tup xs]=some (.int (xs.length / 2)))(hrp:∀ p:Nat,p<2*n->cl frp [.int n,.int (p:Nat)]=some (.int (rd n p:Nat)))
 (hm:∃ E:List Nat,E.length=2*n/\(∀ p,p<2*n->at' E (rd n p)=rd n (at' f p))/\cl fm [.tup (L f),.lst (L (me n))]=some (.tup (L E))) :
  ∃ E:List Nat,E.length=2*n/\(∀ q,q<2*n->at' E q=rnd n f q)/\evF cl (dX fm frp fpo) [.tup (L f)]=some (.tup (L E)):=by
 obtain⟨E,El,EE,hm⟩:=hm
 refine⟨E,El,fun q hq=>?_,?_⟩
 ·have:=EE (rd n q) (cy hq)
  rw[dD hq]at this
  exact this
 ·have e1:a8 .mul (.int 2) (.int n)=some (.int (2*n)):=bM (by decide) (by decide)
  have r2:=dk (n:=2*n) (by lia)
  rw[show((2*n:Nat):Int)=2*(n:Int) by lia]at r2
  have ft:=yg (xs:=List.range (2*n)) (by simp;lia)
  have po:=hpo (L f)
  rw[aF,F.len,show(((2*n:Nat):Int) / 2)=(n:Int) by lia]at po
  have mc:=mO (F:=fun σ1=>(ev cl σ1 (.call frp (.cons (.var 1) (.cons (.var 2) .nil)))).map some) (tg:=[2]) (σ:=[some (.tup (L f)),some (.int n),none]) (g:=fun p=>.int (rd n p:Nat)) (fun _=>rfl) (List.range (2*n)) (by
   intro x hx
   simp at hx
   have:=hrp x hx
   simp[aI,ev,evs,this])
  rw[AB,show(List.range (2*n)).map (fun p=>rd n p)=me n from rfl]at mc
  simp only[evF,dX,aj,evS,ev,evs,aZ]
  simp[ev,evs,po,bz,D.imm,e1,r2,ft]
  simp[ev,evs]at mc
  rw[mc]
  simp[hm,b9,D.imm,bx,aS]
end
structure Op(r:Nat->Nat)(k:Nat)(W:List Nat):Prop where
 up:W.Pairwise (·<·)
 mem:∀ p,p∈W↔p<k/\k<=r p
section
variable{r:Nat->Nat}{m k:Nat}{W:List Nat}
theorem Op.push(O:Op r k W)(inv:∀ q,q<m->r (r q)=q)(hk:k<m)(h:k<r k):Op r (k+1) (W++[k]):=by
 refine⟨?_,fun p=>?_⟩
 ·rw[List.pairwise_append]
  exact⟨O.up,by simp,fun a ha b hb=>by simp at hb;have:=(O.mem a).mp ha;lia⟩
 ·simp only[List.mem_append,List.mem_singleton,O.mem]
  constructor
  ·rintro(⟨a,b⟩ | rfl)
   ·refine⟨by lia,?_⟩
    by_cases c:r p=k
    ·have:=inv p (by lia)
     rw[c]at this
     lia
    ·lia
   ·lia
  ·rintro⟨a,b⟩
   by_cases c:p=k
   ·exact .inr c
   ·exact .inl ⟨by lia,by lia⟩
end
section
variable{n:Nat}{f:List Nat}
theorem ma{fu fi fp fc fo:Nat}(h1:1<=n)(hn:n<=10)(V:Val n f)(hpo:∀ xs:List D,cl fo [.tup xs]=some (.int (xs.length / 2)))(hc:cl fc [.int n]=some (.bl true))(hp:cl fp [.tup (L f)]=some (.bl true))
 (hi:∃ E:List Nat,E.length=2*n/\(∀ q,q<2*n->at' E q=rnd n f q)/\cl fi [.tup (L f)]=some (.tup (L E)))
 (hu:∀ E:List Nat,E.length=2*n->(∀ q,q<2*n->at' E (at' E q)=q)->(∀ q,q<2*n->at' E q≠q)->(∀ q q',q<2*n->q'<2*n->¬ (q<q'/\q'<at' E q/\at' E q<at' E q'))->(∀ q,q<2*n->at' E q<2*n)->cl fu [.tup (L E)]=some (.bl true)) :
  evF cl (ee fu fi fp fc fo) [.tup (L f)]=some (.bl true):=by
 have F:=V.frm
 obtain⟨E,El,Ea,hi⟩:=hi
 have rl:∀ q,q<2*n->rnd n f q<2*n:=fun q hq=>cy (F.lt _ (cy hq))
 have hu:=hu E El (fun q hq=>by
   rw[Ea q hq,Ea _ (rl q hq)]
   unfold rnd
   rw[dD (F.lt _ (cy hq)),F.inv,dD hq]) (fun q hq e=>by
   rw[Ea q hq]at e
   unfold rnd at e
   have:=congrArg (rd n) e
   rw[dD (F.lt _ (cy hq))]at this
   exact F.no _ (cy hq) this) (fun q q' h h'=>by
   rw[Ea q h,Ea q' h']
   exact V.nox q q' h h') (fun q hq=>by rw[Ea q hq];exact rl q hq)
 have e1:a8 .mul (.int 2) (.int n)=some (.int (2*n)):=bM (by decide) (by decide)
 have ln:=half (xs:=L f) (n:=n) (by rw[aF,F.len])
 have po:=hpo (L f)
 rw[aF,F.len,show(((2*n:Nat):Int) / 2)=(n:Int) by lia]at po
 have en:=gF F.len
 have ft:fits ((List.range (2*n)).map (pr f))=some ((List.range (2*n)).map (pr f)):=by
  unfold fits
  rw[if_pos (by simp[most];lia)]
 have mc:=mm (F:=fun σ1=>((ev cl σ1 (.cmp .eq (.var 3) (.var 4))).bind truth).bind fun k=>if k then(ev cl σ1 (.var 3)).map some else some none) (tg:=[3,4]) (σ:=[some (.tup (L f)),some (.int n),none,none,none]) (h:=pr f) (g:=fun p=>.int (p:Nat)) (c:=fun _=>false) (fun _=>rfl) (List.range (2*n)) (by
  intro x hx
  simp at hx
  have c2:((x:Int) == (at' f x:Nat))=false:=beq_eq_false_iff_ne.mpr (by have:=F.no x hx;lia)
  simp[aI,bg,pr,ev,cz,c2,truth])
 rw[show(List.range (2*n)).filter (fun _=>false)=[]from List.filter_eq_nil_iff.mpr (by simp),List.map_nil]at mc
 have ne0:aT .ne (.int (2*(n:Int))) (.int (2*(n:Int)))=some false:=by
  rw[pI]
  simp
 simp only[evF,ee,aj,evS,ev,evs,aZ]
 simp[ev,evs,po,bz,D.imm,ln,e1,ne0,hc,hp,truth,aj,evS,aZ,eK,en,ft]
 simp[ev]at mc
 rw[mc]
 simp[aj,evS,ev,evs,aJ,au,hi,hu,truth,b9,D.imm,aS,avE]
theorem jD{fi:Nat}{x:D}(h:cl fi [x]=some (.bl true)):evF cl (cM fi) [x]=some .non:=by
 simp[evF,cM,aj,evS,ev,evs,h,truth,aS]
theorem v3(F:Frm n f):f.take n=(List.range n).map (at' f):=by
 have hl:=F.len
 apply List.ext_getElem?
 intro i
 by_cases hi:i<n
 ·rw[List.getElem?_take_of_lt hi,cC (by lia)]
  simp[hi]
 ·rw[List.getElem?_eq_none (by simp;lia),List.getElem?_eq_none (by simp;lia)]
end
theorem eJ{β:Type}{F:St->Option (Option D)}{tg:List Nat}{σ:St}{h g:β->D}(im:∀ x,(g x).imm=true):∀ xs:List β,(∀ x∈xs,(aI tg (h x) σ).bind F=some (some (g x)))->c6 F tg σ (xs.map h)=some (xs.map g)
 | [],_=>rfl
 | x::r,hh=>by
  have a:=hh x (by simp)
  have b:=eJ im r (fun y hy=>hh y (by simp[hy]))
  rw[List.map_cons,c6]
  cases hb:aI tg (h x) σ with
  | none=>rw[hb]at a;cases a
  |some σ1=>
   rw[hb]at a
   simp only[Option.bind_some]at a ⊢
   rw[a,b]
   simp[jc,im]
theorem lD(x:Bool):aT .ne (.bl x) (.bl x)=some false:=by cases x<;>rfl
theorem u6(x:Bool):aT .eq (.bl x) (.bl x)=some true:=by cases x<;>rfl
section
variable{fs:Nat}{d:D}{kb ki kl kt:Bool}{res:Option (Out × St)}{r:Ss}
theorem kd(hN:(match d with | .non=>some (D.bl (!false)) | .dK _ _=>none | .dT _ _=>none | _=>some (.bl false))=some (D.bl false))(hb:cb .bool d=some kb)(hi:cb .int d=some ki)(hl:cb .list d=some kl)(ht:cb .tuple d=some kt)
 (k:aj cl [] r [some d,some d,none,none]=res):aj cl [] (.cons (.ife (.isN false (.var 1)) (.cons (.ret (.isN false (.var 0))) .nil) .nil) (.cons (.ife (.or (.cmp .ne (.isi (.var 0) .bool) (.isi (.var 1) .bool)) (.cmp .ne (.isi (.var 0) .int) (.isi (.var 1) .int))) (.cons (.ret (.cst (.bl false))) .nil) .nil) (.cons (.ife (.or (.cmp .ne (.isi (.var 0) .list) (.isi (.var 1) .list)) (.cmp .ne (.isi (.var 0) .tuple) (.isi (.var 1) .tuple))) (.cons (.ret (.cst (.bl false))) .nil) .nil) r))) [some d,some d,none,none]=res :=
 aX (aD (zM hN (aa rfl))) (aX (aD (fM (a5 (bV (aa rfl) hb) (bV (aa rfl) hb) (lD _)) (a5 (bV (aa rfl) hi) (bV (aa rfl) hi) (lD _)))) (aX (aD (fM (a5 (bV (aa rfl) hl) (bV (aa rfl) hl) (lD _)) (a5 (bV (aa rfl) ht) (bV (aa rfl) ht) (lD _)))) k))
theorem gO{ks:Bool}(hN:(match d with | .non=>some (D.bl (!false)) | .dK _ _=>none | .dT _ _=>none | _=>some (.bl false))=some (D.bl false))(hb:cb .bool d=some kb)(hi:cb .int d=some ki)(hl:cb .list d=some false)(ht:cb .tuple d=some false)(hs:cb .str d=some ks)(he:aT .eq d d=some true):evF cl (bY fs) [d,d]=some (.bl true) :=
 a4 rfl rfl (kd hN hb hi hl ht (bN (aD (cB (c5 (bV (aa rfl) hl)) (c5 (bV (aa rfl) ht)))) (a7 (cB (a5 (bV (aa rfl) hs) (bV (aa rfl) hs) (u6 _)) (a5 (aa rfl) (aa rfl) he)) rfl)))
end
theorem same_int{fs:Nat}(a:Int):evF cl (bY fs) [.int a,.int a]=some (.bl true):=gO rfl rfl rfl rfl rfl rfl (by rw[cz,beq_self_eq_true])
theorem iO:∀ xs:List D,cG xs xs=xs.map fun x=>.tup [x,x]
 | []=>rfl
 | x::r=>by simp[cG,iO r]
theorem rJ{β:Type}:∀ xs:List β,c7 (xs.map fun _=>D.bl true)=some (xs.map fun _=>true)
 | []=>rfl
 | x::r=>by simp[c7,rJ r]
theorem n0{fs:Nat}{d:D}{xs:List D}(hd:d=.tup xs\/d=.lst xs)(hl:xs.length<=1000)(h:∀ x∈xs,cl fs [x,x]=some (.bl true)):evF cl (bY fs) [d,d]=some (.bl true):=by
 have al:biV .all (.lst (xs.map fun _=>.bl true))=some (.bl true):=by
  simp only[biV,rJ]
  simp
 have mc:=eJ (F:=fun σ1=>(ev cl σ1 (.call fs (.cons (.var 2) (.cons (.var 3) .nil)))).map some) (tg:=[2,3]) (σ:=[some d,some d,none,none]) (h:=fun x=>.tup [x,x]) (g:=fun _=>.bl true) (fun _=>rfl) xs (by
  intro x hx
  show(ev cl [some d,some d,some x,some x] (.call fs (.cons (.var 2) (.cons (.var 3) .nil)))).map some=_
  rw[bG (aa rfl) (aa rfl) (h x hx)]
  rfl)
 have it:items d=some xs:=by rcases hd with rfl | rfl<;>rfl
 have ln:biV .len d=some (.int xs.length):=by rcases hd with rfl | rfl<;>rfl
 have lq:aT .eq (.int (xs.length:Int)) (.int (xs.length:Int))=some true:=by simp[cz]
 have lz:(cG xs xs).length<=most:=by rw[iO,List.length_map];unfold most;lia
 rw[<-iO]at mc
 have tl:∀ {res:Option (Out × St)},some (Out.rt (.bl true),[some d,some d,none,none])=res->aj cl [] (.cons (.ret (.and (.cmp .eq (.bi .len (.var 0)) (.bi .len (.var 1))) (.bi .all (.compA (.call fs (.cons (.var 2) (.cons (.var 3) .nil))) [2,3] (.zip (.var 0) (.var 1)))))) .nil) [some d,some d,none,none]=res:=fun e=>(a7 (cB (a5 (br (aa rfl) ln) (br (aa rfl) ln) lq) (br (du (uK (aa rfl) (aa rfl) it it rfl) lz mc) al)) rfl).trans e
 rcases hd with rfl | rfl
 ·exact a4 rfl rfl (kd rfl rfl rfl rfl rfl (aX (aD (cB (c5 (k:=false) (bV (aa rfl) rfl)) (c5 (k:=true) (bV (aa rfl) rfl)))) (tl rfl)))
 ·exact a4 rfl rfl (kd rfl rfl rfl rfl rfl (aX (aD (gN (c5 (k:=true) (bV (aa rfl) rfl)))) (tl rfl)))
end RM
set_option maxHeartbeats 1000000
namespace RM
open RL RT
theorem rj{β:Type}{f:St->Option (Out × St)}{tg:List Nat}{d:D}{B:Prop}(g:β->D)(im:∀ b,(g b).imm=true)(I:List β->St->Prop):∀ (w done:List β) (σ:St),(∀ u b v σ,done++w=u++b::v->I u σ->(∃ σ2,(aI tg (g b) σ).bind f=some (.nx,σ2)/\I (u++[b]) σ2)\/(B/\∃ σ2,(aI tg (g b) σ).bind f=some (.rt d,σ2)))->I done σ->(∃ σ',bh f tg (w.map g) σ=some (.nx,σ')/\I (done++w) σ')\/(B/\∃ σ',bh f tg (w.map g) σ=some (.rt d,σ'))
 | [],done,σ,_,h=>.inl ⟨σ,rfl,by simpa using h⟩
 | b::w,done,σ,hs,h=>by
  rcases hs done b w σ rfl h with⟨σ2,h1,h3⟩ | ⟨hB,σ2,h1⟩
  ·have go:∀ {r:Option (Out × St)},bh f tg (w.map g) σ2=r->bh f tg ((b::w).map g) σ=r:=fun {r} e=>by
    rw[List.map_cons,bh,if_pos (im b)]
    cases hb:aI tg (g b) σ with
    | none=>rw[hb]at h1;cases h1
    |some σ1=>
     rw[hb]at h1
     simp only[Option.bind_some]at h1 ⊢
     rw[h1]
     exact e
   rcases rj (d:=d) (B:=B) g im I w (done++[b]) σ2 (fun pre e post σ he=>hs pre e post σ (by simpa using he)) h3 with⟨σ',h4,h5⟩ | ⟨hB,σ',h4⟩
   ·exact .inl ⟨σ',go h4,by simpa using h5⟩
   ·exact .inr ⟨hB,σ',go h4⟩
  ·refine .inr ⟨hB,σ2,?_⟩
   rw[List.map_cons,bh,if_pos (im b)]
   cases hb:aI tg (g b) σ with
   | none=>rw[hb]at h1;cases h1
   |some σ1=>
    rw[hb]at h1
    simp only[Option.bind_some]at h1 ⊢
    rw[h1]
    rfl
theorem r8{cl:Cl}{M:List Nat}{σ:St}{i:Nat}{e:E}{a b r:Ss}{xs:List D}{p q:Int}{res:Option (Out × St)}(hi:(σ[i]?).bind id=some (.lst (xs++[.int p])))(h:ev cl (σ.set i (some (.lst xs))) e=some (.int q))(k:aj cl M (.cons (.ife (.cst (.bl (decide (p=q)))) b a) r) (σ.set i (some (.lst xs)))=res):aj cl M (.cons (.ifp i e a b) r) σ=res:=by
 have l:evS cl M (.ifp i e a b) σ=if decide (p=q)=true then aj cl M b (σ.set i (some (.lst xs)))else aj cl M a (σ.set i (some (.lst xs))):=by
  rw[evS,hi,Option.bind_some]
  show((xs++[D.int p])[(xs++[D.int p]).length-1]?).bind _=_
  rw[show(xs++[D.int p])[(xs++[D.int p]).length-1]?=some (.int p) by simp,Option.bind_some,List.dropLast_concat,h]
  rfl
 have r':evS cl M (.ife (.cst (.bl (decide (p=q)))) b a) (σ.set i (some (.lst xs)))=if decide (p=q)=true then aj cl M b (σ.set i (some (.lst xs)))else aj cl M a (σ.set i (some (.lst xs))):=by
  rw[evS,ag]
  rfl
 rw[aj,r',<-l,<-aj]at k
 exact k
noncomputable def Nx(r:Nat->Nat)(m:Nat):Prop:=∀ q q',q<q'->q'<r q->r q<m->¬ (r q<r q'\/r q'=q')
structure Oq(r:Nat->Nat)(k:Nat)(W:List Nat):Prop extends Op r k W where
 nx:Nx r k
 al:∀ q q',q<q'->q'<k->k<=r q->r q'≠q'
section
variable{r:Nat->Nat}{m k:Nat}{W:List Nat}
theorem Oq.push(O:Oq r k W)(inv:∀ q,q<m->r (r q)=q)(hk:k<m)(h:k<r k):Oq r (k+1) (W++[k]) where
 toOp:=O.toOp.push inv hk h
 nx:=fun q q' h1 h2 h3=>by
  by_cases c:r q=k
  ·exfalso
   have:=inv q (by lia)
   rw[c]at this
   lia
  ·exact O.nx q q' h1 h2 (by lia)
 al:=fun q q' h1 h2 h3=>by
  by_cases c:q'=k
  ·subst c;lia
  ·exact O.al q q' h1 (by lia) (by lia)
theorem Oq.alone(O:Oq r k [])(inv:∀ q,q<m->r (r q)=q)(hk:k<m)(h:r k=k):Oq r (k+1) []:=by
 have no:∀ q,q<k->k<=r q->False:=fun q h1 h2=>by
  have:=(O.mem q).mpr ⟨h1,h2⟩
  cases this
 refine⟨⟨.nil,fun p=>⟨fun h=>(by cases h),fun⟨a,b⟩=>?_⟩⟩,fun q q' h1 h2 h3=>?_,fun q q' h1 h2 h3=>?_⟩
 ·by_cases c:p=k
  ·subst c;lia
  ·exact(no p (by lia) (by lia)).elim
 ·by_cases c:r q=k
  ·exfalso
   have:=inv q (by lia)
   rw[c,h]at this
   lia
  ·exact O.nx q q' h1 h2 (by lia)
 ·exact(no q (by lia) (by lia)).elim
theorem Oq.pop{W0:List Nat}(O:Oq r k (W0++[r k]))(inv:∀ q,q<m->r (r q)=q)(hk:k<m)(h:r k<k):Oq r (k+1) W0:=by
 have up:=O.up
 rw[List.pairwise_append]at up
 refine⟨⟨up.1,fun p=>?_⟩,fun q q' h1 h2 h3=>?_,fun q q' h1 h2 h3=>?_⟩
 ·constructor
  ·intro hp
   have lt:=up.2.2 p hp (r k) (by simp)
   have:=(O.mem p).mp (by simp[hp])
   refine⟨by lia,?_⟩
   by_cases c:r p=k
   ·have i:=inv p (by lia)
    rw[c]at i
    lia
   ·lia
  ·rintro⟨a,b⟩
   have pk:p≠k:=by rintro rfl;lia
   have:=(O.mem p).mpr ⟨by lia,by lia⟩
   simp at this
   rcases this with h | h
   ·exact h
   ·rw[h,inv k hk]at b
    lia
 ·by_cases c:r q=k
  ·have i:=inv q (by lia)
   rw[c]at i
   subst i
   rintro(z | z)
   ·have mq:=(O.mem q').mpr ⟨by lia,by lia⟩
    simp at mq
    rcases mq with mq | mq
    ·have:=up.2.2 q' mq (r k) (by simp)
     lia
    ·lia
   ·exact O.al (r k) q' h1 (by lia) (by lia) z
  ·exact O.nx q q' h1 h2 (by lia)
 ·by_cases c:q'=k
  ·subst c;lia
  ·exact O.al q q' h1 (by lia) (by lia)
end
theorem oR{cl:Cl}{m:Nat}{E:List Nat}(hm:m<=1000)(El:E.length=m)(inv:∀ q,q<m->at' E (at' E q)=q)(lt:∀ q,q<m->at' E q<m):∃ b:Bool,evF cl dt [.tup (L E)]=some (.bl b)/\(b=true->Nx (at' E) m)/\(Nx (at' E) m->b=true):=by
 have en:=gF El
 have st:=rj (B:=¬ Nx (at' E) m) (f:=aj cl [1] bj) (tg:=[2,3]) (d:=.bl false) (pr E) (fun _=>rfl)
  (fun u σ=>∃ (W:List Nat) (o2 o3:Option D),σ=[some (.tup (L E)),some (.lst (L W)),o2,o3]/\Oq (at' E) u.length W/\W.length<=u.length)
  (List.range m) [] [some (.tup (L E)),some (.lst (L [])),none,none] (by
   rintro u p v σ hu ⟨W,o2,o3,rfl,O,Wl⟩
   obtain⟨hk,hp⟩:=bQ (g:=id) (by simpa using hu)
   simp only[id]at hp
   subst hp
   have ml:(L W).length<most:=by rw[aF];unfold most;lia
   by_cases c:u.length<at' E u.length
   ·refine .inl ⟨_,show aj cl [1] bj [some (.tup (L E)),some (.lst (L W)),some (.int (u.length:Nat)),some (.int (at' E u.length:Nat))]=some (.nx,_)from jm (aD (a5 (k:=true) (aa rfl) (aa rfl) (by rw[ke,decide_eq_true (by lia)]))) (zf (aa rfl) rfl rfl ml aO) aO,W++[u.length],some (.int (u.length:Nat)),some (.int (at' E u.length:Nat)),?_,?_,?_⟩
    ·rw[dC];rfl
    ·rw[List.length_append];exact O.push inv hk c
    ·simp;lia
   ·have cg:(ev cl [some (.tup (L E)),some (.lst (L W)),some (.int (u.length:Nat)),some (.int (at' E u.length:Nat))] (.cmp .gt (.var 3) (.var 2))).bind truth=some false:=aD (a5 (k:=false) (aa rfl) (aa rfl) (by rw[ke,decide_eq_false (by lia)]))
    by_cases c2:at' E u.length=u.length
    ·have ce:(ev cl [some (.tup (L E)),some (.lst (L W)),some (.int (u.length:Nat)),some (.int (at' E u.length:Nat))] (.cmp .eq (.var 3) (.var 2))).bind truth=some true:=aD (a5 (k:=true) (aa rfl) (aa rfl) (by rw[cz,c2,beq_self_eq_true]))
     cases W with
     |nil=>
      exact .inl ⟨_,show aj cl [1] bj [some (.tup (L E)),some (.lst (L [])),some (.int (u.length:Nat)),some (.int (at' E u.length:Nat))]=some (.nx,_)from jF cg (jm ce (aX (by rw[aa rfl];rfl) aO) aO) aO,[],_,_,rfl,by rw[List.length_append];exact O.alone inv hk c2,by simp⟩
     |cons w W=>
      exact .inr ⟨fun N=>by
       obtain⟨w1,w2⟩:=(O.mem w).mp (List.mem_cons_self ..)
       have wk:at' E w≠u.length:=fun z=>by
        have:=inv w (by lia)
        rw[z,c2]at this
        lia
       exact N w u.length w1 (by lia) (lt w (by lia)) (.inr c2),_,show aj cl [1] bj [some (.tup (L E)),some (.lst (L (w::W))),some (.int (u.length:Nat)),some (.int (at' E u.length:Nat))]=some (.rt (.bl false),_)from i6 cg (bN ce (bN (by rw[aa rfl];rfl) (a7 ag rfl)))⟩
    ·have ce:(ev cl [some (.tup (L E)),some (.lst (L W)),some (.int (u.length:Nat)),some (.int (at' E u.length:Nat))] (.cmp .eq (.var 3) (.var 2))).bind truth=some false:=aD (a5 (k:=false) (aa rfl) (aa rfl) (by rw[cz,beq_eq_false_iff_ne.mpr (by lia)]))
     have m1:at' E u.length∈W:=(O.mem _).mpr ⟨by lia,by rw[inv _ hk];exact Nat.le_refl _⟩
     have ne:W≠[]:=List.ne_nil_of_mem m1
     have dl:=List.dropLast_concat_getLast ne
     generalize W.getLast ne=z at dl
     generalize W.dropLast=W0 at dl
     subst dl
     have hi:(([some (D.tup (L E)),some (.lst (L (W0++[z]))),some (.int (u.length:Nat)),some (.int (at' E u.length:Nat))]:St)[1]?).bind id=some (.lst (L W0++[.int (z:Nat)])):=by rw[dC];rfl
     by_cases c3:z=at' E u.length
     ·refine .inl ⟨_,show aj cl [1] bj [some (.tup (L E)),some (.lst (L (W0++[z]))),some (.int (u.length:Nat)),some (.int (at' E u.length:Nat))]=some (.nx,_)from jF cg (jF ce (r8 hi (aa rfl) (jm (by rw[ag,decide_eq_true (by lia)];rfl) aO aO)) aO) aO,W0,_,_,rfl,?_,?_⟩
      ·rw[List.length_append]
       subst c3
       exact O.pop inv hk (by lia)
      ·simp at Wl ⊢;lia
     ·exact .inr ⟨fun N=>by
       have up:=O.up
       rw[List.pairwise_append]at up
       have m0:at' E u.length∈W0:=by
        rcases List.mem_append.mp m1 with h | h
        ·exact h
        ·exact absurd (List.mem_singleton.mp h).symm c3
       have lz:=up.2.2 _ m0 z (by simp)
       have zz:=(O.mem z).mp (by simp)
       have zk:at' E z≠u.length:=fun q=>by
        have:=inv z (by lia)
        rw[q]at this
        exact c3 this.symm
       have i:=inv u.length hk
       exact N (at' E u.length) z lz (by rw[i];exact zz.1) (by rw[i];exact hk) (.inl (by rw[i];lia)),_,show aj cl [1] bj [some (.tup (L E)),some (.lst (L (W0++[z]))),some (.int (u.length:Nat)),some (.int (at' E u.length:Nat))]=some (.rt (.bl false),_)from i6 cg (i6 ce (r8 hi (aa rfl) (i6 (by rw[ag,decide_eq_false (by lia)];rfl) (a7 ag rfl))))⟩)
  ⟨[],none,none,rfl,⟨⟨by simp,by simp⟩,fun q q' _ _ h=>absurd h (Nat.not_lt_zero _),fun q q' _ h=>absurd h (Nat.not_lt_zero _)⟩,by simp⟩
 rw[<-en]at st
 rcases st with⟨σ',e,W,o2,o3,rfl,O,_⟩ | ⟨nN,σ',e⟩
 ·refine⟨true,a4 rfl rfl (gW (jh bF) rfl (cY (lB (aa rfl) rfl) e (a7 ag rfl))),fun _=>?_,fun _=>rfl⟩
  have:=O.nx
  rw[List.nil_append,List.length_range]at this
  exact this
 ·exact⟨false,a4 rfl rfl (gW (jh bF) rfl (vv (lB (aa rfl) rfl) e)),(fun h=>by cases h),fun N=>absurd N nN⟩
end RM
set_option maxHeartbeats 1000000
namespace RM
open RL RT
noncomputable def xi(xs:List Int)(p:Nat):Int:=(xs[p]?).getD 0
noncomputable def nb(xs:List Int)(p:Nat):Bool:=decide (0<=xi xs p/\xi xs p<xs.length)&&decide (xi xs (xi xs p).toNat=p)
theorem uA{xs:List Int}{p:Nat}(h:p<xs.length):ixV (.tup (LI xs)) (.int (p:Nat))=some (.int (xi xs p)):=by
 show bR _ _=_
 rw[cS]
 simp[LI,xi,h]
theorem nt(xs:List Int):biV .len (.tup (LI xs))=some (.int (xs.length:Nat)):=congrArg (fun n:Nat=>some (D.int n)) (rN xs)
theorem bls{β:Type}(g:β->Bool):∀ xs:List β,c7 (xs.map fun x=>D.bl (g x))=some (xs.map g)
 | []=>rfl
 | x::r=>by rw[List.map_cons,c7,bls g r];rfl
theorem vq{β:Type}(g:β->Bool)(xs:List β):biV .all (.lst (xs.map fun x=>D.bl (g x)))=some (.bl (xs.all g)):=by
 show(c7 (xs.map fun x=>D.bl (g x))).map _=_
 rw[bls,Option.map_some,List.all_map]
 rfl
section
variable{cl:Cl}{xs:List Int}
theorem qH{fn:Nat}(hnum:∀ i:Int,cl fn [.int i]=some (.bl true)){p:Nat}(hp:p<xs.length):evF cl (eR fn) [.tup (LI xs),.int (p:Nat)]=some (.bl (nb xs p)):=by
 unfold nb
 have a1:ev cl [some (.tup (LI xs)),some (.int (p:Nat)),some (.int (xi xs p))] (.call fn (.cons (.var 2) .nil))=some (.bl true):=aY (aa rfl) (hnum _)
 have as:∀ {res:Option (Out × St)} {r:Ss},aj cl [] r [some (.tup (LI xs)),some (.int (p:Nat)),some (.int (xi xs p))]=res->aj cl [] (.cons (.asg 2 (.ix (.var 0) (.var 1))) r) [some (.tup (LI xs)),some (.int (p:Nat)),none]=res:=fun h=>aB (gc (aa rfl) (aa rfl) (uA hp)) rfl h
 by_cases c:0<=xi xs p/\xi xs p<xs.length
 ·rw[decide_eq_true c,Bool.true_and]
  obtain⟨j,hj⟩:=Int.eq_ofNat_of_zero_le c.1
  rw[hj]at c as a1 ⊢
  have i2:=uA (xs:=xs) (p:=j) (by lia)
  exact a4 rfl rfl (as (a7 (cB a1 (cB (jX (k:=true) ag (aa rfl) (br (aa rfl) (nt xs)) (by rw[pT,decide_eq_true c.1]) (by rw[cX,decide_eq_true c.2])) (a5 (gc (aa rfl) (aa rfl) i2) (aa rfl) (by
   rw[cz,Int.toNat_natCast]
   congr 1)))) rfl))
 ·rw[decide_eq_false c,Bool.false_and]
  by_cases c1:0<=xi xs p
  ·exact a4 rfl rfl (as (a7 (cB a1 (gN (jX (k:=false) ag (aa rfl) (br (aa rfl) (nt xs)) (by rw[pT,decide_eq_true c1]) (by rw[cX,decide_eq_false (fun z=>c ⟨c1,z⟩)])))) rfl))
  ·exact a4 rfl rfl (as (a7 (cB a1 (gN (t7 ag (aa rfl) (by rw[pT,decide_eq_false c1])))) rfl))
theorem iI{fb:Nat}(hm:xs.length<=1000)(hb:∀ p:Nat,p<xs.length->cl fb [.tup (LI xs),.int (p:Nat)]=some (.bl (nb xs p))):evF cl (eG fb) [.tup (LI xs)]=some (.bl ((List.range xs.length).all (nb xs))):=by
 have mc:=eJ (F:=fun σ1=>(ev cl σ1 (.call fb (.cons (.var 0) (.cons (.var 1) .nil)))).map some) (tg:=[1]) (σ:=[some (.tup (LI xs)),none]) (h:=fun p=>.int (p:Nat)) (g:=fun p=>.bl (nb xs p)) (fun _=>rfl) (List.range xs.length) (by
  intro p hp
  show(ev cl [some (.tup (LI xs)),some (.int (p:Nat))] (.call fb (.cons (.var 0) (.cons (.var 1) .nil)))).map some=_
  rw[bG (aa rfl) (aa rfl) (hb p (List.mem_range.mp hp))]
  rfl)
 exact a4 rfl rfl (a7 (cB (bV (aa rfl) rfl) (br (du (fI (br (aa rfl) (nt xs)) (dk hm)) (by rw[aF,List.length_range];unfold most;lia) mc) (vq _ _))) rfl)
theorem yu(f:List Nat):L f=LI (f.map Int.ofNat):=by unfold L LI;rw[List.map_map];rfl
theorem j7{m:Nat}{h:List Nat}(len:h.length=m)(lt:∀ q,q<m->at' h q<m)(inv:∀ q,q<m->at' h (at' h q)=q):(List.range (h.map Int.ofNat).length).all (nb (h.map Int.ofNat))=true:=by
 have x1:∀ q,q<m->xi (h.map Int.ofNat) q=(at' h q:Nat):=fun q hq=>by simp[xi,at',show q<h.length by lia]
 rw[List.all_eq_true,List.length_map,len]
 intro q hq
 have hq:=List.mem_range.mp hq
 have l:=lt q hq
 unfold nb
 rw[x1 q hq,Int.toNat_natCast,x1 _ l,inv q hq,List.length_map,len]
 rw[decide_eq_true ⟨by lia,by lia⟩]
 simp
end
structure Dg(T:List Fn)(mx rw dg:Nat):Prop where
 AK:T[mx]?=some gK
 AL:T[rw]?=some (hZ mx)
 Bl:T[dg]?=some (cW rw)
theorem Dg.digits{T:List Fn}{mx rw dg:Nat}(h:Dg T mx rw dg){ns:List Int}(hl:ns.length<=63)(n:Nat){k:Nat}{sizes:List Nat}(hk:k<=1000)(hp:∀ s∈sizes,0<s/\s<2 ^ 200)(hz:sizes.length<=1000) :
  ∃ ds:List Nat,hV ds sizes/\ao T (n+3) dg [.lst (LI ns),.int k,.lst (L sizes)]=some (.lst (L ds)):=by
 obtain⟨r,hr⟩:=we (cl:=ao T (n+1)) (f:=mx) (fun s=>by
  obtain⟨m,hm⟩:=uW (cl:=ao T n) s
  exact⟨m,(ah h.AK).trans hm⟩) hl hk
 obtain⟨ds,h1,h2⟩:=pb (cl:=ao T (n+2)) (f:=rw) ((ah h.AL).trans hr) hp hz
 exact⟨ds,h1,(ah h.Bl).trans h2⟩
section
variable{T:List Fn}{mx rw dg pl hk ci ft tx rg hu ov fr:Nat}
end
structure Ck(T:List Fn)(nu pc pa nb un if' cf po rp ir mv:Nat):Prop where
 AH:T[nu]?=some fj
 A6:T[pc]?=some (cE nu)
 zF:T[pa]?=some (eG nb)
 wL:T[nb]?=some (eR nu)
 xD:T[un]?=some dt
 Ae:T[if']?=some (ee un ir pa pc po)
 Bb:T[cf]?=some (cM if')
 AN:T[po]?=some hW
 Bm:T[rp]?=some cq
 AO:T[ir]?=some (dX mv rp po)
 Bq:T[mv]?=some ic
section
variable{T:List Fn}{nu pc pa nb un if' cf po rp ir mv:Nat}
theorem Ck.num(h:Ck T nu pc pa nb un if' cf po rp ir mv)(n:Nat)(i:Int):ao T (n+1) nu [.int i]=some (.bl true):=(ah h.AH).trans (kZ i)
theorem Ck.tJ(h:Ck T nu pc pa nb un if' cf po rp ir mv)(n:Nat)(i:Int):ao T (n+2) pc [.int i]=some (.bl (decide (1<=i/\i<=10))):=(ah h.A6).trans (iU (h.num n) i)
theorem Ck.of(h:Ck T nu pc pa nb un if' cf po rp ir mv)(n:Nat)(xs:List D):ao T (n+1) po [.tup xs]=some (.int (xs.length / 2)):=(ah h.AN).trans (nF xs)
theorem Ck.half(h:Ck T nu pc pa nb un if' cf po rp ir mv)(n:Nat){k:Nat}{f:List Nat}(hf:f.length=2*k):ao T (n+1) po [.tup (L f)]=some (.int k):=by
 rw[h.of,aF,hf]
 congr 2
 lia
theorem Ck.place(h:Ck T nu pc pa nb un if' cf po rp ir mv)(n:Nat){k p:Nat}(hp:p<2*k):ao T (n+1) rp [.int k,.int (p:Nat)]=some (.int (rd k p:Nat)):=(ah h.Bm).trans (jj hp)
theorem Ck.move(h:Ck T nu pc pa nb un if' cf po rp ir mv)(n:Nat){k:Nat}{f:List Nat}{U:D}{to:Nat->Nat}(hk:k<=10)(F:Frm k f)(hT:∀ p:Nat,p<2*k->ixV U (.int (p:Nat))=some (.int (to p:Nat)))(hlt:∀ p,p<2*k->to p<2*k)(inj:∀ p q,p<2*k->q<2*k->to p=to q->p=q) :
  ∃ E:List Nat,E.length=2*k/\(∀ p,p<2*k->at' E (to p)=to (at' f p))/\ao T (n+1) mv [.tup (L f),U]=some (.tup (L E)):=by
 obtain⟨E,h1,h2,h3⟩:=qw (cl:=ao T n) (T:=U) (to:=to) hk F hT hlt inj
 exact⟨E,h1,h2,(ah h.Bq).trans h3⟩
theorem Ck.round(h:Ck T nu pc pa nb un if' cf po rp ir mv)(n:Nat){k:Nat}{f:List Nat}(hk:k<=10)(F:Frm k f):∃ E:List Nat,E.length=2*k/\(∀ q,q<2*k->at' E q=rnd k f q)/\ao T (n+2) ir [.tup (L f)]=some (.tup (L E)):=by
 obtain⟨E,h1,h2,h3⟩:=m3 (cl:=ao T (n+1)) (fm:=mv) (frp:=rp) (fpo:=po) hk F (h.of n) (fun p hp=>h.place n hp) (h.move n (U:=.lst (L (me k))) (to:=rd k) hk F (fun p hp=>vY hp) (fun p hp=>cy hp) (fun p q hp hq h=>zc hp hq h))
 exact⟨E,h1,h2,(ah h.AO).trans h3⟩
theorem Ck.frame(h:Ck T nu pc pa nb un if' cf po rp ir mv)(n:Nat){k:Nat}{f:List Nat}(h1:1<=k)(hk:k<=10)(V:Val k f):ao T (n+4) if' [.tup (L f)]=some (.bl true) :=
 (ah h.Ae).trans (ma h1 hk V (h.of (n+2)) (by rw[h.tJ (n+1),decide_eq_true (by lia)])
  (by
   have F:=V.frm
   have p:=(ah (n:=n+2) h.zF).trans (iI (xs:=f.map Int.ofNat) (by rw[List.length_map,F.len];lia) fun q hq=>(ah h.wL).trans (qH (h.num n) hq))
   rw[j7 F.len F.lt (fun q _=>F.inv q),<-yu]at p
   exact p)
  (h.round (n+1) hk V.frm) (fun E a b c d l=>(ah h.xD).trans (by
   obtain⟨w,e,_,hb⟩:=oR (cl:=ao T (n+2)) (m:=2*k) (by lia) a b l
   rw[hb fun q q' x y z w=>by
    have:=d q q' (by lia) (by lia)
    have:=c q' (by lia)
    lia]at e
   exact e)))
theorem Ck.check(h:Ck T nu pc pa nb un if' cf po rp ir mv)(n:Nat){k:Nat}{f:List Nat}(h1:1<=k)(hk:k<=10)(V:Val k f):ao T (n+5) cf [.tup (L f)]=some .non:=(ah h.Bb).trans (jD (h.frame n h1 hk V))
theorem Ck.lA(h:Ck T nu pc pa nb un if' cf po rp ir mv){cp:Nat}(hcp:T[cp]?=some (bC pc))(n:Nat){k:Nat}(h1:1<=k)(hk:k<=10):ao T (n+3) cp [.int k]=some .non:=(ah hcp).trans (jR (by rw[h.tJ,decide_eq_true (by lia)]))
theorem Ck.plain(h:Ck T nu pc pa nb un if' cf po rp ir mv){cp pl:Nat}(hcp:T[cp]?=some (bC pc))(hpl:T[pl]?=some (e8 cp))(n:Nat){k:Nat}(h1:1<=k)(hk:k<=10):ao T (n+4) pl [.int k]=some (.tup (L (cH k))):=(ah hpl).trans (run_plain hk (h.lA hcp n h1 hk))
end
inductive Pl:Nat->D->Prop
 | int (n:Nat) (i:Int):Pl n (.int i)
 | bl (n:Nat) (b:Bool):Pl n (.bl b)
 | str (n:Nat) (x:PySem.Str):Pl n (.str x)
 | tup (n:Nat) (xs:List D) (hl:xs.length<=1000) (h:∀ x∈xs,Pl n x):Pl (n+1) (.tup xs)
 | lst (n:Nat) (xs:List D) (hl:xs.length<=1000) (h:∀ x∈xs,Pl n x):Pl (n+1) (.lst xs)
theorem oE{cl:Cl}{fs:Nat}(a:Bool):evF cl (bY fs) [.bl a,.bl a]=some (.bl true):=gO rfl rfl rfl rfl rfl rfl (u6 a)
theorem same_str{cl:Cl}{fs:Nat}(x:PySem.Str):evF cl (bY fs) [.str x,.str x]=some (.bl true):=gO rfl rfl rfl rfl rfl rfl (show some (x == x)=some true by rw[beq_self_eq_true])
theorem sameAll{T:List Fn}{sm:Nat}(h:T[sm]?=some (bY sm)):∀ (k n:Nat) (d:D),Pl k d->k<=n->ao T (n+1) sm [d,d]=some (.bl true):=by
 intro k
 induction k with
 |zero=>
  intro n d p _
  cases p with
  | int=>exact(ah h).trans (same_int _)
  | bl=>exact(ah h).trans (oE _)
  | str=>exact(ah h).trans (same_str _)
 |succ k ih=>
  intro n d p hn
  cases p with
  | int=>exact(ah h).trans (same_int _)
  | bl=>exact(ah h).trans (oE _)
  | str=>exact(ah h).trans (same_str _)
  |tup _ xs hl hx=>
   obtain⟨m,rfl⟩:∃ m,n=m+1:=⟨n-1,by lia⟩
   exact(ah h).trans (n0 (.inl rfl) hl fun x hd=>ih m x (hx x hd) (by lia))
  |lst _ xs hl hx=>
   obtain⟨m,rfl⟩:∃ m,n=m+1:=⟨n-1,by lia⟩
   exact(ah h).trans (n0 (.inr rfl) hl fun x hd=>ih m x (hx x hd) (by lia))
noncomputable def Cyc(a b c d:Nat):Prop:=(a<b/\b<c/\c<d)\/(b<c/\c<d/\d<a)\/(c<d/\d<a/\a<b)\/(d<a/\a<b/\b<c)
theorem oy{m:Nat}{r:Nat->Nat}(inv:∀ q,q<m->r (r q)=q)(nox:∀ q q',q<m->q'<m->¬ (q<q'/\q'<r q/\r q<r q')){a b c d:Nat}(ha:a<m)(hb:b<m)(hc:c<m)(hd:d<m)(e1:r a=c)(e2:r b=d):¬ Cyc a b c d:=by
 have e3:r c=a:=by rw[<-e1];exact inv a ha
 have e4:r d=b:=by rw[<-e2];exact inv b hb
 rintro(h | h | h | h)
 ·exact nox a b ha hb ⟨h.1,by lia,by lia⟩
 ·exact nox b c hb hc ⟨h.1,by lia,by lia⟩
 ·exact nox c d hc hd ⟨h.1,by lia,by lia⟩
 ·exact nox d a hd ha ⟨h.1,by lia,by lia⟩
theorem mB{n:Nat}{f g:List Nat}(hf:f.length=n)(hg:g.length=n)(h:∀ x,x<n->at' f x=at' g x):f=g:=by
 refine List.ext_getElem? fun x=>?_
 by_cases hx:x<n
 ·rw[cC (by lia),cC (by lia),h x hx]
 ·rw[List.getElem?_eq_none (by lia),List.getElem?_eq_none (by lia)]
structure Way(n:Nat)(to ba:Nat->Nat):Prop where
 lt:∀ p,p<2*n->to p<2*n
 blt:∀ p,p<2*n->ba p<2*n
 tb:∀ p,p<2*n->to (ba p)=p
 bt:∀ p,p<2*n->ba (to p)=p
 cyc:∀ a b c d,a<2*n->b<2*n->c<2*n->d<2*n->a<b->b<c->c<d->Cyc (rd n (ba (rd n a))) (rd n (ba (rd n b))) (rd n (ba (rd n c))) (rd n (ba (rd n d)))\/Cyc (rd n (ba (rd n d))) (rd n (ba (rd n c))) (rd n (ba (rd n b))) (rd n (ba (rd n a)))
noncomputable def bS(n:Nat)(to ba:Nat->Nat)(f:List Nat):List Nat:=(List.range (2*n)).map fun p=>to (at' f (ba p))
theorem lT(n:Nat)(to ba:Nat->Nat)(f:List Nat):(bS n to ba f).length=2*n:=by simp[bS]
theorem d7{n:Nat}{to ba:Nat->Nat}{f:List Nat}{p:Nat}(h:p<2*n):at' (bS n to ba f) p=to (at' f (ba p)):=by
 simp[bS,at',h]
theorem Way.inj{n:Nat}{to ba:Nat->Nat}(W:Way n to ba){p q:Nat}(hp:p<2*n)(hq:q<2*n)(h:to p=to q):p=q:=by rw[<-W.bt p hp,h,W.bt q hq]
theorem Way.val{n:Nat}{to ba:Nat->Nat}(W:Way n to ba){f:List Nat}(V:Val n f):Val n (bS n to ba f):=by
 have F:=V.frm
 have hl:=lT n to ba f
 refine⟨⟨hl,fun x hx=>?_,fun x=>?_,fun x hx e=>?_⟩,fun q q' hq hq' h=>?_⟩
 ·rw[d7 hx]
  exact W.lt _ (F.lt _ (W.blt _ hx))
 ·by_cases hx:x<2*n
  ·have h1:=F.lt _ (W.blt _ hx)
   rw[d7 hx,d7 (W.lt _ h1),W.bt _ h1,F.inv,W.tb _ hx]
  ·rw[js (f:=bS n to ba f) (x:=x) (by lia),js (by lia)]
 ·rw[d7 hx]at e
  have h1:=F.lt _ (W.blt _ hx)
  have:at' f (ba x)=ba x:=by rw[<-W.bt _ h1,e]
  exact F.no _ (W.blt _ hx) this
 ·obtain⟨h1,h2,h3⟩:=h
  have rl:∀ q,q<2*n->rnd n f q<2*n:=fun q hq=>cy (F.lt _ (cy hq))
  have rr:∀ q,q<2*n->rnd n f (rnd n f q)=q:=fun q hq=>by
   unfold rnd
   rw[dD (F.lt _ (cy hq)),F.inv,dD hq]
  have key:∀ q,q<2*n->rnd n (bS n to ba f) q<2*n/\rnd n f (rd n (ba (rd n q)))=rd n (ba (rd n (rnd n (bS n to ba f) q))):=fun q hq=>by
   have a1:=cy hq
   have a2:=W.blt _ a1
   have a3:=F.lt _ a2
   unfold rnd
   rw[d7 a1]
   refine⟨cy (W.lt _ a3),?_⟩
   rw[dD a2,dD (W.lt _ a3),W.bt _ a3]
  obtain⟨k1,k2⟩:=key q hq
  obtain⟨k3,k4⟩:=key q' hq'
  have bl:∀ q,q<2*n->rd n (ba (rd n q))<2*n:=fun q hq=>cy (W.blt _ (cy hq))
  rcases W.cyc q q' _ _ hq hq' k1 k3 h1 h2 h3 with c | c
  ·exact oy rr V.nox (bl _ hq) (bl _ hq') (bl _ k1) (bl _ k3) k2 k4 c
  ·refine oy rr V.nox (bl _ k3) (bl _ k1) (bl _ hq') (bl _ hq) ?_ ?_ c
   ·rw[<-k4,rr _ (bl _ hq')]
   ·rw[<-k2,rr _ (bl _ hq)]
noncomputable def ovr(n p:Nat):Nat:=if p<n then p+n else p-n
theorem ig{n q:Nat}(c:q<n):rd n q=q:=by unfold rd;rw[if_pos c]
theorem uI{n q:Nat}(c:¬ q<n):rd n q=3*n-1-q:=by unfold rd;rw[if_neg c]
theorem jL{n q:Nat}(c:q<n):ovr n q=q+n:=by unfold ovr;rw[if_pos c]
theorem nz{n q:Nat}(c:¬ q<n):ovr n q=q-n:=by unfold ovr;rw[if_neg c]
theorem jg{n p:Nat}(hp:p<2*n):ovr n p<2*n/\ovr n (ovr n p)=p:=by
 by_cases c:p<n
 ·rw[jL c,nz (by lia)];exact⟨by lia,by lia⟩
 ·rw[nz c,jL (by omega)];exact⟨by lia,by lia⟩
theorem jy{n q:Nat}(hq:q<2*n):rd n (ovr n (rd n q))=2*n-1-q:=by
 by_cases c:q<n
 ·rw[ig c,jL c,uI (by lia)];lia
 ·rw[uI c,nz (by omega),ig (by omega)];lia
theorem mi(n:Nat):Way n (ovr n) (ovr n) :=
 ⟨fun p hp=>(jg hp).1,fun p hp=>(jg hp).1,fun p hp=>(jg hp).2,fun p hp=>(jg hp).2,fun a b c d ha hb hc hd h1 h2 h3=>.inr (.inl (by
  rw[jy ha,jy hb,jy hc,jy hd]
  exact⟨by lia,by lia,by omega⟩))⟩
theorem zX{ns:List Int}(hl:ns.length<=63):mS (.scr (LI ns)) (.int 63)=some (.lst (LI ns)):=by
 show some (D.lst ((LI ns).take (cutAt (LI ns).length 63)))=_
 rw[List.take_of_length_le]
 have:(LI ns).length=ns.length:=by simp[LI]
 rw[this]
 unfold cutAt
 rw[if_pos (by decide)]
 have:(63:Int).toNat=63:=rfl
 lia
section
variable{cl:Cl}{n:Nat}{f:List Nat}
theorem Av(n:Nat):a8 .mul (.int 2) (.int (n:Nat))=some (.int ((2*n:Nat):Int)):=by
 rw[bM (by decide) (by decide)]
 simp
theorem tP{p:Nat}(h:p<2*n):ixV (.tup (L (cH n))) (.int (p:Nat))=some (.int (ovr n p:Nat)):=by
 rw[mn (by simp[cH];lia),plain_at]
 unfold ovr
 split
 ·rw[Nat.add_comm]
 ·rfl
theorem sC{fm fp fo fc:Nat}(h1:1<=n)(hn:n<=10)(F:Frm n f)(hc:cl fc [.tup (L f)]=some .non)(ho:cl fo [.tup (L f)]=some (.int n))(hp:cl fp [.int n]=some (.tup (L (cH n))))
 (hm:cl fm [.tup (L f),.tup (L (cH n))]=some (.tup (L (bS n (ovr n) (ovr n) f)))):evF cl (hG fm fp fo fc) [.tup (L f)]=some (.tup (L (bS n (ovr n) (ovr n) f))):=by
 simp[evF,hG,aj,evS,ev,evs,hc,ho,hp,hm,b9,D.imm,bx,aS]
end
section
variable{T:List Fn}{nu pc pa nb un if' cf po rp ir mv:Nat}
theorem wZ{n:Nat}{to ba:Nat->Nat}{f E:List Nat}(W:Way n to ba)(h1:E.length=2*n)(h2:∀ p,p<2*n->at' E (to p)=to (at' f p)):E=bS n to ba f:=by
 refine mB h1 (lT ..) fun p hp=>?_
 rw[d7 hp]
 have:=h2 (ba p) (W.blt _ hp)
 rw[W.tb _ hp]at this
 exact this
theorem Ck.Ar(h:Ck T nu pc pa nb un if' cf po rp ir mv)(n:Nat){k:Nat}{f:List Nat}{U:D}{to ba:Nat->Nat}(hk:k<=10)(F:Frm k f)(W:Way k to ba)(hT:∀ p:Nat,p<2*k->ixV U (.int (p:Nat))=some (.int (to p:Nat))):ao T (n+1) mv [.tup (L f),U]=some (.tup (L (bS k to ba f))):=by
 obtain⟨E,h1,h2,h3⟩:=h.move n hk F hT W.lt fun p q hp hq e=>W.inj hp hq e
 rw[h3,wZ W h1 h2]
theorem Ck.over(h:Ck T nu pc pa nb un if' cf po rp ir mv){cp pl ov:Nat}(hcp:T[cp]?=some (bC pc))(hpl:T[pl]?=some (e8 cp))(hov:T[ov]?=some (hG mv pl po cf))(n:Nat){k:Nat}{f:List Nat}(h1:1<=k)(hk:k<=10)(V:Val k f):ao T (n+6) ov [.tup (L f)]=some (.tup (L (bS k (ovr k) (ovr k) f))) :=
 (ah hov).trans (sC h1 hk V.frm (h.check n h1 hk V) (h.half (n+4) V.frm.len) (h.plain hcp hpl (n+1) h1 hk) (h.Ar (n+4) hk V.frm (mi k) fun p hp=>tP hp))
end
end RM
set_option maxHeartbeats 1000000
namespace RT
open RL
end RT
namespace RM
open RL RT
section
variable{cl:Cl}{n:Nat}{f:List Nat}
theorem qt:∀ xs:List Nat,cL (L xs)=some (xs.map Int.ofNat)
 | []=>rfl
 | x::r=>by rw[show L (x::r)=.int x::L r from rfl,cL,qt r];rfl
end
section
variable{m:Nat}{a b:Nat->Nat}{x:Nat}
end
section
variable{cl:Cl}{m x:Nat}{a b:Nat->Nat}{A B:D}
end
section
variable{cl:Cl}{m:Nat}{a b:Nat->Nat}{A B:D}
end
section
variable{n:Nat}{h l:List Nat}
end
section
variable{cl:Cl}{n:Nat}{h l:List Nat}
end
section
variable{n:Nat}{h l:List Nat}
end
section
variable{cl:Cl}{n:Nat}{h l inner:List Nat}
end
section
variable{T:List Fn}{nu pc pa nb un if' cf po rp ir mv rn mk rg jb pu c2 hu:Nat}
end
section
variable{T:List Fn}{mx rw dg pl hk ci ft tx rg hu ov fr:Nat}
end
section
variable{n:Nat}{f:List Nat}
end
section
variable{n:Nat}{h l:List Nat}
set_option synthInstance.maxSize 10000 in
set_option synthInstance.maxHeartbeats 0 in
end
section
variable{n:Nat}{h l:List Nat}
set_option synthInstance.maxSize 10000 in
set_option synthInstance.maxHeartbeats 0 in
end
section
variable{T:List Fn}{mx rw dg pl hk ci ft tx rg hu ov fr:Nat}
end
section
variable{M N:Nat}{a a' b c f o:Nat->Nat}
end
section
variable{m m':Nat}{a b a' b':Nat->Nat}
end
section
variable{n:Nat}{h l f:List Nat}
end
section
variable{n:Nat}{h m l:List Nat}
set_option synthInstance.maxSize 10000 in
set_option synthInstance.maxHeartbeats 0 in
set_option synthInstance.maxSize 10000 in
set_option synthInstance.maxHeartbeats 0 in
end
end RM
set_option maxHeartbeats 1000000
namespace RM
open RL RT
section
variable{n:Nat}{f g h l:List Nat}
end
end RM
set_option maxHeartbeats 1000000
namespace RT
open RL
end RT
namespace RM
open RL RT
section
variable{T:List Fn}{nu pc pa nb un if' cf po rp ir mv rn mk rg jb pu c2 hu:Nat}
end
section
variable{n:Nat}{h l h' l':List Nat}
set_option synthInstance.maxSize 10000 in
set_option synthInstance.maxHeartbeats 0 in
end
end RM
set_option maxHeartbeats 1000000
namespace RT
open RL
noncomputable def iA(f_pegs_of f_check_frame:Nat):Fn :=
 ⟨1,4,[],[],(.cons (.exc (.call f_check_frame (.cons (.var 0) .nil))) (.cons (.asg 1 (.call f_pegs_of (.cons (.var 0) .nil))) (.cons (.ret (.bi .tuple (.compA (.ifx (.cmp .lt (.var 3) (.var 1)) (.var 3) (.var 2)) [2,3] (.enm (.slT (.var 0) (.var 1)))))) .nil)))⟩
noncomputable def oi(f_upper f_over:Nat):Fn :=
 ⟨1,1,[],[],(.cons (.ret (.call f_upper (.cons (.call f_over (.cons (.var 0) .nil)) .nil))) .nil)⟩
end RT
namespace RM
open RL RT
noncomputable def up(n:Nat)(f:List Nat)(p:Nat):Nat:=if at' f p<n then at' f p else p
noncomputable def upL(n:Nat)(f:List Nat):List Nat:=(List.range n).map (up n f)
section
variable{cl:Cl}{n:Nat}{f:List Nat}
theorem oD:(upL n f).length=n:=by simp[upL]
theorem qg{p:Nat}(h:p<n):at' (upL n f) p=up n f p:=by simp[upL,at',h]
theorem Ay(F:Frm n f){p:Nat}(h:p<n):at' (f.take n) p=at' f p:=by
 rw[v3 F]
 simp[at',h]
theorem qh{fo fc:Nat}(h1:1<=n)(hn:n<=10)(F:Frm n f)(hc:cl fc [.tup (L f)]=some .non)(ho:cl fo [.tup (L f)]=some (.int (n:Nat))):evF cl (iA fo fc) [.tup (L f)]=some (.tup (L (upL n f))):=by
 have hl:(f.take n).length=n:=by rw[List.length_take,F.len];lia
 have en:=gF hl
 have sl:mS (.tup (L f)) (.int (n:Nat))=some (.tup (L (f.take n))):=by
  have c:cutAt (L f).length (n:Nat)=n:=by
   unfold cutAt
   rw[if_pos (by lia),Int.toNat_natCast,aF,F.len]
   lia
  show(if cutAt (L f).length (n:Nat)<(L f).length then some (D.tup ((L f).take (cutAt (L f).length (n:Nat))))else none)=_
  rw[c,if_pos (by rw[aF,F.len];lia),xv]
 have mc:=eJ (F:=fun σ1=>(ev cl σ1 (.ifx (.cmp .lt (.var 3) (.var 1)) (.var 3) (.var 2))).map some) (tg:=[2,3]) (σ:=[some (.tup (L f)),some (.int (n:Nat)),none,none]) (h:=pr (f.take n)) (g:=fun p=>.int (up n f p:Nat)) (fun _=>rfl) (List.range n) (by
  intro p hp
  have hp:=List.mem_range.mp hp
  show(ev cl [some (.tup (L f)),some (.int (n:Nat)),some (.int (p:Nat)),some (.int (at' (f.take n) p:Nat))] (.ifx (.cmp .lt (.var 3) (.var 1)) (.var 3) (.var 2))).map some=_
  rw[Ay F hp]
  unfold up
  by_cases c:at' f p<n
  ·rw[l4 (k:=true) (aD (a5 (aa rfl) (aa rfl) (by rw[cX];simp;exact c))) (aa rfl),if_pos c]
   rfl
  ·rw[l4 (k:=false) (aD (a5 (aa rfl) (aa rfl) (by rw[cX];simp;lia))) (aa rfl),if_neg c]
   rfl)
 rw[<-en]at mc
 have lm:(cx 0 (L (f.take n))).length<=most:=by rw[en,List.length_map,List.length_range];unfold most;lia
 have e:((List.range n).map fun p=>D.int (up n f p:Nat))=L (upL n f):=by unfold upL L;rw[List.map_map];rfl
 rw[e]at mc
 exact a4 rfl rfl (cZ (aY (aa rfl) hc) (aB (aY (aa rfl) ho) rfl (a7 (br (du (lB (uG (aa rfl) (aa rfl) sl) rfl) lm mc) rfl) (by unfold b9;rw[show ∀ x:List Nat,(D.tup (L x)).imm=au (L x)from fun _=>rfl,bx];rfl))))
end
section
variable{T:List Fn}{nu pc pa nb un if' cf po rp ir mv:Nat}
theorem Ck.upper(C:Ck T nu pc pa nb un if' cf po rp ir mv){up':Nat}(hup:T[up']?=some (iA po cf))(n:Nat){k:Nat}{f:List Nat}(h1:1<=k)(hk:k<=10)(V:Val k f):ao T (n+6) up' [.tup (L f)]=some (.tup (L (upL k f))) :=
 (ah hup).trans (qh h1 hk V.frm (C.check n h1 hk V) (C.half (n+4) V.frm.len))
theorem Ck.lower(C:Ck T nu pc pa nb un if' cf po rp ir mv){up' cp pl ov lw:Nat}(hup:T[up']?=some (iA po cf))(hcp:T[cp]?=some (bC pc))(hpl:T[pl]?=some (e8 cp))(hov:T[ov]?=some (hG mv pl po cf))(hlw:T[lw]?=some (oi up' ov))(n:Nat){k:Nat}{f:List Nat}(h1:1<=k)(hk:k<=10)(V:Val k f):ao T (n+7) lw [.tup (L f)]=some (.tup (L (upL k (bS k (ovr k) (ovr k) f)))) :=
 (ah hlw).trans (a4 rfl rfl (a7 (aY (aY (aa rfl) (C.over hcp hpl hov n h1 hk V)) (C.upper hup n h1 hk ((mi k).val V))) (by unfold b9;rw[show ∀ x:List Nat,(D.tup (L x)).imm=au (L x)from fun _=>rfl,bx];rfl)))
end
section
variable{n:Nat}{f:List Nat}
theorem Ac(F:Frm n f){p:Nat}(hp:p<n):at' (bS n (ovr n) (ovr n) f) p=if at' f (n+p)<n then at' f (n+p)+n else at' f (n+p)-n:=by
 rw[d7 (by lia),jL hp,Nat.add_comm p n]
 rfl
end
section
variable{n:Nat}{a b h l:List Nat}
end
theorem rS(k:Nat):∀ a b:List Nat,a.length=b.length->eqs (eqD k) (L a) (L b)=some (decide (a=b))
 | [],[],_=>rfl
 | x::r,y::s,h=>by
  have ih:=rS k r s (by simpa using h)
  show((eqD k (.int (x:Nat)) (.int (y:Nat))).bind fun e=>(eqs (eqD k) (L r) (L s)).map fun j=>e&&j)=_
  rw[ih,show eqD k (.int (x:Nat)) (.int (y:Nat))=some ((x:Int) == (y:Int)) by cases k<;>rfl]
  show some (((x:Int) == (y:Int))&&decide (r=s))=_
  congr 1
  rw[Bool.eq_iff_iff]
  simp
  intro _
  lia
theorem Ax{a b:List Nat}(h:a.length=b.length):aT .eq (.tup (L a)) (.tup (L b))=some (decide (a=b)):=by
 show(eqs (eqD 7) (L a) (L b)).map (fun k=>k&&(L a).length == (L b).length)=_
 rw[rS 7 a b h,aF,aF,h]
 simp
end RM
set_option maxHeartbeats 1000000
namespace RM
open RL RT
structure Hf(n:Nat)(h:List Nat):Prop where
 len:h.length=n
 lt:∀ q,q<n->at' h q<n
 inv:∀ q,q<n->at' h (at' h q)=q
 nx:Nx (at' h) n
noncomputable def fx(n:Nat)(h:List Nat):List Nat:=(List.range n).filter fun q=>decide (at' h q=q)
section
variable{n:Nat}{f h a b:List Nat}
theorem rR{q:Nat}:q∈fx n h↔q<n/\at' h q=q:=by
 unfold fx
 rw[List.mem_filter,List.mem_range,decide_eq_true_eq]
theorem An:(fx n h).Pairwise (·<·):=by
 unfold fx
 exact List.Pairwise.filter _ List.pairwise_lt_range
theorem bf{k:Nat}(hk:k<(fx n h).length):at' (fx n h) k<n/\at' h (at' (fx n h) k)=at' (fx n h) k:=by
 have e:at' (fx n h) k=(fx n h)[k]:=by simp[at',hk]
 rw[e]
 exact rR.mp (List.getElem_mem hk)
theorem ie{k m:Nat}(h1:k<m)(hm:m<(fx n h).length):at' (fx n h) k<at' (fx n h) m:=by
 have e:at' (fx n h) k=(fx n h)[k]'(by lia):=by simp[at',show k<(fx n h).length by lia]
 have e':at' (fx n h) m=(fx n h)[m]:=by simp[at',hm]
 rw[e,e']
 exact List.pairwise_iff_getElem.mp An k m (by lia) hm h1
theorem ef{q:Nat}(hq:q<n)(e:at' h q=q):∃ k,k<(fx n h).length/\at' (fx n h) k=q:=by
 obtain⟨k,hk,ek⟩:=List.getElem_of_mem (rR.mpr ⟨hq,e⟩)
 exact⟨k,hk,by simp[at',hk,ek]⟩
structure Jn(n:Nat)(a b J:List Nat):Prop where
 len:J.length=2*n
 thr:∀ k,k<(fx n a).length->at' J (at' (fx n a) k)=n+at' (fx n b) k/\at' J (n+at' (fx n b) k)=at' (fx n a) k
 hi:∀ p,p<n->at' a p≠p->at' J p=at' a p
 lo:∀ p,p<n->at' b p≠p->at' J (n+p)=n+at' b p
theorem Jn.frm{J:List Nat}(A:Hf n a)(B:Hf n b)(t:(fx n a).length=(fx n b).length)(j:Jn n a b J):Frm n J:=by
 have cas:∀ x,x<2*n->(∃ k,k<(fx n a).length/\x=at' (fx n a) k)\/(x<n/\at' a x≠x)\/(∃ k,k<(fx n a).length/\x=n+at' (fx n b) k)\/∃ p,p<n/\at' b p≠p/\x=n+p:=fun x hx=>by
  by_cases c:x<n
  ·by_cases d:at' a x=x
   ·obtain⟨k,h1,h2⟩:=ef c d
    exact .inl ⟨k,h1,h2.symm⟩
   ·exact .inr (.inl ⟨c,d⟩)
  ·by_cases d:at' b (x-n)=x-n
   ·obtain⟨k,h1,h2⟩:=ef (show x-n<n by lia) d
    exact .inr (.inr (.inl ⟨k,by lia,by lia⟩))
   ·exact .inr (.inr (.inr ⟨x-n,by lia,d,by lia⟩))
 refine⟨j.len,fun x hx=>?_,fun x=>?_,fun x hx=>?_⟩
 ·rcases cas x hx with⟨k,hk,rfl⟩ | ⟨h1,h2⟩ | ⟨k,hk,rfl⟩ | ⟨p,hp,h2,rfl⟩
  ·rw[(j.thr k hk).1]
   have:=(bf (h:=b) (n:=n) (k:=k) (by lia)).1
   lia
  ·rw[j.hi x h1 h2]
   have:=A.lt x h1
   lia
  ·rw[(j.thr k hk).2]
   have:=(bf (h:=a) (n:=n) hk).1
   lia
  ·rw[j.lo p hp h2]
   have:=B.lt p hp
   lia
 ·by_cases hx:x<2*n
  ·rcases cas x hx with⟨k,hk,rfl⟩ | ⟨h1,h2⟩ | ⟨k,hk,rfl⟩ | ⟨p,hp,h2,rfl⟩
   ·rw[(j.thr k hk).1,(j.thr k hk).2]
   ·rw[j.hi x h1 h2,j.hi _ (A.lt x h1) (fun z=>h2 (by rw[A.inv x h1]at z;exact z.symm)),A.inv x h1]
   ·rw[(j.thr k hk).2,(j.thr k hk).1]
   ·rw[j.lo p hp h2,j.lo _ (B.lt p hp) (fun z=>h2 (by rw[B.inv p hp]at z;exact z.symm)),B.inv p hp]
  ·rw[js (f:=J) (x:=x) (by rw[j.len];lia),js (by rw[j.len];lia)]
 ·rcases cas x hx with⟨k,hk,rfl⟩ | ⟨h1,h2⟩ | ⟨k,hk,rfl⟩ | ⟨p,hp,h2,rfl⟩
  ·rw[(j.thr k hk).1]
   have:=(bf (h:=a) (n:=n) hk).1
   lia
  ·rw[j.hi x h1 h2]
   exact h2
  ·rw[(j.thr k hk).2]
   have:=(bf (h:=a) (n:=n) hk).1
   lia
  ·rw[j.lo p hp h2]
   lia
theorem Jn.up{J:List Nat}(A:Hf n a)(t:(fx n a).length=(fx n b).length)(j:Jn n a b J):upL n J=a:=by
 refine mB oD A.len fun p hp=>?_
 rw[qg hp]
 unfold RM.up
 by_cases c:at' a p=p
 ·obtain⟨k,h1,h2⟩:=ef hp c
  have:=(j.thr k h1).1
  rw[h2]at this
  rw[this,if_neg (by lia),c]
 ·rw[j.hi p hp c,if_pos (A.lt p hp)]
theorem Jn.dn{J:List Nat}(A:Hf n a)(B:Hf n b)(t:(fx n a).length=(fx n b).length)(j:Jn n a b J):upL n (bS n (ovr n) (ovr n) J)=b:=by
 refine mB oD B.len fun p hp=>?_
 rw[qg hp]
 unfold RM.up
 rw[Ac (j.frm A B t) hp]
 by_cases c:at' b p=p
 ·obtain⟨k,h1,h2⟩:=ef hp c
  have e:=(j.thr k (by lia)).2
  rw[h2]at e
  have:=(bf (h:=a) (n:=n) (k:=k) (by lia)).1
  rw[e,if_pos this,if_neg (by lia),c]
 ·have:=B.lt p hp
  have e:(if at' J (n+p)<n then at' J (n+p)+n else at' J (n+p)-n)=at' b p:=by
   rw[j.lo p hp c,if_neg (by lia)]
   lia
  rw[e,if_pos this]
theorem jG{q:Nat}(h:n<=q)(h2:q<2*n):rd n q=n+(2*n-1-q):=by
 unfold rd
 rw[if_neg (by lia)]
 lia
theorem Jn.val{J:List Nat}(A:Hf n a)(B:Hf n b)(t:(fx n a).length=(fx n b).length)(j:Jn n a b J):Val n J:=by
 have F:=j.frm A B t
 have top:∀ q,q<n->at' a q≠q->rnd n J q=at' a q:=fun q hq c=>by
  unfold rnd
  have:=A.lt q hq
  rw[ig hq,j.hi q hq c,ig this]
 have thr:∀ k,k<(fx n a).length->rnd n J (at' (fx n a) k)=2*n-1-at' (fx n b) k:=fun k hk=>by
  unfold rnd
  have h1:=(bf (h:=a) (n:=n) hk).1
  have h2:=(bf (h:=b) (n:=n) (k:=k) (by lia)).1
  rw[ig h1,(j.thr k hk).1,jG (by lia) (by lia)]
  have:n+(2*n-1-(n+at' (fx n b) k))=2*n-1-at' (fx n b) k:=by lia
  exact this
 have bot:∀ u,u<n->at' b u≠u->rnd n J (2*n-1-u)=2*n-1-at' b u:=fun u hu c=>by
  unfold rnd
  have:=B.lt u hu
  rw[show rd n (2*n-1-u)=n+u by rw[jG (by lia) (by omega)];lia,j.lo u hu c,show rd n (n+at' b u)=2*n-1-at' b u by rw[jG (by lia) (by lia)];lia]
 have bth:∀ k,k<(fx n a).length->rnd n J (2*n-1-at' (fx n b) k)=at' (fx n a) k:=fun k hk=>by
  unfold rnd
  have h1:=(bf (h:=a) (n:=n) hk).1
  have h2:=(bf (h:=b) (n:=n) (k:=k) (by lia)).1
  rw[show rd n (2*n-1-at' (fx n b) k)=n+at' (fx n b) k by rw[jG (by lia) (by lia)];lia,(j.thr k hk).2,ig h1]
 refine⟨F,fun q q' h1 h2 ⟨c1,c2,c3⟩=>?_⟩
 by_cases hq:q<n
 ·by_cases d:at' a q=q
  ·obtain⟨k,hk,rfl⟩:=ef hq d
   have bk:=(bf (h:=b) (n:=n) (k:=k) (by lia)).1
   rw[thr k hk]at c2 c3
   by_cases hq':q'<n
   ·by_cases d':at' a q'=q'
    ·obtain⟨m,hm,rfl⟩:=ef hq' d'
     rw[thr m hm]at c3
     have km:k<m:=by
      rcases Nat.lt_trichotomy k m with z | z | z
      ·exact z
      ·subst z;lia
      ·have:=ie z hk;lia
     have:=ie (h:=b) (n:=n) km (by lia)
     lia
    ·rw[top q' hq' d']at c3
     have:=A.lt q' hq'
     lia
   ·obtain⟨u,hu,rfl⟩:∃ u,u<n/\q'=2*n-1-u:=⟨2*n-1-q',by lia,by lia⟩
    by_cases d':at' b u=u
    ·obtain⟨m,hm,rfl⟩:=ef hu d'
     rw[bth m (by lia)]at c3
     have:=(bf (h:=a) (n:=n) (k:=m) (by lia)).1
     lia
    ·rw[bot u hu d']at c3
     have lb:=B.lt u hu
     exact B.nx (at' b u) (at' (fx n b) k) (by lia) (by rw[B.inv u hu];lia) (by rw[B.inv u hu];exact hu) (.inr (bf (h:=b) (n:=n) (k:=k) (by lia)).2)
  ·rw[top q hq d]at c2 c3
   have la:=A.lt q hq
   have k:=A.nx q q' c1 c2 la
   have d':at' a q'≠q':=fun z=>k (.inr z)
   rw[top q' (by lia) d']at c3
   exact k (.inl c3)
 ·obtain⟨u,hu,rfl⟩:∃ u,u<n/\q=2*n-1-u:=⟨2*n-1-q,by lia,by lia⟩
  by_cases d:at' b u=u
  ·obtain⟨m,hm,rfl⟩:=ef hu d
   rw[bth m (by lia)]at c2
   have:=(bf (h:=a) (n:=n) (k:=m) (by lia)).1
   lia
  ·rw[bot u hu d]at c2 c3
   have lb:=B.lt u hu
   obtain⟨v,hv,rfl⟩:∃ v,v<n/\q'=2*n-1-v:=⟨2*n-1-q',by lia,by lia⟩
   by_cases d':at' b v=v
   ·obtain⟨m,hm,rfl⟩:=ef hv d'
    rw[bth m (by lia)]at c3
    have:=(bf (h:=a) (n:=n) (k:=m) (by lia)).1
    lia
   ·rw[bot v hv d']at c3
    have lv:=B.lt v hv
    exact B.nx (at' b v) (at' b u) (by omega) (by rw[B.inv v hv];omega) (by rw[B.inv v hv];exact hv) (.inl (by rw[B.inv v hv,B.inv u hu];lia))
end
end RM
set_option maxHeartbeats 1000000
namespace RM
open RL RT
section
variable{n:Nat}{f:List Nat}
end
end RM
set_option maxHeartbeats 1000000
namespace RM
open RL RT
section
variable{n:Nat}{f g A B:List Nat}
end
end RM
set_option maxHeartbeats 1000000
namespace RM
open RL RT
section
variable{cl:Cl}{xs:List Int}
end
end RM
set_option maxHeartbeats 1000000
namespace RT
open RL
noncomputable def eO(f_is_half:Nat):Fn :=
 ⟨1,1,[],[],(.cons (.ife (.not (.call f_is_half (.cons (.var 0) .nil))) (.cons .never .nil) .nil) .nil)⟩
noncomputable def dM(f_check_half:Nat):Fn :=
 ⟨2,2,[],[],(.cons (.exc (.call f_check_half (.cons (.var 0) .nil))) (.cons (.exc (.call f_check_half (.cons (.var 1) .nil))) (.cons (.ife (.cmp .ne (.bi .len (.var 0)) (.bi .len (.var 1))) (.cons .never .nil) .nil) .nil)))⟩
noncomputable def hX(f_tie f_going f_check_two_halves:Nat):Ss :=
 (.cons (.mexc f_tie (.cons (.var 5) (.cons (.var 6) (.cons (.bin .add (.var 4) (.var 7)) .nil))) [0] [5]) .nil)
noncomputable def iP(f_tie f_going f_check_two_halves:Nat):Fn :=
 ⟨2,9,[5],[],(.cons (.exc (.call f_check_two_halves (.cons (.var 0) (.cons (.var 1) .nil)))) (.cons (.asg 2 (.call f_going (.cons (.var 0) .nil))) (.cons (.asg 3 (.call f_going (.cons (.var 1) .nil))) (.cons (.ife (.cmp .ne (.bi .len (.var 2)) (.bi .len (.var 3))) (.cons .never .nil) .nil) (.cons (.asg 4 (.bi .len (.var 0))) (.cons (.own 5 (.bin .add (.bi .list (.var 0)) (.compA (.bin .add (.var 4) (.var 8)) [8] (.seq (.var 1))))) (.cons (.forr [6,7] (.zip (.var 2) (.var 3)) (hX f_tie f_going f_check_two_halves)) (.cons (.ret (.bi .tuple (.var 5))) .nil))))))))⟩
noncomputable def il:Fn :=
 ⟨1,3,[],[],(.cons (.ret (.comp (.var 1) [1,2] (.enm (.var 0)) (.cmp .eq (.var 1) (.var 2)))) .nil)⟩
end RT
namespace RM
open RL RT
section
variable{cl:Cl}{n:Nat}{h a b:List Nat}
theorem kW(hn:n<=10)(hl:h.length=n):evF cl il [.tup (L h)]=some (.lst (L (fx n h))):=by
 have en:=gF hl
 have mc:=mm (F:=fun σ1=>((ev cl σ1 (.cmp .eq (.var 1) (.var 2))).bind truth).bind fun k=>if k then(ev cl σ1 (.var 1)).map some else some none) (tg:=[1,2]) (σ:=[some (.tup (L h)),none,none]) (h:=pr h) (g:=fun p=>.int (p:Nat)) (c:=fun p=>decide (at' h p=p)) (fun _=>rfl) (List.range n) (by
  intro p hp
  show((ev cl [some (.tup (L h)),some (.int (p:Nat)),some (.int (at' h p:Nat))] (.cmp .eq (.var 1) (.var 2))).bind truth).bind (fun k=>if k then(ev cl [some (.tup (L h)),some (.int (p:Nat)),some (.int (at' h p:Nat))] (.var 1)).map some else some none)=_
  have q:aT .eq (.int (p:Nat)) (.int (at' h p:Nat))=some (decide (at' h p=p)):=by
   rw[cz]
   congr 1
   rw[Bool.eq_iff_iff,beq_iff_eq,decide_eq_true_eq]
   lia
  rw[aD (a5 (aa rfl) (aa rfl) q),Option.bind_some,aa rfl]
  split<;>rfl)
 rw[<-en]at mc
 exact a4 rfl rfl (a7 (d:=.lst (L (fx n h))) (yo (lB (aa rfl) rfl) (by rw[en,List.length_map,List.length_range];unfold most;lia) mc) (by unfold b9;rw[show aJ (.lst (L (fx n h)))=true from bx _];rfl))
theorem pG(H:Hf n h):(List.range (h.map Int.ofNat).length).all (nb (h.map Int.ofNat))=true:=j7 H.len H.lt H.inv
theorem nI{fu fp fc:Nat}(h1:1<=n)(hn:n<=10)(H:Hf n h)(hc:∀ i:Int,cl fc [.int i]=some (.bl (decide (1<=i/\i<=10))))(hp:cl fp [.tup (L h)]=some (.bl true))(hu:cl fu [.tup (L h)]=some (.bl true)):evF cl (gD fu fp fc) [.tup (L h)]=some (.bl true):=by
 have ln:biV .len (.tup (L h))=some (.int (n:Nat)):=by
  show some (D.int ((L h).length:Nat))=_
  rw[aF,H.len]
 have c:=hc (n:Nat)
 rw[decide_eq_true (by lia)]at c
 exact a4 rfl rfl (a7 (cB (aY (br (aa rfl) ln) c) (cB (aY (aa rfl) hp) (aY (aa rfl) hu))) rfl)
theorem oC:∀ (xs ys:List Nat),xs.length=ys.length->cG (L xs) (L ys)=(List.range xs.length).map fun k=>.tup [.int (at' xs k:Nat),.int (at' ys k:Nat)]
 | [],[],_=>rfl
 | x::r,y::s,e=>by
  rw[show L (x::r)=.int x::L r from rfl,show L (y::s)=.int y::L s from rfl,cG,oC r s (by simpa using e),List.length_cons,List.range_succ_eq_map,List.map_cons,List.map_map]
  congr 1
  apply List.map_congr_left
  intro p hp
  have h1:=List.mem_range.mp hp
  have h2:p<s.length:=by
   have:r.length=s.length:=by simpa using e
   lia
  have e1:at' (x::r) (p+1)=at' r p:=by simp[at',h1]
  have e2:at' (y::s) (p+1)=at' s p:=by simp[at',h2]
  simp[e1,e2]
theorem pY{ti go c2:Nat}(hn:n<=10)(A:Hf n a)(B:Hf n b)(t:(fx n a).length=(fx n b).length)(hc:cl c2 [.tup (L a),.tup (L b)]=some .non)(ga:cl go [.tup (L a)]=some (.lst (L (fx n a))))(gb:cl go [.tup (L b)]=some (.lst (L (fx n b))))(ht:∀ (xs:List Nat) (i j:Nat),i<xs.length->j<xs.length->cl ti [.lst (L xs),.int (i:Nat),.int (j:Nat)]=some (.tup [.non,.lst (L ((xs.set i j).set j i))])) :
  ∃ J:List Nat,Jn n a b J/\evF cl (iP ti go c2) [.tup (L a),.tup (L b)]=some (.tup (L J)):=by
 have ln:biV .len (.tup (L a))=some (.int (n:Nat)):=by
  show some (D.int ((L a).length:Nat))=_
  rw[aF,A.len]
 have fl:(fx n a).length<=n:=by
  unfold fx
  refine Nat.le_trans (List.length_filter_le _ _) ?_
  rw[List.length_range]
  exact Nat.le_refl _
 have la:biV .len (.lst (L (fx n a)))=some (.int ((fx n a).length:Nat)):=by
  show some (D.int ((L (fx n a)).length:Nat))=_
  rw[aF]
 have lb:biV .len (.lst (L (fx n b)))=some (.int ((fx n a).length:Nat)):=by
  show some (D.int ((L (fx n b)).length:Nat))=_
  rw[aF,t]
 have mc:=mO (F:=fun σ1=>(ev cl σ1 (.bin .add (.var 4) (.var 8))).map some) (tg:=[8]) (σ:=[some (.tup (L a)),some (.tup (L b)),some (.lst (L (fx n a))),some (.lst (L (fx n b))),some (.int (n:Nat)),none,none,none,none]) (g:=fun x=>.int ((n+x:Nat):Int)) (fun _=>rfl) b (by
  intro x _
  show(ev cl [some (.tup (L a)),some (.tup (L b)),some (.lst (L (fx n a))),some (.lst (L (fx n b))),some (.int (n:Nat)),none,none,none,some (.int (x:Nat))] (.bin .add (.var 4) (.var 8))).map some=_
  rw[ai (aa rfl) (aa rfl) aP]
  rfl)
 have em:(b.map fun x=>D.int ((n+x:Nat):Int))=L (b.map fun x=>n+x):=by unfold L;rw[List.map_map];rfl
 rw[em]at mc
 have ad:a8 .add (.lst (L a)) (.lst (L (b.map fun x=>n+x)))=some (.lst (L (a++b.map fun x=>n+x))):=by
  show(if(L a).length+(L (b.map fun x=>n+x)).length<=most then some (D.lst (L a++L (b.map fun x=>n+x)))else none)=_
  rw[aF,aF,List.length_map,A.len,B.len,if_pos (by unfold most;lia),dC]
 have f1:∀ p,p<n->at' (a++b.map fun x=>n+x) p=at' a p:=fun p hp=>by
  have:=A.len
  simp[at',List.getElem?_append_left (show p<a.length by lia)]
 have f2:∀ p,p<n->at' (a++b.map fun x=>n+x) (n+p)=n+at' b p:=fun p hp=>by
  have h1:=A.len
  have h2:=B.len
  unfold at'
  rw[List.getElem?_append_right (by lia),show n+p-a.length=p by lia,List.getElem?_map]
  simp[show p<b.length by lia]
 obtain⟨σ',e,J,o6,o7,rfl,jl,jt,jo⟩:=dF (f:=aj cl [5] (hX ti go c2)) (tg:=[6,7]) (fun k=>.tup [.int (at' (fx n a) k:Nat),.int (at' (fx n b) k:Nat)]) (fun _=>rfl)
  (fun u σ=>∃ (J:List Nat) (o6 o7:Option D),σ=[some (.tup (L a)),some (.tup (L b)),some (.lst (L (fx n a))),some (.lst (L (fx n b))),some (.int (n:Nat)),some (.lst (L J)),o6,o7,none]/\J.length=2*n/\(∀ k,k<u.length->at' J (at' (fx n a) k)=n+at' (fx n b) k/\at' J (n+at' (fx n b) k)=at' (fx n a) k)/\∀ x,(∀ k,k<u.length->x≠at' (fx n a) k/\x≠n+at' (fx n b) k)->at' J x=at' (a++b.map fun x=>n+x) x)
  (List.range (fx n a).length) [] [some (.tup (L a)),some (.tup (L b)),some (.lst (L (fx n a))),some (.lst (L (fx n b))),some (.int (n:Nat)),some (.lst (L (a++b.map fun x=>n+x))),none,none,none] (by
   rintro u p v σ hu ⟨J,o6,o7,rfl,jl,jt,jo⟩
   obtain⟨hk,hp⟩:=bQ (g:=id) (by simpa using hu)
   simp only[id]at hp
   subst hp
   have g1:=(bf (n:=n) (h:=a) hk).1
   have g2:=(bf (n:=n) (h:=b) (k:=u.length) (by lia)).1
   have at1:∀ x,at' ((J.set (at' (fx n a) u.length) (n+at' (fx n b) u.length)).set (n+at' (fx n b) u.length) (at' (fx n a) u.length)) x=if x=n+at' (fx n b) u.length then at' (fx n a) u.length else if x=at' (fx n a) u.length then n+at' (fx n b) u.length else at' J x:=fun x=>by
    rw[mX (by rw[List.length_set,jl];lia),mX (by rw[jl];lia)]
   refine⟨_,show aj cl [5] (hX ti go c2) [some (.tup (L a)),some (.tup (L b)),some (.lst (L (fx n a))),some (.lst (L (fx n b))),some (.int (n:Nat)),some (.lst (L J)),some (.int (at' (fx n a) u.length:Nat)),some (.int (at' (fx n b) u.length:Nat)),none]=some (.nx,_)from uY (a9 (aa rfl) (a9 (aa rfl) (a9 (ai (d:=.int ((n+at' (fx n b) u.length:Nat):Int)) (aa rfl) (aa rfl) rfl) bF))) rfl (ht J _ _ (by rw[jl];lia) (by rw[jl];lia)) rfl aO,_,some (.int (at' (fx n a) u.length:Nat)),some (.int (at' (fx n b) u.length:Nat)),rfl,by rw[List.length_set,List.length_set,jl],fun k hk'=>?_,fun x hx=>?_⟩
   ·rw[List.length_append,List.length_singleton]at hk'
    by_cases c:k=u.length
    ·subst c
     rw[at1,at1,if_neg (by lia),if_pos rfl,if_pos rfl]
     exact⟨rfl,rfl⟩
    ·have hk2:k<u.length:=by lia
     have q1:=ie (n:=n) (h:=a) hk2 hk
     have q2:=ie (n:=n) (h:=b) hk2 (by lia)
     have q3:=(bf (n:=n) (h:=b) (k:=k) (by lia)).1
     rw[at1,at1,if_neg (by lia),if_neg (by lia),if_neg (by lia),if_neg (by lia)]
     exact jt k hk2
   ·have z:=hx u.length (by rw[List.length_append,List.length_singleton];lia)
    rw[at1,if_neg z.2,if_neg z.1]
    exact jo x fun k hk'=>hx k (by rw[List.length_append];lia))
  ⟨_,none,none,rfl,by rw[List.length_append,List.length_map,A.len,B.len];lia,fun k hk=>absurd hk (Nat.not_lt_zero _),fun _ _=>rfl⟩
 rw[<-oC _ _ t]at e
 rw[List.nil_append,List.length_range]at jt jo
 refine⟨J,⟨jl,jt,fun p hp c=>?_,fun p hp c=>?_⟩,a4 rfl rfl (cZ (bG (aa rfl) (aa rfl) hc) (aB (aY (aa rfl) ga) (by unfold bz;rw[show aJ (.lst (L (fx n a)))=true from bx _];rfl) (aB (aY (aa rfl) gb) (by unfold bz;rw[show aJ (.lst (L (fx n b)))=true from bx _];rfl)
  (aX (aD (a5 (br (aa rfl) la) (br (aa rfl) lb) (by rw[pI,beq_self_eq_true];rfl)))
  (aB (br (aa rfl) ln) rfl
  (gW (ai (br (aa rfl) rfl) (du (l3 (aa rfl) rfl) (by rw[aF,B.len];unfold most;lia) mc) ad) (by rw[show aJ (.lst (L (a++b.map fun x=>n+x)))=true from bx _];rfl)
  (cY (uK (aa rfl) (aa rfl) rfl rfl (by rw[aF,aF,t])) e (a7 (br (aa rfl) rfl) (by unfold b9;rw[show(D.tup (L J)).imm=true from bx _];rfl)))))))))⟩
 ·rw[jo p fun k hk=>⟨fun z=>c (by rw[z];exact(bf (n:=n) (h:=a) hk).2),by lia⟩,f1 p hp]
 ·rw[jo (n+p) fun k hk=>⟨by have:=(bf (n:=n) (h:=a) hk).1;lia,fun z=>c (by have:=(bf (n:=n) (h:=b) (k:=k) (by lia)).2;rw[show p=at' (fx n b) k by lia];exact this)⟩,f2 p hp]
end
end RM
set_option maxHeartbeats 1000000
namespace RM
open RL RT
noncomputable def Cb(m:Nat):Nat->Nat
 | 0=>1
 | i+1=>Cb m i*(m-i) / (i+1)
noncomputable def Wy(m g:Nat):Nat:=if g<=m/\(m-g)%2=0 then(if m=g then 1 else Cb m ((m-g) / 2)-Cb m ((m-g) / 2-1))else 0
noncomputable def Ah(m g:Nat):Nat:=match m,g with
 | m+1,g+1=>Wy m g
 | _,_=>0
noncomputable def Td(m g w:Nat):Nat:=Wy w 0*Wy (m-w-2) g
noncomputable def Sm(m g:Nat):Nat->Nat
 | 0=>0
 | j+1=>Sm m g j+Td m g (2*j)
theorem jY:∀ m,m<=10->∀ g,g<=m->(1<=m->Ah m g+Sm m g (m / 2)=Wy m g)/\(m≠g->Cb m ((m-g) / 2-1)<=Cb m ((m-g) / 2))/\Wy m g<1000:=by decide +kernel
theorem fJ{m g:Nat}(h:m<g):Wy m g=0:=by
 unfold Wy
 rw[if_neg (by lia)]
theorem lM{m g:Nat}(h1:1<=m)(hm:m<=10):Ah m g+Sm m g (m / 2)=Wy m g:=by
 by_cases c:g<=m
 ·exact(jY m hm g c).1 h1
 ·have a0:Ah m g=0:=by
   match m,g with
   | 0,_=>rfl
   | _+1,0=>rfl
   | m+1,g+1=>exact fJ (by lia)
  have s0:∀ j,Sm m g j=0:=fun j=>by
   induction j with
   | zero=>rfl
   | succ j ih=>rw[Sm,ih,Td,fJ (m:=m-2*j-2) (g:=g) (by lia),Nat.mul_zero]
  rw[a0,s0,fJ (by lia)]
theorem oS(m g:Nat){i j:Nat}(h:i<=j):Sm m g i<=Sm m g j:=by
 induction h with
 | refl=>exact Nat.le_refl _
 | step h ih=>exact Nat.le_trans ih (by rw[Sm];lia)
theorem eQ{m g:Nat}(hm:m<=10):Wy m g<1000:=by
 by_cases c:g<=m
 ·exact(jY m hm g c).2.2
 ·rw[fJ (by lia)];decide
theorem xq{j m g:Nat}(h:2*j+m+2<=10):Ah (2*j+m+2) g+Sm (2*j+m+2) g j+Wy (2*j) 0*Wy m g<=Wy (2*j+m+2) g:=by
 have r:=lM (m:=2*j+m+2) (g:=g) (by lia) h
 have mo:=oS (2*j+m+2) g (i:=j+1) (j:=(2*j+m+2) / 2) (by lia)
 rw[Sm,Td,show 2*j+m+2-2*j-2=m by lia]at mo
 lia
inductive Sg:Nat->Nat->Nat->List Nat->Nat->Prop
 | nil (a:Nat):Sg a 0 0 [] 0
 | fix {a m g k:Nat} {xs:List Nat}:Sg (a+1) m g xs k->Sg a (m+1) (g+1) (a::xs) k
 | tie {a j m g k l:Nat} {ys zs:List Nat}:Sg (a+1) (2*j) 0 ys k->Sg (a+2*j+2) m g zs l->Sg a (2*j+m+2) g ((a+2*j+1)::(ys++a::zs)) (Ah (2*j+m+2) g+Sm (2*j+m+2) g j+k*Wy m g+l)
theorem Sg.len{a m g k:Nat}{xs:List Nat}(s:Sg a m g xs k):xs.length=m:=by
 induction s with
 | nil=>rfl
 | fix _ ih=>rw[List.length_cons,ih]
 | tie _ _ ih1 ih2=>rw[List.length_cons,List.length_append,List.length_cons,ih1,ih2];lia
theorem Sg.bound{a m g k:Nat}{xs:List Nat}(s:Sg a m g xs k):m<=10->k<Wy m g:=by
 induction s with
 | nil=>intro _;decide
 |@fix a m g k xs _ ih=>
  intro h
  have r:=lM (m:=m+1) (g:=g+1) (by lia) h
  rw[Ah]at r
  have:=ih (by lia)
  lia
 |@tie a j m g k l ys zs _ _ ih1 ih2=>
  intro h
  have b1:=ih1 (by lia)
  have b2:=ih2 (by lia)
  have t:=xq (j:=j) (m:=m) (g:=g) h
  have:k*Wy m g+Wy m g<=Wy (2*j) 0*Wy m g:=by
   rw[<-Nat.succ_mul]
   exact Nat.mul_le_mul_right _ b1
  lia
noncomputable def bE:Nat->List Nat->Nat
 | _,[]=>0
 | a,x::r=>(if x=a then 1 else 0)+bE (a+1) r
theorem iJ:∀ (a:Nat) (xs ys:List Nat),bE a (xs++ys)=bE a xs+bE (a+xs.length) ys
 | a,[],ys=>by simp[bE]
 | a,x::r,ys=>by
  rw[List.cons_append,bE,bE,iJ (a+1) r ys,List.length_cons,show a+1+r.length=a+(r.length+1) by lia]
  lia
theorem Sg.bE{a m g k:Nat}{xs:List Nat}(s:Sg a m g xs k):RM.bE a xs=g:=by
 induction s with
 | nil=>rfl
 | fix _ ih=>rw[RM.bE,ih,if_pos rfl];lia
 |@tie a j m g k l ys zs s1 s2 ih1 ih2=>
  rw[RM.bE,if_neg (by lia),iJ,ih1,RM.bE,s1.len,if_neg (by lia),show a+1+2*j+1=a+2*j+2 by lia,ih2]
  lia
theorem nW:∀ (r:Nat->Nat) (m a:Nat),bE a ((List.range' a m).map r)=((List.range' a m).filter fun q=>decide (r q=q)).length
 | r,0,a=>rfl
 | r,m+1,a=>by
  rw[List.range'_succ,List.map_cons,bE,nW r m (a+1),List.filter_cons]
  by_cases c:r a=a
  ·rw[if_pos c,if_pos (decide_eq_true c),List.length_cons];lia
  ·rw[if_neg c,if_neg (by simpa using c)];lia
theorem xZ{n:Nat}{h:List Nat}(l:h.length=n):(List.range' 0 n).map (at' h)=h:=by
 apply List.ext_getElem?
 intro i
 by_cases hi:i<n
 ·rw[cC (f:=h) (by lia)]
  simp[hi]
 ·rw[List.getElem?_eq_none (by simp;lia),List.getElem?_eq_none (by lia)]
end RM
set_option maxHeartbeats 1000000
namespace RT
open RL
noncomputable def hU(f_going f_check_half:Nat):Fn :=
 ⟨1,1,[],[],(.cons (.exc (.call f_check_half (.cons (.var 0) .nil))) (.cons (.ret (.bi .len (.call f_going (.cons (.var 0) .nil)))) .nil))⟩
noncomputable def dS(f_is_number f_ways f_check_pegs:Nat):Fn :=
 ⟨2,2,[],[],(.cons (.exc (.call f_check_pegs (.cons (.var 0) .nil))) (.cons (.ret (.ifx (.call f_is_number (.cons (.var 1) .nil)) (.call f_ways (.cons (.var 0) (.cons (.var 1) .nil))) (.cst (.int 0)))) .nil))⟩
noncomputable def kB(f_half_from f_check_number f_how_many_halves:Nat):Fn :=
 ⟨3,3,[],[],(.cons (.exc (.call f_check_number (.cons (.var 2) (.cons (.call f_how_many_halves (.cons (.var 0) (.cons (.var 1) .nil))) .nil)))) (.cons (.ret (.call f_half_from (.cons (.cst (.int 0)) (.cons (.var 0) (.cons (.var 1) (.cons (.var 2) .nil)))))) .nil))⟩
noncomputable def gy(f_number_from f_through_of:Nat):Fn :=
 ⟨1,1,[],[],(.cons (.ret (.call f_number_from (.cons (.var 0) (.cons (.cst (.int 0)) (.cons (.bi .len (.var 0)) (.cons (.call f_through_of (.cons (.var 0) .nil)) .nil)))))) .nil)⟩
noncomputable def eL(f_half_from f_ways f_tied_around:Nat):Ss :=
 (.cons (.aug 4 .add (.call f_tied_around (.cons (.var 1) (.cons (.var 2) (.cons (.var 5) .nil))))) (.cons (.aug 5 .add (.cst (.int 2))) .nil))
noncomputable def iH(f_half_from f_ways f_tied_around:Nat):Fn :=
 ⟨4,11,[],[],(.cons (.ife (.cmp .eq (.var 1) (.cst (.int 0))) (.cons (.ret (.tup .nil)) .nil) .nil) (.cons (.asg 4 (.call f_ways (.cons (.bin .sub (.var 1) (.cst (.int 1))) (.cons (.bin .sub (.var 2) (.cst (.int 1))) .nil)))) (.cons (.ife (.cmp .lt (.var 3) (.var 4)) (.cons (.ret (.bin .add (.tup (.cons (.var 0) .nil)) (.call f_half_from (.cons (.bin .add (.var 0) (.cst (.int 1))) (.cons (.bin .sub (.var 1) (.cst (.int 1))) (.cons (.bin .sub (.var 2) (.cst (.int 1))) (.cons (.var 3) .nil))))))) .nil) .nil) (.cons (.asg 5 (.cst (.int 0))) (.cons (.whil (.cmp .ge (.var 3) (.bin .add (.var 4) (.call f_tied_around (.cons (.var 1) (.cons (.var 2) (.cons (.var 5) .nil)))))) (eL f_half_from f_ways f_tied_around)) (.cons (.asg 6 (.bin .add (.bin .add (.var 0) (.var 5)) (.cst (.int 1)))) (.cons (.asg 7 (.bin .sub (.bin .sub (.var 1) (.var 5)) (.cst (.int 2)))) (.cons (.unp [9,10] (.dvm (.bin .sub (.var 3) (.var 4)) (.call f_ways (.cons (.var 7) (.cons (.var 2) .nil))))) (.cons (.asg 8 (.call f_half_from (.cons (.bin .add (.var 0) (.cst (.int 1))) (.cons (.var 5) (.cons (.cst (.int 0)) (.cons (.var 9) .nil)))))) (.cons (.ret (.bin .add (.bin .add (.bin .add (.tup (.cons (.var 6) .nil)) (.var 8)) (.tup (.cons (.var 0) .nil))) (.call f_half_from (.cons (.bin .add (.var 6) (.cst (.int 1))) (.cons (.var 7) (.cons (.var 2) (.cons (.var 10) .nil))))))) .nil))))))))))⟩
noncomputable def fB(f_number_from f_ways f_tied_around:Nat):Ss :=
 (.cons (.aug 6 .add (.call f_tied_around (.cons (.var 5) (.cons (.var 3) (.cons (.var 7) .nil))))) .nil)
noncomputable def gA(f_number_from f_ways f_tied_around:Nat):Fn :=
 ⟨4,8,[],[],(.cons (.ife (.cmp .eq (.var 1) (.var 2)) (.cons (.ret (.cst (.int 0))) .nil) .nil) (.cons (.asg 4 (.ix (.var 0) (.var 1))) (.cons (.ife (.cmp .eq (.var 4) (.var 1)) (.cons (.ret (.call f_number_from (.cons (.var 0) (.cons (.bin .add (.var 1) (.cst (.int 1))) (.cons (.var 2) (.cons (.bin .sub (.var 3) (.cst (.int 1))) .nil)))))) .nil) .nil) (.cons (.asg 5 (.bin .sub (.var 2) (.var 1))) (.cons (.asg 6 (.call f_ways (.cons (.bin .sub (.var 5) (.cst (.int 1))) (.cons (.bin .sub (.var 3) (.cst (.int 1))) .nil)))) (.cons (.forr [7] (.rng3 (2) (.cst (.int 0)) (.bin .sub (.bin .sub (.var 4) (.var 1)) (.cst (.int 1)))) (fB f_number_from f_ways f_tied_around)) (.cons (.aug 6 .add (.bin .mul (.call f_number_from (.cons (.var 0) (.cons (.bin .add (.var 1) (.cst (.int 1))) (.cons (.var 4) (.cons (.cst (.int 0)) .nil))))) (.call f_ways (.cons (.bin .sub (.bin .sub (.var 2) (.var 4)) (.cst (.int 1))) (.cons (.var 3) .nil))))) (.cons (.ret (.bin .add (.var 6) (.call f_number_from (.cons (.var 0) (.cons (.bin .add (.var 4) (.cst (.int 1))) (.cons (.var 2) (.cons (.var 3) .nil))))))) .nil))))))))⟩
noncomputable def gz(f_ways:Nat):Fn :=
 ⟨3,3,[],[],(.cons (.ret (.bin .mul (.call f_ways (.cons (.var 2) (.cons (.cst (.int 0)) .nil))) (.call f_ways (.cons (.bin .sub (.bin .sub (.var 0) (.var 2)) (.cst (.int 2))) (.cons (.var 1) .nil))))) .nil)⟩
noncomputable def ji(f_choices:Nat):Fn :=
 ⟨2,3,[],[],(.cons (.ife (.or (.cmp .lt (.var 1) (.cst (.int 0))) (.or (.cmp .gt (.var 1) (.var 0)) (.cmp .eq (.bin .mod (.bin .sub (.var 0) (.var 1)) (.cst (.int 2))) (.cst (.int 1))))) (.cons (.ret (.cst (.int 0))) .nil) .nil) (.cons (.asg 2 (.bin .fdiv (.bin .sub (.var 0) (.var 1)) (.cst (.int 2)))) (.cons (.ret (.bin .sub (.call f_choices (.cons (.var 0) (.cons (.var 2) .nil))) (.call f_choices (.cons (.var 0) (.cons (.bin .sub (.var 2) (.cst (.int 1))) .nil))))) .nil)))⟩
noncomputable def jH:Ss :=
 (.cons (.asg 2 (.bin .fdiv (.bin .mul (.var 2) (.bin .sub (.var 0) (.var 3))) (.bin .add (.var 3) (.cst (.int 1))))) .nil)
noncomputable def eU:Fn :=
 ⟨2,4,[],[],(.cons (.ife (.cmp .lt (.var 1) (.cst (.int 0))) (.cons (.ret (.cst (.int 0))) .nil) .nil) (.cons (.asg 2 (.cst (.int 1))) (.cons (.forr [3] (.rng1 (.var 1)) (jH)) (.cons (.ret (.var 2)) .nil))))⟩
noncomputable def fk(f_is_number:Nat):Fn :=
 ⟨2,2,[],[],(.cons (.ife (.or (.not (.call f_is_number (.cons (.var 0) .nil))) (.not (.chain .le .lt (.cst (.int 0)) (.var 0) (.var 1)))) (.cons .never .nil) .nil) .nil)⟩
noncomputable def mC(f_half_number f_upper f_lower:Nat):Fn :=
 ⟨1,1,[],[],(.cons (.ret (.tup (.cons (.call f_half_number (.cons (.call f_upper (.cons (.var 0) .nil)) .nil)) (.cons (.call f_half_number (.cons (.call f_lower (.cons (.var 0) .nil)) .nil)) .nil)))) .nil)⟩
end RT
namespace RM
open RL RT
section
variable{cl:Cl}
theorem bD{M:List Nat}{e:E}(i:Int):bz M e (.int i)=true:=rfl
theorem cI{M:List Nat}{e:E}(i:Int):b9 M e (.int i)=true:=rfl
theorem iG{m c:Nat}(hm:m<=100)(hc:c<=m):evF cl eU [.int (m:Nat),.int (c:Nat)]=some (.int (Cb m c:Nat)):=by
 obtain⟨σ',e,o3,rfl⟩:=dF (f:=aj cl [] jH) (tg:=[3]) (fun p:Nat=>.int (p:Nat)) (fun _=>rfl)
  (fun u σ=>∃ o3:Option D,σ=[some (.int (m:Nat)),some (.int (c:Nat)),some (.int (Cb m u.length:Nat)),o3])
  (List.range c) [] [some (.int (m:Nat)),some (.int (c:Nat)),some (.int (Cb m 0:Nat)),none] (by
   rintro u p v σ hu ⟨o3,rfl⟩
   obtain⟨hk,hp⟩:=bQ (g:=id) (by simpa using hu)
   simp only[id]at hp
   subst hp
   have lt:((u.length:Nat):Int)+1<2 ^ 200:=Int.lt_of_lt_of_le (b:=1000) (by lia) (by decide)
   have ls:((m:Nat):Int)-(u.length:Nat)<2 ^ 64:=Int.lt_of_lt_of_le (b:=1000) (by lia) (by decide)
   have lg:-(2 ^ 64)<((m:Nat):Int)-(u.length:Nat):=Int.lt_of_lt_of_le (b:=0) (by decide) (by lia)
   have a1:ev cl [some (.int (m:Nat)),some (.int (c:Nat)),some (.int (Cb m u.length:Nat)),some (.int (u.length:Nat))] (.bin .fdiv (.bin .mul (.var 2) (.bin .sub (.var 0) (.var 3))) (.bin .add (.var 3) (.cst (.int 1))))=some (.int (Cb m (u.length+1):Nat)):=by
    refine ai (x:=.int ((Cb m u.length:Nat)*((m:Nat)-(u.length:Nat)))) (y:=.int ((u.length:Nat)+1)) (ai (aa rfl) (ai (aa rfl) (aa rfl) aU) (nC lg ls)) (ai (aa rfl) ag aP) ?_
    rw[l5 (by lia) lt,Cb,Int.natCast_ediv,Int.natCast_mul,Int.natCast_sub (by lia)]
    rfl
   have b1:=aB (cl:=cl) (M:=[]) (i:=2) a1 (bD _) aO
   refine⟨[some (.int (m:Nat)),some (.int (c:Nat)),some (.int (Cb m (u.length+1):Nat)),some (.int (u.length:Nat))],?_,some (.int (u.length:Nat)),?_⟩
   ·have bt:aI [3] (.int (u.length:Nat)) [some (.int (m:Nat)),some (.int (c:Nat)),some (.int (Cb m u.length:Nat)),o3]=some [some (.int (m:Nat)),some (.int (c:Nat)),some (.int (Cb m u.length:Nat)),some (.int (u.length:Nat))]:=rfl
    rw[bt,Option.bind_some]
    exact b1
   rw[List.length_append,List.length_singleton]) ⟨none,rfl⟩
 rw[List.nil_append,List.length_range]at e
 exact a4 rfl rfl (aX (aD (a5 (k:=false) (aa rfl) ag (by rw[cX,decide_eq_false (by lia)]))) (aB (d:=.int (Cb m 0:Nat)) ag (bD _) (cY (fI (aa rfl) (dk (by lia))) e (a7 (d:=.int (Cb m c:Nat)) (aa rfl) (cI _)))))
theorem gB{m:Nat}:evF cl eU [.int (m:Nat),.int (-1)]=some (.int 0) :=
 a4 rfl rfl (bN (aD (a5 (k:=true) (aa rfl) ag rfl)) (a7 ag rfl))
theorem nD{fc m g:Nat}(hm:m<=100)(le:g<=m->m≠g->Cb m ((m-g) / 2-1)<=Cb m ((m-g) / 2))(h1:∀ c:Nat,c<=m->cl fc [.int (m:Nat),.int (c:Nat)]=some (.int (Cb m c:Nat)))(h0:cl fc [.int (m:Nat),.int (-1)]=some (.int 0)):evF cl (ji fc) [.int (m:Nat),.int (g:Nat)]=some (.int (Wy m g:Nat)):=by
 have s1:ev cl [some (.int (m:Nat)),some (.int (g:Nat)),none] (.cmp .lt (.var 1) (.cst (.int 0)))=some (.bl false):=a5 (aa rfl) ag (by rw[cX,decide_eq_false (by lia)])
 by_cases c:m<g
 ·rw[fJ c]
  exact a4 rfl rfl (bN (aD (fM s1 (uH (a5 (k:=true) (aa rfl) (aa rfl) (by rw[ke,decide_eq_true (by lia)]))))) (a7 ag rfl))
 ·have s2:ev cl [some (.int (m:Nat)),some (.int (g:Nat)),none] (.cmp .gt (.var 1) (.var 0))=some (.bl false):=a5 (aa rfl) (aa rfl) (by rw[ke,decide_eq_false (by lia)])
  have sb:∀ {σ:St},(σ[0]?).bind id=some (D.int (m:Nat))->(σ[1]?).bind id=some (D.int (g:Nat))->ev cl σ (.bin .sub (.var 0) (.var 1))=some (.int ((m-g:Nat):Int)):=fun a b=>ai (aa a) (aa b) (by rw[aU,Int.natCast_sub (by lia)])
  have md:a8 .mod (.int ((m-g:Nat):Int)) (.int 2)=some (.int (((m-g)%2:Nat):Int)):=by rw[dE (by decide)];rfl
  by_cases c2:(m-g)%2=1
  ·have w0:Wy m g=0:=by unfold Wy;rw[if_neg (by lia)]
   rw[w0]
   exact a4 rfl rfl (bN (aD (fM s1 (fM s2 (a5 (k:=true) (ai (sb rfl rfl) ag md) ag (by rw[cz,c2];rfl))))) (a7 ag rfl))
  ·have s3:ev cl [some (.int (m:Nat)),some (.int (g:Nat)),none] (.cmp .eq (.bin .mod (.bin .sub (.var 0) (.var 1)) (.cst (.int 2))) (.cst (.int 1)))=some (.bl false):=a5 (ai (sb rfl rfl) ag md) ag (by rw[cz,beq_eq_false_iff_ne.mpr (by lia)])
   have dv:a8 .fdiv (.int ((m-g:Nat):Int)) (.int 2)=some (.int (((m-g) / 2:Nat):Int)):=by rw[l5 (by decide) (by decide)];rfl
   have k1:=h1 ((m-g) / 2) (by lia)
   refine a4 rfl rfl (aX (aD (fM s1 (fM s2 s3))) (aB (ai (sb rfl rfl) ag dv) (bD _) (a7 (d:=.int (Wy m g:Nat)) ?_ (cI _))))
   by_cases c3:m=g
   ·have w1:Wy m g=1:=by unfold Wy;rw[if_pos ⟨by lia,by lia⟩,if_pos c3]
    rw[w1]
    have z:(m-g) / 2=0:=by lia
    rw[z]at k1 ⊢
    exact ai (bG (aa rfl) (aa rfl) k1) (bG (aa rfl) (ai (aa rfl) ag aU) h0) rfl
   ·have k2:=h1 ((m-g) / 2-1) (by lia)
    have w1:Wy m g=Cb m ((m-g) / 2)-Cb m ((m-g) / 2-1):=by unfold Wy;rw[if_pos ⟨by lia,by lia⟩,if_neg c3]
    have le:=le (by omega) c3
    rw[w1]
    refine ai (bG (aa rfl) (aa rfl) k1) (bG (aa rfl) (ai (aa rfl) ag (by rw[aU,show(((m-g) / 2:Nat):Int)-1=(((m-g) / 2-1:Nat):Int) by lia])) k2) ?_
    rw[aU,Int.natCast_sub le]
theorem qA{fc m:Nat}:evF cl (ji fc) [.int (m:Nat),.int (-1)]=some (.int 0) :=
 a4 rfl rfl (bN (aD (uH (a5 (k:=true) (aa rfl) ag rfl))) (a7 ag rfl))
theorem sv{j:Nat}(h:j<=100):eW 2 (.int 0) (.int ((2*j:Nat):Int))=some ((List.range j).map fun i=>.int ((2*i:Nat):Int)):=by
 have hN:bc 2 0 ((2*j:Nat):Int)=j:=by
  unfold bc
  rw[if_pos (by decide)]
  split<;>lia
 have hS:∀ (k a:Nat),bB 2 ((2*a:Nat):Int) k=(List.range' a k).map fun i=>.int ((2*i:Nat):Int):=fun k=>by
  induction k with
  | zero=>intro a;rfl
  |succ k ih=>
   intro a
   rw[bB,show((2*a:Nat):Int)+2=((2*(a+1):Nat):Int) by lia,ih,List.range'_succ,List.map_cons]
 dsimp only[eW]
 rw[hN,if_pos ⟨by decide,by decide,by decide,by unfold most;lia,by decide,by decide,by lia,by lia⟩]
 have:=hS j 0
 rw[List.range_eq_range']
 exact congrArg some this
end
end RM
set_option maxHeartbeats 1000000
namespace RM
open RL RT
theorem gH{cl:Cl}{σ:St}{f:Nat}{e1 e2 e3 e4:E}{d1 d2 d3 d4 x:D}(h1:ev cl σ e1=some d1)(h2:ev cl σ e2=some d2)(h3:ev cl σ e3=some d3)(h4:ev cl σ e4=some d4)(hc:cl f [d1,d2,d3,d4]=some x):ev cl σ (.call f (.cons e1 (.cons e2 (.cons e3 (.cons e4 .nil)))))=some x:=x_call (a9 h1 (a9 h2 (a9 h3 (a9 h4 bF)))) hc
theorem uL{xs ys:List D}(h:0<xs.length)(hl:xs.length+ys.length<=most):a8 .add (.tup xs) (.tup ys)=some (.tup (xs++ys)):=by
 dsimp only[a8]
 rw[if_pos ⟨hl,h⟩]
theorem qG{M:List Nat}{e:E}(xs:List Nat):bz M e (.tup (L xs))=true:=by
 unfold bz
 rw[show(D.tup (L xs)).imm=true from bx xs]
 rfl
theorem lO{M:List Nat}{e:E}(xs:List Nat):b9 M e (.tup (L xs))=true:=by
 unfold b9
 rw[show(D.tup (L xs)).imm=true from bx xs]
 rfl
structure Nm(T:List Fn)(hf nf td wy ch:Nat):Prop where
 sW:T[hf]?=some (iH hf wy td)
 tG:T[nf]?=some (gA nf wy td)
 AW:T[td]?=some (gz wy)
 sj:T[wy]?=some (ji ch)
 pV:T[ch]?=some eU
section
variable{T:List Fn}{hf nf td wy ch:Nat}
theorem Nm.iK(N:Nm T hf nf td wy ch)(n:Nat){m g:Nat}(hm:m<=10):ao T (n+2) wy [.int (m:Nat),.int (g:Nat)]=some (.int (Wy m g:Nat)) :=
 (ah N.sj).trans (nD (by omega) (fun d c=>(jY m hm g d).2.1 c) (fun c hc=>(ah N.pV).trans (iG (by omega) hc)) ((ah N.pV).trans gB))
theorem yG:∀ n,n<=10->1<=n->Cb (2*n) ((2*n-0) / 2-1)<=Cb (2*n) ((2*n-0) / 2):=by decide
theorem Nm.Aa(N:Nm T hf nf td wy ch)(n:Nat){m:Nat}(hm:m<=10):ao T (n+2) wy [.int ((2*m:Nat):Int),.int ((0:Nat):Int)]=some (.int (Wy (2*m) 0:Nat)) :=
 (ah N.sj).trans (nD (by omega) (fun d c=>yG m hm (by omega)) (fun c hc=>(ah N.pV).trans (iG (by omega) hc)) ((ah N.pV).trans gB))
theorem vT:∀ n,n<=10->((List.range (n+1)).map fun g=>Wy n g*Wy n g).sum=Wy (2*n) 0:=by decide +kernel
theorem Nm.ahead(N:Nm T hf nf td wy ch)(n:Nat){m g:Nat}(hm:m<=10):ao T (n+2) wy [.int (m:Nat),.int ((g:Nat)-1)]=some (.int (Ah (m+1) g:Nat)):=by
 cases g with
 | zero=>exact(ah N.sj).trans qA
 |succ g=>
  rw[show((g+1:Nat):Int)-1=(g:Nat) by lia]
  exact N.iK n hm
theorem Nm.xo(N:Nm T hf nf td wy ch)(n:Nat){m g w:Nat}(hm:m<=10)(hw:w+2<=m):ao T (n+3) td [.int (m:Nat),.int (g:Nat),.int (w:Nat)]=some (.int (Td m g w:Nat)):=by
 have s0:=eQ (m:=w) (g:=0) (by lia)
 refine(ah N.AW).trans (a4 rfl rfl (a7 (ai (bG (aa rfl) ag (N.iK n (m:=w) (g:=0) (by lia))) (bG (ai (ai (aa rfl) (aa rfl) aU) ag (by rw[aU,show((m:Nat):Int)-(w:Nat)-2=((m-w-2:Nat):Int) by omega])) (aa rfl) (N.iK n (by lia))) ?_) (cI _)))
 rw[bM (Int.lt_of_lt_of_le (b:=0) (by decide) (by lia)) (Int.lt_of_lt_of_le (b:=1000) (by lia) (by decide)),Td,Int.natCast_mul]
theorem Nm.number(N:Nm T hf nf td wy ch){H:List Nat}{a m g k:Nat}{xs:List Nat}(s:Sg a m g xs k):m<=10->a+m<=H.length->(∀ i,i<m->xs[i]?=some (at' H (a+i)))->∀ n,m+4<=n->ao T n nf [.tup (L H),.int (a:Nat),.int ((a+m:Nat):Int),.int (g:Nat)]=some (.int (k:Nat)):=by
 induction s with
 |nil a=>
  intro _ _ _ n hn
  obtain⟨n,rfl⟩:∃ n',n=n'+1:=⟨n-1,by lia⟩
  exact(ah N.tG).trans (a4 rfl rfl (bN (aD (a5 (k:=true) (aa rfl) (aa rfl) (by rw[cz,Nat.add_zero,beq_self_eq_true]))) (a7 ag rfl)))
 |@fix a m g k xs s ih=>
  intro hm hl hx n hn
  obtain⟨n,rfl⟩:∃ n',n=n'+1:=⟨n-1,by lia⟩
  have h0:at' H a=a:=by have:=hx 0 (by lia);simp at this;exact this.symm
  have ih:=ih (by lia) (by lia) (fun i hi=>by have:=hx (i+1) (by lia);rw[List.getElem?_cons_succ]at this;rw[this,show a+(i+1)=a+1+i by lia]) n (by lia)
  have ix:ixV (.tup (L H)) (.int (a:Nat))=some (.int (a:Nat)):=by
   show bR _ _=_
   rw[cS,jJ,cC (by lia),h0]
   rfl
  rw[show a+1+m=a+(m+1) by lia]at ih
  refine(ah N.tG).trans (a4 rfl rfl (aX (aD (a5 (k:=false) (aa rfl) (aa rfl) (by rw[cz,beq_eq_false_iff_ne.mpr (by lia)]))) (aB (gc (aa rfl) (aa rfl) ix) (bD _) (bN (aD (a5 (k:=true) (aa rfl) (aa rfl) (by rw[cz,beq_self_eq_true]))) (a7 (gH (aa rfl) (ai (aa rfl) ag aP) (aa rfl) (ai (aa rfl) ag (by rw[aU,show((g+1:Nat):Int)-1=(g:Nat) by lia])) ih) (cI _))))))
 |@tie a j m g k l ys zs s1 s2 ih1 ih2=>
  intro hm hl hx n hn
  obtain⟨n,rfl⟩:∃ n',n=n'+1:=⟨n-1,by lia⟩
  obtain⟨n',hn'⟩:∃ n',n=n'+3:=⟨n-3,by lia⟩
  have len1:=s1.len
  have h0:at' H a=a+2*j+1:=by have:=hx 0 (by lia);simp at this;exact this.symm
  have ix:ixV (.tup (L H)) (.int (a:Nat))=some (.int ((a+2*j+1:Nat):Int)):=by
   show bR _ _=_
   rw[cS,jJ,cC (by lia),h0]
   rfl
  have ih1:=ih1 (by lia) (by lia) (fun i hi=>by
   have:=hx (i+1) (by lia)
   rw[List.getElem?_cons_succ,List.getElem?_append_left (by lia)]at this
   rw[this,show a+(i+1)=a+1+i by lia]) n (by lia)
  have ih2:=ih2 (by lia) (by lia) (fun i hi=>by
   have:=hx (i+2*j+2) (by lia)
   rw[show i+2*j+2=(i+2*j+1)+1 by lia,List.getElem?_cons_succ,List.getElem?_append_right (by lia),show i+2*j+1-ys.length=i+1 by lia,List.getElem?_cons_succ]at this
   rw[this,show a+(i+2*j+1+1)=a+2*j+2+i by lia]) n (by lia)
  rw[show a+1+2*j=a+2*j+1 by lia]at ih1
  rw[show a+2*j+2+m=a+(2*j+m+2) by lia]at ih2
  have aw:=N.ahead (n'+1) (m:=2*j+m+1) (g:=g) (by lia)
  have ww:=N.iK (n'+1) (m:=m) (g:=g) (by lia)
  rw[show n'+1+2=n by lia]at aw ww
  obtain⟨σ',e,o7,rfl⟩:=dF (f:=aj (ao T n) [] (fB nf wy td)) (tg:=[7]) (fun i:Nat=>.int ((2*i:Nat):Int)) (fun _=>rfl)
   (fun u σ=>∃ o7:Option D,σ=[some (.tup (L H)),some (.int (a:Nat)),some (.int ((a+(2*j+m+2):Nat):Int)),some (.int (g:Nat)),some (.int ((a+2*j+1:Nat):Int)),some (.int ((2*j+m+2:Nat):Int)),some (.int ((Ah (2*j+m+2) g+Sm (2*j+m+2) g u.length:Nat):Int)),o7])
   (List.range j) [] [some (.tup (L H)),some (.int (a:Nat)),some (.int ((a+(2*j+m+2):Nat):Int)),some (.int (g:Nat)),some (.int ((a+2*j+1:Nat):Int)),some (.int ((2*j+m+2:Nat):Int)),some (.int ((Ah (2*j+m+2) g+Sm (2*j+m+2) g 0:Nat):Int)),none] (by
    rintro u p v σ hu ⟨o7,rfl⟩
    obtain⟨hk,hp⟩:=bQ (g:=id) (by simpa using hu)
    simp only[id]at hp
    subst hp
    have tt:=N.xo n' (m:=2*j+m+2) (g:=g) (w:=2*u.length) (by lia) (by lia)
    rw[<-hn']at tt
    have b1:=jC (cl:=ao T n) (M:=[]) (i:=6) (o:=.add) (r:=.nil) (e:=.call td (.cons (.var 5) (.cons (.var 3) (.cons (.var 7) .nil)))) (σ:=[some (.tup (L H)),some (.int (a:Nat)),some (.int ((a+(2*j+m+2):Nat):Int)),some (.int (g:Nat)),some (.int ((a+2*j+1:Nat):Int)),some (.int ((2*j+m+2:Nat):Int)),some (.int ((Ah (2*j+m+2) g+Sm (2*j+m+2) g u.length:Nat):Int)),some (.int ((2*u.length:Nat):Int))]) rfl (gh (aa rfl) (aa rfl) (aa rfl) tt) aP aO
    refine⟨_,?_,some (.int ((2*u.length:Nat):Int)),rfl⟩
    have bt:∀ w:D,aI [7] (.int ((2*u.length:Nat):Int)) [some (.tup (L H)),some (.int (a:Nat)),some (.int ((a+(2*j+m+2):Nat):Int)),some (.int (g:Nat)),some (.int ((a+2*j+1:Nat):Int)),some (.int ((2*j+m+2:Nat):Int)),some w,o7]=some [some (.tup (L H)),some (.int (a:Nat)),some (.int ((a+(2*j+m+2):Nat):Int)),some (.int (g:Nat)),some (.int ((a+2*j+1:Nat):Int)),some (.int ((2*j+m+2:Nat):Int)),some w,some (.int ((2*u.length:Nat):Int))]:=fun _=>rfl
    rw[bt,Option.bind_some]
    rw[List.length_append,List.length_singleton,show((Ah (2*j+m+2) g+Sm (2*j+m+2) g (u.length+1):Nat):Int)=((Ah (2*j+m+2) g+Sm (2*j+m+2) g u.length:Nat):Int)+((Td (2*j+m+2) g (2*u.length):Nat):Int) by rw[Sm];lia]
    exact b1) ⟨none,rfl⟩
  rw[List.nil_append,List.length_range]at e
  have kb:k<1000:=Nat.lt_trans (s1.bound (by lia)) (eQ (by lia))
  have mu:a8 .mul (.int (k:Nat)) (.int (Wy m g:Nat))=some (.int ((k*Wy m g:Nat):Int)):=by
   rw[bM (Int.lt_of_lt_of_le (b:=0) (by decide) (by lia)) (Int.lt_of_lt_of_le (b:=1000) (by lia) (by decide)),Int.natCast_mul]
  refine(ah N.tG).trans (a4 rfl rfl (aX (aD (a5 (k:=false) (aa rfl) (aa rfl) (by rw[cz,beq_eq_false_iff_ne.mpr (by lia)]))) (aB (gc (aa rfl) (aa rfl) ix) (bD _) (aX (aD (a5 (k:=false) (aa rfl) (aa rfl) (by rw[cz,beq_eq_false_iff_ne.mpr (by lia)])))
   (aB (d:=.int ((2*j+m+2:Nat):Int)) (ai (aa rfl) (aa rfl) (by rw[aU,show((a+(2*j+m+2):Nat):Int)-(a:Nat)=((2*j+m+2:Nat):Int) by lia])) (bD _)
   (aB (d:=.int ((Ah (2*j+m+2) g+Sm (2*j+m+2) g 0:Nat):Int)) (bG (ai (aa rfl) ag (by rw[aU,show((2*j+m+2:Nat):Int)-1=((2*j+m+1:Nat):Int) by lia])) (ai (aa rfl) ag aU) aw) (bD _)
   (cY (qL ag (ai (ai (aa rfl) (aa rfl) aU) ag (by rw[aU,show((a+2*j+1:Nat):Int)-(a:Nat)-1=((2*j:Nat):Int) by lia])) (sv (by lia))) e
   (jC rfl (ai (gH (aa rfl) (ai (aa rfl) ag aP) (aa rfl) ag ih1) (bG (ai (ai (aa rfl) (aa rfl) aU) ag (by rw[aU,show((a+(2*j+m+2):Nat):Int)-((a+2*j+1:Nat):Int)-1=((m:Nat):Int) by lia])) (aa rfl) ww) mu) aP
   (a7 (ai (aa rfl) (gH (aa rfl) (ai (aa rfl) ag aP) (aa rfl) (aa rfl) ih2) (by rw[aP];rfl)) (cI _))))))))))
end
end RM
set_option maxHeartbeats 1000000
namespace RM
open RL RT
section
variable{T:List Fn}{hf nf td wy ch:Nat}
theorem Nm.half(N:Nm T hf nf td wy ch){a m g k:Nat}{xs:List Nat}(s:Sg a m g xs k):m<=10->∀ n,m+4<=n->ao T n hf [.int (a:Nat),.int (m:Nat),.int (g:Nat),.int (k:Nat)]=some (.tup (L xs)):=by
 induction s with
 |nil a=>
  intro _ n hn
  obtain⟨n,rfl⟩:∃ n',n=n'+1:=⟨n-1,by lia⟩
  exact(ah N.sW).trans (a4 rfl rfl (bN (aD (a5 (k:=true) (aa rfl) ag rfl)) (a7 (eo bF) rfl)))
 |@fix a m g k xs s ih=>
  intro hm n hn
  obtain⟨n,rfl⟩:∃ n',n=n'+1:=⟨n-1,by lia⟩
  obtain⟨n',hn'⟩:∃ n',n=n'+2:=⟨n-2,by lia⟩
  have ih:=ih (by lia) n (by lia)
  have bd:=s.bound (by lia)
  have aw:=N.ahead n' (m:=m) (g:=g+1) (by lia)
  rw[<-hn',Ah]at aw
  have sl:=s.len
  refine(ah N.sW).trans (a4 rfl rfl (aX (aD (a5 (k:=false) (aa rfl) ag (by rw[cz,beq_eq_false_iff_ne.mpr (by lia)]))) (aB (d:=.int (Wy m g:Nat)) (bG (ai (aa rfl) ag (by rw[aU,show((m+1:Nat):Int)-1=((m:Nat):Int) by lia])) (ai (aa rfl) ag aU) aw) (bD _)
   (bN (aD (a5 (k:=true) (aa rfl) (aa rfl) (by rw[cX,decide_eq_true (by lia)]))) (a7 (ai (eo (a9 (aa rfl) bF)) (gH (ai (aa rfl) ag aP) (ai (aa rfl) ag (by rw[aU,show((m+1:Nat):Int)-1=((m:Nat):Int) by lia])) (ai (aa rfl) ag (by rw[aU,show((g+1:Nat):Int)-1=((g:Nat):Int) by lia])) (aa rfl) ih) (uL Nat.one_pos (by rw[aF,sl];show 1+m<=most;unfold most;lia))) (lO (a::xs)))))))
 |@tie a j m g k l ys zs s1 s2 ih1 ih2=>
  intro hm n hn
  obtain⟨n,rfl⟩:∃ n',n=n'+1:=⟨n-1,by lia⟩
  obtain⟨n',hn'⟩:∃ n',n=n'+3:=⟨n-3,by lia⟩
  have ih1:=ih1 (by lia) n (by lia)
  have ih2:=ih2 (by lia) n (by lia)
  have len1:=s1.len
  have len2:=s2.len
  have b1:=s1.bound (by lia)
  have b2:=s2.bound (by lia)
  have aw:=N.ahead (n'+1) (m:=2*j+m+1) (g:=g) (by lia)
  have ww:=N.iK (n'+1) (m:=m) (g:=g) (by lia)
  rw[show n'+1+2=n by lia]at aw ww
  have tt:∀ i,i<=j->ao T n td [.int ((2*j+m+2:Nat):Int),.int (g:Nat),.int ((2*i:Nat):Int)]=some (.int (Td (2*j+m+2) g (2*i):Nat)):=fun i hi=>by
   have:=N.xo n' (m:=2*j+m+2) (g:=g) (w:=2*i) (by lia) (by lia)
   rw[<-hn']at this
   exact this
  have tj:Td (2*j+m+2) g (2*j)=Wy (2*j) 0*Wy m g:=by
   unfold Td
   rw[show 2*j+m+2-2*j-2=m by lia]
  have kl:k*Wy m g+l<Wy (2*j) 0*Wy m g:=by
   have:k*Wy m g+Wy m g<=Wy (2*j) 0*Wy m g:=by
    rw[<-Nat.succ_mul]
    exact Nat.mul_le_mul_right _ b1
   lia
  generalize hA:Ah (2*j+m+2) g=A at aw ⊢
  have wh:∀ d i,i+d=j->∀ n2,whF (fun σ=>(ev (ao T n) σ (.cmp .ge (.var 3) (.bin .add (.var 4) (.call td (.cons (.var 1) (.cons (.var 2) (.cons (.var 5) .nil))))))).bind truth) (aj (ao T n) [] (eL hf wy td)) (n2+d+1)
    [some (.int (a:Nat)),some (.int ((2*j+m+2:Nat):Int)),some (.int (g:Nat)),some (.int ((A+Sm (2*j+m+2) g j+k*Wy m g+l:Nat):Int)),some (.int ((A+Sm (2*j+m+2) g i:Nat):Int)),some (.int ((2*i:Nat):Int)),none,none,none,none,none] =
    some (.nx,[some (.int (a:Nat)),some (.int ((2*j+m+2:Nat):Int)),some (.int (g:Nat)),some (.int ((A+Sm (2*j+m+2) g j+k*Wy m g+l:Nat):Int)),some (.int ((A+Sm (2*j+m+2) g j:Nat):Int)),some (.int ((2*j:Nat):Int)),none,none,none,none,none]):=by
   intro d
   induction d with
   |zero=>
    intro i hi n2
    obtain rfl:i=j:=by lia
    have te:=aD (a5 (cl:=ao T n) (k:=false) (aa (i:=3) (σ:=[some (.int (a:Nat)),some (.int ((2*i+m+2:Nat):Int)),some (.int (g:Nat)),some (.int ((A+Sm (2*i+m+2) g i+k*Wy m g+l:Nat):Int)),some (.int ((A+Sm (2*i+m+2) g i:Nat):Int)),some (.int ((2*i:Nat):Int)),none,none,none,none,none]) rfl) (ai (aa (i:=4) rfl) (gh (aa (i:=1) rfl) (aa (i:=2) rfl) (aa (i:=5) rfl) (tt i (Nat.le_refl _))) aP) (by rw[pA,tj,decide_eq_false (by lia)]))
    rw[whF,te]
    rfl
   |succ d ihd=>
    intro i hi n2
    have mo:=oS (2*j+m+2) g (i:=i+1) (j:=j) (by lia)
    have sm:Sm (2*j+m+2) g (i+1)=Sm (2*j+m+2) g i+Td (2*j+m+2) g (2*i):=by rw[Sm]
    have te:=aD (a5 (cl:=ao T n) (k:=true) (aa (i:=3) (σ:=[some (.int (a:Nat)),some (.int ((2*j+m+2:Nat):Int)),some (.int (g:Nat)),some (.int ((A+Sm (2*j+m+2) g j+k*Wy m g+l:Nat):Int)),some (.int ((A+Sm (2*j+m+2) g i:Nat):Int)),some (.int ((2*i:Nat):Int)),none,none,none,none,none]) rfl) (ai (aa (i:=4) rfl) (gh (aa (i:=1) rfl) (aa (i:=2) rfl) (aa (i:=5) rfl) (tt i (by lia))) aP) (by rw[pA,decide_eq_true (by lia)]))
    have bd:=jC (cl:=ao T n) (M:=[]) (i:=4) (o:=.add) (r:=.cons (.aug 5 .add (.cst (.int 2))) .nil) (e:=.call td (.cons (.var 1) (.cons (.var 2) (.cons (.var 5) .nil)))) (σ:=[some (.int (a:Nat)),some (.int ((2*j+m+2:Nat):Int)),some (.int (g:Nat)),some (.int ((A+Sm (2*j+m+2) g j+k*Wy m g+l:Nat):Int)),some (.int ((A+Sm (2*j+m+2) g i:Nat):Int)),some (.int ((2*i:Nat):Int)),none,none,none,none,none]) rfl (gh (aa rfl) (aa rfl) (aa rfl) (tt i (by lia))) aP (jC (i:=5) rfl ag aP aO)
    rw[show((A+Sm (2*j+m+2) g i:Nat):Int)+((Td (2*j+m+2) g (2*i):Nat):Int)=((A+Sm (2*j+m+2) g (i+1):Nat):Int) by rw[sm];lia,show((2*i:Nat):Int)+2=((2*(i+1):Nat):Int) by lia]at bd
    have:=ihd (i+1) (by lia) n2
    rw[show n2+(d+1)+1=n2+d+1+1 by lia,whF,te,Option.bind_some,if_pos rfl,show aj (ao T n) [] (eL hf wy td) _=_ from bd,Option.bind_some]
    exact this
  have wh:=wh j 0 (by lia) (most-j-1)
  rw[show most-j-1+j+1=most by unfold most;lia]at wh
  have wp:0<Wy m g:=by lia
  have ws:=eQ (m:=m) (g:=g) (by lia)
  have df:((A+Sm (2*j+m+2) g j+k*Wy m g+l:Nat):Int)-((A+Sm (2*j+m+2) g j:Nat):Int)=((k*Wy m g+l:Nat):Int):=by lia
  have dv:((k*Wy m g+l:Nat):Int) / ((Wy m g:Nat):Int)=(k:Nat):=by
   rw[<-Int.natCast_ediv,Nat.mul_comm,Nat.mul_add_div wp,Nat.div_eq_of_lt b2,Nat.add_zero]
  have dm:((k*Wy m g+l:Nat):Int)%((Wy m g:Nat):Int)=(l:Nat):=by
   rw[<-Int.natCast_emod,Nat.mul_comm,Nat.mul_add_mod,Nat.mod_eq_of_lt b2]
  have tp:∀ (xs ys:List Nat),xs.length+ys.length<=100->0<xs.length->a8 .add (.tup (L xs)) (.tup (L ys))=some (.tup (L (xs++ys))):=fun xs ys h1 h2=>by
   rw[uL (by rw[aF];exact h2) (by rw[aF,aF];unfold most;lia),dC]
  refine(ah N.sW).trans (a4 rfl rfl (aX (aD (a5 (k:=false) (aa rfl) ag (by rw[cz,beq_eq_false_iff_ne.mpr (by lia)]))) (aB (d:=.int ((A+Sm (2*j+m+2) g 0:Nat):Int)) (bG (ai (aa rfl) ag (by rw[aU,show((2*j+m+2:Nat):Int)-1=((2*j+m+1:Nat):Int) by lia])) (ai (aa rfl) ag aU) (by rw[aw];rfl)) (bD _)
   (aX (aD (a5 (k:=false) (aa rfl) (aa rfl) (by rw[cX,decide_eq_false (by rw[Sm];lia)]))) (aB (d:=.int ((2*0:Nat):Int)) ag (bD _) (xW wh
   (aB (d:=.int ((a+2*j+1:Nat):Int)) (ai (ai (aa rfl) (aa rfl) aP) ag aP) (bD _) (aB (d:=.int (m:Nat)) (ai (ai (aa rfl) (aa rfl) aU) ag (by rw[aU,show((2*j+m+2:Nat):Int)-((2*j:Nat):Int)-2=((m:Nat):Int) by lia])) (bD _)
   (qN (A0 (ai (aa rfl) (aa rfl) (by rw[aU,df])) (bG (aa rfl) (aa rfl) ww) (by lia) (by lia)) rfl rfl (by rw[dv,dm];rfl)
   (aB (gH (ai (aa rfl) ag aP) (aa rfl) ag (aa rfl) ih1) (qG ys) (a7 (ai (ai (ai (x:=.tup (L [a+2*j+1])) (eo (a9 (aa rfl) bF)) (aa rfl) (tp [a+2*j+1] ys (by simp;lia) (by simp))) (y:=.tup (L [a])) (eo (a9 (aa rfl) bF)) (tp ([a+2*j+1]++ys) [a] (by simp;lia) (by simp))) (gH (ai (aa rfl) ag aP) (aa rfl) (aa rfl) (aa rfl) ih2) ((tp ([a+2*j+1]++ys++[a]) zs (by simp;lia) (by simp)).trans (by rw[show [a+2*j+1]++ys++[a]++zs=(a+2*j+1)::(ys++a::zs) by simp]))) (lO _))))))))))))
end
end RM
set_option maxHeartbeats 1000000
namespace RM
open RL RT
section
variable{cl:Cl}{n:Nat}{f h:List Nat}
end
structure Hm(T:List Fn)(nu pc pa nb un hf nf td wy ch cn ih chf go to hmh ho hnm:Nat)(cp:Nat):Prop extends Nm T hf nf td wy ch where
 Bx:T[cn]?=some (fk nu)
 Bc:T[ih]?=some (gD un pa pc)
 zW:T[chf]?=some (eO ih)
 Bp:T[go]?=some il
 AD:T[to]?=some (hU go chf)
 uC:T[hmh]?=some (dS nu wy cp)
 Bw:T[ho]?=some (kB hf cn hmh)
 Aj:T[hnm]?=some (gy nf to)
section
variable{T:List Fn}{nu pc pa nb un if' cf po rp ir mv hf nf td wy ch cn ih chf go to hmh ho hnm cp n:Nat}{h:List Nat}
theorem Hm.isH(M:Hm T nu pc pa nb un hf nf td wy ch cn ih chf go to hmh ho hnm cp)(C:Ck T nu pc pa nb un if' cf po rp ir mv)(m:Nat)(h1:1<=n)(hn:n<=10)(H:Hf n h):ao T (m+4) ih [.tup (L h)]=some (.bl true):=by
 have p:=(ah (n:=m+2) C.zF).trans (iI (xs:=h.map Int.ofNat) (by rw[List.length_map,H.len];lia) fun q hq=>(ah C.wL).trans (qH (C.num m) hq))
 rw[pG H,<-yu]at p
 obtain⟨b,e,_,hb⟩:=oR (cl:=ao T (m+2)) (m:=n) (by lia) H.len H.inv H.lt
 rw[hb H.nx]at e
 exact(ah M.Bc).trans (nI h1 hn H (C.tJ (m+1)) p ((ah C.xD).trans e))
theorem Hm.thr(M:Hm T nu pc pa nb un hf nf td wy ch cn ih chf go to hmh ho hnm cp)(C:Ck T nu pc pa nb un if' cf po rp ir mv)(m:Nat)(h1:1<=n)(hn:n<=10)(H:Hf n h):ao T (m+6) to [.tup (L h)]=some (.int ((fx n h).length:Nat)) :=
 (ah M.AD).trans (a4 rfl rfl (cZ (aY (aa rfl) ((ah M.zW).trans (jB rfl rfl (aX (aD (c5 (aY (aa rfl) (M.isH C m h1 hn H)))) aO)))) (a7 (br (aY (aa rfl) ((ah M.Bp).trans (kW hn H.len))) (show biV .len (.lst (L (fx n h)))=some (.int ((fx n h).length:Nat)) by show some (D.int ((L (fx n h)).length:Nat))=_;rw[aF])) (cI _))))
theorem Hm.number(M:Hm T nu pc pa nb un hf nf td wy ch cn ih chf go to hmh ho hnm cp)(C:Ck T nu pc pa nb un if' cf po rp ir mv)(m:Nat)(h1:1<=n)(hn:n<=10)(H:Hf n h){k:Nat}(s:Sg 0 n (fx n h).length h k):ao T (m+15) hnm [.tup (L h)]=some (.int (k:Nat)):=by
 have e:=M.toNm.number (H:=h) s hn (by rw[H.len];lia) (fun i hi=>by rw[cC (by rw[H.len];exact hi),Nat.zero_add]) (m+14) (by lia)
 rw[Nat.zero_add]at e
 exact(ah M.Aj).trans (a4 rfl rfl (a7 (gH (aa rfl) ag (br (aa rfl) (show biV .len (.tup (L h))=some (.int (n:Nat)) by show some (D.int ((L h).length:Nat))=_;rw[aF,H.len])) (aY (aa rfl) (M.thr C (m+8) h1 hn H)) e) (cI _)))
theorem Hm.of(M:Hm T nu pc pa nb un hf nf td wy ch cn ih chf go to hmh ho hnm cp)(C:Ck T nu pc pa nb un if' cf po rp ir mv)(hcp:T[cp]?=some (bC pc))(m:Nat)(h1:1<=n)(hn:n<=10){g k:Nat}{xs:List Nat}(s:Sg 0 n g xs k):ao T (m+15) ho [.int (n:Nat),.int (g:Nat),.int (k:Nat)]=some (.tup (L xs)):=by
 have b:=s.bound hn
 have hm:ao T (m+14) hmh [.int (n:Nat),.int (g:Nat)]=some (.int (Wy n g:Nat)) :=
  (ah M.uC).trans (a4 rfl rfl (cZ (aY (aa rfl) (C.lA hcp (m+10) h1 hn)) (a7 (l4 (k:=true) (aD (aY (aa rfl) (C.num (m+12) _))) (bG (aa rfl) (aa rfl) (M.toNm.iK (m+11) hn))) (cI _))))
 have hc:ao T (m+14) cn [.int (k:Nat),.int (Wy n g:Nat)]=some .non :=
  (ah M.Bx).trans (jB rfl rfl (aX (aD (fM (c5 (aY (aa rfl) (C.num (m+12) _))) (c5 (jX (k:=true) ag (aa rfl) (aa rfl) (by rw[pT,decide_eq_true (by lia)]) (by rw[cX,decide_eq_true (by lia)]))))) aO))
 exact(ah M.Bw).trans (a4 rfl rfl (cZ (bG (aa rfl) (bG (aa rfl) (aa rfl) hm) hc) (a7 (gH ag (aa rfl) (aa rfl) (aa rfl) (M.toNm.half s hn (m+14) (by lia))) (lO _))))
end
end RM
set_option maxHeartbeats 1000000
namespace RM
open RL RT
theorem oA(m g:Nat):∀ (J r:Nat),r<Sm m g J->∃ j,j<J/\Sm m g j<=r/\r<Sm m g j+Td m g (2*j)
 | 0,r,h=>absurd h (Nat.not_lt_zero _)
 | J+1,r,h=>by
  by_cases c:r<Sm m g J
  ·obtain⟨j,h1,h2,h3⟩:=oA m g J r c
   exact⟨j,by omega,h2,h3⟩
  ·rw[Sm]at h
   exact⟨J,by omega,by omega,h⟩
theorem Sg.all:∀ (m:Nat),m<=10->∀ a g k,k<Wy m g->∃ xs,Sg a m g xs k:=by
 intro m
 induction m using Nat.strongRecOn with
 |ind m ih=>
  intro hm a g k hk
  cases m with
  |zero=>
   have g0:g=0:=by
    by_cases c:g=0
    ·exact c
    ·rw[fJ (by omega)]at hk
     omega
   subst g0
   have k0:k=0:=by
    have:Wy 0 0=1:=by decide
    omega
   subst k0
   exact⟨[],.nil a⟩
  |succ m=>
   have r:=lM (m:=m+1) (g:=g) (by omega) hm
   by_cases c:k<Ah (m+1) g
   ·cases g with
    | zero=>exact absurd c (Nat.not_lt_zero _)
    |succ g=>
     obtain⟨xs,s⟩:=ih m (by omega) (by omega) (a+1) g k c
     exact⟨_,.fix s⟩
   ·obtain⟨j,h1,h2,h3⟩:=oA (m+1) g ((m+1) / 2) (k-Ah (m+1) g) (by omega)
    obtain⟨w,hw⟩:∃ w,m+1=2*j+w+2:=⟨m+1-2*j-2,by omega⟩
    rw[hw]at h2 h3 c hm ⊢
    rw[hw]at hk
    rw[Td,show 2*j+w+2-2*j-2=w by omega]at h3
    generalize hq:k-Ah (2*j+w+2) g-Sm (2*j+w+2) g j=q
    have hq2:q<Wy (2*j) 0*Wy w g:=by omega
    have wp:0<Wy w g:=by
     rcases Nat.eq_zero_or_pos (Wy w g)with z | z
     ·rw[z,Nat.mul_zero]at hq2;omega
     ·exact z
    obtain⟨ys,s1⟩:=ih (2*j) (by omega) (by omega) (a+1) 0 (q / Wy w g) ((Nat.div_lt_iff_lt_mul wp).mpr hq2)
    obtain⟨zs,s2⟩:=ih w (by omega) (by omega) (a+2*j+2) g (q%Wy w g) (Nat.mod_lt _ wp)
    have e:k=Ah (2*j+w+2) g+Sm (2*j+w+2) g j+q / Wy w g*Wy w g+q%Wy w g:=by
     have:=Nat.div_add_mod q (Wy w g)
     rw[Nat.mul_comm]at this
     omega
    rw[e]
    exact⟨_,.tie s1 s2⟩
theorem Sg.good{H:List Nat}{a m g k:Nat}{xs:List Nat}(s:Sg a m g xs k):(∀ i,i<m->xs[i]?=some (at' H (a+i))) ->
  (∀ q,a<=q->q<a+m->a<=at' H q/\at' H q<a+m)/\(∀ q,a<=q->q<a+m->at' H (at' H q)=q)/\(∀ q q',a<=q->q<q'->q'<at' H q->at' H q<a+m->¬ (at' H q<at' H q'\/at' H q'=q'))/\(g=0->∀ q,a<=q->q<a+m->at' H q≠q):=by
 induction s with
 | nil a=>intro _;exact⟨fun q _ _=>by omega,fun q _ _=>by omega,fun q q' h1 h2 h3 h4=>by
   intro _
   omega,fun _ q _ _=>by omega⟩
 |@fix a m g k xs s ih=>
  intro hx
  have h0:at' H a=a:=by have:=hx 0 (by omega);simp at this;exact this.symm
  obtain⟨i1,i2,i3,_⟩:=ih (fun i hi=>by have:=hx (i+1) (by omega);rw[List.getElem?_cons_succ]at this;rw[this,show a+(i+1)=a+1+i by omega])
  refine⟨fun q h h'=>?_,fun q h h'=>?_,fun q q' h h2 h3 h4=>?_,fun z=>by omega⟩
  ·by_cases c:q=a
   ·rw[c,h0];omega
   ·have:=i1 q (by omega) (by omega);omega
  ·by_cases c:q=a
   ·rw[c,h0,h0]
   ·exact i2 q (by omega) (by omega)
  ·by_cases c:q=a
   ·rw[c,h0]at h3;omega
   ·exact i3 q q' (by omega) h2 h3 (by omega)
 |@tie a j m g k l ys zs s1 s2 ih1 ih2=>
  intro hx
  have len1:=s1.len
  have h0:at' H a=a+2*j+1:=by have:=hx 0 (by omega);simp at this;exact this.symm
  have hb:at' H (a+2*j+1)=a:=by
   have:=hx (2*j+1) (by omega)
   rw[List.getElem?_cons_succ,List.getElem?_append_right (by omega),show 2*j-ys.length=0 by omega]at this
   simp at this
   rw[show a+2*j+1=a+(2*j+1) by omega]
   exact this.symm
  obtain⟨i1,i2,i3,i4⟩:=ih1 (fun i hi=>by
   have:=hx (i+1) (by omega)
   rw[List.getElem?_cons_succ,List.getElem?_append_left (by omega)]at this
   rw[this,show a+(i+1)=a+1+i by omega])
  obtain⟨j1,j2,j3,j4⟩:=ih2 (fun i hi=>by
   have:=hx (i+2*j+2) (by omega)
   rw[show i+2*j+2=(i+2*j+1)+1 by omega,List.getElem?_cons_succ,List.getElem?_append_right (by omega),show i+2*j+1-ys.length=i+1 by omega,List.getElem?_cons_succ]at this
   rw[this,show a+(i+2*j+1+1)=a+2*j+2+i by omega])
  have k4:=i4 rfl
  have four:∀ q,a<=q->q<a+(2*j+m+2)->q=a\/q=a+2*j+1\/(a+1<=q/\q<a+1+2*j)\/(a+2*j+2<=q/\q<a+2*j+2+m):=fun q _ _=>by omega
  refine⟨fun q h h'=>?_,fun q h h'=>?_,fun q q' h h2 h3 h4=>?_,fun z q h h'=>?_⟩
  ·rcases four q h h' with rfl | rfl | ⟨c,c'⟩ | ⟨c,c'⟩
   ·rw[h0];omega
   ·rw[hb];omega
   ·have:=i1 q c c';omega
   ·have:=j1 q c c';omega
  ·rcases four q h h' with rfl | rfl | ⟨c,c'⟩ | ⟨c,c'⟩
   ·rw[h0,hb]
   ·rw[hb,h0]
   ·exact i2 q c c'
   ·exact j2 q c c'
  ·rcases four q h (by omega)with rfl | rfl | ⟨c,c'⟩ | ⟨c,c'⟩
   ·rw[h0]at h3 ⊢
    have x1:=i1 q' (by omega) (by omega)
    have x2:=k4 q' (by omega) (by omega)
    intro w
    omega
   ·rw[hb]at h3;omega
   ·have:=i1 q c c'
    exact i3 q q' c h2 h3 (by omega)
   ·exact j3 q q' c h2 h3 (by omega)
  ·rcases four q h h' with rfl | rfl | ⟨c,c'⟩ | ⟨c,c'⟩
   ·rw[h0];omega
   ·rw[hb];omega
   ·exact k4 q c c'
   ·exact j4 z q c c'
theorem Sg.hf{n g k:Nat}{xs:List Nat}(s:Sg 0 n g xs k):Hf n xs/\(fx n xs).length=g:=by
 have l:=s.len
 obtain⟨h1,h2,h3,_⟩:=s.good (H:=xs) (fun i hi=>by rw[Nat.zero_add];exact cC (by omega))
 refine⟨⟨l,fun q hq=>?_,fun q hq=>h2 q (Nat.zero_le _) (by omega),fun q q' a b c=>h3 q q' (Nat.zero_le _) a b (by omega)⟩,?_⟩
 ·have:=h1 q (Nat.zero_le _) (by omega)
  omega
 ·have c:=s.bE
  rw[<-xZ l,nW,<-List.range_eq_range']at c
  exact c
theorem Sg.one{a m g k g' k':Nat}{xs:List Nat}(s:Sg a m g xs k)(s':Sg a m g' xs k'):g=g'/\k=k':=by
 have e:g=g':=s.bE.symm.trans s'.bE
 refine⟨e,?_⟩
 subst e
 induction s generalizing k' with
 | nil=>cases s';rfl
 |@fix a m g k xs s ih=>
  generalize hy:a::xs=ys at s'
  generalize hm:m+1=m' at s'
  generalize hg:g+1=g' at s'
  cases s' with
  | nil=>cases hy
  |fix t=>
   cases hy;cases hm;cases hg
   exact ih t
  |tie t1 t2=>
   have:=(List.cons.inj hy).1
   omega
 |@tie a j m g k l ys zs s1 s2 ih1 ih2=>
  generalize hy:(a+2*j+1)::(ys++a::zs)=ws at s'
  generalize hm:2*j+m+2=m' at s'
  cases s' with
  | nil=>cases hy
  |fix t=>
   have:=(List.cons.inj hy).1
   omega
  |@tie _ j' m2 _ k2 l2 ys2 zs2 t1 t2=>
   obtain⟨hd,tl⟩:=List.cons.inj hy
   obtain rfl:j=j':=by omega
   obtain rfl:m=m2:=by omega
   obtain⟨e1,e2⟩:=List.append_inj tl (by rw[s1.len,t1.len])
   subst e1
   obtain⟨_,e3⟩:=List.cons.inj e2
   subst e3
   rw[ih1 t1,ih2 t2]
end RM
set_option maxHeartbeats 1000000
namespace RM
open RL RT
end RM
set_option maxHeartbeats 1000000
namespace RM
open RL RT
noncomputable def kyL(J:List Nat):List Ky:=J.map fun(x:Nat)=>.inl (x:Int)
theorem ng:∀ J:List Nat,keysOf (L J)=some (kyL J)
 | []=>rfl
 | x::r=>by
  rw[show L (x::r)=.int (x:Nat)::L r from rfl,keysOf,ng r]
  rfl
theorem ka:∀ {J K:List Nat},kyL J=kyL K->J=K
 | [],[],_=>rfl
 | [],_::_,h=>by cases h
 | _::_,[],h=>by cases h
 | x::r,y::s,h=>by
  rw[show kyL (x::r)=.inl (x:Int)::kyL r from rfl,show kyL (y::s)=.inl (y:Int)::kyL s from rfl]at h
  obtain⟨h1,h2⟩:=List.cons.inj h
  have h3:=Sum.inl.inj h1
  rw[ka h2,show x=y by lia]
structure DF(ks:List (List Ky))(vs:List D)(k:Nat)(R:List Nat->D->Prop):Prop where
 len:ks.length=vs.length
 few:ks.length<=k
 ok:∀ J v,aQ ks vs (kyL J)=some v->R J v
theorem iL{κ:Type} [DecidableEq κ]{ks:List κ}{vs:List D}{x:κ}{d:D}(h:ks.length=vs.length):(putD ks vs x d).1.length=(putD ks vs x d).2.length/\(putD ks vs x d).1.length<=ks.length+1:=by
 unfold putD
 split
 ·simp[h]
 ·simp[h]
theorem DF.put{ks:List (List Ky)}{vs:List D}{k:Nat}{R:List Nat->D->Prop}(F:DF ks vs k R){J:List Nat}{d:D}(h:R J d):DF (putD ks vs (kyL J) d).1 (putD ks vs (kyL J) d).2 (k+1) R where
 len:=(iL F.len).1
 few:=Nat.le_trans (iL F.len).2 (Nat.succ_le_succ F.few)
 ok:=fun K v e=>by
  rw[sI F.len]at e
  by_cases c:kyL J=kyL K
  ·rw[if_pos c]at e
   cases e
   rw[<-ka c]
   exact h
  ·rw[if_neg c]at e
   exact F.ok K v e
theorem DF.get{ks:List (List Ky)}{vs:List D}{k:Nat}{R:List Nat->D->Prop}(F:DF ks vs k R){J:List Nat}{z:D}(h:∀ v,R J v->v=z):pW (.dT ks vs) (.tup (L J)) z=some z:=by
 show(keysOf (L J)).map _=_
 rw[ng,Option.map_some]
 cases e:aQ ks vs (kyL J)with
 | none=>rfl
 | some v=>rw[h v (F.ok J v e)];rfl
theorem rE{ks:List (List Ky)}{vs:List D}{J:List Nat}{d:D}(h:ks.length<most):eY (.dT ks vs) (.tup (L J)) d=some (.dT (putD ks vs (kyL J) d).1 (putD ks vs (kyL J) d).2):=by
 show(keysOf (L J)).bind _=_
 rw[ng,Option.bind_some,if_pos h]
theorem Ak{cl:Cl}{σ:St}{a b c:E}{x y z d:D}(h1:ev cl σ a=some x)(h2:ev cl σ b=some y)(h3:ev cl σ c=some z)(h:pW x y z=some d):ev cl σ (.get a b c)=some d:=by
 rw[ev,h1,Option.bind_some,h2,Option.bind_some,h3]
 exact h
end RM
set_option maxHeartbeats 1000000
namespace K20
open RL RT
noncomputable def jk(f_ways f_check_pegs:Nat):Fn :=
 ⟨1,1,[],[],(.cons (.exc (.call f_check_pegs (.cons (.var 0) .nil))) (.cons (.ret (.call f_ways (.cons (.bin .mul (.cst (.int 2)) (.var 0)) (.cons (.cst (.int 0)) .nil)))) .nil))⟩
noncomputable def nh(f_how_many f_joined f_half_of f_how_many_halves f_law_same f_family f_is_frame f_law_digits:Nat):Ss :=
 (.cons (.put 6 (.call f_joined (.cons (.var 10) (.cons (.var 11) .nil))) (.cst (.bl true))) .nil)
noncomputable def mE(f_how_many f_joined f_half_of f_how_many_halves f_law_same f_family f_is_frame f_law_digits:Nat):Ss :=
 (.cons (.forr [11] (.seq (.var 9)) (nh f_how_many f_joined f_half_of f_how_many_halves f_law_same f_family f_is_frame f_law_digits)) .nil)
noncomputable def lL(f_how_many f_joined f_half_of f_how_many_halves f_law_same f_family f_is_frame f_law_digits:Nat):Ss :=
 (.cons (.asg 9 (.compA (.call f_half_of (.cons (.var 5) (.cons (.var 7) (.cons (.var 12) .nil)))) [12] (.rng1 (.call f_how_many_halves (.cons (.var 5) (.cons (.var 7) .nil)))))) (.cons (.forr [10] (.seq (.var 9)) (mE f_how_many f_joined f_half_of f_how_many_halves f_law_same f_family f_is_frame f_law_digits)) .nil))
noncomputable def lW(f_how_many f_joined f_half_of f_how_many_halves f_law_same f_family f_is_frame f_law_digits:Nat):Ss :=
 (.cons (.unp [7,10,11] (.call f_law_digits (.cons (.var 0) (.cons (.bin .add (.cst (.int 1)) (.var 4)) (.cons (.lst (.cons (.bin .add (.var 1) (.cst (.int 1))) (.cons (.bin .pow (.cst (.int 10)) (.cst (.int 9))) (.cons (.bin .pow (.cst (.int 10)) (.cst (.int 9))) .nil)))) .nil))))) (.cons (.asg 7 (.bin .add (.var 7) (.ix (.lst (.cons (.cst (.int 0)) (.cons (.cst (.int 1)) .nil))) (.bin .mod (.bin .sub (.var 1) (.var 7)) (.cst (.int 2)))))) (.cons (.par 10 11 (.bin .mod (.var 10) (.ix (.var 2) (.var 7))) (.bin .mod (.var 11) (.ix (.var 2) (.var 7)))) (.cons (.asg 8 (.call f_joined (.cons (.call f_half_of (.cons (.var 1) (.cons (.var 7) (.cons (.var 10) .nil)))) (.cons (.call f_half_of (.cons (.var 1) (.cons (.var 7) (.cons (.var 11) .nil)))) .nil)))) (.cons (.ife (.or (.not (.call f_is_frame (.cons (.var 8) .nil))) (.not (.call f_law_same (.cons (.call f_family (.cons (.var 8) .nil)) (.cons (.tup (.cons (.var 10) (.cons (.var 11) .nil))) .nil))))) (.cons (.ret (.cst (.bl false))) .nil) .nil) (.cons (.ife (.cmp .ne (.get (.var 3) (.var 8) (.tup (.cons (.var 7) (.cons (.var 10) (.cons (.var 11) .nil))))) (.tup (.cons (.var 7) (.cons (.var 10) (.cons (.var 11) .nil))))) (.cons (.ret (.cst (.bl false))) .nil) .nil) (.cons (.put 3 (.var 8) (.tup (.cons (.var 7) (.cons (.var 10) (.cons (.var 11) .nil))))) .nil)))))))
noncomputable def uO(f_how_many f_joined f_half_of f_how_many_halves f_law_same f_family f_is_frame f_law_digits:Nat):Fn :=
 ⟨1,14,[3,6],[],(.cons (.asg 0 (.slT (.var 0) (.cst (.int 63)))) (.cons (.asg 1 (.ix (.call f_law_digits (.cons (.var 0) (.cons (.cst (.int 0)) (.cons (.lst (.cons (.cst (.int 10)) .nil)) .nil)))) (.cst (.int 0)))) (.cons (.asg 1 (.bin .add (.cst (.int 1)) (.var 1))) (.cons (.asg 2 (.compA (.call f_how_many_halves (.cons (.var 1) (.cons (.var 7) .nil))) [7] (.rng1 (.bin .add (.var 1) (.cst (.int 1)))))) (.cons (.ife (.cmp .ne (.bi .sum (.compA (.bin .mul (.var 13) (.var 13)) [13] (.seq (.var 2)))) (.call f_how_many (.cons (.var 1) .nil))) (.cons (.ret (.cst (.bl false))) .nil) .nil) (.cons (.own 3 .dt0) (.cons (.forr [4] (.rng1 (.cst (.int 9))) (lW f_how_many f_joined f_half_of f_how_many_halves f_law_same f_family f_is_frame f_law_digits)) (.cons (.asg 5 (.bin .add (.cst (.int 1)) (.bin .mod (.var 1) (.cst (.int 4))))) (.cons (.own 6 .dt0) (.cons (.forr [7] (.rng3 (2) (.bin .mod (.var 5) (.cst (.int 2))) (.bin .add (.var 5) (.cst (.int 1)))) (lL f_how_many f_joined f_half_of f_how_many_halves f_law_same f_family f_is_frame f_law_digits)) (.cons (.ret (.cmp .eq (.bi .len (.var 6)) (.call f_how_many (.cons (.var 5) .nil)))) .nil)))))))))))⟩
noncomputable def T:List Fn:=[fj,cE 0,bC 1,eG 4,eR 0,dt,lC,ee 5 13 3 1 9,cM 7,hW,e8 2,hG 14 10 9 8,cq,dX 14 12 9,ic,gD 5 3 1,eO 15,dM 16,iA 9 8,oi 18 11,hU 22 16,iP 6 22 17,il,jk 30 2,dS 0 30 2,kB 27 32 24,gy 28 20,iH 27 30 29,gA 28 30 29,gz 30,ji 31,eU,fk 0,mC 26 18 19,gK,hZ 34,cW 35,bY 37,uO 23 21 25 24 37 33 7 36]
open RM
theorem ck:Ck T 0 1 3 4 5 7 8 9 12 13 14:=⟨rfl,rfl,rfl,rfl,rfl,rfl,rfl,rfl,rfl,rfl,rfl⟩
theorem dg:Dg T 34 35 36:=⟨rfl,rfl,rfl⟩
theorem hm:Hm T 0 1 3 4 5 27 28 29 30 31 32 15 16 22 20 24 25 26 2:=⟨⟨rfl,rfl,rfl,rfl,rfl⟩,rfl,rfl,rfl,rfl,rfl,rfl,rfl,rfl⟩
theorem zL{ds:List Nat}{a:Nat}(h:hV ds [a]):∃ x,ds=[x]/\x<a:=by
 obtain⟨h1,h2⟩:=h
 match ds,h1 with
 | [x],_=>exact⟨x,rfl,h2 0 x a rfl rfl⟩
theorem zR{ds:List Nat}{a b c:Nat}(h:hV ds [a,b,c]):∃ x y z,ds=[x,y,z]/\x<a:=by
 obtain⟨h1,h2⟩:=h
 match ds,h1 with
 | [x,y,z],_=>exact⟨x,y,z,rfl,h2 0 x a rfl rfl⟩
theorem neT(f:List Nat):aT .ne (.tup (L f)) (.tup (L f))=some false:=by
 show(aT .eq (.tup (L f)) (.tup (L f))).map not=_
 rw[Ax rfl,decide_eq_true rfl]
 rfl
theorem uU:∀ n,n<=10->∀ g,g<=n->(n-g)%2=0->0<Wy n g:=by decide +kernel
section
variable{n g a b:Nat}{xs ys J:List Nat}
theorem jn(h1:1<=n)(hn:n<=10)(s:Sg 0 n g xs a)(t:Sg 0 n g ys b):∃ J,Val n J/\upL n J=xs/\upL n (bS n (ovr n) (ovr n) J)=ys/\ao T 29 21 [.tup (L xs),.tup (L ys)]=some (.tup (L J)):=by
 obtain⟨A,fa⟩:=s.hf
 obtain⟨B,fb⟩:=t.hf
 have e:(fx n xs).length=(fx n ys).length:=fa.trans fb.symm
 have ckH:∀ {h:List Nat},Hf n h->ao T 27 16 [.tup (L h)]=some .non:=fun H=>(ah (fn:=eO 15) rfl).trans (jB rfl rfl (aX (aD (c5 (aY (aa rfl) (hm.isH ck 22 h1 hn H)))) aO))
 have lenH:∀ {h:List Nat},Hf n h->biV .len (.tup (L h))=some (.int (n:Nat)):=fun {h} H=>by
  show some (D.int ((L h).length:Nat))=_
  rw[aF,H.len]
 have c2:ao T 28 17 [.tup (L xs),.tup (L ys)]=some .non:=(ah (fn:=dM 16) rfl).trans (jB rfl rfl (cZ (aY (aa rfl) (ckH A)) (cZ (aY (aa rfl) (ckH B)) (aX (aD (a5 (br (aa rfl) (lenH A)) (br (aa rfl) (lenH B)) (by rw[pI,beq_self_eq_true];rfl))) aO))))
 have go':∀ {h:List Nat},Hf n h->ao T 28 22 [.tup (L h)]=some (.lst (L (fx n h))):=fun H=>(ah (fn:=il) rfl).trans (kW hn H.len)
 obtain⟨J,j,ej⟩:=pY (cl:=ao T 28) (ti:=6) (go:=22) (c2:=17) hn A B e c2 (go' A) (go' B) (fun xs i j hi hj=>(ah (fn:=lC) rfl).trans (vW xs hi hj))
 exact⟨J,j.val A B e,j.up A e,j.dn A B e,(ah (fn:=iP 6 22 17) rfl).trans ej⟩
theorem fam(h1:1<=n)(hn:n<=10)(V:Val n J)(u:upL n J=xs)(d:upL n (bS n (ovr n) (ovr n) J)=ys)(s:Sg 0 n g xs a)(t:Sg 0 n g ys b):ao T 29 33 [.tup (L J)]=some (.tup [.int (a:Nat),.int (b:Nat)]):=by
 obtain⟨A,fa⟩:=s.hf
 obtain⟨B,fb⟩:=t.hf
 have up:=ck.upper (up':=18) rfl 22 h1 hn V
 have lo:=ck.lower (up':=18) (cp:=2) (pl:=10) (ov:=11) (lw:=19) rfl rfl rfl rfl rfl 21 h1 hn V
 rw[u]at up
 rw[d]at lo
 rw[<-fa]at s
 rw[<-fb]at t
 exact(ah (fn:=mC 26 18 19) rfl).trans (a4 rfl rfl (a7 (eo (a9 (aY (aY (aa rfl) up) (hm.number ck 13 h1 hn A s)) (a9 (aY (aY (aa rfl) lo) (hm.number ck 13 h1 hn B t)) bF))) rfl))
noncomputable def Rn(n:Nat)(J:List Nat)(v:D):Prop:=∃ g a b:Nat,v=.tup (L [g,a,b])/\Sg 0 n g (upL n J) a/\Sg 0 n g (upL n (bS n (ovr n) (ovr n) J)) b
theorem Rn.one{v w:D}(h:Rn n J v)(h':Rn n J w):v=w:=by
 obtain⟨g,a,b,rfl,s,t⟩:=h
 obtain⟨g',a',b',rfl,s',t'⟩:=h'
 obtain⟨e1,e2⟩:=s.one s'
 obtain⟨_,e3⟩:=t.one t'
 rw[e1,e2,e3]
noncomputable def szs(n:Nat):D:=.lst (L ((List.range (n+1)).map (Wy n)))
theorem turn{ns:List Int}(hl:ns.length<=63)(h1:1<=n)(hn:n<=10){k:Nat}(hk:k<9){ks:List (List Ky)}{vs:List D}{p:Nat}(F:DF ks vs p (Rn n))(hp:p<=100)(o7 o8 o10 o11:Option D) :
  ∃ (ks':List (List Ky)) (vs':List D) (o7' o8' o10' o11':Option D),DF ks' vs' (p+1) (Rn n)/\aj (ao T 29) [3,6] (lW 23 21 25 24 37 33 7 36) [some (.lst (LI ns)),some (.int (n:Nat)),some (szs n),some (.dT ks vs),some (.int (k:Nat)),none,none,o7,o8,none,o10,o11,none,none] =
   some (.nx,[some (.lst (LI ns)),some (.int (n:Nat)),some (szs n),some (.dT ks' vs'),some (.int (k:Nat)),none,none,o7',o8',none,o10',o11',none,none]):=by
 obtain⟨ds,hd,e1⟩:=dg.digits hl 26 (k:=1+k) (sizes:=[n+1,10 ^ 9,10 ^ 9]) (by omega) (by simp;omega) (by simp)
 obtain⟨g0,a0,b0,rfl,hg⟩:=zR hd
 have md:a8 .mod (.int ((n:Nat)-(g0:Nat))) (.int 2)=some (.int (((n-g0)%2:Nat):Int)):=by
  rw[dE (by decide),<-Int.natCast_sub (by omega)]
  rfl
 obtain⟨g,hgn,par,eg⟩:∃ g:Nat,g<=n/\(n-g)%2=0/\∃ w:Int,ixV (.lst [.int 0,.int 1]) (.int (((n-g0)%2:Nat):Int))=some (.int w)/\((g0:Nat):Int)+w=(g:Nat):=by
  by_cases c:(n-g0)%2=0
  ·exact⟨g0,by omega,c,0,by rw[c];rfl,by omega⟩
  ·exact⟨g0+1,by omega,by omega,1,by rw[show(n-g0)%2=1 by omega];rfl,by omega⟩
 obtain⟨w,ew,eg⟩:=eg
 have wp:=uU n hn g hgn par
 have ixs:ixV (szs n) (.int (g:Nat))=some (.int (Wy n g:Nat)):=by
  show bR _ _=_
  rw[cS,jJ]
  simp[show g<n+1 by omega]
 obtain⟨xs,s⟩:=Sg.all n hn 0 g (a0%Wy n g) (Nat.mod_lt _ wp)
 obtain⟨ys,t⟩:=Sg.all n hn 0 g (b0%Wy n g) (Nat.mod_lt _ wp)
 obtain⟨J,V,u,d,ej⟩:=jn h1 hn s t
 have fm:=fam h1 hn V u d s t
 have h2:=hm.of ck rfl 14 h1 hn s
 have h3:=hm.of ck rfl 14 h1 hn t
 have fr:=ck.frame 25 h1 hn V
 have R:Rn n J (.tup (L [g,a0%Wy n g,b0%Wy n g])):=⟨_,_,_,rfl,by rw[u];exact s,by rw[d];exact t⟩
 have gt:=F.get (J:=J) (z:=.tup (L [g,a0%Wy n g,b0%Wy n g])) (fun v h=>Rn.one h R)
 have ne:aT .ne (.tup (L [g,a0%Wy n g,b0%Wy n g])) (.tup (L [g,a0%Wy n g,b0%Wy n g]))=some false:=by
  exact neT _
 have sm:=sameAll (T:=T) (sm:=37) rfl 1 28 (.tup [.int ((a0%Wy n g:Nat):Int),.int ((b0%Wy n g:Nat):Int)]) (.tup 0 _ (by simp) (by intro x hx;simp only[List.mem_cons,List.not_mem_nil,or_false]at hx;rcases hx with rfl | rfl<;>exact .int _ _)) (by decide)
 have ml:ks.length<most:=by have:=F.few;unfold most;omega
 have mN:∀ x:Nat,a8 .mod (.int (x:Nat)) (.int (Wy n g:Nat))=some (.int ((x%Wy n g:Nat):Int)):=fun x=>by rw[dE (by omega)];rfl
 refine⟨_,_,_,_,_,_,F.put R,qN (gh (aa rfl) (ai ag (aa rfl) rfl) (jh (a9 (ai (aa rfl) ag aP) (a9 (ai ag ag rfl) (a9 (ai ag ag rfl) bF)))) e1) rfl rfl rfl
  (aB (d:=.int (g:Nat)) (ai (aa rfl) (gc (jh (a9 ag (a9 ag bF))) (ai (ai (aa rfl) (aa rfl) aU) ag md) ew) (by rw[aP,eg])) (bD _)
  (yq (ai (aa rfl) (gc (aa rfl) (aa rfl) ixs) (mN _)) (ai (aa rfl) (gc (aa rfl) (aa rfl) ixs) (mN _)) rfl
  (aB (bG (gh (aa rfl) (aa rfl) (aa rfl) h2) (gh (aa rfl) (aa rfl) (aa rfl) h3) ej) (qG _)
  (aX (aD (fM (c5 (aY (aa rfl) fr)) (c5 (bG (aY (aa rfl) fm) (eo (a9 (aa rfl) (a9 (aa rfl) bF))) sm))))
  (aX (aD (a5 (Ak (aa rfl) (aa rfl) (eo (a9 (aa rfl) (a9 (aa rfl) (a9 (aa rfl) bF)))) gt) (eo (a9 (aa rfl) (a9 (aa rfl) (a9 (aa rfl) bF)))) ne))
  (rh (eo (a9 (aa rfl) (a9 (aa rfl) (a9 (aa rfl) bF)))) (aa rfl) rfl rfl (rE ml) aO))))))⟩
end
theorem vz{m:Nat}(h1:1<=m)(hm':m<=10):∃ (φ:Nat->Nat->List Nat) (ψ:Nat->Nat->Nat->List Nat),(∀ g i,i<Wy m g->Sg 0 m g (φ g i) i) /\
  (∀ g i j,i<Wy m g->j<Wy m g->ao T 29 21 [.tup (L (φ g i)),.tup (L (φ g j))]=some (.tup (L (ψ g i j)))) /\
  (∀ g i j g' i' j',i<Wy m g->j<Wy m g->i'<Wy m g'->j'<Wy m g'->ψ g i j=ψ g' i' j'->g=g'/\i=i'/\j=j'):=by
 have a:∀ g i,∃ xs,i<Wy m g->Sg 0 m g xs i:=fun g i=>by
  by_cases c:i<Wy m g
  ·obtain⟨xs,s⟩:=Sg.all m hm' 0 g i c
   exact⟨xs,fun _=>s⟩
  ·exact⟨[],fun h=>absurd h c⟩
 obtain⟨φ,φs⟩:∃ φ:Nat->Nat->List Nat,∀ g i,i<Wy m g->Sg 0 m g (φ g i) i:=⟨fun g i=>Classical.choose (a g i),fun g i=>Classical.choose_spec (a g i)⟩
 have b:∀ g i j,∃ J,i<Wy m g->j<Wy m g->upL m J=φ g i/\upL m (bS m (ovr m) (ovr m) J)=φ g j/\ao T 29 21 [.tup (L (φ g i)),.tup (L (φ g j))]=some (.tup (L J)):=fun g i j=>by
  by_cases c:i<Wy m g/\j<Wy m g
  ·obtain⟨J,V,u,d,e⟩:=jn h1 hm' (φs g i c.1) (φs g j c.2)
   exact⟨J,fun _ _=>⟨u,d,e⟩⟩
  ·exact⟨[],fun h h'=>absurd ⟨h,h'⟩ c⟩
 obtain⟨ψ,ψs⟩:∃ ψ:Nat->Nat->Nat->List Nat,∀ g i j,i<Wy m g->j<Wy m g->upL m (ψ g i j)=φ g i/\upL m (bS m (ovr m) (ovr m) (ψ g i j))=φ g j/\ao T 29 21 [.tup (L (φ g i)),.tup (L (φ g j))]=some (.tup (L (ψ g i j))):=⟨fun g i j=>Classical.choose (b g i j),fun g i j=>Classical.choose_spec (b g i j)⟩
 refine⟨φ,ψ,φs,fun g i j h h'=>(ψs g i j h h').2.2,fun g i j g' i' j' h1 h2 h3 h4 e=>?_⟩
 obtain⟨u,d,_⟩:=ψs g i j h1 h2
 obtain⟨u',d',_⟩:=ψs g' i' j' h3 h4
 rw[e]at u d
 have s:=φs g i h1
 rw[<-u,u']at s
 have t:=φs g j h2
 rw[<-d,d']at t
 obtain⟨e1,e2⟩:=s.one (φs g' i' h3)
 obtain⟨_,e3⟩:=t.one (φs g' j' h4)
 exact⟨e1,e2,e3⟩
noncomputable def Lx(m g i d:Nat)(g' i' j':Nat):Prop:=(g'<g\/(g'=g/\(i'<i\/(i'=i/\j'<d))))/\i'<Wy m g'/\j'<Wy m g'
structure LS(ψ:Nat->Nat->Nat->List Nat)(ks:List (List Ky))(vs:List D)(c:Nat)(P:Nat->Nat->Nat->Prop):Prop where
 len:ks.length=vs.length
 cnt:ks.length=c
 mem:∀ k∈ks,∃ g i j,P g i j/\k=kyL (ψ g i j)
theorem LS.mono{ψ:Nat->Nat->Nat->List Nat}{ks:List (List Ky)}{vs:List D}{c c':Nat}{P P':Nat->Nat->Nat->Prop}(h:LS ψ ks vs c P)(hc:c=c')(hP:∀ g i j,P g i j->P' g i j):LS ψ ks vs c' P' where
 len:=h.len
 cnt:=h.cnt.trans hc
 mem:=fun k hk=>by
  obtain⟨g,i,j,p,e⟩:=h.mem k hk
  exact⟨g,i,j,hP _ _ _ p,e⟩
section
variable{m:Nat}{φ:Nat->Nat->List Nat}{ψ:Nat->Nat->Nat->List Nat}
theorem LS.put(inj:∀ g i j g' i' j',i<Wy m g->j<Wy m g->i'<Wy m g'->j'<Wy m g'->ψ g i j=ψ g' i' j'->g=g'/\i=i'/\j=j'){ks:List (List Ky)}{vs:List D}{c g i d:Nat}(h:LS ψ ks vs c (Lx m g i d))(hi:i<Wy m g)(hd:d<Wy m g)(x:D):LS ψ (putD ks vs (kyL (ψ g i d)) x).1 (putD ks vs (kyL (ψ g i d)) x).2 (c+1) (Lx m g i (d+1)):=by
 have no:kyL (ψ g i d)∉ks:=fun z=>by
  obtain⟨g',i',j',⟨p,p1,p2⟩,e⟩:=h.mem _ z
  obtain⟨e1,e2,e3⟩:=inj g i d g' i' j' hi hd p1 p2 (ka e)
  omega
 refine⟨(iL h.len).1,?_,?_⟩
 ·unfold putD
  rw[if_neg no,List.length_append,h.cnt]
  rfl
 ·unfold putD
  rw[if_neg no]
  intro k hk
  rcases List.mem_append.mp hk with z | z
  ·obtain⟨g',i',j',⟨p,p1,p2⟩,e⟩:=h.mem _ z
   exact⟨g',i',j',⟨by omega,p1,p2⟩,e⟩
  ·exact⟨g,i,d,⟨.inr ⟨rfl,.inr ⟨rfl,by omega⟩⟩,hi,hd⟩,List.mem_singleton.mp z⟩
theorem many{n g:Nat}(h1:1<=n)(hn:n<=10):ao T 29 24 [.int (n:Nat),.int (g:Nat)]=some (.int (Wy n g:Nat)) :=
 (ah hm.uC).trans (a4 rfl rfl (cZ (aY (aa rfl) (ck.lA (cp:=2) rfl 25 h1 hn)) (a7 (l4 (k:=true) (aD (aY (aa rfl) (ck.num 27 _))) (bG (aa rfl) (aa rfl) (hm.toNm.iK 26 hn))) (cI _))))
noncomputable def hsL(φ:Nat->Nat->List Nat)(W g:Nat):List D:=(List.range W).map fun i=>.tup (L (φ g i))
theorem qQ{φ:Nat->Nat->List Nat}{g:Nat}:∀ xs:List Nat,au (xs.map fun i=>.tup (L (φ g i)))=true
 | []=>rfl
 | x::r=>by
  rw[List.map_cons,au,show(D.tup (L (φ g x))).imm=true from bx _,qQ r]
  rfl
theorem inner(ej:∀ g i j,i<Wy m g->j<Wy m g->ao T 29 21 [.tup (L (φ g i)),.tup (L (φ g j))]=some (.tup (L (ψ g i j))))(inj:∀ g i j g' i' j',i<Wy m g->j<Wy m g->i'<Wy m g'->j'<Wy m g'->ψ g i j=ψ g' i' j'->g=g'/\i=i'/\j=j')(hm':m<=10){g i c:Nat}(hi:i<Wy m g)(hc:c<=10000){ks:List (List Ky)}{vs:List D}(h:LS ψ ks vs c (Lx m g i 0))(s0 s1 s2 s3 s5 s7:D)(o4 o8 o11 o12 o13:Option D) :
  ∃ ks' vs' o11',LS ψ ks' vs' (c+Wy m g) (Lx m g i (Wy m g))/\bh (aj (ao T 29) [3,6] (nh 23 21 25 24 37 33 7 36)) [11] (hsL φ (Wy m g) g) [some s0,some s1,some s2,some s3,o4,some s5,some (.dT ks vs),some s7,o8,some (.lst (hsL φ (Wy m g) g)),some (.tup (L (φ g i))),o11,o12,o13] =
   some (.nx,[some s0,some s1,some s2,some s3,o4,some s5,some (.dT ks' vs'),some s7,o8,some (.lst (hsL φ (Wy m g) g)),some (.tup (L (φ g i))),o11',o12,o13]):=by
 have ws:=eQ (m:=m) (g:=g) hm'
 generalize hh:some (D.lst (hsL φ (Wy m g) g))=s9
 obtain⟨σ',e,ks',vs',o11',rfl,h'⟩:=dF (f:=aj (ao T 29) [3,6] (nh 23 21 25 24 37 33 7 36)) (tg:=[11]) (fun j:Nat=>.tup (L (φ g j))) (fun j=>bx _)
  (fun u σ=>∃ ks vs o11,σ=[some s0,some s1,some s2,some s3,o4,some s5,some (.dT ks vs),some s7,o8,s9,some (.tup (L (φ g i))),o11,o12,o13]/\LS ψ ks vs (c+u.length) (Lx m g i u.length))
  (List.range (Wy m g)) [] [some s0,some s1,some s2,some s3,o4,some s5,some (.dT ks vs),some s7,o8,s9,some (.tup (L (φ g i))),o11,o12,o13] (by
   rintro u p v σ hu ⟨ks,vs,o11,rfl,h⟩
   obtain⟨hk,hp⟩:=bQ (g:=id) (by simpa using hu)
   simp only[id]at hp
   subst hp
   have ml:ks.length<most:=by rw[h.cnt];unfold most;omega
   have b1:=rh (cl:=ao T 29) (M:=[3,6]) (i:=6) (r:=.nil) (e:=.call 21 (.cons (.var 10) (.cons (.var 11) .nil))) (e':=.cst (.bl true)) (σ:=[some s0,some s1,some s2,some s3,o4,some s5,some (.dT ks vs),some s7,o8,s9,some (.tup (L (φ g i))),some (.tup (L (φ g u.length))),o12,o13]) ag (bG (aa rfl) (aa rfl) (ej g i u.length hi hk)) rfl rfl (rE ml) aO
   refine⟨_,?_,(putD ks vs (kyL (ψ g i u.length)) (.bl true)).1,(putD ks vs (kyL (ψ g i u.length)) (.bl true)).2,some (.tup (L (φ g u.length))),rfl,?_⟩
   ·have bt:aI [11] (.tup (L (φ g u.length))) [some s0,some s1,some s2,some s3,o4,some s5,some (.dT ks vs),some s7,o8,s9,some (.tup (L (φ g i))),o11,o12,o13]=some [some s0,some s1,some s2,some s3,o4,some s5,some (.dT ks vs),some s7,o8,s9,some (.tup (L (φ g i))),some (.tup (L (φ g u.length))),o12,o13]:=rfl
    rw[bt,Option.bind_some]
    exact b1
   ·rw[List.length_append,List.length_singleton]
    exact(h.put inj hi hk (.bl true)).mono (by omega) (fun _ _ _ z=>z)) ⟨ks,vs,o11,rfl,h⟩
 rw[List.nil_append,List.length_range]at h'
 exact⟨ks',vs',o11',h',e⟩
theorem middle(ej:∀ g i j,i<Wy m g->j<Wy m g->ao T 29 21 [.tup (L (φ g i)),.tup (L (φ g j))]=some (.tup (L (ψ g i j))))(inj:∀ g i j g' i' j',i<Wy m g->j<Wy m g->i'<Wy m g'->j'<Wy m g'->ψ g i j=ψ g' i' j'->g=g'/\i=i'/\j=j')(hm':m<=4){g c:Nat}(hc:c<=1000){ks:List (List Ky)}{vs:List D}(h:LS ψ ks vs c (Lx m g 0 0))(s0 s1 s2 s3 s5 s7:D)(o4 o8 o10 o11 o12 o13:Option D)(w5:Wy m g<=5) :
  ∃ ks' vs' o10' o11',LS ψ ks' vs' (c+Wy m g*Wy m g) (Lx m (g+1) 0 0)/\bh (aj (ao T 29) [3,6] (mE 23 21 25 24 37 33 7 36)) [10] (hsL φ (Wy m g) g) [some s0,some s1,some s2,some s3,o4,some s5,some (.dT ks vs),some s7,o8,some (.lst (hsL φ (Wy m g) g)),o10,o11,o12,o13] =
   some (.nx,[some s0,some s1,some s2,some s3,o4,some s5,some (.dT ks' vs'),some s7,o8,some (.lst (hsL φ (Wy m g) g)),o10',o11',o12,o13]):=by
 obtain⟨σ',e,ks',vs',o10',o11',rfl,h'⟩:=dF (f:=aj (ao T 29) [3,6] (mE 23 21 25 24 37 33 7 36)) (tg:=[10]) (fun j:Nat=>.tup (L (φ g j))) (fun j=>bx _)
  (fun u σ=>∃ ks vs o10 o11,σ=[some s0,some s1,some s2,some s3,o4,some s5,some (.dT ks vs),some s7,o8,some (.lst (hsL φ (Wy m g) g)),o10,o11,o12,o13]/\LS ψ ks vs (c+u.length*Wy m g) (Lx m g u.length 0))
  (List.range (Wy m g)) [] [some s0,some s1,some s2,some s3,o4,some s5,some (.dT ks vs),some s7,o8,some (.lst (hsL φ (Wy m g) g)),o10,o11,o12,o13] (by
   rintro u p v σ hu ⟨ks,vs,o10,o11,rfl,h⟩
   obtain⟨hk,hp⟩:=bQ (g:=id) (by simpa using hu)
   simp only[id]at hp
   subst hp
   have mu:u.length*Wy m g<=25:=Nat.le_trans (Nat.mul_le_mul (Nat.le_of_lt hk) (Nat.le_refl _)) (Nat.mul_le_mul w5 w5)
   obtain⟨ks',vs',o11',h',e⟩:=inner ej inj (by omega) (c:=c+u.length*Wy m g) hk (by omega) h s0 s1 s2 s3 s5 s7 o4 o8 o11 o12 o13
   refine⟨_,?_,ks',vs',some (.tup (L (φ g u.length))),o11',rfl,?_⟩
   ·have bt:aI [10] (.tup (L (φ g u.length))) [some s0,some s1,some s2,some s3,o4,some s5,some (.dT ks vs),some s7,o8,some (.lst (hsL φ (Wy m g) g)),o10,o11,o12,o13]=some [some s0,some s1,some s2,some s3,o4,some s5,some (.dT ks vs),some s7,o8,some (.lst (hsL φ (Wy m g) g)),some (.tup (L (φ g u.length))),o11,o12,o13]:=rfl
    rw[bt,Option.bind_some]
    exact cY (l3 (aa rfl) rfl) e aO
   ·rw[List.length_append,List.length_singleton]
    exact h'.mono (by rw[Nat.succ_mul];omega) (fun g' i' j' ⟨z,z1,z2⟩=>⟨by omega,z1,z2⟩)) ⟨ks,vs,o10,o11,rfl,h.mono (by simp) (fun _ _ _ z=>z)⟩
 rw[List.nil_append,List.length_range]at h'
 exact⟨ks',vs',o10',o11',h'.mono rfl (fun g' i' j' ⟨z,z1,z2⟩=>⟨by omega,z1,z2⟩),e⟩
theorem A3:∀ m,m<=4->∀ g,g<=4->Wy m g<=5:=by decide +kernel
theorem gone(ph:∀ g i,i<Wy m g->Sg 0 m g (φ g i) i)(ej:∀ g i j,i<Wy m g->j<Wy m g->ao T 29 21 [.tup (L (φ g i)),.tup (L (φ g j))]=some (.tup (L (ψ g i j))))(inj:∀ g i j g' i' j',i<Wy m g->j<Wy m g->i'<Wy m g'->j'<Wy m g'->ψ g i j=ψ g' i' j'->g=g'/\i=i'/\j=j')(h1:1<=m)(hm':m<=4){g c:Nat}(hg:g<=4)(hc:c<=1000){ks:List (List Ky)}{vs:List D}(h:LS ψ ks vs c (Lx m g 0 0))(s0 s1 s2 s3:D)(o4 o8 o9 o10 o11 o12 o13:Option D) :
  ∃ ks' vs' o9' o10' o11',LS ψ ks' vs' (c+Wy m g*Wy m g) (Lx m (g+1) 0 0)/\aj (ao T 29) [3,6] (lL 23 21 25 24 37 33 7 36) [some s0,some s1,some s2,some s3,o4,some (.int (m:Nat)),some (.dT ks vs),some (.int (g:Nat)),o8,o9,o10,o11,o12,o13] =
   some (.nx,[some s0,some s1,some s2,some s3,o4,some (.int (m:Nat)),some (.dT ks' vs'),some (.int (g:Nat)),o8,o9',o10',o11',o12,o13]):=by
 have w5:=A3 m hm' g hg
 have mc:=eJ (F:=fun σ1=>(ev (ao T 29) σ1 (.call 25 (.cons (.var 5) (.cons (.var 7) (.cons (.var 12) .nil))))).map some) (tg:=[12]) (σ:=[some s0,some s1,some s2,some s3,o4,some (.int (m:Nat)),some (.dT ks vs),some (.int (g:Nat)),o8,o9,o10,o11,o12,o13]) (h:=fun i:Nat=>.int (i:Nat)) (g:=fun i=>.tup (L (φ g i))) (fun i=>bx _) (List.range (Wy m g)) (by
  intro i hi
  have hi:=List.mem_range.mp hi
  show(ev (ao T 29) [some s0,some s1,some s2,some s3,o4,some (.int (m:Nat)),some (.dT ks vs),some (.int (g:Nat)),o8,o9,o10,o11,some (.int (i:Nat)),o13] (.call 25 (.cons (.var 5) (.cons (.var 7) (.cons (.var 12) .nil))))).map some=_
  rw[gh (aa rfl) (aa rfl) (aa rfl) (hm.of ck rfl 14 h1 (by omega) (ph g i hi))]
  rfl)
 obtain⟨ks',vs',o10',o11',h',e⟩:=middle ej inj hm' hc h s0 s1 s2 s3 (.int (m:Nat)) (.int (g:Nat)) o4 o8 o10 o11 o12 o13 w5
 exact⟨ks',vs',_,o10',o11',h',aB (d:=.lst (hsL φ (Wy m g) g)) (du (fI (bG (aa rfl) (aa rfl) (many h1 (by omega))) (dk (by omega))) (by rw[aF,List.length_range];unfold most;omega) mc) (by
   unfold bz
   rw[show aJ (.lst (hsL φ (Wy m g) g))=true from qQ _]
   show(_ || (true&&true) || _)=true
   rw[Bool.and_self,Bool.or_true,Bool.true_or]) (cY (l3 (aa rfl) rfl) e aO)⟩
end
noncomputable def cs(m:Nat):Nat->Nat
 | 0=>0
 | t+1=>cs m t+Wy m (m%2+2*t)*Wy m (m%2+2*t)
theorem zi:∀ m,m<=4->∀ t,t<=3->cs m t<=1000:=by decide +kernel
theorem xX:∀ m,m<=4->1<=m->cs m (m / 2+1)=Wy (2*m) 0:=by decide +kernel
theorem vC:∀ m:Nat,1<=m->m<=4->eW 2 (.int ((m%2:Nat):Int)) (.int ((m+1:Nat):Int))=some ((List.range (m / 2+1)).map fun t=>.int ((m%2+2*t:Nat):Int))
 | 1,_,_=>rfl
 | 2,_,_=>rfl
 | 3,_,_=>rfl
 | 4,_,_=>rfl
 | 0,h,_=>absurd h (by decide)
 | n+5,_,h=>by omega
theorem how{n:Nat}(h1:1<=n)(hn:n<=10):ao T 29 23 [.int (n:Nat)]=some (.int (Wy (2*n) 0:Nat)) :=
 (ah (fn:=jk 30 2) rfl).trans (a4 rfl rfl (cZ (aY (aa rfl) (ck.lA (cp:=2) rfl 25 h1 hn)) (a7 (bG (ai ag (aa rfl) (Av n)) ag (hm.toNm.Aa 26 hn)) (cI _))))
theorem lJ:∀ ys:List Nat,(ys.map Int.ofNat).sum=((ys.sum:Nat):Int)
 | []=>rfl
 | y::r=>by
  rw[List.map_cons,List.sum_cons,List.sum_cons,lJ r]
  rfl
theorem main(ns:List Int)(hl:ns.length<=63):ao T 30 38 [.scr (ns.map D.int)]=some (.bl true):=by
 obtain⟨ds,hd,e1⟩:=dg.digits hl 26 (k:=0) (sizes:=[10]) (by omega) (by simp) (by simp)
 obtain⟨p,rfl,hp⟩:=zL hd
 have n1:1<=1+p:=by omega
 have n2:1+p<=10:=by omega
 have e0:a8 .add (.int 1) (.int (p:Nat))=some (.int ((1+p:Nat):Int)):=rfl
 generalize 1+p=n at *
 have sz:ev (ao T 29) [some (.lst (LI ns)),some (.int (n:Nat)),none,none,none,none,none,none,none,none,none,none,none,none] (.compA (.call 24 (.cons (.var 1) (.cons (.var 7) .nil))) [7] (.rng1 (.bin .add (.var 1) (.cst (.int 1)))))=some (szs n):=by
  have mc:=eJ (F:=fun σ1=>(ev (ao T 29) σ1 (.call 24 (.cons (.var 1) (.cons (.var 7) .nil)))).map some) (tg:=[7]) (σ:=[some (.lst (LI ns)),some (.int (n:Nat)),none,none,none,none,none,none,none,none,none,none,none,none]) (h:=fun g:Nat=>.int (g:Nat)) (g:=fun g=>.int (Wy n g:Nat)) (fun _=>rfl) (List.range (n+1)) (by
   intro g _
   show(ev (ao T 29) [some (.lst (LI ns)),some (.int (n:Nat)),none,none,none,none,none,some (.int (g:Nat)),none,none,none,none,none,none] (.call 24 (.cons (.var 1) (.cons (.var 7) .nil)))).map some=_
   rw[bG (aa rfl) (aa rfl) (many n1 n2)]
   rfl)
  refine(du (fI (ai (aa rfl) ag (show a8 .add (.int (n:Nat)) (.int 1)=some (.int ((n+1:Nat):Int))from rfl)) (dk (by omega))) (by rw[aF,List.length_range];unfold most;omega) mc).trans ?_
  unfold szs L
  rw[List.map_map]
  rfl
 have sq:ev (ao T 29) [some (.lst (LI ns)),some (.int (n:Nat)),some (szs n),none,none,none,none,none,none,none,none,none,none,none] (.bi .sum (.compA (.bin .mul (.var 13) (.var 13)) [13] (.seq (.var 2))))=some (.int (Wy (2*n) 0:Nat)):=by
  have mc:=eJ (F:=fun σ1=>(ev (ao T 29) σ1 (.bin .mul (.var 13) (.var 13))).map some) (tg:=[13]) (σ:=[some (.lst (LI ns)),some (.int (n:Nat)),some (szs n),none,none,none,none,none,none,none,none,none,none,none]) (h:=fun x:Nat=>.int (x:Nat)) (g:=fun x=>.int ((x*x:Nat):Int)) (fun _=>rfl) ((List.range (n+1)).map (Wy n)) (by
   intro x hx
   have xl:x<1000:=by
    obtain⟨g,_,rfl⟩:=List.mem_map.mp hx
    exact eQ n2
   have bt:aI [13] (.int (x:Nat)) [some (.lst (LI ns)),some (.int (n:Nat)),some (szs n),none,none,none,none,none,none,none,none,none,none,none]=some [some (.lst (LI ns)),some (.int (n:Nat)),some (szs n),none,none,none,none,none,none,none,none,none,none,some (.int (x:Nat))]:=rfl
   rw[bt,Option.bind_some,ai (aa rfl) (aa rfl) (bM (Int.lt_of_lt_of_le (b:=0) (by decide) (by omega)) (Int.lt_of_lt_of_le (b:=1000) (by omega) (by decide))),Option.map_some,Int.natCast_mul])
  refine br (du (l3 (aa rfl) rfl) (by rw[aF,List.length_map,List.length_range];unfold most;omega) mc) ?_
  have:((List.range (n+1)).map (Wy n)).map (fun x=>D.int ((x*x:Nat):Int))=L (((List.range (n+1)).map fun g=>Wy n g*Wy n g)):=by
   unfold L
   rw[List.map_map,List.map_map]
   rfl
  rw[this]
  show(cL _).map _=_
  rw[RM.qt,Option.map_some,lJ,vT n n2]
 obtain⟨σ1,l1,ks,vs,o4,o7,o8,o10,o11,rfl,F⟩:=lN (f:=aj (ao T 29) [3,6] (lW 23 21 25 24 37 33 7 36)) (tg:=[4]) (xs:=List.range 9) (σ:=[some (.lst (LI ns)),some (.int (n:Nat)),some (szs n),some (.dT [] []),none,none,none,none,none,none,none,none,none,none])
  (fun u σ=>∃ ks vs o4 o7 o8 o10 o11,σ=[some (.lst (LI ns)),some (.int (n:Nat)),some (szs n),some (.dT ks vs),o4,none,none,o7,o8,none,o10,o11,none,none]/\DF ks vs u.length (Rn n)) ⟨[],[],none,none,none,none,none,rfl,⟨rfl,Nat.le_refl _,fun J v e=>by cases e⟩⟩ (by
  rintro u x v σ hx ⟨ks,vs,o4,o7,o8,o10,o11,rfl,F⟩
  have hx9:x<9:=by
   have:x∈List.range 9:=by rw[hx];simp
   exact List.mem_range.mp this
  have hu:u.length<=100:=by
   have:=congrArg List.length hx
   simp at this
   omega
  obtain⟨ks',vs',o7',o8',o10',o11',F',e⟩:=turn hl n1 n2 hx9 F hu o7 o8 o10 o11
  refine⟨_,?_,ks',vs',some (.int (x:Nat)),o7',o8',o10',o11',rfl,by rw[List.length_append];exact F'⟩
  have bt:aI [4] (.int (x:Nat)) [some (.lst (LI ns)),some (.int (n:Nat)),some (szs n),some (.dT ks vs),o4,none,none,o7,o8,none,o10,o11,none,none]=some [some (.lst (LI ns)),some (.int (n:Nat)),some (szs n),some (.dT ks vs),some (.int (x:Nat)),none,none,o7,o8,none,o10,o11,none,none]:=rfl
  rw[bt,Option.bind_some]
  exact e)
 have m1:1<=1+n%4:=by omega
 have m2:1+n%4<=4:=by omega
 have em:a8 .add (.int 1) (.int ((n%4:Nat):Int))=some (.int ((1+n%4:Nat):Int)):=rfl
 have e4:a8 .mod (.int (n:Nat)) (.int 4)=some (.int ((n%4:Nat):Int)):=by rw[dE (by decide)];rfl
 generalize 1+n%4=m at *
 obtain⟨φ,ψ,ph,ej,inj⟩:=vz m1 (by omega)
 obtain⟨σ2,l2,ks2,vs2,p7,p9,p10,p11,rfl,H2⟩:=dF (f:=aj (ao T 29) [3,6] (lL 23 21 25 24 37 33 7 36)) (tg:=[7]) (fun t:Nat=>.int ((m%2+2*t:Nat):Int)) (fun _=>rfl)
  (fun u σ=>∃ ks2 vs2 p7 p9 p10 p11,σ=[some (.lst (LI ns)),some (.int (n:Nat)),some (szs n),some (.dT ks vs),o4,some (.int (m:Nat)),some (.dT ks2 vs2),p7,o8,p9,p10,p11,none,none]/\LS ψ ks2 vs2 (cs m u.length) (Lx m (m%2+2*u.length) 0 0))
  (List.range (m / 2+1)) [] [some (.lst (LI ns)),some (.int (n:Nat)),some (szs n),some (.dT ks vs),o4,some (.int (m:Nat)),some (.dT [] []),o7,o8,none,o10,o11,none,none] (by
   rintro u x v σ hu ⟨ks2,vs2,p7,p9,p10,p11,rfl,H2⟩
   obtain⟨hk,hp⟩:=bQ (g:=id) (by simpa using hu)
   simp only[id]at hp
   subst hp
   obtain⟨ks3,vs3,q9,q10,q11,H3,e⟩:=gone ph ej inj m1 m2 (g:=m%2+2*u.length) (by omega) (zi m m2 u.length (by omega)) H2 (.lst (LI ns)) (.int (n:Nat)) (szs n) (.dT ks vs) o4 o8 p9 p10 p11 none none
   refine⟨_,?_,ks3,vs3,some (.int ((m%2+2*u.length:Nat):Int)),q9,q10,q11,rfl,?_⟩
   ·have bt:aI [7] (.int ((m%2+2*u.length:Nat):Int)) [some (.lst (LI ns)),some (.int (n:Nat)),some (szs n),some (.dT ks vs),o4,some (.int (m:Nat)),some (.dT ks2 vs2),p7,o8,p9,p10,p11,none,none]=some [some (.lst (LI ns)),some (.int (n:Nat)),some (szs n),some (.dT ks vs),o4,some (.int (m:Nat)),some (.dT ks2 vs2),some (.int ((m%2+2*u.length:Nat):Int)),o8,p9,p10,p11,none,none]:=rfl
    rw[bt,Option.bind_some]
    exact e
   ·rw[List.length_append,List.length_singleton]
    exact H3.mono (by rw[cs]) (fun g' i' j' ⟨z,z1,z2⟩=>⟨by omega,z1,z2⟩)) ⟨[],[],o7,none,o10,o11,rfl,⟨rfl,rfl,fun k hk=>by cases hk⟩⟩
 rw[List.nil_append,List.length_range,xX m m2 m1]at H2
 refine(ah (fn:=uO 23 21 25 24 37 33 7 36) rfl).trans (a4 rfl rfl (aB (uG (aa rfl) ag (zX hl)) (by simp[bz,D.imm,aJ,qk])
  (aB (gc (gh (aa rfl) ag (jh (a9 ag bF)) e1) ag rfl) (bD _) (aB (ai ag (aa rfl) e0) (bD _)
  (aB sz (by unfold bz szs;rw[show aJ (.lst (L ((List.range (n+1)).map (Wy n))))=true from bx _];rfl)
  (aX (aD (a5 (k:=false) sq (aY (aa rfl) (how n1 n2)) (by rw[pI,beq_self_eq_true];rfl)))
  (gW (show ev (ao T 29) _ .dt0=some (.dT [] []) by rw[ev]) rfl (cY (fI ag (dk (n:=9) (by decide))) l1
  (aB (ai ag (ai (aa rfl) ag e4) em) (bD _) (gW (show ev (ao T 29) _ .dt0=some (.dT [] []) by rw[ev]) rfl
  (cY (qL (ai (aa rfl) ag (by rw[dE (by decide)];rfl)) (ai (aa rfl) ag (show a8 .add (.int (m:Nat)) (.int 1)=some (.int ((m+1:Nat):Int))from rfl)) (vC m m1 m2)) l2
  (a7 (d:=.bl true) (a5 (br (aa rfl) (show biV .len (.dT ks2 vs2)=some (.int (Wy (2*m) 0:Nat)) by show some (D.int (ks2.length:Nat))=_;rw[H2.cnt])) (aY (aa rfl) (how m1 (by omega))) (by rw[cz,beq_self_eq_true])) rfl))))))))))))
end K20
namespace L2
open PySem PySem.Spec PyProof.Rows
abbrev Key:=Sum Int Str
def i7:Key->Value->Bool
 | .inl k,v=>Value.isInt k v
 | .inr x,v=>Value.isStrOf x v
def AF(w:World):Key->Int
 | .inl k=>hashInt k
 | .inr x=>hashStr w x
theorem b8:∀ {k:Key} {v:Value},i7 k v=true->(∃ i t,k=Sum.inl i/\v=Value.int i t)\/(∃ x t,k=Sum.inr x/\v=Value.str x t)
 | .inl i,v,h=>by
  obtain⟨t,e⟩:=Value.isInt_shape (k:=i) (v:=v) h
  exact .inl ⟨i,t,rfl,e⟩
 | .inr x,v,h=>by
  obtain⟨t,e⟩:=Value.isStrOf_shape (x:=x) (v:=v) h
  exact .inr ⟨x,t,rfl,e⟩
theorem qj(i:Int)(t:Tok):i7 (.inl i) (.int i t)=true:=by simp[i7,Value.isInt]
theorem qT(x:Str)(t:Tok):i7 (.inr x) (.str x t)=true:=by simp[i7,Value.isStrOf]
theorem yY(a b:Int):decide ((Sum.inl a:Key)=Sum.inl b)=(a == b):=by
 by_cases e:a=b
 ·subst e;simp
 ·have h:¬ (Sum.inl a:Key)=Sum.inl b:=fun q=>e (Sum.inl.inj q)
  rw[decide_eq_false h]
  exact(beq_eq_false_iff_ne.mpr e).symm
theorem xh(a b:Str):decide ((Sum.inr a:Key)=Sum.inr b)=decide (a=b):=by
 by_cases e:a=b
 ·subst e;simp
 ·have h:¬ (Sum.inr a:Key)=Sum.inr b:=fun q=>e (Sum.inr.inj q)
  rw[decide_eq_false h,decide_eq_false e]
theorem zj(a:Int)(b:Str):decide ((Sum.inl a:Key)=Sum.inr b)=false:=decide_eq_false (fun q=>nomatch q)
theorem yU(a:Str)(b:Int):decide ((Sum.inr a:Key)=Sum.inl b)=false:=decide_eq_false (fun q=>nomatch q)
def bq(prog:Program)(w:World):PySem.KeyKind prog w Key where
 is:=i7
 hash:=AF w
 inj:=fun v a b ha hb=>by
  rcases b8 ha with⟨i,t,rfl,rfl⟩ | ⟨x,t,rfl,rfl⟩
  ·rcases b8 hb with⟨j,u,rfl,e⟩ | ⟨y,u,rfl,e⟩
   ·injection e with e1 _;rw[e1]
   ·exact nomatch e
  ·rcases b8 hb with⟨j,u,rfl,e⟩ | ⟨y,u,rfl,e⟩
   ·exact nomatch e
   ·injection e with e1 _;rw[e1]
 byValue:=fun k v h=>by
  rcases b8 h with⟨i,t,rfl,rfl⟩ | ⟨x,t,rfl,rfl⟩<;>rfl
 pyHash:=fun hv h=>by
  rcases b8 hv with⟨i,t,rfl,rfl⟩ | ⟨x,t,rfl,rfl⟩
  ·exact wpAny_pyHash_int h
  ·exact wpAny_pyHash_str h
 eqBool:=fun hu hv h=>by
  rcases b8 hu with⟨i,t,rfl,rfl⟩ | ⟨x,t,rfl,rfl⟩
  ·rcases b8 hv with⟨j,u,rfl,rfl⟩ | ⟨y,u,rfl,rfl⟩
   ·rw[yY]at h;exact wpAny_eqBool_int h
   ·rw[zj]at h;exact SeqAt.EqAt.int_str i t y u _ _ _ _ h
  ·rcases b8 hv with⟨j,u,rfl,rfl⟩ | ⟨y,u,rfl,rfl⟩
   ·rw[yU]at h;exact SeqAt.EqAt.str_int x t j u _ _ _ _ h
   ·rw[xh]at h;exact wpAny_eqBool_str h
 «strs»:=fun k x t v h=>by
  rcases b8 h with⟨i,u,rfl,e⟩ | ⟨y,u,rfl,e⟩
  ·exact nomatch e
  ·injection e with e1 _
   subst e1
   cases v<;>rfl
theorem nL(prog:Program)(w:World)(i:Int)(t:Tok):(bq prog w).is (.inl i) (.int i t)=true:=qj i t
theorem nG(prog:Program)(w:World)(x:Str)(t:Tok):(bq prog w).is (.inr x) (.str x t)=true:=qT x t
inductive V where
 | non | bl (b:Bool) | int (i:Int) | str (x:Str) | byt (b:Array UInt8) | flt (b:UInt64) | ref (a:Addr) | ty (n:String)
 deriving DecidableEq
def RelV:V->Value->Prop
 | .non,u=>u=Value.none
 | .bl b,u=>u=Value.bool b
 | .int i,u=>∃ t,u=Value.int i t
 | .str x,u=>∃ t,u=Value.str x t
 | .byt b,u=>∃ t,u=Value.bytes b t
 | .flt b,u=>∃ t,u=Value.float b t
 | .ref a,u=>u=Value.ref a
 | .ty n,u=>u=Value.type n
abbrev Vals:List V->List Value->Prop:=Paired RelV
theorem Vals.length{xs:List V}{us:List Value}(r:Vals xs us):xs.length=us.length:=Paired.length r
theorem Vals.get:∀ {xs:List V} {us:List Value} {i:Nat} {x:V},Vals xs us->xs[i]?=some x->∃ u,us[i]?=some u/\RelV x u
 | _,_,_,_,.nil,e=>by simp at e
 | _,_,0,_,.cons r _,e=>by simp at e;subst e;exact⟨_,rfl,r⟩
 | _,_,i+1,x,.cons _ t,e=>by
  obtain⟨u,h1,h2⟩:=Vals.get (i:=i) (x:=x) t (by simpa using e)
  exact⟨u,by simpa using h1,h2⟩
theorem Vals.set{x:V}{u:Value}(r:RelV x u):∀ {xs:List V} {us:List Value} (i:Nat),Vals xs us->Vals (xs.set i x) (us.set i u)
 | _,_,_,.nil=>.nil
 | _,_,0,.cons _ t=>.cons r t
 | _,_,i+1,.cons q t=>.cons q (Vals.set r i t)
theorem Vals.append:∀ {xs ys:List V} {us ws:List Value},Vals xs us->Vals ys ws->Vals (xs++ys) (us++ws)
 | _,_,_,_,.nil,s=>s
 | _,_,_,_,.cons r t,s=>.cons r (Vals.append t s)
theorem Vals.take:∀ {xs:List V} {us:List Value} (n:Nat),Vals xs us->Vals (xs.take n) (us.take n)
 | _,_,0,_=>.nil
 | _,_,_+1,.nil=>.nil
 | _,_,n+1,.cons r t=>.cons r (Vals.take n t)
theorem Vals.drop:∀ {xs:List V} {us:List Value} (n:Nat),Vals xs us->Vals (xs.drop n) (us.drop n)
 | _,_,0,r=>r
 | _,_,_+1,.nil=>.nil
 | _,_,n+1,.cons _ t=>Vals.drop n t
def gf:Option V->Option Value->Prop
 | some v,some u=>RelV v u
 | none,none=>True
 | _,_=>False
def KV{κ:Type}:List (κ × V)->List (κ × Value)->Prop:=Paired fun(p:κ × V) (q:κ × Value)=>p.1=q.1/\RelV p.2 q.2
def kV:Key->V
 | .inl i=>.int i
 | .inr x=>.str x
inductive HO where
  | lst (xs:List V)
  | tup (xs:List V)
  | dK (kvs:List (Key × V)) | dT (kvs:List (List Key × V))
  | set (S:Int->Bool) (n:Nat)
  | ins (C dx:Addr) (fs:List (Str × V))
  | own (x:Addr)
  | xd (fs:List (Str × V))
  | met (f x:Addr)
  | rng (lo hi:Int)
  | frz (o:Obj) (u:HO)
  | tbl (ps:Array Value)
  | ext (φ:Heap->Prop)
abbrev Hp:=Addr->Option HO
def upd(H:Hp)(a:Addr)(o:HO):Hp:=fun b=>if b=a then some o else H b
theorem bb{H:Hp}{a:Addr}{o:HO}:upd H a o a=some o:=by unfold upd;rw[if_pos rfl]
theorem aH{H:Hp}{a b:Addr}{o:HO}(h:b≠a):upd H a o b=H b:=by unfold upd;rw[if_neg h]
theorem qc{H:Hp}{a b:Addr}{o u:HO}(h:H a=some o)(h':H b=some u)(d:o≠u):a≠b:=by
 intro e;subst e;rw[h]at h';exact d (Option.some.inj h')
theorem aG{H:Hp}{a b:Addr}{o:HO}(h:H a=some o)(h':H b=none):a≠b:=by
 intro e;subst e;rw[h]at h';cases h'
section
variable(P:Program)(w:World)
def aV(H:Hp)(h:Heap)(a:Addr):HO->Prop
 | .lst xs=>xs.length<=sizeLine/\∃ (its:List Value) (n:Nat),Vals xs its/\h.get? a=some { cls:=.type "list",data:=.seq its.toArray n }
 | .tup xs=>xs.length<=sizeLine/\∃ its:List Value,Vals xs its/\IsTup h a its.toArray
 | .dK kvs=>kvs.length<=sizeLine/\(a == sysModules)=false/\∃ vs,KV kvs vs/\h.DictOf (bq P w) a vs
 | .dT kvs=>kvs.length<=sizeLine/\(a == sysModules)=false/\∃ xs:List (List Key × Addr × Value),
   Paired (fun(p:List Key × V) (q:List Key × Addr × Value)=>p.1=q.1/\H q.2.1=some (.tup (p.1.map kV))/\RelV p.2 q.2.2) kvs xs /\
   ∃ o es ep,h.get? a=some o/\o.ExactDict/\o.data=.dict es ep/\es.toList=xs.map (entryOfKey (tupleKind (bq P w)))/\(xs.map (·.1)).Nodup
 | .set S n=>h.SetOf (intKind P w) a S n
 | .ins C dx fs=>H dx=some (.own a)/\fs.length<=1000/\dx≠a/\h.get? a=some (PySem.W.instObj C dx) /\
   ∃ mA,h.Ns1 dx mA/\(∀ f,gf (fs.lookup f) (mA f))/\PySem.Within mA (fs.map (·.1))
 | .own _=>∃ o,h.get? a=some o
 | .xd fs=>∃ mA,h.Ns1 a mA/\∀ f,gf (fs.lookup f) (mA f)
 | .rng lo hi=>∃ t u v,h.get? a=some { cls:=.type "range",data:=.fields #[.int lo t,.int hi u,.int 1 v] }
 | .frz o u=>h.get? a=some o/\aV H h a u
 | .tbl ps=>h.get? a=some { cls:=.none,data:=.fields ps }
 | .met f x=>h.get? a=some (PySem.W.methodObj (.ref f) (.ref x))
 | .ext φ=>φ h/\(∃ o,h.get? a=some o)/\∀ h1 h2:Heap,φ h1->(∀ o,h1.get? a=some o->h2.get? a=some o)->φ h2
def HOk(H:Hp)(h:Heap):Prop:=∀ a o,H a=some o->aV P w H h a o
end
section
variable{P:Program}{w:World}{H H':Hp}{h h':Heap}{a:Addr}{o:HO}
theorem aV.lt(x:aV P w H h a o):a<h.objs.size:=by
 cases o with
 | lst xs=>obtain⟨_,_,_,_,e⟩:=x;exact Heap.lt_size e
 | tup xs=>obtain⟨_,_,_,p⟩:=x;exact p.lt
 | dK kvs=>obtain⟨_,_,_,_,o,_,_,e,_⟩:=x;exact Heap.lt_size e
 | dT kvs=>obtain⟨_,_,_,_,o,_,_,e,_⟩:=x;exact Heap.lt_size e
 | set S n=>obtain⟨o,_,_,_,e,_⟩:=x;exact Heap.lt_size e
 | ins C dx fs=>obtain⟨_,_,_,e,_⟩:=x;exact Heap.lt_size e
 | own y=>obtain⟨_,e⟩:=x;exact Heap.lt_size e
 | xd fs=>obtain⟨_,⟨_,_,_,e,_⟩,_⟩:=x;exact Heap.lt_size e
 | rng lo hi=>obtain⟨_,_,_,e⟩:=x;exact Heap.lt_size e
 | frz ob u=>obtain⟨e,_⟩:=x;exact Heap.lt_size e
 | tbl ps=>exact Heap.lt_size (show h.get? a=some _ from x)
 | met f y=>exact Heap.lt_size (show h.get? a=some _ from x)
 | ext φ=>obtain⟨_,⟨_,e⟩,_⟩:=x;exact Heap.lt_size e
theorem Paired.sy{α β:Type}{F G:α->β->Prop}:∀ {l₁:List α} {l₂:List β},Paired F l₁ l₂->(∀ a b,F a b->G a b)->Paired G l₁ l₂
 | _,_,.nil,_=>.nil
 | _,_,.cons r t,f=>.cons (f _ _ r) (Paired.sy t f)
theorem aV.bE(x:aV P w H h a o)(k:∀ b u,(b=a\/H b=some (.own a))->h.get? b=some u->h'.get? b=some u)
 (ho:∀ b,H b=some (.own a)->H' b=some (.own a))(ht:∀ b xs,H b=some (.tup xs)->H' b=some (.tup xs)):aV P w H' h' a o:=by
 induction o with
 | lst xs=>obtain⟨z,its,n,r,e⟩:=x;exact⟨z,its,n,r,k _ _ (.inl rfl) e⟩
 | tup xs=>obtain⟨z,its,r,ob,e,c⟩:=x;exact⟨z,its,r,ob,k _ _ (.inl rfl) e,c⟩
 | dK kvs=>obtain⟨z,y,vs,r,ob,es,ep,e,c⟩:=x;exact⟨z,y,vs,r,ob,es,ep,k _ _ (.inl rfl) e,c⟩
 |dT kvs=>
  obtain⟨z,y,xs,r,ob,es,ep,e,c⟩:=x
  exact⟨z,y,xs,Paired.sy r fun p q z=>⟨z.1,ht _ _ z.2.1,z.2.2⟩,ob,es,ep,k _ _ (.inl rfl) e,c⟩
 | set S n=>obtain⟨ob,es,ep,t,e,c⟩:=x;exact⟨ob,es,ep,t,k _ _ (.inl rfl) e,c⟩
 |ins C dx fs=>
  obtain⟨d,z,ne,e,mA,⟨od,es,ep,e2,c⟩,r⟩:=x
  exact⟨ho _ d,z,ne,k _ _ (.inl rfl) e,mA,⟨od,es,ep,k _ _ (.inr d) e2,c⟩,r⟩
 | own y=>obtain⟨ob,e⟩:=x;exact⟨ob,k _ _ (.inl rfl) e⟩
 | xd fs=>obtain⟨mA,⟨od,es,ep,e,c⟩,r⟩:=x;exact⟨mA,⟨od,es,ep,k _ _ (.inl rfl) e,c⟩,r⟩
 | rng lo hi=>obtain⟨t,u,v,e⟩:=x;exact⟨t,u,v,k _ _ (.inl rfl) e⟩
 | frz ob u ih=>obtain⟨e,q⟩:=x;exact⟨k _ _ (.inl rfl) e,ih q⟩
 |tbl ps=>
  have e:h.get? a=some { cls:=.none,data:=.fields ps }:=x
  show h'.get? a=some { cls:=.none,data:=.fields ps }
  exact k a _ (.inl rfl) e
 |met f y=>
  have e:h.get? a=some (PySem.W.methodObj (.ref f) (.ref y)):=x
  show h'.get? a=some (PySem.W.methodObj (.ref f) (.ref y))
  exact k a _ (.inl rfl) e
 | ext φ=>obtain⟨p,⟨o,e⟩,st⟩:=x;exact⟨st _ _ p fun o q=>k _ _ (.inl rfl) q,⟨o,k _ _ (.inl rfl) e⟩,st⟩
theorem HOk.lt(x:HOk P w H h)(e:H a=some o):a<h.objs.size:=(x a o e).lt
theorem HOk.fresh(x:HOk P w H h)(e:h.objs.size<=a):H a=none:=by
 cases q:H a with
 | none=>rfl
 | some u=>exact absurd (Nat.lt_of_lt_of_le (x.lt q) e) (Nat.lt_irrefl _)
theorem HOk.kept(x:HOk P w H h)(k:∀ b u,h.get? b=some u->h'.get? b=some u):HOk P w H h':=fun a o e =>
 (x a o e).bE (fun b u _ q=>k b u q) (fun _ q=>q) fun _ _ q=>q
theorem HOk.laid(x:HOk P w H h)(k:∀ b u,h.get? b=some u->h'.get? b=some u)(hp:h.objs.size<=a)(new:aV P w (upd H a o) h' a o):HOk P w (upd H a o) h':=fun b u e=>by
 have hn:=x.fresh hp
 by_cases hb:b=a
 ·subst hb;rw[bb]at e;cases e;exact new
 ·rw[aH hb]at e
  exact(x b u e).bE (fun c v _ q=>k c v q) (fun c q=>by rw[aH (aG q hn)];exact q) fun c xs q=>by rw[aH (aG q hn)];exact q
end
def Rd(H:Hp)(a:Addr)(u:HO):Prop:=H a=some u\/∃ o,H a=some (.frz o u)
theorem Rd.ok{P:Program}{w:World}{H:Hp}{h:Heap}{a:Addr}{u:HO}(r:Rd H a u)(x:HOk P w H h):aV P w H h a u:=by
 rcases r with r | ⟨o,r⟩
 ·exact x a u r
 ·obtain⟨_,q⟩:=x a _ r
  exact q
def Mut:Option HO->Prop
 | some (.lst _)=>True
 | some (.dK _)=>True
 | some (.dT _)=>True
 | some (.set _ _)=>True
 | some (.ins _ _ _)=>True
 | some (.ext _)=>True
 | _=>False
section
variable{P:Program}{w:World}{H:Hp}{h h':Heap}{x e:Addr}{o':HO}
theorem HOk.write(ok:HOk P w H h)(mu:Mut (H x))(he:e=x\/H e=some (.own x))(k:∀ b u,b≠e->h.get? b=some u->h'.get? b=some u)(heo:∃ u,h'.get? e=some u)
 (new:aV P w (upd H x o') h' x o'):HOk P w (upd H x o') h':=fun b u q=>by
 have nown:∀ c y,H c=some (.own y)->c≠x:=fun c y r z=>by subst z;rw[r]at mu;exact mu
 have ntup:∀ c xs,H c=some (.tup xs)->c≠x:=fun c xs r z=>by subst z;rw[r]at mu;exact mu
 by_cases hb:b=x
 ·subst hb;rw[bb]at q;cases q;exact new
 ·rw[aH hb]at q
  by_cases hbe:b=e
  ·have q':H b=some (.own x):=by
    rcases he with z | z
    ·exact absurd (hbe.trans z) hb
    ·rw[hbe];exact z
   rw[q]at q';cases q'
   obtain⟨v,hv⟩:=heo
   exact⟨v,by rw[hbe];exact hv⟩
  ·refine(ok b u q).bE (fun c v hc r=>k c v ?_ r) (fun c r=>by rw[aH (nown c b r)];exact r) fun c xs r=>by rw[aH (ntup c xs r)];exact r
   rcases hc with rfl | hc
   ·exact hbe
   ·rintro rfl
    rcases he with z | z
    ·exact nown c b hc z
    ·rw[hc]at z;cases z;exact hb rfl
end
structure Un(fs ex:List Addr)(H H':Hp)(h h':Heap):Prop where
 keep:∀ b o,h.get? b=some o->H b=none->b∉fs->b∉ex->h'.get? b=some o
 slot:∀ b o,h.get? b=some o->H b=none->b∈fs->b∉ex->∃ sl,h'.get? b=some { o with slots:=sl }
 free:∀ b o,h.get? b=some o->H b=none->b∉ex->H' b=none
 there:∀ b o,h.get? b=some o->b∉ex->∃ o',h'.get? b=some o'
 gM:∀ b xs,H b=some (.tup xs)->H' b=some (.tup xs)
 fY:∀ b o u,H b=some (.frz o u)->H' b=some (.frz o u)
 gI:∀ b ps,H b=some (.tbl ps)->∃ more,H' b=some (.tbl (ps++more))
section
variable{fs fs' ex ex':List Addr}{H H1 H2:Hp}{h h1 h2 h':Heap}{a x e:Addr}{o:HO}
theorem Un.any(u:Un fs ex H H1 h h1){b:Addr}{ob:Obj}(q:h.get? b=some ob)(n:H b=none)(hx:b∉ex):∃ sl,h1.get? b=some { ob with slots:=sl }:=by
 by_cases hb:b∈fs
 ·exact u.slot b ob q n hb hx
 ·exact⟨ob.slots,u.keep b ob q n hb hx⟩
theorem Un.kept(k:∀ b u,h.get? b=some u->h'.get? b=some u):Un fs ex H H h h' :=
 ⟨fun b ob q _ _ _=>k b ob q,fun b ob q _ _ _=>⟨ob.slots,k b ob q⟩,fun _ _ _ n _=>n,fun b ob q _=>⟨ob,k b ob q⟩,fun _ _ q=>q,fun _ _ _ q=>q,fun _ ps q=>⟨#[],by rw[q];simp⟩⟩
theorem Un.refl:Un fs ex H H h h:=Un.kept fun _ _ q=>q
theorem Un.laid(k:∀ b u,h.get? b=some u->h'.get? b=some u)(hp:h.objs.size<=a)(hn:H a=none):Un fs ex H (upd H a o) h h' where
 keep:=fun b u q _ _ _=>k b u q
 slot:=fun b u q _ _ _=>⟨u.slots,k b u q⟩
 free:=fun b u q n _=>by rw[aH (Nat.ne_of_lt (Nat.lt_of_lt_of_le (Heap.lt_size q) hp))];exact n
 there:=fun b u q _=>⟨u,k b u q⟩
 gM:=fun b xs q=>by rw[aH (aG q hn)];exact q
 fY:=fun b u xs q=>by rw[aH (aG q hn)];exact q
 gI:=fun b ps q=>⟨#[],by rw[aH (aG q hn),q];simp⟩
theorem Un.write(mu:Mut (H x))(he:e=x\/H e=some (.own x))(k:∀ b u,b≠e->h.get? b=some u->h'.get? b=some u)(heo:∃ u,h'.get? e=some u):Un fs ex H (upd H x o) h h':=by
 have hx:∀ b,H b=none->b≠x:=fun b n z=>by subst z;rw[n]at mu;exact mu
 have hb:∀ b,H b=none->b≠e:=fun b n z=>by
  subst z
  rcases he with r | r
  ·exact hx b n r
  ·rw[n]at r;cases r
 have hm:∀ b u,H b=some u->¬ Mut (some u)->b≠x:=fun b u q nm z=>by subst z;rw[q]at mu;exact nm mu
 refine⟨fun b u q n _ _=>k b u (hb b n) q,fun b u q n _ _=>⟨u.slots,k b u (hb b n) q⟩,fun b u q n _=>by rw[aH (hx b n)];exact n,fun b u q _=>?_,
  fun b xs q=>by rw[aH (hm b _ q fun z=>z)];exact q,fun b u xs q=>by rw[aH (hm b _ q fun z=>z)];exact q,fun b ps q=>⟨#[],by rw[aH (hm b _ q fun z=>z),q];simp⟩⟩
 by_cases hbe:b=e
 ·subst hbe;exact heo
 ·exact⟨u,k b u hbe q⟩
end
def trk(h:Heap)(H:Hp):List Addr:=(List.range h.objs.size).filter fun a=>(H a).isSome
def gq(h:Heap)(H:Hp):Heap:=PySem.W.hideAll h (trk h H)
theorem q0(h:Heap)(H:Hp):(gq h H).objs.size=h.objs.size:=PySem.W.hideAll_size _ _
theorem um{h:Heap}{H:Hp}{b:Addr}{o:Obj}(e:h.get? b=some o)(n:H b=none):(gq h H).get? b=some o :=
 PySem.W.hideAll_get _ e fun hm=>by
  have q:(H b).isSome=true:=(List.mem_filter.mp hm).2
  rw[n]at q;simp at q
theorem uT{h:Heap}{H:Hp}{b:Addr}{o:Obj}(e:(gq h H).get? b=some o):h.get? b=some o/\H b=none:=by
 have e':h.get? b=some o:=PySem.W.of_hideAll (trk h H) e
 refine⟨e',?_⟩
 cases q:H b with
 | none=>rfl
 |some x=>
  have hm:b∈trk h H:=List.mem_filter.mpr ⟨List.mem_range.mpr (Heap.lt_size e'),by simp[q]⟩
  have z:(gq h H).get? b=none:=PySem.W.hideAll_none (trk h H) hm
  rw[z]at e;cases e
structure Mod(K:PySem.W.Frag)(mg:Str->Option Value)(base:Heap):Prop where
 kin:K.In base
 glob:base.Ns mainGlobals mg
 blt:∃ mb,base.Ns builtinsNs mb/\∀ x:Str,x ≠ "__name__" -> mb x=bootBuiltins x
 nolimit:base.NoLimit
structure Cx where
 prog:Program
 w:World
 K:PySem.W.Frag
 mg:Str->Option Value
 base:Heap
 A:Around
 N:List Str
 s₀:Shared
 H₀:Hp
 env:Env
 outer:List Env
 stack:List Env
 ex:List Addr
 fn:Str->Bool
 calm:Bool
 pn:List (Addr × Obj)
 xe:Value->Shared->Prop
def frs(l:List Env):List Addr:=l.filterMap (·.frame)
abbrev Cx.fs(X:Cx):List Addr:=frs X.outer
def Vis(sc:Scope)(x:Str):Prop:=sc.names.lookup x=some .local\/sc.names.lookup x=some .cell\/sc.names.lookup x=some .free
def Loc(sc:Scope)(x:Str):Prop:=sc.names.lookup x=some .local\/sc.names.lookup x=some .cell
def Look(env:Env)(h:Heap)(m:Str->Option Value)(x:Str)(u:Value):Prop :=
 (env.kindOf x=some .local/\m x=some u)\/((env.kindOf x=some .cell\/env.kindOf x=some .free)/\∃ c,env.cells.lookup x=some c/\h.IsCell c (some u))
structure Cx.Ok(X:Cx):Prop where
 mod:Mod X.K X.mg X.base
 kind:X.env.scope.kind=.function
 glob:X.env.globals=mainGlobals
 blt:X.env.builtins=builtinsNs
 above:X.s₀.heap.objs.size<=X.env.locals
 inj:∀ x y c,X.env.cells.lookup x=some c->X.env.cells.lookup y=some c->x=y
 has:∀ x,(X.env.kindOf x=some .cell\/X.env.kindOf x=some .free)->∃ c,X.env.cells.lookup x=some c
 cab:∀ x c,X.fn x=true->X.env.cells.lookup x=some c->X.s₀.heap.objs.size<=c
 hd:X.calm=true->X.A.handled=none
 frames:X.A.frames=some X.stack
 stk:X.stack=X.outer\/(X.stack=X.env::X.outer/\X.env.frame=some X.env.locals)
 exf:∀ b∈X.ex,b≠X.env.locals/\∀ x c,X.env.cells.lookup x=some c->c≠b
 bs:∀ b o,X.base.get? b=some o->X.s₀.heap.get? b=some o/\X.H₀ b=none
 bsz:X.base.objs.size<=X.s₀.heap.objs.size
 lP:∀ b o,X.base.get? b=some o->b∉X.ex
 nc:∀ b∈X.ex,b∉X.fs
 eM:X.s₀.heap.FunFrames X.base X.outer
 frf:∀ b∈X.fs,X.H₀ b=none
structure Inv(X:Cx)(pins:List (Addr × Obj))(σ:List (Option V))(H:Hp)(s:Shared):Prop where
 ok:X.Ok
 os:s.os=X.s₀.os
 bare:AllBare s.gens
 base:Un X.fs X.ex X.H₀ H X.s₀.heap s.heap
 loc:∃ m,s.heap.Ns X.env.locals m/\∀ (i:Nat) (x:Str) (v:V),X.N[i]?=some x->σ[i]?=some (some v)->Vis X.env.scope x->∃ u,RelV v u/\Look X.env s.heap m x u
 cell:∀ x c,X.env.cells.lookup x=some c->∃ v,s.heap.IsCell c v
 free:H X.env.locals=none
 da:∀ x c,X.env.cells.lookup x=some c->H c=none
 pin:∀ p∈X.pn++pins,s.heap.get? p.1=some p.2/\H p.1=none/\p.1≠X.env.locals/\p.1∉X.fs/\∀ v,p.2.data≠.cell v
 hok:HOk X.prog X.w H s.heap
 len:σ.length=X.N.length
section
variable{X:Cx}{pins:List (Addr × Obj)}{σ:List (Option V)}{H H':Hp}{s:Shared}{h':Heap}
theorem Cx.Ok.AJ(ok:X.Ok){b:Addr}{o:Obj}(e:X.base.get? b=some o):b∉X.fs:=fun hb=>by
 have:=(ok.eM.mem hb).1
 rw[e]at this;cases this
theorem Inv.bs(I:Inv X pins σ H s):∀ b o,X.base.get? b=some o->s.heap.get? b=some o/\H b=none:=fun b o e =>
 ⟨I.base.keep b o (I.ok.bs b o e).1 (I.ok.bs b o e).2 (I.ok.AJ e) (I.ok.lP b o e),I.base.free b o (I.ok.bs b o e).1 (I.ok.bs b o e).2 (I.ok.lP b o e)⟩
theorem Inv.bk(I:Inv X pins σ H s):∀ b o,X.base.get? b=some o->s.heap.get? b=some o:=fun b o e=>(I.bs b o e).1
theorem Inv.mod(I:Inv X pins σ H s):Mod X.K X.mg X.base:=I.ok.mod
theorem Inv.kIn(I:Inv X pins σ H s):X.K.In s.heap:=I.ok.mod.kin.keeps I.bk
theorem Inv.lt(I:Inv X pins σ H s):X.env.locals<s.heap.objs.size:=let ⟨_,hn,_⟩:=I.loc;hn.lt
theorem Inv.sz(I:Inv X pins σ H s):X.s₀.heap.objs.size<=s.heap.objs.size:=Nat.le_trans I.ok.above (Nat.le_of_lt I.lt)
theorem Inv.Bk(I:Inv X pins σ H s){a:Addr}(h:s.heap.objs.size<=a):a∉X.fs:=fun hb=>by
 obtain⟨_,o,ho,_⟩:=I.ok.eM.mem hb
 exact absurd (Nat.lt_of_lt_of_le (Heap.lt_size ho) (Nat.le_trans I.sz h)) (Nat.lt_irrefl _)
theorem Inv.cne(I:Inv X pins σ H s):∀ x c,X.env.cells.lookup x=some c->c≠X.env.locals:=fun x c e z=>by
 obtain⟨v,o,ho,hd⟩:=I.cell x c e
 obtain⟨m,⟨o',es,ep,ho',hd',_⟩,_⟩:=I.loc
 rw[z,ho']at ho;cases ho;rw[hd']at hd;cases hd
theorem Inv.eM(I:Inv X pins σ H s):s.heap.FunFrames X.base X.outer:=by
 have all:∀ (l:List Env),(∀ b∈frs l,b∈X.fs)->X.s₀.heap.FunFrames X.base l->s.heap.FunFrames X.base l:=by
  intro l
  induction l with
  | nil=>intro _ _;trivial
  |cons env r ih=>
   intro hs hl
   obtain⟨hk,⟨L,o,hf,hn,ho,hd⟩,hr⟩:=hl
   have hL:L∈X.fs:=hs L (by unfold frs;rw[List.filterMap_cons,hf];exact List.mem_cons_self)
   obtain⟨sl,e⟩:=I.base.slot L o ho (I.ok.frf L hL) hL fun z=>I.ok.nc L z hL
   exact⟨hk,⟨L,_,hf,hn,e,hd⟩,ih (fun b hb=>hs b (by unfold frs;rw[List.filterMap_cons,hf];exact List.mem_cons_of_mem _ hb)) hr⟩
 exact all X.outer (fun _ hb=>hb) I.ok.eM
theorem Inv.stack(I:Inv X pins σ H s):s.heap.FunFrames X.base X.stack:=by
 rcases I.ok.stk with e | ⟨e,hf⟩
 ·rw[e];exact I.eM
 ·rw[e]
  obtain⟨m,hn,_⟩:=I.loc
  refine .cons (by rw[I.ok.kind];decide) hf hn ?_ I.eM
  exact Heap.get?_none_of_le (Nat.le_trans I.ok.bsz I.ok.above)
theorem Inv.ny(I:Inv X pins σ H s):∀ b∈frs X.stack,b∈X.env.locals::X.fs:=fun b hb=>by
 rcases I.ok.stk with e | ⟨e,hf⟩
 ·rw[e]at hb;exact List.mem_cons_of_mem _ hb
 ·rw[e]at hb
  unfold frs at hb
  rw[List.filterMap_cons,hf]at hb
  exact hb
theorem Inv.nX(I:Inv X pins σ H s):∀ b∈frs X.stack,H b=none:=fun b hb=>by
 rcases List.mem_cons.mp (I.ny b hb)with e | hb
 ·rw[e];exact I.free
 ·obtain⟨_,o,ho,_⟩:=I.ok.eM.mem hb
  exact I.base.free b o ho (I.ok.frf b hb) fun z=>I.ok.nc b z hb
theorem Inv.step{g':Array GenState}{t':Nat}{d':Drawn}{ch:List Addr}(I:Inv X pins σ H s)
 (hch:∀ b∈ch,(b∈X.ex\/X.s₀.heap.objs.size<=b)/\b≠X.env.locals/\(∀ x c,X.env.cells.lookup x=some c->c≠b)/\∀ p∈X.pn++pins,p.1≠b)
 (keep:∀ b o,b≠X.env.locals->b∉X.fs->b∉ch->s.heap.get? b=some o->H b=none->h'.get? b=some o)
 (slot:∀ b o,b≠X.env.locals->b∈X.fs->b∉ch->s.heap.get? b=some o->H b=none->∃ sl,h'.get? b=some { o with slots:=sl })(free:∀ b o,b∉ch->s.heap.get? b=some o->H b=none->H' b=none)
 (there:∀ b o,b∉ch->s.heap.get? b=some o->∃ o',h'.get? b=some o')
 (gM:∀ b xs,H b=some (.tup xs)->H' b=some (.tup xs))(fY:∀ b o u,H b=some (.frz o u)->H' b=some (.frz o u))(gI:∀ b ps,H b=some (.tbl ps)->∃ more,H' b=some (.tbl (ps++more)))
 (ns:∀ m,s.heap.Ns X.env.locals m->h'.Ns X.env.locals m)(hok:HOk X.prog X.w H' h')(hg:AllBare g') :
  Inv X pins σ H' { s with heap:=h',gens:=g',drawn:=d',toks:=t' }:=by
 have neL:∀ b o,X.s₀.heap.get? b=some o->b≠X.env.locals:=fun b o e=>Nat.ne_of_lt (Nat.lt_of_lt_of_le (Heap.lt_size e) I.ok.above)
 have neC:∀ b o,X.s₀.heap.get? b=some o->b∉X.ex->b∉ch:=fun b o e hx hb=>by
  rcases(hch b hb).1 with z | z
  ·exact hx z
  ·exact absurd (Nat.lt_of_lt_of_le (Heap.lt_size e) z) (Nat.lt_irrefl _)
 have cellK:∀ x c,X.env.cells.lookup x=some c->∀ v,s.heap.IsCell c v->h'.IsCell c v:=fun x c e v ⟨o,ho,hd⟩=>by
  have nch:c∉ch:=fun z=>(hch c z).2.2.1 x c e rfl
  by_cases hc:c∈X.fs
  ·obtain⟨sl,q⟩:=slot c o (I.cne x c e) hc nch ho (I.da x c e)
   exact⟨_,q,hd⟩
  ·exact⟨o,keep c o (I.cne x c e) hc nch ho (I.da x c e),hd⟩
 refine⟨I.ok,I.os,hg,⟨fun b o e n hb hx=>?_,fun b o e n hb hx=>?_,fun b o e n hx=>?_,fun b o e hx=>?_,fun b xs e=>gM b xs (I.base.gM b xs e),fun b o xs e=>fY b o xs (I.base.fY b o xs e),fun b ps e=>?_⟩,?_,fun x c e=>?_,?_,fun x c e=>?_,fun p hp=>?_,hok,I.len⟩
 ·exact keep b o (neL b o e) hb (neC b o e hx) (I.base.keep b o e n hb hx) (I.base.free b o e n hx)
 ·obtain⟨sl,e1⟩:=I.base.slot b o e n hb hx
  obtain⟨sl',e2⟩:=slot b _ (neL b o e) hb (neC b o e hx) e1 (I.base.free b o e n hx)
  exact⟨sl',e2⟩
 ·obtain⟨o',e1⟩:=I.base.there b o e hx
  exact free b o' (neC b o e hx) e1 (I.base.free b o e n hx)
 ·obtain⟨o',e1⟩:=I.base.there b o e hx
  exact there b o' (neC b o e hx) e1
 ·obtain⟨m1,e1⟩:=I.base.gI b ps e
  obtain⟨m2,e2⟩:=gI b _ e1
  exact⟨m1++m2,by rw[e2,Array.append_assoc]⟩
 ·obtain⟨m,hn,hl⟩:=I.loc
  refine⟨m,ns m hn,fun i x v e1 e2 e3=>?_⟩
  obtain⟨u,r,l⟩:=hl i x v e1 e2 e3
  refine⟨u,r,?_⟩
  rcases l with l | ⟨k,c,e,z⟩
  ·exact .inl l
  ·exact .inr ⟨k,c,e,cellK x c e _ z⟩
 ·obtain⟨v,z⟩:=I.cell x c e
  exact⟨v,cellK x c e v z⟩
 ·obtain⟨m,⟨o,_,_,ho,_⟩,_⟩:=I.loc
  exact free _ o (fun z=>(hch _ z).2.1 rfl) ho I.free
 ·obtain⟨v,o,ho,hd⟩:=I.cell x c e
  exact free c o (fun z=>(hch c z).2.2.1 x c e rfl) ho (I.da x c e)
 ·obtain⟨e,n,ne,nf,d⟩:=I.pin p hp
  have nch:p.1∉ch:=fun z=>(hch p.1 z).2.2.2 p hp rfl
  exact⟨keep p.1 p.2 ne nf nch e n,free p.1 p.2 nch e n,ne,nf,d⟩
theorem Inv.un{t':Nat}(I:Inv X pins σ H s)(u:Un X.fs [] H H' s.heap h')(hok:HOk X.prog X.w H' h'):Inv X pins σ H' { s with heap:=h',toks:=t' }:=by
 obtain⟨m,⟨o,es,ep,ho,r⟩,_⟩:=id I.loc
 obtain⟨sl,hL⟩:=u.any ho I.free (by simp)
 exact I.step (g':=s.gens) (d':=s.drawn) (ch:=[]) (fun _ z=>nomatch z) (fun b o _ hb _ e n=>u.keep b o e n hb (by simp)) (fun b o _ hb _ e n=>u.slot b o e n hb (by simp)) (fun b o _ e n=>u.free b o e n (by simp)) (fun b o _ e=>u.there b o e (by simp)) u.gM u.fY u.gI (fun m' hm=>by
  obtain⟨o',es',ep',ho',r'⟩:=hm
  rw[ho]at ho';cases ho'
  exact⟨_,es',ep',hL,r'⟩) hok I.bare
theorem Inv.call{g':Array GenState}{t':Nat}{d':Drawn}{ch:List Addr}(I:Inv X pins σ H s)(u:Un (frs X.stack) ch H H' s.heap h')(hok:HOk X.prog X.w H' h')(hg:AllBare g')
 (hch:∀ b∈ch,(b∈X.ex\/X.s₀.heap.objs.size<=b)/\b≠X.env.locals/\(∀ x c,X.env.cells.lookup x=some c->c≠b)/\∀ p∈X.pn++pins,p.1≠b) :
  Inv X pins σ H' { s with heap:=h',gens:=g',drawn:=d',toks:=t' }:=by
 obtain⟨m,⟨o,es,ep,ho,r⟩,_⟩:=id I.loc
 obtain⟨sl,hL⟩:=u.any ho I.free fun z=>(hch _ z).2.1 rfl
 exact I.step (ch:=ch) hch (fun b o hL hb hc e n=>u.keep b o e n (fun z=>(List.mem_cons.mp (I.ny b z)).elim hL hb) hc) (fun b o _ _ hc e n=>u.any e n hc) (fun b o hc e n=>u.free b o e n hc) (fun b o hc e=>u.there b o e hc) u.gM u.fY u.gI (fun m' hm=>by
  obtain⟨o',es',ep',ho',r'⟩:=hm
  rw[ho]at ho';cases ho'
  exact⟨_,es',ep',hL,r'⟩) hok hg
theorem Inv.turned{t':Nat}{it:Addr}(I:Inv X pins σ H s)(k:∀ b o,b≠it->s.heap.get? b=some o->h'.get? b=some o)(hn:H it=none)(hL:it≠X.env.locals)
 (h1:it∈X.ex\/X.s₀.heap.objs.size<=it)(h2:∀ x c,X.env.cells.lookup x=some c->c≠it)(h3:∀ p∈X.pn++pins,p.1≠it):Inv X pins σ H { s with heap:=h',toks:=t' }:=by
 have nit:∀ b u,H b=some u->b≠it:=fun b u e z=>by rw[z,hn]at e;cases e
 refine I.step (g':=s.gens) (d':=s.drawn) (ch:=[it]) (fun b hb=>?_) (fun b o _ _ hc e _=>k b o (fun z=>hc (by simp[z])) e) (fun b o _ _ hc e _=>⟨o.slots,k b o (fun z=>hc (by simp[z])) e⟩) (fun _ _ _ _ n=>n)
  (fun b o hc e=>⟨o,k b o (fun z=>hc (by simp[z])) e⟩) (fun _ _ e=>e) (fun _ _ _ e=>e) (fun b ps e=>⟨#[],by rw[e];simp⟩) (fun m hm=>?_) (fun b u e=>?_) I.bare
 ·have e:b=it:=by simpa using hb
  subst e
  exact⟨h1,hL,h2,h3⟩
 ·obtain⟨o,es,ep,ho,r⟩:=hm
  exact⟨o,es,ep,k _ o (Ne.symm hL) ho,r⟩
 ·refine(I.hok b u e).bE (fun c v hc q=>k c v ?_ q) (fun _ q=>q) fun _ _ q=>q
  rcases hc with z | z
  ·rw[z];exact nit b u e
  ·exact nit c _ z
theorem Inv.tok(I:Inv X pins σ H s)(t:Nat):Inv X pins σ H { s with toks:=t }:=I.un (h':=s.heap) (t':=t) Un.refl I.hok
theorem Inv.kept{t':Nat}(I:Inv X pins σ H s)(k:∀ b u,s.heap.get? b=some u->h'.get? b=some u):Inv X pins σ H { s with heap:=h',toks:=t' }:=I.un (Un.kept k) (I.hok.kept k)
theorem Inv.laid{a:Addr}{o:HO}{t':Nat}(I:Inv X pins σ H s)(k:∀ b u,s.heap.get? b=some u->h'.get? b=some u)(hp:s.heap.objs.size<=a)(new:aV X.prog X.w (upd H a o) h' a o) :
  Inv X pins σ (upd H a o) { s with heap:=h',toks:=t' }:=I.un (Un.laid k hp (I.hok.fresh hp)) (I.hok.laid k hp new)
theorem Inv.write{x e:Addr}{o:HO}{t':Nat}(I:Inv X pins σ H s)(mu:Mut (H x))(he:e=x\/H e=some (.own x))(k:∀ b u,b≠e->s.heap.get? b=some u->h'.get? b=some u)(heo:∃ u,h'.get? e=some u)
 (new:aV X.prog X.w (upd H x o) h' x o):Inv X pins σ (upd H x o) { s with heap:=h',toks:=t' }:=I.un (Un.write mu he k heo) (I.hok.write mu he k heo new)
theorem Inv.weak{σ':List (Option V)}(I:Inv X pins σ H s)(hl:σ'.length=σ.length)(w:∀ (i:Nat) v,σ'[i]?=some (some v)->σ[i]?=some (some v)):Inv X pins σ' H s :=
 ⟨I.ok,I.os,I.bare,I.base,let ⟨m,hn,hl'⟩:=I.loc;⟨m,hn,fun i x v e1 e2 e3=>hl' i x v e1 (w i v e2) e3⟩,I.cell,I.free,I.da,I.pin,I.hok,hl.trans I.len⟩
theorem Inv.nZ{pins':List (Addr × Obj)}(I:Inv X pins σ H s)(h:∀ p∈pins',s.heap.get? p.1=some p.2/\H p.1=none/\p.1≠X.env.locals/\p.1∉X.fs/\∀ v,p.2.data≠.cell v):Inv X pins' σ H s :=
 ⟨I.ok,I.os,I.bare,I.base,I.loc,I.cell,I.free,I.da,fun p hp=>(List.mem_append.mp hp).elim (fun z=>I.pin p (List.mem_append_left _ z)) (h p),I.hok,I.len⟩
theorem mY{N:List Str}(hN:N.Nodup){i j:Nat}{x:Str}(a:N[i]?=some x)(b:N[j]?=some x):i=j:=by
 obtain⟨h1,e1⟩:=List.getElem?_eq_some_iff.mp a
 obtain⟨h2,e2⟩:=List.getElem?_eq_some_iff.mp b
 exact(List.getElem_inj hN).mp (e1.trans e2.symm)
theorem kX{M:Model}{A:Around}{E:Value->Shared->Prop}{i:Nat}{x:Str}{v:V}{u:Value}{Q:Unit->Shared->Prop}(I:Inv X pins σ H s)(hN:X.N.Nodup)(hi:X.N[i]?=some x)(hx:Loc X.env.scope x)(r:RelV v u)
 (h:∀ s',Inv X pins (σ.set i (some v)) H s'->(∃ a,Heap.SameBut a s.heap s'.heap/\(a=X.env.locals\/X.env.cells.lookup x=some a))->Q () s')(hf:X.fn x=true\/X.env.scope.names.lookup x=some .local:=by first | exact .inl rfl | exact .inr rfl | assumption):wpAny M A (storeName X.env x u) Q E s:=by
 obtain⟨m,hn,hl⟩:=id I.loc
 have hcls:(X.env.scope.kind == .class || (X.env.scope.kind == .module&&X.env.locals != X.env.globals))=false:=by rw[I.ok.kind];rfl
 have hiσ:i<σ.length:=by rw[I.len];exact(List.getElem?_eq_some_iff.mp hi).1
 have cne:=I.cne
 have tracked:∀ {a:Addr} {h':Heap},(∃ o,s.heap.get? a=some o/\H a=none)->Heap.SameBut a s.heap h'->HOk X.prog X.w H h':=fun {a h'} ha hs b ob e=>by
  obtain⟨_,_,hfree⟩:=ha
  refine(I.hok b ob e).bE (fun c w' hc q=>(hs.2 c ?_).trans q) (fun _ q=>q) fun _ _ q=>q
  rintro rfl
  rcases hc with rfl | hc
  ·rw[hfree]at e;cases e
  ·rw[hfree]at hc;cases hc
 rcases hx with hk | hk
 ·refine wpAny_storeName_local hk hn (fun h' hn' hs=>?_) hcls
  obtain⟨oL,_,_,hoL,_⟩:=id hn
  refine h _ ⟨I.ok,I.os,I.bare,⟨fun b o e n hb hx=>?_,fun b o e n hb hx=>?_,I.base.free,fun b o e hx=>?_,I.base.gM,I.base.fY,I.base.gI⟩,⟨_,hn',fun j y v' e1 e2 e3=>?_⟩,fun y c e=>?_,I.free,I.da,fun p hp=>?_,tracked ⟨oL,hoL,I.free⟩ hs,by simpa using I.len⟩ ⟨_,hs,.inl rfl⟩
  ·exact(hs.2 b (Nat.ne_of_lt (Nat.lt_of_lt_of_le (Heap.lt_size e) I.ok.above))).trans (I.base.keep b o e n hb hx)
  ·obtain⟨sl,e1⟩:=I.base.slot b o e n hb hx
   exact⟨sl,(hs.2 b (Nat.ne_of_lt (Nat.lt_of_lt_of_le (Heap.lt_size e) I.ok.above))).trans e1⟩
  ·obtain⟨o',e1⟩:=I.base.there b o e hx
   exact⟨o',(hs.2 b (Nat.ne_of_lt (Nat.lt_of_lt_of_le (Heap.lt_size e) I.ok.above))).trans e1⟩
  ·by_cases hj:j=i
   ·subst hj
    rw[hi]at e1;cases e1
    rw[List.getElem?_set_self hiσ]at e2
    cases e2
    exact⟨u,r,.inl ⟨hk,by simp⟩⟩
   ·rw[List.getElem?_set_ne (Ne.symm hj)]at e2
    obtain⟨u',r',q⟩:=hl j y v' e1 e2 e3
    refine⟨u',r',?_⟩
    rcases q with⟨k,e⟩ | ⟨k,c,e,z⟩
    ·refine .inl ⟨k,?_⟩
     have:y≠x:=fun e=>hj (mY hN e1 (e▸hi))
     simp[this,e]
    ·exact .inr ⟨k,c,e,z.sameBut hs (cne y c e)⟩
  ·obtain⟨w',z⟩:=I.cell y c e
   exact⟨w',z.sameBut hs (cne y c e)⟩
  ·obtain⟨e,n,ne,nf,d⟩:=I.pin p hp
   exact⟨(hs.2 p.1 ne).trans e,n,ne,nf,d⟩
 ·have hfn:X.fn x=true:=by
   rcases hf with z | z
   ·exact z
   ·rw[z]at hk;cases hk
  obtain⟨c,hc⟩:=I.ok.has x (.inl hk)
  obtain⟨w',z⟩:=I.cell x c hc
  refine wpAny_storeName_cell I.ok.kind hk hc z (fun h' hc' hs=>?_)
  obtain⟨oc,hoc,hocd⟩:=id z
  refine h { s with heap:=h' } ⟨I.ok,I.os,I.bare,⟨fun b o e n hb hx=>?_,fun b o e n hb hx=>?_,I.base.free,fun b o e hx=>?_,I.base.gM,I.base.fY,I.base.gI⟩,⟨m,hn.sameBut hs (Ne.symm (cne x c hc)),fun j y v' e1 e2 e3=>?_⟩,fun y c' e=>?_,I.free,I.da,fun p hp=>?_,tracked ⟨oc,hoc,I.da x c hc⟩ hs,by simpa using I.len⟩ ⟨c,hs,.inr hc⟩
  ·exact(hs.2 b (Nat.ne_of_lt (Nat.lt_of_lt_of_le (Heap.lt_size e) (I.ok.cab x c hfn hc)))).trans (I.base.keep b o e n hb hx)
  ·obtain⟨sl,e1⟩:=I.base.slot b o e n hb hx
   exact⟨sl,(hs.2 b (Nat.ne_of_lt (Nat.lt_of_lt_of_le (Heap.lt_size e) (I.ok.cab x c hfn hc)))).trans e1⟩
  ·obtain⟨o',e1⟩:=I.base.there b o e hx
   exact⟨o',(hs.2 b (Nat.ne_of_lt (Nat.lt_of_lt_of_le (Heap.lt_size e) (I.ok.cab x c hfn hc)))).trans e1⟩
  ·by_cases hj:j=i
   ·subst hj
    rw[hi]at e1;cases e1
    rw[List.getElem?_set_self hiσ]at e2
    cases e2
    exact⟨u,r,.inr ⟨.inl hk,c,hc,hc'⟩⟩
   ·rw[List.getElem?_set_ne (Ne.symm hj)]at e2
    obtain⟨u',r',q⟩:=hl j y v' e1 e2 e3
    refine⟨u',r',?_⟩
    rcases q with q | ⟨k,c',e,z'⟩
    ·exact .inl q
    ·refine .inr ⟨k,c',e,z'.sameBut hs ?_⟩
     rintro rfl
     exact hj (mY hN e1 (I.ok.inj _ _ _ e hc▸hi))
  ·by_cases hcc:c'=c
   ·subst hcc;exact⟨_,hc'⟩
   ·obtain⟨w2,z2⟩:=I.cell y c' e
    exact⟨w2,z2.sameBut hs hcc⟩
  ·obtain⟨e,n,ne,nf,d⟩:=I.pin p hp
   refine⟨(hs.2 p.1 ?_).trans e,n,ne,nf,d⟩
   intro q
   rw[q,hoc]at e
   have q':oc=p.2:=Option.some.inj e
   exact d w' (by rw[<-q'];exact hocd)
theorem eD{M:Model}{A:Around}{E:Value->Shared->Prop}{i:Nat}{x:Str}{v:V}{u:Value}{Q:Unit->Shared->Prop}(I:Inv X pins σ H s)(hN:X.N.Nodup)(hi:X.N[i]?=some x)(hx:Loc X.env.scope x)(r:RelV v u)
 (h:∀ s',Inv X pins (σ.set i (some v)) H s'->Q () s')(hf:X.fn x=true\/X.env.scope.names.lookup x=some .local:=by first | exact .inl rfl | exact .inr rfl | assumption):wpAny M A (storeName X.env x u) Q E s :=
 kX I hN hi hx r (fun s' I' _=>h s' I') hf
theorem Inv.uE{s':Shared}{ch:List Addr}(I:Inv X pins σ H s)(ho:s'.os=s.os)(u:Un (frs X.stack) ch H H' s.heap s'.heap)(hok:HOk X.prog X.w H' s'.heap)(hg:AllBare s'.gens)
 (hch:∀ b∈ch,(b∈X.ex\/X.s₀.heap.objs.size<=b)/\b≠X.env.locals/\(∀ x c,X.env.cells.lookup x=some c->c≠b)/\∀ p∈X.pn++pins,p.1≠b):Inv X pins σ H' s':=by
 obtain⟨h',g',d',t',o'⟩:=s'
 have e:o'=s.os:=ho
 subst e
 exact I.call (g':=g') (t':=t') (d':=d') u hok hg hch
end
abbrev XK:=Value->Option Addr->Hp->Prop
abbrev St:=List (Option V)
abbrev VK:=V->Hp->Prop
abbrev TE:=St->Hp->VK->Prop
abbrev TT:=St->Hp->(Bool->Hp->Prop)->Prop
abbrev TA:=St->Hp->(List V->Hp->Prop)->Prop
structure Ends where
 nx:St->Hp->Prop
 rt:VK
 bk:St->Hp->Prop:=fun _ _=>False
 ct:St->Hp->Prop:=fun _ _=>False
abbrev TS:=Ends->St->Hp->Prop
def EP(X:Cx)(pins:List (Addr × Obj))(σ:St)(Q:VK)(u:Value)(s':Shared):Prop:=∃ v H',Inv X pins σ H' s'/\RelV v u/\Q v H'
def TP(X:Cx)(pins:List (Addr × Obj))(σ:St)(Q:Bool->Hp->Prop)(b:Bool)(s':Shared):Prop:=∃ H',Inv X pins σ H' s'/\Q b H'
def AP(X:Cx)(pins:List (Addr × Obj))(σ:St)(Q:List V->Hp->Prop)(us:List Value)(s':Shared):Prop:=∃ vs H',Inv X pins σ H' s'/\Vals vs us/\Q vs H'
def SP(X:Cx)(pins:List (Addr × Obj))(D:Ends)(f:Flow)(s':Shared):Prop :=
 match f with
 | .next=>∃ σ' H',Inv X pins σ' H' s'/\D.nx σ' H'
 | .brk=>∃ σ' H',Inv X pins σ' H' s'/\D.bk σ' H'
 | .cont=>∃ σ' H',Inv X pins σ' H' s'/\D.ct σ' H'
 | .ret u=>∃ v σ' H',Inv X pins σ' H' s'/\RelV v u/\D.rt v H'
def PE(X:Cx)(e:Expr)(t:TE):Prop :=
 ∀ (pins:List (Addr × Obj)) (s:Shared) (σ:St) (H:Hp) (Q:VK),Inv X pins σ H s->t σ H Q->wpAny (model X.prog X.w) X.A (eval e X.env) (EP X pins σ Q) X.xe s
def PT(X:Cx)(e:Expr)(t:TT):Prop :=
 ∀ (pins:List (Addr × Obj)) (s:Shared) (σ:St) (H:Hp) (Q:Bool->Hp->Prop),Inv X pins σ H s->t σ H Q->wpAny (model X.prog X.w) X.A (isTrue e X.env (eval e X.env)) (TP X pins σ Q) X.xe s
def PW(X:Cx)(e:Expr)(t:TT):Prop :=
 ∀ (whole:Sem Value) (pins:List (Addr × Obj)) (s:Shared) (σ:St) (H:Hp) (Q:Bool->Hp->Prop),Inv X pins σ H s->t σ H Q->wpAny (model X.prog X.w) X.A (isTrue e X.env whole) (TP X pins σ Q) X.xe s
theorem PW.pt{X:Cx}{e:Expr}{t:TT}(h:PW X e t):PT X e t:=h _
def PA(X:Cx)(es:List Expr)(t:TA):Prop :=
 ∀ (pos:Pos) (pins:List (Addr × Obj)) (s:Shared) (σ:St) (H:Hp) (Q:List V->Hp->Prop),Inv X pins σ H s->t σ H Q->wpAny (model X.prog X.w) X.A (spliced (backTo pos (starEach es X.env))) (AP X pins σ Q) X.xe s
def PS(X:Cx)(st:Stmt)(t:TS):Prop :=
 ∀ (pins:List (Addr × Obj)) (s:Shared) (σ:St) (H:Hp) (D:Ends),Inv X pins σ H s->t D σ H->wpAny (model X.prog X.w) X.A (exec st X.env) (SP X pins D) X.xe s
def PSs(X:Cx)(st:List Stmt)(t:TS):Prop :=
 ∀ (pins:List (Addr × Obj)) (s:Shared) (σ:St) (H:Hp) (D:Ends),Inv X pins σ H s->t D σ H->wpAny (model X.prog X.w) X.A (execs st X.env) (SP X pins D) X.xe s
theorem thn{α:Type}{t:Sem α}{Q Q':α->Shared->Prop}{M:Model}{A:Around}{E:Value->Shared->Prop}{s:Shared}(h:wpAny M A t Q E s)(hQ:∀ a s,Q a s->Q' a s):wpAny M A t Q' E s:=wpAny_mono h hQ fun _ _ x=>x
section
variable{X:Cx}
def gQ(i:Nat):TE:=fun σ H Q=>∃ v,σ[i]?=some (some v)/\Q v H
def tC(v:V):TE:=fun _ H Q=>Q v H
theorem fG{i:Nat}{x:Str}{pos:Pos}(hN:X.N[i]?=some x)(hv:Vis X.env.scope x)(hd:(x == ("__debug__" : Str))=false:=by decide)(hcd:(x == ("__classdict__" : Str))=false:=by decide):PE X (.Name x pos) (gQ i):=by
 intro pins s σ H Q I h
 obtain⟨v,e,h⟩:=h
 obtain⟨m,hn,hl⟩:=I.loc
 obtain⟨u,r,l⟩:=hl i x v hN e hv
 have fin:EP X pins σ Q u s:=⟨v,H,I,r,h⟩
 rcases l with⟨hk,hm⟩ | ⟨hk,c,hc,hcell⟩
 ·exact wpAny_Name (wpAny_loadName_local I.ok.kind hk hn hm fin) hd
 ·rcases hk with hk | hk
  ·exact wpAny_Name (wpAny_loadName_cell I.ok.kind hk hc hcell fin) hd
  ·exact wpAny_Name (wpAny_loadName_free I.ok.kind hk hc hcell fin hcd) hd
theorem lR{i j pos}:PE X (.Constant (.int i) j pos) (tC (.int i)):=fun _ _ _ H _ I h=>wpAny_Constant_int ⟨.int i,H,I.tok _,⟨_,rfl⟩,h⟩
theorem Ao{b j pos}:PE X (.Constant (.bool b) j pos) (tC (.bl b)):=fun _ _ _ H _ I h=>Constant_bool ⟨.bl b,H,I,rfl,h⟩
theorem m4{j pos}:PE X (.Constant .none j pos) (tC .non):=fun _ _ _ H _ I h=>Constant_none ⟨.non,H,I,rfl,h⟩
theorem yC{x j pos}:PE X (.Constant (.str x) j pos) (tC (.str x)):=fun _ _ _ H _ I h=>Calls.Constant_str ⟨.str x,H,I.tok _,⟨_,rfl⟩,h⟩
def Gl(X:Cx)(x:Str):Prop:=X.env.kindOf x=some .globalImplicit
theorem oP{E:Value->Shared->Prop}{pins:List (Addr × Obj)}{s:Shared}{σ:St}{H:Hp}{x:Str}{u:Value}{pos:Pos}{Q:Value->Shared->Prop}(I:Inv X pins σ H s)(hg:Gl X x)(hm:X.mg x=some u)(h:Q u s)
 (hd:(x == ("__debug__" : Str))=false:=by decide):wpAny (model X.prog X.w) X.A (eval (.Name x pos) X.env) Q E s :=
 Calls.Name_function_global I.ok.kind hg (Calls.loadGlobal_global (by rw[I.ok.glob];exact I.mod.glob.keeps I.bk) hm h) hd
theorem eA{E:Value->Shared->Prop}{pins:List (Addr × Obj)}{s:Shared}{σ:St}{H:Hp}{x:Str}{u:Value}{pos:Pos}{Q:Value->Shared->Prop}(I:Inv X pins σ H s)(hg:Gl X x)(hm:X.mg x=none)(hv:bootBuiltins x=some u)(h:Q u s)
 (hn:x ≠ "__name__" := by decide)(hd:(x == ("__debug__" : Str))=false:=by decide):wpAny (model X.prog X.w) X.A (eval (.Name x pos) X.env) Q E s:=by
 obtain⟨mb,h1,h2⟩:=I.mod.blt
 exact Calls.Name_function_global I.ok.kind hg (Calls.loadGlobal_builtin (by rw[I.ok.glob];exact I.mod.glob.keeps I.bk) hm (by rw[I.ok.blt];exact h1.keeps I.bk) ((h2 x hn).trans hv) h) hd
theorem wg{x:Str}{v:V}{u:Value}{pos:Pos}(hg:Gl X x)(hm:X.mg x=some u)(r:RelV v u)(hd:(x == ("__debug__" : Str))=false:=by decide):PE X (.Name x pos) (tC v) :=
 fun _ _ _ H _ I h=>oP I hg hm ⟨v,H,I,r,h⟩ hd
theorem vB{x:Str}{v:V}{u:Value}{pos:Pos}(hg:Gl X x)(hm:X.mg x=none)(hv:bootBuiltins x=some u)(r:RelV v u)(hn:x ≠ "__name__" := by decide)(hd:(x == ("__debug__" : Str))=false:=by decide):PE X (.Name x pos) (tC v) :=
 fun _ _ _ H _ I h=>eA I hg hm hv ⟨v,H,I,r,h⟩ hn hd
variable{a b:Expr}{ta tb:TE}{pos:Pos}
variable{tA tB':TT}{rest:List Expr}
def A8(t u:TT):TT:=fun σ H Q=>t σ H fun c H1=>if c=true then u σ H1 Q else Q false H1
def tOr(t u:TT):TT:=fun σ H Q=>t σ H fun c H1=>if c=true then Q true H1 else u σ H1 Q
def Bt(t:TT):TT:=fun σ H Q=>t σ H fun c H1=>Q (!c) H1
theorem vI(ha:PT X a tA):PW X (.BoolOp .And [a] pos) tA:=by
 intro wh pins s σ H Q I h
 refine isTrue_and (thn (ha pins s σ H Q I h) fun c s1 e=>?_)
 cases c with
 | true=>exact isTrue_and_nil e
 | false=>exact e
theorem yA(ha:PT X a tA):PW X (.BoolOp .Or [a] pos) tA:=by
 intro wh pins s σ H Q I h
 refine isTrue_or (thn (ha pins s σ H Q I h) fun c s1 e=>?_)
 cases c with
 | false=>exact isTrue_or_nil e
 | true=>exact e
theorem xC(ha:PT X a tA)(hb:PW X (.BoolOp .And (b::rest) pos) tB'):PW X (.BoolOp .And (a::b::rest) pos) (A8 tA tB'):=by
 intro wh pins s σ H Q I h
 refine isTrue_and (thn (ha pins s σ H _ I h) fun c s1 ⟨H1,I1,q1⟩=>?_)
 cases c with
 | true=>exact hb wh pins s1 σ H1 Q I1 q1
 | false=>exact⟨H1,I1,q1⟩
theorem Aq(ha:PT X a tA)(hb:PW X (.BoolOp .Or (b::rest) pos) tB'):PW X (.BoolOp .Or (a::b::rest) pos) (tOr tA tB'):=by
 intro wh pins s σ H Q I h
 refine isTrue_or (thn (ha pins s σ H _ I h) fun c s1 ⟨H1,I1,q1⟩=>?_)
 cases c with
 | true=>exact⟨H1,I1,q1⟩
 | false=>exact hb wh pins s1 σ H1 Q I1 q1
theorem xY(ha:PT X a tA):PT X (.UnaryOp .Not a pos) (Bt tA):=by
 intro pins s σ H Q I h
 exact isTrue_not (ha pins s σ H (fun c H1=>Q (!c) H1) I h)
def zS(ta tb:TE):TE:=fun σ H Q=>ta σ H fun x H1=>∃ c,x=.bl c/\if c=true then tb σ H1 Q else Q (.bl false) H1
def Bs(ta tb:TE):TE:=fun σ H Q=>ta σ H fun x H1=>∃ c,x=.bl c/\if c=true then Q (.bl true) H1 else tb σ H1 Q
theorem zd{op}{t:TE}(h:PE X a t):PE X (.BoolOp op [a] pos) t:=fun pins s σ H Q I hw=>BoolOp_one (h pins s σ H Q I hw)
theorem zm(ha:PE X a ta)(hb:PE X (.BoolOp .And (b::rest) pos) tb):PE X (.BoolOp .And (a::b::rest) pos) (zS ta tb):=by
 intro pins s σ H Q I h
 refine BoolOp_and (thn (ha pins s σ H _ I h) fun v s1 ⟨x,H1,I1,r1,q1⟩=>?_)
 obtain⟨c,rfl,q1⟩:=q1
 cases r1
 refine wpAny_truthy_bool ?_
 cases c with
 | true=>exact hb pins s1 σ H1 Q I1 q1
 | false=>exact⟨.bl false,H1,I1,rfl,q1⟩
theorem zY(ha:PE X a ta)(hb:PE X (.BoolOp .Or (b::rest) pos) tb):PE X (.BoolOp .Or (a::b::rest) pos) (Bs ta tb):=by
 intro pins s σ H Q I h
 refine BoolOp_or (thn (ha pins s σ H _ I h) fun v s1 ⟨x,H1,I1,r1,q1⟩=>?_)
 obtain⟨c,rfl,q1⟩:=q1
 cases r1
 refine wpAny_truthy_bool ?_
 cases c with
 | false=>exact hb pins s1 σ H1 Q I1 q1
 | true=>exact⟨.bl true,H1,I1,rfl,q1⟩
def tIf(t:TT)(ta tb:TE):TE:=fun σ H Q=>t σ H fun c H1=>if c=true then ta σ H1 Q else tb σ H1 Q
theorem tq{c:Expr}(hc:PT X c tA)(ha:PE X a ta)(hb:PE X b tb):PE X (.IfExp c a b pos) (tIf tA ta tb):=by
 intro pins s σ H Q I h
 refine wpAny_IfExp (thn (hc pins s σ H _ I h) fun d s1 ⟨H1,I1,q1⟩=>?_)
 cases d with
 | true=>exact ha pins s1 σ H1 Q I1 q1
 | false=>exact hb pins s1 σ H1 Q I1 q1
end
def SqL(K:PySem.W.Frag)(H:Hp)(a:Addr)(xs:List V):Prop :=
 Rd H a (.lst xs) \/
  ∃ (o:Obj) (its:Array Value) (n:Nat),K.lookup a=some o/\o.cls=.type "list" /\ o.dict=none/\o.data=.seq its n/\its.size<=sizeLine/\Vals xs its.toList
def SqT(K:PySem.W.Frag)(H:Hp)(a:Addr)(xs:List V):Prop :=
 Rd H a (.tup xs) \/
  ∃ (o:Obj) (its:Array Value) (n:Nat),K.lookup a=some o/\o.cls=.type "tuple" /\ o.data=.seq its n/\its.size<=sizeLine/\Vals xs its.toList
def AI:Value->Option V
 | .none=>some .non
 | .bool b=>some (.bl b)
 | .int i _=>some (.int i)
 | .str x _=>some (.str x)
 | .bytes b _=>some (.byt b)
 | .float b _=>some (.flt b)
 | .ref a=>some (.ref a)
 | .type n=>some (.ty n)
 | _=>none
theorem RelV.abs{x:V}{u:Value}(r:RelV x u):AI u=some x:=by
 cases x with
 | non=>cases r;rfl
 | bl _=>cases r;rfl
 | int _=>obtain⟨t,rfl⟩:=r;rfl
 | str _=>obtain⟨t,rfl⟩:=r;rfl
 | byt _=>obtain⟨t,rfl⟩:=r;rfl
 | flt _=>obtain⟨t,rfl⟩:=r;rfl
 | ref _=>cases r;rfl
 | ty _=>cases r;rfl
theorem RelV.inj{x y:V}{u:Value}(r:RelV x u)(q:RelV y u):x=y:=Option.some.inj (r.abs.symm.trans q.abs)
theorem Vals.inj:∀ {xs ys:List V} {us:List Value},Vals xs us->Vals ys us->xs=ys
 | _,_,_,.nil,.nil=>rfl
 | _,_,_,.cons r t,.cons r' t'=>by rw[r.inj r',Vals.inj t t']
section
variable{X:Cx}{pins:List (Addr × Obj)}{σ:St}{H:Hp}{s:Shared}{a:Addr}{xs ys:List V}
theorem SqL.of{K:PySem.W.Frag}(h:H a=some (.lst xs)):SqL K H a xs:=.inl (.inl h)
theorem SqT.of{K:PySem.W.Frag}(h:H a=some (.tup xs)):SqT K H a xs:=.inl (.inl h)
theorem Inv.list(I:Inv X pins σ H s)(h:SqL X.K H a xs):∃ its:List Value,Vals xs its/\PlainL s.heap a its.toArray/\xs.length<=sizeLine:=by
 rcases h with h | ⟨o,its,n,hk,hc,hd,hs,hz,r⟩
 ·obtain⟨z,its,n,r,e⟩:=h.ok I.hok
  exact⟨its,r,⟨_,n,e,rfl,rfl,rfl⟩,z⟩
 ·refine⟨its.toList,r,⟨o,n,I.kIn a o hk,hc,hd,by simpa using hs⟩,?_⟩
  have e:=r.length
  simp only[Array.length_toList]at e
  lia
theorem Inv.tuple(I:Inv X pins σ H s)(h:SqT X.K H a xs):∃ its:List Value,Vals xs its/\IsTup s.heap a its.toArray/\xs.length<=sizeLine:=by
 rcases h with h | ⟨o,its,n,hk,hc,hs,hz,r⟩
 ·obtain⟨z,its,r,p⟩:=h.ok I.hok
  exact⟨its,r,p,z⟩
 ·refine⟨its.toList,r,⟨o,I.kIn a o hk,hc,n,by simpa using hs⟩,?_⟩
  have e:=r.length
  simp only[Array.length_toList]at e
  lia
theorem Inv.sE(I:Inv X pins σ H s)(h:SqL X.K H a xs)(h':SqL X.K H a ys):xs=ys:=by
 obtain⟨its,r,⟨o,n,e,_,_,d⟩,_⟩:=I.list h
 obtain⟨its',r',⟨o',n',e',_,_,d'⟩,_⟩:=I.list h'
 rw[e]at e';cases e'
 rw[d]at d'
 injection d' with d1 _
 have:its=its':=by simpa using congrArg Array.toList d1
 subst this
 exact r.inj r'
theorem Inv.rC(I:Inv X pins σ H s)(h:SqT X.K H a xs)(h':SqT X.K H a ys):xs=ys:=by
 obtain⟨its,r,⟨o,e,_,n,d⟩,_⟩:=I.tuple h
 obtain⟨its',r',⟨o',e',_,n',d'⟩,_⟩:=I.tuple h'
 rw[e]at e';cases e'
 rw[d]at d'
 injection d' with d1 _
 have:its=its':=by simpa using congrArg Array.toList d1
 subst this
 exact r.inj r'
end
abbrev Cx.eZ(X:Cx)(E:Value->Shared->Prop):Cx:={ X with xe:=E }
abbrev Cx.nox(X:Cx):Cx:=X.eZ fun _ _=>False
theorem Cx.Ok.eZ{X:Cx}(ok:X.Ok)(E:Value->Shared->Prop):(X.eZ E).Ok :=
 ⟨ok.mod,ok.kind,ok.glob,ok.blt,ok.above,ok.inj,ok.has,ok.cab,ok.hd,ok.frames,ok.stk,ok.exf,ok.bs,ok.bsz,ok.lP,ok.nc,ok.eM,ok.frf⟩
theorem Cx.Ok.dG{X:Cx}{E:Value->Shared->Prop}(ok:(X.eZ E).Ok):X.Ok :=
 ⟨ok.mod,ok.kind,ok.glob,ok.blt,ok.above,ok.inj,ok.has,ok.cab,ok.hd,ok.frames,ok.stk,ok.exf,ok.bs,ok.bsz,ok.lP,ok.nc,ok.eM,ok.frf⟩
section
variable{X:Cx}{pins:List (Addr × Obj)}{σ:St}{H:Hp}{s:Shared}{E:Value->Shared->Prop}
theorem Inv.eZ(I:Inv X pins σ H s)(E:Value->Shared->Prop):Inv (X.eZ E) pins σ H s:=⟨I.ok.eZ E,I.os,I.bare,I.base,I.loc,I.cell,I.free,I.da,I.pin,I.hok,I.len⟩
theorem Inv.dG(I:Inv (X.eZ E) pins σ H s):Inv X pins σ H s:=⟨I.ok.dG,I.os,I.bare,I.base,I.loc,I.cell,I.free,I.da,I.pin,I.hok,I.len⟩
theorem SP.dG{D:Ends}{f:Flow}{s':Shared}(h:SP (X.eZ E) pins D f s'):SP X pins D f s':=by
 cases f with
 | next=>obtain⟨σ',H',I,q⟩:=h;exact⟨σ',H',I.dG,q⟩
 | brk=>obtain⟨σ',H',I,q⟩:=h;exact⟨σ',H',I.dG,q⟩
 | cont=>obtain⟨σ',H',I,q⟩:=h;exact⟨σ',H',I.dG,q⟩
 | ret u=>obtain⟨v,σ',H',I,r,q⟩:=h;exact⟨v,σ',H',I.dG,r,q⟩
theorem PSs.nox{st:List Stmt}{t:TS}(h:PSs X.nox st t):PSs X st t:=fun pins s σ H D I hw =>
 wpAny_mono (h pins s σ H D (I.eZ _) hw) (fun _ _ q=>q.dG) fun _ _ z=>False.elim z
end
section
variable{X:Cx}{st:Stmt}{rest:List Stmt}{t u:TS}{e:Expr}{te:TE}{pos:Pos}
def zH:TS:=fun D σ H=>D.nx σ H
def Be(t u:TS):TS:=fun D σ H=>t { D with nx:=u D } σ H
theorem v5:PSs X [] zH:=fun _ _ σ H _ I h=>wpAny_execs_nil ⟨σ,H,I,h⟩
theorem tL(h1:PS X st t)(h2:PSs X rest u):PSs X (st::rest) (Be t u):=by
 intro pins s σ H D I h
 refine wpAny_execs_cons (thn (h1 pins s σ H { D with nx:=u D } I h) fun f s1 q=>?_)
 cases f with
 |next=>
  obtain⟨σ',H',I',q⟩:=q
  exact h2 pins s1 σ' H' D I' q
 | ret v=>exact q
 | brk=>exact q
 | cont=>exact q
theorem Inv.quiet{pins:List (Addr × Obj)}{σ:St}{H:Hp}{s:Shared}(I:Inv X pins σ H s):interactive X.env=false:=by simp[interactive,I.ok.kind]
def l0(te:TE):TS:=fun D σ H=>te σ H fun _ H1=>D.nx σ H1
theorem ku(he:PE X e te)(hs:swapsWith e none pos.line X.env=pure false:=by rfl):PS X (.Expr e pos) (l0 te):=by
 intro pins s σ H D I h
 exact wpAny_Expr_any (thn (he pins s σ H _ I h) fun v s1 ⟨x,H1,I1,r1,q1⟩=>⟨σ,H1,I1,q1⟩) I.quiet hs
def Bh(te:TE):TS:=fun D σ H=>te σ H D.rt
theorem qE(he:PE X e te):PS X (.Return (some e) pos) (Bh te):=by
 intro pins s σ H D I h
 exact wpAny_Return_some (thn (he pins s σ H _ I h) fun v s1 ⟨x,H1,I1,r1,q1⟩=>⟨x,σ,H1,I1,r1,q1⟩)
def Bv(c:TT)(t u:TS):TS:=fun D σ H=>c σ H fun b H1=>if b=true then t D σ H1 else u D σ H1
theorem uJ{c:Expr}{a b:List Stmt}{tc:TT}(hc:PT X c tc)(ha:PSs X a t)(hb:PSs X b u):PS X (.If c a b pos) (Bv tc t u):=by
 intro pins s σ H D I h
 refine wpAny_If (thn (hc pins s σ H _ I h) fun d s1 ⟨H1,I1,q1⟩=>?_)
 cases d with
 | true=>exact ha pins s1 σ H1 D I1 q1
 | false=>exact hb pins s1 σ H1 D I1 q1
def xk:TS:=fun _ _ _=>False
theorem sk:PS X st xk:=fun _ _ _ _ _ _ h=>h.elim
end
abbrev TG:=V->St->Hp->(St->Hp->Prop)->Prop
abbrev TGs:=List V->St->Hp->(St->Hp->Prop)->Prop
def PG(X:Cx)(target:Expr)(t:TG):Prop :=
 ∀ (pins:List (Addr × Obj)) (s:Shared) (σ:St) (H:Hp) (v:V) (u:Value) (Q:St->Hp->Prop),Inv X pins σ H s->RelV v u->t v σ H Q ->
  wpAny (model X.prog X.w) X.A (assign target X.env u) (fun _ s'=>∃ σ' H',Inv X pins σ' H' s'/\Q σ' H') X.xe s
def PGs(X:Cx)(ts:List Expr)(t:TGs):Prop :=
 ∀ (pins:List (Addr × Obj)) (s:Shared) (σ:St) (H:Hp) (vs:List V) (us:List Value) (Q:St->Hp->Prop),Inv X pins σ H s->Vals vs us->t vs σ H Q ->
  wpAny (model X.prog X.w) X.A (assignInOrder ((assignEach ts X.env).map (·.2)) us) (fun _ s'=>∃ σ' H',Inv X pins σ' H' s'/\Q σ' H') X.xe s
abbrev tV:=V->V->V->Hp->(Hp->Prop)->Prop
def yt(X:Cx)(t:tV):Prop :=
 ∀ (pins:List (Addr × Obj)) (s:Shared) (σ:St) (H:Hp) (o i v:V) (ov iv u:Value) (Q:Hp->Prop),Inv X pins σ H s->RelV o ov->RelV i iv->RelV v u->t o i v H Q ->
  wpAny (model X.prog X.w) X.A (setItem ov iv u) (fun _ s'=>∃ H',Inv X pins σ H' s'/\Q H') X.xe s
abbrev TIp:=V->V->Hp->VK->Prop
def PIp(X:Cx)(op:Operator)(t:TIp):Prop :=
 ∀ (pins:List (Addr × Obj)) (s:Shared) (σ:St) (H:Hp) (x y:V) (v u:Value) (Q:VK),Inv X pins σ H s->RelV x v->RelV y u->t x y H Q ->
  wpAny (model X.prog X.w) X.A (inplaceOp op v u) (EP X pins σ Q) X.xe s
section
variable{X:Cx}{pos:Pos}
def l8(i:Nat):TG:=fun v σ H Q=>Q (σ.set i (some v)) H
theorem nT{i:Nat}{x:Str}(hN:X.N.Nodup)(hi:X.N[i]?=some x)(hx:Loc X.env.scope x)(hf:X.fn x=true\/X.env.scope.names.lookup x=some .local:=by first | exact .inl rfl | exact .inr rfl | assumption):PG X (.Name x pos) (l8 i):=by
 intro pins s σ H v u Q I r h
 exact wpAny_assign_Name (eD I hN hi hx r (fun s' I'=>⟨_,H,I',h⟩) hf)
def yE:TGs:=fun vs σ H Q=>vs=[]/\Q σ H
def uy(t:TG)(u:TGs):TGs:=fun vs σ H Q=>∃ v r,vs=v::r/\t v σ H fun σ' H'=>u r σ' H' Q
theorem vQ:PGs X [] yE:=by
 intro pins s σ H vs us Q I r h
 obtain⟨e,h⟩:=h
 subst e
 cases r
 exact assignInOrder_nil ⟨σ,H,I,h⟩
theorem uo{e:Expr}{es:List Expr}{t:TG}{u:TGs}(h1:PG X e t)(h2:PGs X es u)
 (hs:(assignEach (e::es) X.env).map (·.2)=assign e X.env::(assignEach es X.env).map (·.2):=by rfl):PGs X (e::es) (uy t u):=by
 intro pins s σ H vs us Q I r h
 obtain⟨v,vr,e1,h⟩:=h
 subst e1
 cases r with
 |cons r rr=>
  rw[hs]
  refine assignInOrder_cons (thn (h1 pins s σ H _ _ _ I r h) fun _ s1 ⟨σ1,H1,I1,q1⟩=>?_)
  exact h2 pins s1 σ1 H1 _ _ Q I1 rr q1
def kr(K:PySem.W.Frag)(n:Nat)(t:TGs):TG:=fun v σ H Q=>∃ a xs,v=.ref a/\SqT K H a xs/\xs.length=n/\t xs σ H Q
theorem qK{es:List Expr}{k:Nat}{t:TGs}{n:Nat}(hc:X.calm=true)(h:PGs X es t)
 (hn:(assignEach es X.env).length=n:=by rfl)(hst:(assignEach es X.env).findIdx? (·.1)=none:=by rfl):PG X (.Tuple es k pos) (kr X.K n t):=by
 intro pins s σ H v u Q I r hw
 obtain⟨a,xs,e1,hq,hl,hw⟩:=hw
 subst e1
 cases r
 obtain⟨its,rv,ht,hz⟩:=I.tuple hq
 refine assign_Tuple_tuple (I.ok.hd hc) ht (by simp[hn,<-hl,rv.length]) hst fun h' hx=>?_
 have I1:Inv X pins σ H { s with heap:=h' }:=I.kept (t':=s.toks) fun b o e=>hx b o (Nat.ne_of_lt (Heap.lt_size e)) e
 exact h pins _ σ H xs _ Q I1 (by simpa using rv) hw
def sU(to ti:TE)(t:tV):TG:=fun v σ H Q=>to σ H fun o H1=>ti σ H1 fun i H2=>t o i v H2 fun H3=>Q σ H3
theorem xV{o i:Expr}{to ti:TE}{t:tV}(ho:PE X o to)(hi:PE X i ti)(hs:yt X t)
 (ha:∀ v,assign (.Subscript o i pos) X.env v=(do
   let ov <- holding [v] (eval o X.env)
   let iv <- holding [v,ov] (eval i X.env)
   standAt pos
   holding [v,ov,iv] (setItem ov iv v)
   release [v,ov,iv] []):=by intro _;rfl):PG X (.Subscript o i pos) (sU to ti t):=by
 intro pins s σ H v u Q I r h
 rw[ha]
 refine wpAny_bind (wpAny_holding (thn (ho pins s σ H _ I h) fun ov s1 ⟨x,H1,I1,r1,q1⟩=>?_))
 refine wpAny_bind (wpAny_holding (thn (hi pins s1 σ H1 _ I1 q1) fun iv s2 ⟨y,H2,I2,r2,q2⟩=>?_))
 refine wpAny_bind (wpAny_standAt (wpAny_bind (wpAny_holding (thn (hs pins s2 σ H2 x y v ov iv u _ I2 r1 r2 r q2) fun _ s3 ⟨H3,I3,q3⟩=>?_))))
 exact wpAny_release ⟨σ,H3,I3,q3⟩
def mh(te:TE)(g:TG):TS:=fun D σ H=>te σ H fun x H1=>g x σ H1 D.nx
theorem rM{tg e:Expr}{te:TE}{g:TG}(he:PE X e te)(hg:PG X tg g)(hs:swapsWithSole [tg] e pos.line X.env=pure false:=by rfl)(hw:swappedStores [tg] e X.env=pure none:=by rfl)
 (h1:(assignEach [tg] X.env).map (·.2)=[assign tg X.env]:=by rfl):PS X (.Assign [tg] e pos) (mh te g):=by
 intro pins s σ H D I h
 refine wpAny_Assign_stores (thn (he pins s σ H _ I h) fun v s1 ⟨x,H1,I1,r1,q1⟩=>?_) hs hw
 rw[h1]
 exact thn (hg pins s1 σ H1 x v _ I1 r1 q1) fun _ s2 q=>q
theorem xG{i:Nat}{x:Str}{e:Expr}{te:TE}{pos':Pos}(hN:X.N.Nodup)(hi:X.N[i]?=some x)(hx:Loc X.env.scope x)(he:PE X e te)(hs:swapsWith e (some (.Name x pos')) pos.line X.env=pure false:=by rfl)(hf:X.fn x=true\/X.env.scope.names.lookup x=some .local:=by first | exact .inl rfl | exact .inr rfl | assumption) :
  PS X (.Assign [.Name x pos'] e pos) (mh te (l8 i)):=by
 intro pins s σ H D I h
 refine wpAny_Assign_Name (thn (he pins s σ H _ I h) fun v s1 ⟨y,H1,I1,r1,q1⟩=>?_) hs
 exact eD I1 hN hi hx r1 (fun s2 I2=>⟨_,H1,I2,q1⟩) hf
def wH(i j:Nat)(ta:TA):TS:=fun D σ H=>ta σ H fun vs H1=>∃ v w,vs=[v,w]/\D.nx ((σ.set i (some v)).set j (some w)) H1
theorem xJ{i j:Nat}{x y:Str}{a b:Expr}{ta:TA}{px py pt:Pos}{kt k2 pt2}(hc:X.calm=true)(hN:X.N.Nodup)(hi:X.N[i]?=some x)(hj:X.N[j]?=some y)(hij:i≠j)
 (hx:X.env.scope.names.lookup x=some .local)(hy:X.env.scope.names.lookup y=some .local)(ha:PA X [a,b] ta)
 (hw:swappedStores [.Tuple [.Name x px,.Name y py] kt pt] (.Tuple [a,b] k2 pt2) X.env=pure (some [x,y]))
 (hs:swapsWithSole [.Tuple [.Name x px,.Name y py] kt pt] (.Tuple [a,b] k2 pt2) pos.line X.env=pure false:=by rfl) :
  PS X (.Assign [.Tuple [.Name x px,.Name y py] kt pt] (.Tuple [a,b] k2 pt2) pos) (wH i j ta):=by
 intro pins s σ H D I h
 rw[exec_Assign_arm]
 refine wpAny_bind (wpAny_standAt ?_)
 rw[hs]
 refine wpAny_bind (wpAny_pure ?_)
 rw[if_neg (by decide)]
 refine wpAny_bind (Tuple_ (thn (ha _ pins s σ H _ I h) fun us s1 ⟨vs,H1,I1,r1,q1⟩=>?_))
 obtain⟨v,w,e1,q1⟩:=q1
 subst e1
 obtain⟨u1,u2,rfl,rv,rw'⟩:∃ u1 u2,us=[u1,u2]/\RelV v u1/\RelV w u2:=by
  cases r1 with
  |cons p q=>
   cases q with
   |cons p' q'=>
    cases q'
    exact⟨_,_,rfl,p,p'⟩
 refine wpAny_newObj_type ?_ (by show 2<=sizeLine;decide)
 have I2:Inv X pins σ H1 { s1 with heap:=s1.heap.push { cls:=.type "tuple",data:=.seq [u1,u2].toArray } }:=I1.kept (t':=s1.toks) fun b o e=>Heap.get?_push_of_some _ e
 rw[hw]
 refine wpAny_bind (wpAny_pure ?_)
 show wpAny (model X.prog X.w) X.A (do rule "assign.swapped-stores";let items <- unpackItems (.ref s1.heap.objs.size) 2 none;assignInOrder [fun v=>bindName X.env y v,fun v=>bindName X.env x v] items.reverse;pure Flow.next) _ _ _
 refine wpAny_bind (wpAny_rule (wpAny_bind (unpackItems_tuple (items:=#[u1,u2]) (I.ok.hd hc) (IsTup.new s1.heap _) fun h' hx'=>?_)))
 have I3:=I2.kept (h':=h') (t':=s1.toks) fun b o e=>hx' b o (Nat.ne_of_lt (Heap.lt_size e)) e
 show wpAny _ _ (assignInOrder [fun v=>bindName X.env y v,fun v=>bindName X.env x v] [u2,u1] >>= fun _=>pure Flow.next) _ _ _
 refine wpAny_bind (assignInOrder_cons (wpAny_bindName (eD I3 hN hj (.inl hy) rw' (fun s2 I4=>?_) (.inr hy))))
 refine assignInOrder_cons (wpAny_bindName (eD I4 hN hi (.inl hx) rv (fun s3 I5=>assignInOrder_nil (wpAny_pure ?_)) (.inr hx)))
 rw[List.set_comm _ _ (Ne.symm hij)]at I5
 exact⟨_,H1,I5,q1⟩
def yF(i:Nat)(te:TE)(ti:TIp):TS:=fun D σ H=>∃ x,σ[i]?=some (some x)/\te σ H fun y H1=>ti x y H1 fun z H2=>D.nx (σ.set i (some z)) H2
theorem rq{i:Nat}{x:Str}{e:Expr}{te:TE}{op:Operator}{ti:TIp}{pos':Pos}(hN:X.N.Nodup)(hi:X.N[i]?=some x)(hx:Loc X.env.scope x)(he:PE X e te)(ho:PIp X op ti)(hf:X.fn x=true\/X.env.scope.names.lookup x=some .local:=by first | exact .inl rfl | exact .inr rfl | assumption) :
  PS X (.AugAssign (.Name x pos') op e pos) (yF i te ti):=by
 intro pins s σ H D I h
 obtain⟨v,e1,h⟩:=h
 obtain⟨m,hn,hl⟩:=I.loc
 have vis:Vis X.env.scope x:=by rcases hx with k | k;exact .inl k;exact .inr (.inl k)
 obtain⟨u,r,l⟩:=hl i x v hi e1 vis
 refine wpAny_AugAssign_Name ?_
 have go:wpAny (model X.prog X.w) X.A (eval e X.env) (fun w s₂=>wpAny (model X.prog X.w) X.A (inplaceOp op u w) (fun r s₃=>wpAny (model X.prog X.w) X.A (storeName X.env x r) (fun _=>SP X pins D .next) X.xe s₃) X.xe s₂) X.xe s:=by
  refine thn (he pins s σ H _ I h) fun w s1 ⟨y,H1,I1,r1,q1⟩=>?_
  refine thn (ho pins s1 σ H1 v y u w _ I1 r r1 q1) fun z s2 ⟨zv,H2,I2,r2,q2⟩=>?_
  exact eD I2 hN hi hx r2 (fun s3 I3=>⟨_,H2,I3,q2⟩) hf
 rcases l with⟨hk,hm⟩ | ⟨hk,c,hc,hcell⟩
 ·exact wpAny_loadName_local I.ok.kind hk hn hm go
 ·rcases hk with hk | hk
  ·exact wpAny_loadName_cell I.ok.kind hk hc hcell go
  ·rcases hx with k | k
   ·have:X.env.scope.names.lookup x=some .free:=hk
    rw[k]at this;cases this
   ·have:X.env.scope.names.lookup x=some .free:=hk
    rw[k]at this;cases this
def ipI(f:Int->Int->Int):TIp:=fun x y H Q=>∃ i j,x=.int i/\y=.int j/\Q (.int (f i j)) H
theorem wO:PIp X .Add (ipI fun i j=>i+j):=by
 intro pins s σ H x y v u Q I r1 r2 h
 obtain⟨i,j,e1,e2,q⟩:=h
 subst e1;subst e2
 obtain⟨t,rfl⟩:=r1
 obtain⟨t',rfl⟩:=r2
 exact iadd_int ⟨.int _,H,I.tok _,⟨_,rfl⟩,q⟩
theorem zE:PIp X .Sub (ipI fun i j=>i-j):=by
 intro pins s σ H x y v u Q I r1 r2 h
 obtain⟨i,j,e1,e2,q⟩:=h
 subst e1;subst e2
 obtain⟨t,rfl⟩:=r1
 obtain⟨t',rfl⟩:=r2
 exact isub_int ⟨.int _,H,I.tok _,⟨_,rfl⟩,q⟩
end
section
variable{X:Cx}{pos:Pos}
def yi(c:TT)(tb:TS):TS:=fun D σ H=>∃ W:Nat->St->Hp->Prop,(∃ m,W m σ H)/\∀ m σ H,W m σ H ->
 c σ H fun b H1=>if b=true then ∃ N:St->Hp->Prop,(∀ σ' H',N σ' H'->∃ m',m'<m/\W m' σ' H')/\tb { D with nx:=N,ct:=N,bk:=D.nx } σ H1 else D.nx σ H1
theorem sS{c:Expr}{body:List Stmt}{tc:TT}{tb:TS}(hp:PassesOwn (model X.prog X.w) X.A X.env X.xe)(hc:PT X c tc)(hb:PSs X body tb):PS X (.While c body [] pos) (yi tc tb):=by
 intro pins s σ H D I h
 obtain⟨W,⟨m0,w0⟩,turn⟩:=h
 refine wpAny_While (codeAny_whileLoop (fun n s'=>∃ σ' H',Inv X pins σ' H' s'/\W n σ' H') ?_ m0 ⟨σ,H,I,w0⟩)
 rintro n s1 ⟨σ1,H1,I1,w1⟩
 refine wpAny_passesOwn hp (thn (hc pins s1 σ1 H1 _ I1 (turn n σ1 H1 w1)) fun b s2 ⟨H2,I2,q2⟩=>?_)
 cases b with
 |true=>
  obtain⟨N,hN,q2⟩:=q2
  rw[if_pos rfl]
  refine wpAny_passesOwn hp (thn (hb pins s2 σ1 H2 _ I2 q2) fun f s3 q3=>?_)
  cases f with
  |next=>
   obtain⟨σ3,H3,I3,n3⟩:=q3
   obtain⟨m',hm,w3⟩:=hN σ3 H3 n3
   exact⟨m',hm,σ3,H3,I3,w3⟩
  |cont=>
   obtain⟨σ3,H3,I3,n3⟩:=q3
   obtain⟨m',hm,w3⟩:=hN σ3 H3 n3
   exact⟨m',hm,σ3,H3,I3,w3⟩
  | brk=>exact q3
  | ret v=>exact q3
 |false=>
  rw[if_neg Bool.false_ne_true]
  exact wpAny_execs_nil ⟨σ1,H2,I2,q2⟩
end
structure It where
 go:Nat->Hp->Prop
 yld:Nat->Hp->V->Hp->Prop
 stop:Nat->Hp->Prop
def gd(X:Cx)(pins:List (Addr × Obj))(H:Hp)(b:Addr):Prop :=
 H b=none/\b≠X.env.locals/\b∉X.fs/\(b∈X.ex\/X.s₀.heap.objs.size<=b)/\(∀ x c,X.env.cells.lookup x=some c->c≠b)/\∀ p∈X.pn++pins,p.1≠b
theorem Inv.ko{X:Cx}{pins:List (Addr × Obj)}{σ:St}{H H':Hp}{s:Shared}{b:Addr}(I:Inv X pins σ H s)(hb:s.heap.objs.size<=b)(hn:H' b=none):gd X pins H' b:=by
 refine⟨hn,Nat.ne_of_gt (Nat.lt_of_lt_of_le I.lt hb),I.Bk hb,.inr (Nat.le_trans I.sz hb),fun x c e z=>?_,fun p hp z=>?_⟩
 ·obtain⟨v,q⟩:=I.cell x c e
  exact absurd (Nat.lt_of_lt_of_le q.lt (by rw[z];exact hb)) (Nat.lt_irrefl _)
 ·exact absurd (Nat.lt_of_lt_of_le (Heap.lt_size (I.pin p hp).1) (by rw[z];exact hb)) (Nat.lt_irrefl _)
structure Turn(P:Program)(w:World)(K:PySem.W.Frag)(tg:Expr)(J:It)(fp:List Addr)(it:Addr)(tn:Nat->Heap->Prop):Prop where
 mem:it∈fp
 obj:∀ i h,tn i h->∀ b∈fp,∃ o,h.get? b=some o/\∀ v,o.data≠.cell v
 keep:∀ i h h',tn i h->(∀ b∈fp,∀ o,h.get? b=some o->h'.get? b=some o)->tn i h'
 item:∀ (X:Cx),X.prog=P->X.w=w->X.K=K->X.calm=true->∀ (i:Nat) (pins:List (Addr × Obj)) (s:Shared) (σ:St) (H:Hp) (E:Value->Shared->Prop),Inv X pins σ H s->(∀ b∈fp,gd X pins H b)->tn i s.heap->J.go i H ->
  wpAny (model P w) X.A (pyNext (.ref it)) (fun r s1=>∃ u,r=some u /\
   wpAny (model P w) X.A (letOwnedTupleGo tg (.ref it) u) (fun _ s2=>∃ x H',Inv X pins σ H' s2/\RelV x u/\J.yld i H x H'/\tn (i+1) s2.heap/\∀ b∈fp,H' b=none) E s1) E s
 done:∀ (X:Cx),X.prog=P->X.w=w->X.K=K->X.calm=true->∀ (i:Nat) (pins:List (Addr × Obj)) (s:Shared) (σ:St) (H:Hp) (E:Value->Shared->Prop),Inv X pins σ H s->(∀ b∈fp,gd X pins H b)->tn i s.heap->J.stop i H ->
  wpAny (model P w) X.A (pyNext (.ref it)) (fun r s1=>r=none/\Inv X pins σ H s1) E s
 self:∀ (A:Around) (i:Nat) (s:Shared) (Q:Value->Shared->Prop) (E:Value->Shared->Prop),tn i s.heap->Q (.ref it) s->wpAny (model P w) A (pyIter (.ref it)) Q E s
abbrev TI:=St->Hp->(It->Hp->Prop)->Prop
def PIE(X:Cx)(pins:List (Addr × Obj))(σ:St)(tg:Expr)(R:It->Hp->Prop)(itv:Value)(s2:Shared):Prop :=
 ∃ (it:Addr) (fp:List Addr) (tn:Nat->Heap->Prop) (J:It) (H':Hp),itv=.ref it/\Inv X pins σ H' s2/\Turn X.prog X.w X.K tg J fp it tn/\tn 0 s2.heap/\(∀ b∈fp,gd X pins H' b)/\R J H'
def PI(X:Cx)(tg iter:Expr)(wi:TI):Prop :=
 ∀ (pins:List (Addr × Obj)) (s:Shared) (σ:St) (H:Hp) (R:It->Hp->Prop),Inv X pins σ H s->wi σ H R ->
  wpAny (model X.prog X.w) X.A (eval iter X.env) (fun v s1=>wpAny (model X.prog X.w) X.A (pyIter v) (PIE X pins σ tg R) X.xe s1) X.xe s
theorem lE{M:Model}{A:Around}{E:Value->Shared->Prop}{s:Shared}{tg:Expr}{it:Addr}{u:Value}{o:Obj}{n:String}{vs:Array Value}{Q:Unit->Shared->Prop}(ho:s.heap.get? it=some o)(hc:o.cls=.type n)(hd:o.data=.fields vs)
 (hn:["enumerate", "zip", "dict_itemiterator", "dict_reverseitemiterator", "odict_iterator", "itertools.zip_longest", "itertools.pairwise"].contains n=false)(hQ:Q () s):wpAny M A (letOwnedTupleGo tg (.ref it) u) Q E s:=by
 unfold letOwnedTupleGo
 cases tg<;>first
  | exact wpAny_pure hQ
  | (cases u<;>first
    | exact wpAny_pure hQ
    | (refine wpAny_bind (wpAny_load ho ?_)
       rw[hc,hd]
       show wpAny M A (if(["enumerate", "zip", "dict_itemiterator", "dict_reverseitemiterator", "odict_iterator", "itertools.zip_longest", "itertools.pairwise"].contains n&&vs[0]? == some (rawInt _))=true then _ else _) Q E s
       rw[if_neg (by intro h;rw[hn,Bool.false_and]at h;cases h)]
       exact wpAny_pure hQ))
def Itl(K:PySem.W.Frag)(a:Addr):It :=
 ⟨fun i H=>∃ xs x,SqL K H a xs/\xs[i]?=some x,fun i H x H'=>H'=H/\∀ xs,SqL K H a xs->xs[i]?=some x,fun i H=>∃ xs,SqL K H a xs/\xs.length<=i⟩
def Itt(K:PySem.W.Frag)(a:Addr):It :=
 ⟨fun i H=>∃ xs x,SqT K H a xs/\xs[i]?=some x,fun i H x H'=>H'=H/\∀ xs,SqT K H a xs->xs[i]?=some x,fun i H=>∃ xs,SqT K H a xs/\xs.length<=i⟩
def Itr(lo:Int)(n:Nat):It:=⟨fun i _=>i<n,fun i H x H'=>H'=H/\x=.int (lo+i),fun i _=>n<=i⟩
theorem qp{P:Program}{w:World}{K:PySem.W.Frag}{tg:Expr}(a it:Addr):Turn P w K tg (Itl K a) [it] it (fun i h=>h.IsListIter it a i) where
 mem:=by simp
 obj:=fun i h st b hb=>by
  have e:b=it:=by simpa using hb
  subst e
  obtain⟨o,e,c,d⟩:=st
  exact⟨o,e,fun v z=>by rw[d]at z;cases z⟩
 keep:=fun i h h' st k=>st.at fun o e=>k it (by simp) o e
 item:=by
  intro X hP hw hK hc i pins s σ H E I hf st hg
  subst hP hw hK
  obtain⟨xs,x,hq,hx⟩:=hg
  obtain⟨its,rv,p,hz⟩:=I.list hq
  obtain⟨u,hu,ru⟩:=rv.get hx
  obtain⟨f0,f1,f2,f3,f4,f5⟩:=hf it (by simp)
  refine wpAny_pyNext_list_item st p.isList (x:=u) (by simpa using hu) fun h' st' sb=>?_
  have I1:Inv X pins σ H { s with heap:=h' }:=I.turned (t':=s.toks) (fun b o hb e=>(sb.2 b hb).trans e) f0 f1 f3 f4 f5
  obtain⟨o,e,c,d⟩:=id st'
  exact⟨u,rfl,lE (s:={ s with heap:=h' }) e c d (by decide) ⟨x,H,I1,ru,⟨rfl,fun ys hy=>by rw[I.sE hy hq];exact hx⟩,st',fun b hb=>(hf b hb).1⟩⟩
 done:=by
  intro X hP hw hK hc i pins s σ H E I hf st hg
  subst hP hw hK
  obtain⟨xs,hq,hx⟩:=hg
  obtain⟨its,rv,p,hz⟩:=I.list hq
  obtain⟨f0,f1,f2,f3,f4,f5⟩:=hf it (by simp)
  have hl:=rv.length
  exact wpAny_pyNext_list_end (I.ok.hd hc) st p.isList (by simp;lia) fun h' eb=>⟨rfl,I.turned (t':=s.toks) (fun b o hb e=>eb b o hb e) f0 f1 f3 f4 f5⟩
 self:=fun _ _ _ _ _ st h=>wpAny_pyIter_listiter st h
theorem pj{P:Program}{w:World}{K:PySem.W.Frag}{tg:Expr}(a it:Addr):Turn P w K tg (Itt K a) [it] it (fun i h=>h.IsTupleIter it a i) where
 mem:=by simp
 obj:=fun i h st b hb=>by
  have e:b=it:=by simpa using hb
  subst e
  obtain⟨o,e,c,d⟩:=st
  exact⟨o,e,fun v z=>by rw[d]at z;cases z⟩
 keep:=fun i h h' st k=>st.at fun o e=>k it (by simp) o e
 item:=by
  intro X hP hw hK hc i pins s σ H E I hf st hg
  subst hP hw hK
  obtain⟨xs,x,hq,hx⟩:=hg
  obtain⟨its,rv,p,hz⟩:=I.tuple hq
  obtain⟨u,hu,ru⟩:=rv.get hx
  obtain⟨f0,f1,f2,f3,f4,f5⟩:=hf it (by simp)
  refine wpAny_pyNext_tuple_item st (show s.heap.IsTuple a its.toArray from p) (x:=u) (by simpa using hu) fun h' st' sb=>?_
  have I1:Inv X pins σ H { s with heap:=h' }:=I.turned (t':=s.toks) (fun b o hb e=>(sb.2 b hb).trans e) f0 f1 f3 f4 f5
  obtain⟨o,e,c,d⟩:=id st'
  exact⟨u,rfl,lE (s:={ s with heap:=h' }) e c d (by decide) ⟨x,H,I1,ru,⟨rfl,fun ys hy=>by rw[I.rC hy hq];exact hx⟩,st',fun b hb=>(hf b hb).1⟩⟩
 done:=by
  intro X hP hw hK hc i pins s σ H E I hf st hg
  subst hP hw hK
  obtain⟨xs,hq,hx⟩:=hg
  obtain⟨its,rv,p,hz⟩:=I.tuple hq
  obtain⟨f0,f1,f2,f3,f4,f5⟩:=hf it (by simp)
  have hl:=rv.length
  exact wpAny_pyNext_tuple_end (I.ok.hd hc) st (show s.heap.IsTuple a its.toArray from p) (by simp;lia) fun h' eb=>⟨rfl,I.turned (t':=s.toks) (fun b o hb e=>eb b o hb e) f0 f1 f3 f4 f5⟩
 self:=fun _ _ _ _ _ st h=>wpAny_pyIter_tupleiter st h
theorem qb{P:Program}{w:World}{K:PySem.W.Frag}{tg:Expr}(it:Addr)(lo:Int)(n:Nat):Turn P w K tg (Itr lo n) [it] it (fun i h=>IsRangeIter h it (lo+(i:Nat)*1) ((n:Int)-(i:Nat)) 1) where
 mem:=by simp
 obj:=fun i h st b hb=>by
  have e:b=it:=by simpa using hb
  subst e
  exact⟨_,st,fun v z=>by
   have z':Data.fields _=Data.cell v:=z
   cases z'⟩
 keep:=fun i h h' st k=>k it (by simp) _ st
 item:=by
  intro X hP hw hK hc i pins s σ H E I hf st hg
  subst hP hw hK
  obtain⟨f0,f1,f2,f3,f4,f5⟩:=hf it (by simp)
  have W:=Walks.range (prog:=X.prog) (w:=X.w) (I.ok.hd hc) it lo 1 n
  refine W.item i s _ _ hg st fun v h' tk hv st' kk=>?_
  obtain⟨t,rfl⟩:=hv
  have I1:Inv X pins σ H { s with heap:=h',toks:=tk }:=I.turned (fun b o hb e=>kk b o (by simpa using hb) e) f0 f1 f3 f4 f5
  refine⟨_,rfl,lE (s:={ s with heap:=h',toks:=tk }) (n := "range_iterator") st' rfl rfl (by decide) ⟨.int (lo+i),H,I1,⟨t,?_⟩,⟨rfl,rfl⟩,st',fun b hb=>(hf b hb).1⟩⟩
  rw[Int.mul_one]
 done:=by
  intro X hP hw hK hc i pins s σ H E I hf st hg
  subst hP hw hK
  obtain⟨f0,f1,f2,f3,f4,f5⟩:=hf it (by simp)
  exact wpAny_pyNext_range_end (I.ok.hd hc) st (by have:n<=i:=hg;lia) fun h' eb=>⟨rfl,I.turned (t':=s.toks) (fun b o hb e=>eb b o hb e) f0 f1 f3 f4 f5⟩
 self:=fun _ _ _ _ _ st h=>wpAny_pyIter_rangeiter st h
section
variable{X:Cx}{tg:Expr}
theorem nE{pins:List (Addr × Obj)}{σ:St}{H:Hp}{s:Shared}{R:It->Hp->Prop}{E:Value->Shared->Prop}{lo hi:Int}{t u v:Tok}{tk:Nat}(I:Inv X pins σ H s)(h1:-(2 ^ 62)<=lo)(h2:lo<2 ^ 62)(h3:-(2 ^ 62)<=hi)(h4:hi<2 ^ 62)
 (q:R (Itr lo (hi-lo).toNat) H):wpAny (model X.prog X.w) X.A (pyIter (.ref s.heap.objs.size)) (PIE X pins σ tg R) E { s with heap:=s.heap.push { cls:=.type "range",data:=.fields #[.int lo t,.int hi u,.int 1 v] },toks:=tk }:=by
 refine wpAny_pyIter_range (IsRange.new ..) (small_one h1 h2 h3 h4) ?_
 have I1:Inv X pins σ H { s with heap:=s.heap.push { cls:=.type "range",data:=.fields #[.int lo t,.int hi u,.int 1 v] },toks:=tk }:=I.kept fun b o e=>Heap.get?_push_of_some _ e
 refine⟨(s.heap.push { cls:=.type "range",data:=.fields #[.int lo t,.int hi u,.int 1 v] }).objs.size,[(s.heap.push { cls:=.type "range",data:=.fields #[.int lo t,.int hi u,.int 1 v] }).objs.size],_,_,H,rfl,
  I1.kept (t':=tk) fun b o e=>Heap.get?_push_of_some _ e,qb _ lo (hi-lo).toNat,?_,fun b hb=>?_,q⟩
 ·have e1:lo+((0:Nat):Int)*1=lo:=by simp
  have e2:(((hi-lo).toNat:Nat):Int)-((0:Nat):Int)=Builtin.Range.rangeSize lo hi 1:=by rw[rangeSize_one];split<;>lia
  show IsRangeIter _ _ (lo+((0:Nat):Int)*1) ((((hi-lo).toNat:Nat):Int)-((0:Nat):Int)) 1
  rw[e1,e2]
  exact Heap.get?_push_size _ rfl
 ·have e:b=(s.heap.push { cls:=.type "range",data:=.fields #[.int lo t,.int hi u,.int 1 v] }).objs.size:=by simpa using hb
  subst e
  exact I1.ko (Nat.le_refl _) (I1.hok.fresh (Nat.le_refl _))
def A1(ta:TA):TI:=fun σ H R=>ta σ H fun vs H1=>∃ j:Int,vs=[.int j]/\-(2 ^ 62)<=j/\j<2 ^ 62/\R (Itr 0 j.toNat) H1
def Ag(ta:TA):TI:=fun σ H R=>ta σ H fun vs H1=>∃ i j:Int,vs=[.int i,.int j]/\(-(2 ^ 62)<=i/\i<2 ^ 62/\-(2 ^ 62)<=j/\j<2 ^ 62)/\R (Itr i (j-i).toNat) H1
theorem rP{a:Expr}{ta:TA}{p pos:Pos}(hg:Gl X "range")(hm:X.mg "range" = none)(ha:PA X [a] ta)(hs:starEach [a] X.env=[(false,eval a X.env)]:=by rfl):PI X tg (.Call (.Name "range" p) [a] [] pos) (A1 ta):=by
 intro pins s σ H R I h
 refine Call_ (eA I hg hm boot_range (PyProof.Rows.callWith_type1 (thn (ha pos pins s σ H _ I h) fun us s1 ⟨vs,H1,I1,r1,q1⟩=>?_) hs rfl))
 obtain⟨j,e,q1,q2,q⟩:=q1
 subst e
 cases r1 with
 |cons r rr=>
  cases rr
  obtain⟨t,rfl⟩:=r
  exact call_range_1 (nE I1 (by lia) (by lia) q1 q2 (by simpa using q))
theorem qe{a b:Expr}{ta:TA}{p pos:Pos}(hg:Gl X "range")(hm:X.mg "range" = none)(ha:PA X [a,b] ta)(hs:starEach [a,b] X.env=[(false,eval a X.env),(false,eval b X.env)]:=by rfl)(hs2:starEach [b] X.env=[(false,eval b X.env)]:=by rfl) :
  PI X tg (.Call (.Name "range" p) [a,b] [] pos) (Ag ta):=by
 intro pins s σ H R I h
 refine Call_ (eA I hg hm boot_range (PyProof.Rows.callWith_type1 (thn (ha pos pins s σ H _ I h) fun us s1 ⟨vs,H1,I1,r1,q1⟩=>?_) (by rw[hs,hs2]) (by rw[hs2];rfl)))
 obtain⟨i,j,e,⟨q1,q2,q3,q4⟩,q⟩:=q1
 subst e
 cases r1 with
 |cons r rr=>
  cases rr with
  |cons r' rr=>
   cases rr
   obtain⟨t,rfl⟩:=r
   obtain⟨t',rfl⟩:=r'
   exact call_range_2 (nE I1 q1 q2 q3 q4 q)
def AX(wi:TI)(g:TG)(tb:TS):TS:=fun D σ H=>wi σ H fun J H1=>∃ W:Nat->Nat->St->Hp->Prop,(∃ m,W 0 m σ H1)/\∀ i m σ H,W i m σ H ->
 (J.stop i H/\D.nx σ H)\/(J.go i H/\∃ N:St->Hp->Prop,(∀ σ' H',N σ' H'->∃ m',m'<m/\W (i+1) m' σ' H')/\∀ x H',J.yld i H x H'->g x σ H' fun σ2 H2=>tb { D with nx:=N,ct:=N,bk:=D.nx } σ2 H2)
def gC(fp:List Addr)(h:Heap):List (Addr × Obj):=fp.filterMap fun b=>(h.get? b).map fun o=>(b,o)
theorem dU{fp:List Addr}{h:Heap}{b:Addr}{o:Obj}(hb:b∈fp)(e:h.get? b=some o):(b,o)∈gC fp h:=List.mem_filterMap.mpr ⟨b,hb,by rw[e];rfl⟩
theorem rD{fp:List Addr}{h:Heap}{p:Addr × Obj}(hp:p∈gC fp h):p.1∈fp/\h.get? p.1=some p.2:=by
 obtain⟨b,hb,e⟩:=List.mem_filterMap.mp hp
 cases q:h.get? b with
 | none=>rw[q]at e;cases e
 |some o=>
  rw[q]at e
  have e':(b,o)=p:=Option.some.inj e
  subst e'
  exact⟨hb,q⟩
theorem Inv.pinned{pins:List (Addr × Obj)}{σ:St}{H:Hp}{s:Shared}{fp:List Addr}(I:Inv X pins σ H s)(hf:∀ b∈fp,gd X pins H b)(ho:∀ b∈fp,∃ o,s.heap.get? b=some o/\∀ v,o.data≠.cell v):Inv X (pins++gC fp s.heap) σ H s :=
 I.nZ fun p hp=>(List.mem_append.mp hp).elim (fun z=>I.pin p (List.mem_append_right _ z)) fun z=>by
  obtain⟨hb,e⟩:=rD z
  obtain⟨f0,f1,f2,_⟩:=hf p.1 hb
  obtain⟨o,e',d⟩:=ho p.1 hb
  rw[e]at e';cases e'
  exact⟨e,f0,f1,f2,d⟩
theorem Inv.fZ{pins pl:List (Addr × Obj)}{σ:St}{H:Hp}{s:Shared}(I:Inv X (pins++pl) σ H s):Inv X pins σ H s:=I.nZ fun p hp=>I.pin p (List.mem_append_right _ (List.mem_append_left _ hp))
theorem y8{iter:Expr}{body:List Stmt}{wi:TI}{g:TG}{tb:TS}{pos:Pos}(hp:PassesOwn (model X.prog X.w) X.A X.env X.xe)(hc:X.calm=true)(hi:PI X tg iter wi)(hg:PG X tg g)(hb:PSs X body tb)
 (hs:∀ x,foldedSetIterable iter X.env x=pure x:=by intro _;rfl):PS X (.For tg iter body [] pos) (AX wi g tb):=by
 intro pins s σ H D I h
 refine wpAny_For (thn (hi pins s σ H _ I h) fun v s1 h1=>thn h1 fun itv s2 h2=>?_) hs
 obtain⟨it,fp,tn,J,H2,e,I2,T,st2,f2,W,⟨m0,w0⟩,turn⟩:=h2
 subst e
 have stat:∀ {H':Hp},(∀ b∈fp,H' b=none)->∀ b∈fp,gd X pins H' b:=fun hn b hb=>⟨hn b hb,(f2 b hb).2⟩
 refine codeAny_forLoop_any (fun n s'=>∃ i σ' H',Inv X pins σ' H' s'/\tn i s'.heap/\(∀ b∈fp,H' b=none)/\W i n σ' H') ?_ m0 ⟨0,σ,H2,I2,st2,fun b hb=>(f2 b hb).1,w0⟩
 rintro n s3 ⟨i,σ3,H3,I3,st3,fr3,w3⟩
 rcases turn i n σ3 H3 w3 with⟨stop,qn⟩ | ⟨go,N,hN,step⟩
 ·refine wpAny_passesOwn hp (thn (T.done X rfl rfl rfl hc i pins s3 σ3 H3 X.xe I3 (stat fr3) st3 stop) fun r s4 ⟨hr,I4⟩=>?_)
  subst hr
  exact wpAny_execs_nil ⟨σ3,H3,I4,qn⟩
 ·refine wpAny_passesOwn hp (thn (T.item X rfl rfl rfl hc i pins s3 σ3 H3 X.xe I3 (stat fr3) st3 go) fun r s4 ⟨u,hr,h4⟩=>?_)
  subst hr
  refine wpAny_passesOwn hp (thn h4 fun _ s5 ⟨x,H5,I5,r5,y5,st5,fr5⟩=>?_)
  have I5':=I5.pinned (stat fr5) (T.obj _ _ st5)
  refine wpAny_passesOwn hp (thn (hg _ s5 σ3 H5 x u _ I5' r5 (step x H5 y5)) fun _ s6 ⟨σ6,H6,I6,q6⟩=>?_)
  refine wpAny_passesOwn hp (thn (hb _ s6 σ6 H6 _ I6 q6) fun f s7 q7=>?_)
  have again:∀ {σ7:St} {H7:Hp},Inv X (pins++gC fp s5.heap) σ7 H7 s7->N σ7 H7->∃ m,m<n/\∃ i σ' H',Inv X pins σ' H' s7/\tn i s7.heap/\(∀ b∈fp,H' b=none)/\W i m σ' H':=fun {σ7 H7} I7 n7=>by
   obtain⟨m',hm,w7⟩:=hN σ7 H7 n7
   refine⟨m',hm,i+1,σ7,H7,I7.fZ,T.keep _ _ _ st5 fun b hb o e=>(I7.pin (b,o) (List.mem_append_right _ (List.mem_append_right _ (dU hb e)))).1,fun b hb=>?_,w7⟩
   obtain⟨o,e,d⟩:=T.obj _ _ st5 b hb
   exact(I7.pin (b,o) (List.mem_append_right _ (List.mem_append_right _ (dU hb e)))).2.1
  cases f with
  | next=>obtain⟨σ7,H7,I7,n7⟩:=q7;exact again I7 n7
  | cont=>obtain⟨σ7,H7,I7,n7⟩:=q7;exact again I7 n7
  | brk=>obtain⟨σ7,H7,I7,q7⟩:=q7;exact⟨σ7,H7,I7.fZ,q7⟩
  | ret v=>obtain⟨x7,σ7,H7,I7,r7,q7⟩:=q7;exact⟨x7,σ7,H7,I7.fZ,r7,q7⟩
end
abbrev R2:=V->V->Hp->VK->Prop
def OpR(X:Cx)(f:Value->Value->Sem Value)(r:R2):Prop :=
 ∀ (pins:List (Addr × Obj)) (s:Shared) (σ:St) (H:Hp) (x y:V) (v u:Value) (Q:VK),Inv X pins σ H s->RelV x v->RelV y u->r x y H Q ->
  wpAny (model X.prog X.w) X.A (f v u) (EP X pins σ Q) X.xe s
def UnR(X:Cx)(f:Value->Sem Value)(r:V->Hp->VK->Prop):Prop :=
 ∀ (pins:List (Addr × Obj)) (s:Shared) (σ:St) (H:Hp) (x:V) (v:Value) (Q:VK),Inv X pins σ H s->RelV x v->r x H Q ->
  wpAny (model X.prog X.w) X.A (f v) (EP X pins σ Q) X.xe s
def bu(X:Cx)(f:Value)(r:List V->Hp->VK->Prop):Prop :=
 ∀ (pins:List (Addr × Obj)) (s:Shared) (σ:St) (H:Hp) (xs:List V) (us:List Value) (Q:VK),Inv X pins σ H s->Vals xs us->r xs H Q ->
  wpAny (model X.prog X.w) X.A (call f us) (EP X pins σ Q) X.xe s
def A7(X:Cx)(r:V->Hp->(Bool->Hp->Prop)->Prop):Prop :=
 ∀ (pins:List (Addr × Obj)) (s:Shared) (σ:St) (H:Hp) (x:V) (v:Value) (Q:Bool->Hp->Prop),Inv X pins σ H s->RelV x v->r x H Q ->
  wpAny (model X.prog X.w) X.A (truthy v) (TP X pins σ Q) X.xe s
def tOp(r:R2)(ta tb:TE):TE:=fun σ H Q=>ta σ H fun x H1=>tb σ H1 fun y H2=>r x y H2 Q
def tUn(r:V->Hp->VK->Prop)(ta:TE):TE:=fun σ H Q=>ta σ H fun x H1=>r x H1 Q
def rI(C:Int->Int->Prop)(g:Int->Int->V):R2:=fun x y H Q=>∃ i j,x=.int i/\y=.int j/\C i j/\Q (g i j) H
def rI0(g:Int->Int->V):R2:=fun x y H Q=>∃ i j,x=.int i/\y=.int j/\Q (g i j) H
def rU(g:Int->V):V->Hp->VK->Prop:=fun x H Q=>∃ i,x=.int i/\Q (g i) H
section
variable{X:Cx}{a b c:Expr}{ta tb tc:TE}{pos:Pos}
theorem sA(ha:PE X a ta)(hb:PE X b tb){pins:List (Addr × Obj)}{s:Shared}{σ:St}{H:Hp}{R:V->V->Hp->Prop}(I:Inv X pins σ H s)
 (h:ta σ H fun x H1=>tb σ H1 fun y H2=>R x y H2){Q:Value->Shared->Prop}{f:Value->Value->Sem Value}
 (hf:∀ v u s2 x y H2,Inv X pins σ H2 s2->RelV x v->RelV y u->R x y H2->wpAny (model X.prog X.w) X.A (f v u) Q X.xe s2) :
  wpAny (model X.prog X.w) X.A (eval a X.env) (fun v s₁=>wpAny (model X.prog X.w) X.A (eval b X.env) (fun u s₂=>wpAny (model X.prog X.w) X.A (f v u) Q X.xe s₂) X.xe s₁) X.xe s:=by
 refine thn (ha pins s σ H _ I h) fun v s1 ⟨x,H1,I1,r1,q1⟩=>?_
 refine thn (hb pins s1 σ H1 _ I1 q1) fun u s2 ⟨y,H2,I2,r2,q2⟩=>?_
 exact hf v u s2 x y H2 I2 r1 r2 q2
theorem Ap{op:Operator}{r:R2}(ho:OpR X (binaryOp op) r)(ha:PE X a ta)(hb:PE X b tb):PE X (.BinOp a op b pos) (tOp r ta tb):=by
 intro pins s σ H Q I h
 exact wpAny_BinOp (sA ha hb I h fun v u s2 x y H2 I2 rx ry q=>ho pins s2 σ H2 x y v u Q I2 rx ry q)
theorem Au{op:UnaryOp}{r:V->Hp->VK->Prop}(ho:UnR X (unaryOp op) r)(ha:PE X a ta):PE X (.UnaryOp op a pos) (tUn r ta):=by
 intro pins s σ H Q I h
 exact UnaryOp_ (thn (ha pins s σ H _ I h) fun v s1 ⟨x,H1,I1,r1,q1⟩=>ho pins s1 σ H1 x v Q I1 r1 q1)
theorem opI{f:Value->Value->Sem Value}{C:Int->Int->Prop}{g:Int->Int->Int}
 (rule:∀ (i j:Int) (t u:Tok) (s:Shared) (Q:Value->Shared->Prop) (E:Value->Shared->Prop),C i j->Q (.int (g i j) s.toks) { s with toks:=s.toks+1 }->wpAny (model X.prog X.w) X.A (f (.int i t) (.int j u)) Q E s) :
  OpR X f (rI C fun i j=>.int (g i j)):=by
 intro pins s σ H x y v u Q I rx ry h
 obtain⟨i,j,rfl,rfl,hc,q⟩:=h
 obtain⟨t,rfl⟩:=rx
 obtain⟨t',rfl⟩:=ry
 exact rule i j t t' s _ _ hc ⟨.int (g i j),H,I.tok _,⟨_,rfl⟩,q⟩
theorem yT{f:Value->Value->Sem Value}{g:Int->Int->Int}
 (rule:∀ (i j:Int) (t u:Tok) (s:Shared) (Q:Value->Shared->Prop) (E:Value->Shared->Prop),Q (.int (g i j) s.toks) { s with toks:=s.toks+1 }->wpAny (model X.prog X.w) X.A (f (.int i t) (.int j u)) Q E s) :
  OpR X f (rI0 fun i j=>.int (g i j)):=by
 intro pins s σ H x y v u Q I rx ry h
 obtain⟨i,j,rfl,rfl,q⟩:=h
 obtain⟨t,rfl⟩:=rx
 obtain⟨t',rfl⟩:=ry
 exact rule i j t t' s _ _ ⟨.int (g i j),H,I.tok _,⟨_,rfl⟩,q⟩
def AU(i j:Int):Prop:=0<j/\j<1073741824
def wF(i j:Int):Prop:=0<=j/\j<=1000000/\i.natAbs<2 ^ 64
def pd(i j:Int):Prop:=(-(2 ^ 64)<i/\i<2 ^ 64)\/(-(2 ^ 64)<j/\j<2 ^ 64)
theorem pd.ok{i j:Int}(h:pd i j):IntMulOk i j:=by
 rcases h with⟨h1,h2⟩ | ⟨h1,h2⟩
 ·exact .of_left (intBits_le_64 h1 h2)
 ·exact .of_right (intBits_le_64 h1 h2)
theorem xH:OpR X (binaryOp .Add) (rI0 fun i j=>.int (i+j)):=yT fun _ _ _ _ _ _ _ q=>add_int q
theorem xO:OpR X (binaryOp .Sub) (rI0 fun i j=>.int (i-j)):=yT fun _ _ _ _ _ _ _ q=>sub_int q
theorem xI:OpR X (binaryOp .Mult) (rI pd fun i j=>.int (i*j)):=opI fun _ _ _ _ _ _ _ hc q=>mul_int q hc.ok
theorem yL:OpR X (binaryOp .Mod) (rI (fun _ j=>0<j) fun i j=>.int (i%j)):=opI fun i j _ _ _ _ _ hc q=>by
 have h1:(0:Int)<j:=hc
 exact mod_int' (by lia) (by rw[Int.fmod_eq_emod_of_nonneg i (by lia)];exact q)
theorem yO:OpR X (binaryOp .Pow) (rI wF fun i j=>.int (i ^ j.toNat)):=opI fun _ _ _ _ _ _ _ hc q=>pow_int_small hc.1 hc.2.1 hc.2.2 q
theorem unI{f:Value->Sem Value}{g:Int->Int}
 (rule:∀ (i:Int) (t:Tok) (s:Shared) (Q:Value->Shared->Prop) (E:Value->Shared->Prop),Q (.int (g i) s.toks) { s with toks:=s.toks+1 }->wpAny (model X.prog X.w) X.A (f (.int i t)) Q E s) :
  UnR X f (rU fun i=>.int (g i)):=by
 intro pins s σ H x v Q I rx h
 obtain⟨i,rfl,q⟩:=h
 obtain⟨t,rfl⟩:=rx
 exact rule i t s _ _ ⟨.int (g i),H,I.tok _,⟨_,rfl⟩,q⟩
theorem ye:UnR X (unaryOp .USub) (rU fun i=>.int (-i)):=unI fun _ _ _ _ _ q=>neg_int q
end
def Bg:V->V->Bool
 | .non,.non=>true | .non,.int _=>true | .int _,.non=>true | .non,.bl _=>true | .bl _,.non=>true | .non,.str _=>true | .str _,.non=>true
 | .int _,.int _=>true | .bl _,.bl _=>true | .str _,.str _=>true | .byt _,.byt _=>true
 | .int _,.str _=>true | .str _,.int _=>true | .bl _,.str _=>true | .str _,.bl _=>true
 | _,_=>false
def rNe:R2:=fun x y H Q=>Bg x y=true/\Q (.bl (!decide (x=y))) H
theorem vp{i j:Int}:decide (V.int i=V.int j)=(i == j):=by
 rw[Bool.eq_iff_iff]
 simp
theorem xf{i j:Bool}:decide (V.bl i=V.bl j)=(i == j):=by
 rw[Bool.eq_iff_iff]
 simp
theorem uZ{i j:Str}:decide (V.str i=V.str j)=(i == j):=by
 rw[Bool.eq_iff_iff]
 simp
theorem vV{i j:Array UInt8}:decide (V.byt i=V.byt j)=(i.toList == j.toList):=by
 rw[Bool.eq_iff_iff]
 cases i
 cases j
 simp
section
variable{X:Cx}{a b c:Expr}{ta tb tc:TE}{pos:Pos}
theorem bA{pins:List (Addr × Obj)}{σ:St}{H:Hp}{s:Shared}{Q:VK}{k k':Bool}(I:Inv X pins σ H s)(q:Q (.bl k) H)(e:k=k'):EP X pins σ Q (.bool k') s:=by
 subst e
 exact⟨.bl k,H,I,rfl,q⟩
theorem zP:OpR X (compareOp .NotEq) rNe:=by
 intro pins s σ H x y v u Q I rx ry h
 obtain⟨hs,q⟩:=h
 cases x with
 |non=>
  cases rx
  cases y with
  | non=>cases ry;exact PySem.EqNone.ne_none_none (bA I q (by simp))
  | bl j=>cases ry;exact PySem.EqNone.ne_none_bool (bA I q (by simp))
  | int j=>obtain⟨t',rfl⟩:=ry;exact PySem.EqNone.ne_none_int (bA I q (by simp))
  | str j=>obtain⟨t',rfl⟩:=ry;exact PySem.EqNone.ne_none_str (bA I q (by simp))
  | _=>exact absurd (show false=true from hs) Bool.false_ne_true
 |bl i=>
  cases rx
  cases y with
  | non=>cases ry;exact PySem.EqNone.ne_bool_none (bA I q (by simp))
  | bl j=>cases ry;exact ne_bool (bA I q (congrArg not xf))
  | str j=>obtain⟨t',rfl⟩:=ry;exact PySem.EqMixed.ne_bool_str (bA I q (by simp))
  | _=>exact absurd (show false=true from hs) Bool.false_ne_true
 |int i=>
  obtain⟨t,rfl⟩:=rx
  cases y with
  | non=>cases ry;exact PySem.EqNone.ne_int_none (bA I q (by simp))
  | int j=>obtain⟨t',rfl⟩:=ry;exact ne_int (bA I q (congrArg not vp))
  | str j=>obtain⟨t',rfl⟩:=ry;exact PySem.EqMixed.ne_int_str (bA I q (by simp))
  | _=>exact absurd (show false=true from hs) Bool.false_ne_true
 |str i=>
  obtain⟨t,rfl⟩:=rx
  cases y with
  | non=>cases ry;exact PySem.EqNone.ne_str_none (bA I q (by simp))
  | bl j=>cases ry;exact PySem.EqMixed.ne_str_bool (bA I q (by simp))
  | int j=>obtain⟨t',rfl⟩:=ry;exact PySem.EqMixed.ne_str_int (bA I q (by simp))
  | str j=>obtain⟨t',rfl⟩:=ry;exact ne_str (bA I q (congrArg not uZ))
  | _=>exact absurd (show false=true from hs) Bool.false_ne_true
 |byt i=>
  obtain⟨t,rfl⟩:=rx
  cases y with
  | byt j=>obtain⟨t',rfl⟩:=ry;exact PySem.W.ne_bytes (bA I q (congrArg not vV))
  | _=>exact absurd (show false=true from hs) Bool.false_ne_true
 | _=>cases y<;>exact absurd (show false=true from hs) Bool.false_ne_true
theorem yv:OpR X (compareOp .Is) (fun x y H Q=>y=.non/\Q (.bl (decide (x=.non))) H):=by
 intro pins s σ H x y v u Q I rx ry h
 obtain⟨rfl,q⟩:=h
 cases ry
 refine is_none_gen (bA I q ?_)
 cases x<;>first
  | (cases rx;rfl)
  | (obtain⟨t,rfl⟩:=rx;rfl)
theorem wt:OpR X (compareOp .IsNot) (fun x y H Q=>y=.non/\Q (.bl (!decide (x=.non))) H):=by
 intro pins s σ H x y v u Q I rx ry h
 obtain⟨rfl,q⟩:=h
 cases ry
 refine isnot_none_gen (bA I q ?_)
 cases x<;>first
  | (cases rx;rfl)
  | (obtain⟨t,rfl⟩:=rx;rfl)
theorem OpR.or{f:Value->Value->Sem Value}{r r':R2}(h:OpR X f r)(h':OpR X f r'):OpR X f (fun x y H Q=>r x y H Q\/r' x y H Q):=by
 intro pins s σ H x y v u Q I rx ry q
 rcases q with q | q
 ·exact h pins s σ H x y v u Q I rx ry q
 ·exact h' pins s σ H x y v u Q I rx ry q
theorem m7(b:Expr){op:CmpOp}(h:op≠.In:=by decide)(h2:op≠.NotIn:=by decide):behindInMarks op b=false:=by
 have e1:(op == CmpOp.In)=false:=by cases op<;>first | rfl | exact absurd rfl h
 have e2:(op == CmpOp.NotIn)=false:=by cases op<;>first | rfl | exact absurd rfl h2
 cases b<;>simp[behindInMarks,e1,e2]
theorem nU{op:CmpOp}{r:R2}(ho:OpR X (compareOp op) r)(ha:PE X a ta)(hb:PE X b tb)(hm:behindInMarks op b=false):PE X (.Compare a [op] [b] pos) (tOp r ta tb):=by
 intro pins s σ H Q I h
 exact wpAny_Compare1 (sA ha hb I h fun v u s2 x y H2 I2 rx ry q=>ho pins s2 σ H2 x y v u Q I2 rx ry q) hm
def uw(t:TE):TT:=fun σ H Q=>t σ H fun x H'=>∃ k,x=.bl k/\Q k H'
theorem jZ{op:CmpOp}{r:R2}(ho:OpR X (compareOp op) r)(ha:PE X a ta)(hb:PE X b tb)(hm:behindInMarks op b=false):PT X (.Compare a [op] [b] pos) (uw (tOp r ta tb)):=by
 intro pins s σ H Q I h
 refine wpAny_isTrue_Compare1 (thn (ha pins s σ H _ I h) fun v s1 ⟨x,H1,I1,r1,q1⟩=>thn (hb pins s1 σ H1 _ I1 q1) fun u s2 ⟨y,H2,I2,r2,q2⟩ =>
  thn (ho pins s2 σ H2 x y v u _ I2 r1 r2 q2) fun c s3 ⟨z,H3,I3,r3,k,e,q3⟩=>?_) hm
 subst e
 cases r3
 exact wpAny_truthy_bool ⟨H3,I3,q3⟩
def mI(r r':R2)(ta tb tc:TE):TE:=fun σ H Q=>ta σ H fun x H1=>tb σ H1 fun y H2=>r x y H2 fun z H3=>∃ k,z=.bl k /\
 (if k=true then tc σ H3 fun w' H4=>r' y w' H4 Q else Q (.bl false) H3)
theorem sX{op op':CmpOp}{r r':R2}(ho:OpR X (compareOp op) r)(ho':OpR X (compareOp op') r')(ha:PE X a ta)(hb:PE X b tb)(hc:PE X c tc)
 (hm:lastMarks [op,op'] [b,c]=false:=by with_unfolding_all rfl):PE X (.Compare a [op,op'] [b,c] pos) (mI r r' ta tb tc):=by
 intro pins s σ H Q I h
 refine Compare_chain (thn (ha pins s σ H _ I h) fun v s1 ⟨x,H1,I1,r1,q1⟩=>chain_link (thn (hb pins s1 σ H1 _ I1 q1) fun u s2 ⟨y,H2,I2,r2,q2⟩ =>
  thn (ho pins s2 σ H2 x y v u _ I2 r1 r2 q2) fun d s3 ⟨z,H3,I3,r3,k,e,q3⟩=>?_)) hm
 subst e
 cases r3
 refine wpAny_truthy_bool ?_
 cases k with
 | false=>exact ite_ff ⟨.bl false,H3,I3,rfl,q3⟩
 | true=>exact ite_tt (chain_last (thn (hc pins s3 σ H3 _ I3 q3) fun w' s4 ⟨z',H4,I4,r4,q4⟩=>ho' pins s4 σ H4 y z' u w' Q I4 r2 r4 q4))
theorem sP{op op':CmpOp}{r r':R2}(ho:OpR X (compareOp op) r)(ho':OpR X (compareOp op') r')(ha:PE X a ta)(hb:PE X b tb)(hc:PE X c tc)
 (hm:lastMarks [op,op'] [b,c]=false:=by with_unfolding_all rfl):PT X (.Compare a [op,op'] [b,c] pos) (uw (mI r r' ta tb tc)):=by
 intro pins s σ H Q I h
 refine isTrue_chain (thn (ha pins s σ H _ I h) fun v s1 ⟨x,H1,I1,r1,q1⟩=>test_link (thn (hb pins s1 σ H1 _ I1 q1) fun u s2 ⟨y,H2,I2,r2,q2⟩ =>
  thn (ho pins s2 σ H2 x y v u _ I2 r1 r2 q2) fun d s3 ⟨z,H3,I3,r3,k,e,q3⟩=>?_)) hm
 subst e
 cases r3
 refine wpAny_truthy_bool ?_
 cases k with
 |false=>
  obtain⟨k',e',q'⟩:=q3
  cases e'
  exact ite_ff ⟨H3,I3,q'⟩
 |true=>
  refine ite_tt (test_last (thn (hc pins s3 σ H3 _ I3 q3) fun w' s4 ⟨z',H4,I4,r4,q4⟩=>thn (ho' pins s4 σ H4 y z' u w' _ I4 r2 r4 q4) fun d' s5 ⟨z2,H5,I5,r5,k2,e2,q5⟩=>?_))
  subst e2
  cases r5
  exact wpAny_truthy_bool ⟨H5,I5,q5⟩
def pQ(K:PySem.W.Frag)(x:V)(H:Hp)(k:Bool):Prop :=
 match x with
 | .non=>k=false
 | .bl b=>k=b
 | .int i=>k=(i != 0)
 | .str y=>y.length<=sizeLine/\k=((y.length:Int) != 0)
 | .byt y=>y.size<=sizeLine/\k=((y.size:Int) != 0)
 | .ref p=>(∃ xs,SqL K H p xs/\k=!xs.isEmpty)\/(∃ xs,SqT K H p xs/\k=!xs.isEmpty)\/∃ kvs,H p=some (.dK kvs)/\k=!kvs.isEmpty
 | _=>False
theorem pz{κ:Type}{kvs:List (κ × V)}{vs:List (κ × Value)}(r:KV kvs vs):(!vs.isEmpty)=!kvs.isEmpty:=by
 cases r<;>rfl
theorem jq{xs:List V}{its:List Value}(r:Vals xs its):(!its.toArray.isEmpty)=!xs.isEmpty:=by
 cases r<;>simp
theorem fA:(sizeLine:Nat)<2 ^ 63:=by rw[sizeLine_eq];decide
theorem qC:A7 X (fun x H Q=>∃ k,pQ X.K x H k/\Q k H):=by
 intro pins s σ H x v Q I rx h
 obtain⟨k,e,q⟩:=h
 have hl:=fA
 have hs:sizeLine=16777216:=sizeLine_eq
 cases x with
 |non=>
  cases rx
  have e':k=false:=e
  subst e'
  exact truthy_none ⟨H,I,q⟩
 |bl b=>
  cases rx
  have e':k=b:=e
  subst e'
  exact wpAny_truthy_bool ⟨H,I,q⟩
 |int i=>
  obtain⟨t,rfl⟩:=rx
  have e':k=(i != 0):=e
  subst e'
  exact PySem.P.truthy_int ⟨H,I,q⟩
 |str y=>
  obtain⟨t,rfl⟩:=rx
  obtain⟨hy,e'⟩:y.length<=sizeLine/\k=((y.length:Int) != 0):=e
  subst e'
  exact PySem.P.truthy_str (by lia) ⟨H,I.tok _,q⟩
 |byt y=>
  obtain⟨t,rfl⟩:=rx
  obtain⟨hy,e'⟩:y.size<=sizeLine/\k=((y.size:Int) != 0):=e
  subst e'
  exact PySem.W.truthy_bytes (by lia) ⟨H,I.tok _,q⟩
 |ref p=>
  cases rx
  have e':(∃ xs,SqL X.K H p xs/\k=!xs.isEmpty)\/(∃ xs,SqT X.K H p xs/\k=!xs.isEmpty)\/∃ kvs,H p=some (.dK kvs)/\k=!kvs.isEmpty:=e
  rcases e' with⟨xs,hx,e'⟩ | ⟨xs,hx,e'⟩ | ⟨kvs,hx,e'⟩
  ·subst e'
   obtain⟨its,r,pl,hz⟩:=I.list hx
   have hlen:=r.length
   exact wpAny_truthy_list pl.isList (by simp only[List.size_toArray];lia) ⟨H,I.tok _,by rw[jq r];exact q⟩
  ·subst e'
   obtain⟨its,r,pl,hz⟩:=I.tuple hx
   have hlen:=r.length
   exact truthy_tuple pl (by simp only[List.size_toArray];lia) ⟨H,I.tok _,by rw[jq r];exact q⟩
  ·subst e'
   obtain⟨hz,hS,vs,r,m⟩:kvs.length<=sizeLine/\(p == sysModules)=false/\∃ vs,KV kvs vs/\s.heap.DictOf (bq X.prog X.w) p vs:=I.hok p _ hx
   have hlen:kvs.length=vs.length:=Paired.length r
   exact wpAny_truthy_dict hS m (by lia) ⟨H,I.tok _,by rw[pz r];exact q⟩
 | _=>exact(show False from e).elim
theorem sh(ha:PE X a ta)(he:∀ whole,isTrue a X.env whole=(do let v <- whole;standAt a.pos;holding [v] (truthy v))) :
  PT X a (fun σ H Q=>ta σ H fun x H'=>∃ k,pQ X.K x H' k/\Q k H'):=by
 intro pins s σ H Q I h
 exact isTrue_plain (thn (ha pins s σ H _ I h) fun v s1 ⟨x,H1,I1,r1,q1⟩=>qC pins s1 σ H1 x v Q I1 r1 q1) (he _)
theorem pR:OpR X (binaryOp .Add) (fun x y H Q=>∃ i j,x=.str i/\y=.str j/\i.length+j.length<=sizeLine/\Q (.str (i++j)) H):=by
 intro pins s σ H x y v u Q I rx ry h
 obtain⟨i,j,rfl,rfl,hz,q⟩:=h
 obtain⟨t,rfl⟩:=rx
 obtain⟨t',rfl⟩:=ry
 exact add_str (fun t' tk=>⟨.str (i++j),H,I.tok _,⟨_,rfl⟩,q⟩) hz
theorem vals1{x:V}{us:List Value}(r:Vals [x] us):∃ u,us=[u]/\RelV x u:=by
 cases r with
 | cons r1 r2=>cases r2;exact⟨_,rfl,r1⟩
theorem vals2{x y:V}{us:List Value}(r:Vals [x,y] us):∃ u w',us=[u,w']/\RelV x u/\RelV y w':=by
 cases r with
 |cons r1 r2=>
  cases r2 with
  | cons r3 r4=>cases r4;exact⟨_,_,rfl,r1,r3⟩
def yl(K:PySem.W.Frag)(x:V)(H:Hp)(n:Nat):Prop :=
 match x with
 | .str y=>y.length<=sizeLine/\n=y.length
 | .byt y=>y.size<=sizeLine/\n=y.size
 | .ref p=>(∃ xs,SqL K H p xs/\n=xs.length)\/∃ xs,SqT K H p xs/\n=xs.length
 | _=>False
theorem tB:bu X (.builtin "len") (fun xs H Q=>∃ x n,xs=[x]/\yl X.K x H n/\Q (.int n) H):=by
 intro pins s σ H xs us Q I r h
 obtain⟨x,n,rfl,e,q⟩:=h
 obtain⟨u,rfl,rx⟩:=vals1 r
 have hl:=fA
 have hs:sizeLine=16777216:=sizeLine_eq
 cases x with
 |str y=>
  obtain⟨t,rfl⟩:=rx
  obtain⟨hy,e'⟩:y.length<=sizeLine/\n=y.length:=e
  subst e'
  exact len_str (by lia) ⟨.int _,H,I.tok _,⟨_,rfl⟩,q⟩
 |byt y=>
  obtain⟨t,rfl⟩:=rx
  obtain⟨hy,e'⟩:y.size<=sizeLine/\n=y.size:=e
  subst e'
  exact PySem.W.len_bytes (by lia) ⟨.int _,H,I.tok _,⟨_,rfl⟩,q⟩
 |ref p=>
  cases rx
  have e':(∃ xs,SqL X.K H p xs/\n=xs.length)\/∃ xs,SqT X.K H p xs/\n=xs.length:=e
  rcases e' with⟨xs,hx,e'⟩ | ⟨xs,hx,e'⟩
  ·subst e'
   obtain⟨its,r',pl,hz⟩:=I.list hx
   have hlen:=r'.length
   exact Calls.call_len_list pl.isList (by simp only[List.size_toArray];lia) ⟨.int xs.length,H,I.tok _,⟨_,by simp only[List.size_toArray];rw[hlen]⟩,q⟩
  ·subst e'
   obtain⟨its,r',pl,hz⟩:=I.tuple hx
   have hlen:=r'.length
   exact len_tuple pl (by simp only[List.size_toArray];lia) ⟨.int xs.length,H,I.tok _,⟨_,by simp only[List.size_toArray];rw[hlen]⟩,q⟩
 | _=>exact(show False from e).elim
theorem nJ:bu X (.builtin "divmod") (fun xs H Q=>∃ i j,xs=[.int i,.int j]/\AU i j/\∀ p,H p=none->Q (.ref p) (upd H p (.tup [.int (i / j),.int (i%j)]))):=by
 intro pins s σ H xs us Q I r h
 obtain⟨i,j,rfl,⟨h1,h2⟩,q⟩:=h
 obtain⟨u,w',rfl,⟨t,rfl⟩,⟨t',rfl⟩⟩:=vals2 r
 refine divmod_int (by lia) ?_ (.inl (PyProof.noPylong_small (by omega)))
 rw[Int.fdiv_eq_ediv_of_nonneg i (by lia),Int.fmod_eq_emod_of_nonneg i (by lia)]
 have hn:H s.heap.objs.size=none:=I.hok.fresh (Nat.le_refl _)
 refine⟨.ref s.heap.objs.size,_,?_,rfl,q _ hn⟩
 refine I.laid (fun b o e=>Heap.get?_push_of_some _ e) (Nat.le_refl _) ⟨by simp only[List.length_cons,List.length_nil];rw[sizeLine_eq];decide,[.int (i / j) s.toks,.int (i%j) (s.toks+1)],.cons ⟨_,rfl⟩ (.cons ⟨_,rfl⟩ .nil),?_⟩
 exact⟨_,Heap.get?_push_size s.heap rfl,rfl,0,rfl⟩
end
structure su(h:Heap)(x dx C:Addr)(mA:Str->Option Value):Prop where
 obj:h.get? x=some (PySem.W.instObj C dx)
 ns:h.Ns1 dx mA
 ne:dx≠x
theorem qr{h:Heap}{dx:Addr}{mA:Str->Option Value}(n:h.Ns1 dx mA):∃ od,h.get? dx=some od/\∀ name,PySem.W.lookIn name od=some (mA name):=by
 obtain⟨o,es,ep,ho,hd,hk,_,hm⟩:=n
 refine⟨o,ho,fun name=>?_⟩
 have e:=hm name
 unfold nsFind findBy at e
 rw[<-Array.find?_toList]at e
 unfold PySem.W.lookIn
 rw[hd]
 dsimp only
 split
 ·rename_i y q
  rw[q]at e
  exact congrArg some e
 ·rename_i q
  rw[q]at e
  have a:es.toList.any (·.refKey)=false:=by
   rw[List.any_eq_false]
   intro y hy
   obtain⟨z,t,hkey⟩:=hk y (Array.mem_toList_iff.mp hy)
   simp[DictEntry.refKey,hkey]
  have a':¬ es.toList.any (·.refKey)=true:=by rw[a];exact Bool.false_ne_true
  rw[if_neg a']
  exact congrArg some e
theorem su.look{h:Heap}{x dx C:Addr}{mA:Str->Option Value}(I:su h x dx C mA):∃ od,PySem.W.InstAt h x (PySem.W.instObj C dx) C (some od)/\∀ name,PySem.W.lookIn name od=some (mA name) :=
 let ⟨od,ho,hl⟩:=qr I.ns
 ⟨od,⟨I.obj,rfl,rfl,ho⟩,hl⟩
section
variable{prog:Program}{w:World}{A:Around}{E:Value->Shared->Prop}{s:Shared}{K:PySem.W.Frag}{x dx C f:Addr}{mA:Str->Option Value}{name:Str}{v:Value}
end
section
variable{P:Program}{w:World}{H H':Hp}{h h':Heap}{a C dx:Addr}{fs fs':List (Str × V)}
theorem vK(hok:HOk P w H h)(e:H a=some (.ins C dx fs)):∃ mA,su h a dx C mA/\(∀ f,gf (fs.lookup f) (mA f))/\PySem.Within mA (fs.map (·.1))/\fs.length<=1000/\H dx=some (.own a):=by
 obtain⟨d,z,ne,ob,mA,n,r,q⟩:=(show aV P w H h a (.ins C dx fs)from hok a _ e)
 exact⟨mA,⟨ob,n,ne⟩,r,q,z,d⟩
end
structure Cls(K:PySem.W.Frag)(C:Addr):Prop where
 pg:PySem.W.plainGet K C Str.empty=true
 hd:PySem.W.hasDictIn K C=true
 po:PySem.W.plainOver K C=true
 sa:PySem.W.findIn K (.ref C) "__setattr__" = some (some (.builtin "object.__setattr__"))
theorem Cls.get{K:PySem.W.Frag}{C:Addr}(c:Cls K C)(f:Str):PySem.W.plainGet K C f=true:=c.pg
section
variable{X:Cx}{pins:List (Addr × Obj)}{σ:St}{H:Hp}{s:Shared}{a C dx:Addr}{fs:List (Str × V)}{f:Str}{v:V}{A:Around}{E:Value->Shared->Prop}
end
section
variable{X:Cx}{o e value:Expr}{f:Str}{pos pos' tpos:Pos}{ta tv:TE}
end
section
variable{X:Cx}{pins:List (Addr × Obj)}{σ:St}{H:Hp}{s:Shared}{A:Around}{E:Value->Shared->Prop}{Q:Value->Shared->Prop}{c:Value}{b:Bool}
inductive cT (K:PySem.W.Frag) (H:Hp):V->Value->Prop where
 | non:cT K H .non (.type "NoneType")
 | bl (x:Bool):cT K H (.bl x) (.type "bool")
 | int (i:Int):cT K H (.int i) (.type "int")
 | str (x:Str):cT K H (.str x) (.type "str")
 | flt (x:UInt64):cT K H (.flt x) (.type "float")
 | lst {a:Addr} {xs:List V} (e:H a=some (.lst xs)):cT K H (.ref a) (.type "list")
 | frz {a:Addr} {o:Obj} {xs:List V} (e:H a=some (.frz o (.lst xs))):cT K H (.ref a) (.type "list")
 | tup {a:Addr} {xs:List V} (e:H a=some (.tup xs)):cT K H (.ref a) (.type "tuple")
 | dK {a:Addr} {kvs:List (Key × V)} (e:H a=some (.dK kvs)):cT K H (.ref a) (.type "dict")
 | dT {a:Addr} {kvs:List (List Key × V)} (e:H a=some (.dT kvs)):cT K H (.ref a) (.type "dict")
 | ins {a C dx:Addr} {fs:List (Str × V)} (e:H a=some (.ins C dx fs)) (cl:Cls K C) (ha:PySem.W.findIn K (.ref C) "__class__" = some (some (.builtin "object.__class__")))
   (hn:PySem.W.specialIn K (.builtin "object.__class__") "__get__" = some (some (.builtin "getset_descriptor.__get__"))) (htk:PySem.W.takesIn K (.builtin "object.__class__")=some true)
   (hm:PySem.W.mroIn K C (.type "object")=some true):cT K H (.ref a) (.ref C)
theorem qi{x:V}{u t:Value}(I:Inv X pins σ H s)(rx:RelV x u)(ty:cT X.K H x t)(e:PySem.W.kitOne X.K t c=some b)(h:∀ tk,Q (.bool b) { s with toks:=tk }) :
  wpAny (model X.prog X.w) A (call (.builtin "isinstance") [u,c]) Q E s:=by
 cases ty with
 | non=>cases(show u=Value.none from rx);exact PySem.W.kia_one PySem.W.kitx_none I.kIn True.intro e (fun z=>nomatch z) h
 | bl y=>cases(show u=Value.bool y from rx);exact PySem.W.kia_one PySem.W.kitx_bool I.kIn True.intro e (fun z=>nomatch z) h
 | int i=>obtain⟨t,q⟩:=(show ∃ t,u=Value.int i t from rx);cases q;exact PySem.W.kia_one PySem.W.kitx_int I.kIn True.intro e (fun z=>nomatch z) h
 | str y=>obtain⟨t,q⟩:=(show ∃ t,u=Value.str y t from rx);cases q;exact PySem.W.kia_one PySem.W.kitx_str I.kIn True.intro e (fun z=>nomatch z) h
 | flt y=>obtain⟨t,q⟩:=(show ∃ t,u=Value.float y t from rx);cases q;exact PySem.W.kia_one PySem.W.kitx_float I.kIn True.intro e (fun z=>nomatch z) h
 |@lst a xs ea=>
  cases(show u=Value.ref a from rx)
  obtain⟨_,_,n,_,h1⟩:=(show aV X.prog X.w H s.heap a (.lst xs)from I.hok a _ ea)
  exact PySem.W.kia_one PySem.W.kitx_list I.kIn ⟨_,h1,rfl⟩ e (fun z=>nomatch z) h
 |@frz a ob xs ea=>
  cases(show u=Value.ref a from rx)
  obtain⟨_,_,_,n,_,h1⟩:=(show aV X.prog X.w H s.heap a (.frz ob (.lst xs))from I.hok a _ ea)
  exact PySem.W.kia_one PySem.W.kitx_list I.kIn ⟨_,h1,rfl⟩ e (fun z=>nomatch z) h
 |@tup a xs ea=>
  cases(show u=Value.ref a from rx)
  obtain⟨_,_,_,p⟩:=(show aV X.prog X.w H s.heap a (.tup xs)from I.hok a _ ea)
  obtain⟨o,h1,h2,_⟩:=p
  exact PySem.W.kia_one PySem.W.kitx_tuple I.kIn ⟨o,h1,h2⟩ e (fun z=>nomatch z) h
 |@dK a kvs ea=>
  cases(show u=Value.ref a from rx)
  obtain⟨_,_,vs,_,p⟩:=(show aV X.prog X.w H s.heap a (.dK kvs)from I.hok a _ ea)
  obtain⟨o,es,ep,h1,h2,_⟩:=p
  exact PySem.W.kia_one PySem.W.kitx_dict I.kIn ⟨o,h1,h2.1⟩ e (fun z=>nomatch z) h
 |@dT a kvs ea=>
  cases(show u=Value.ref a from rx)
  obtain⟨_,_,xs,_,o,es,ep,h1,h2,_⟩:=(show aV X.prog X.w H s.heap a (.dT kvs)from I.hok a _ ea)
  exact PySem.W.kia_one PySem.W.kitx_dict I.kIn ⟨o,h1,h2.1⟩ e (fun z=>nomatch z) h
 |@ins a C dx fs ea cl ha hn htk hm=>
  cases(show u=Value.ref a from rx)
  obtain⟨mA,O,_⟩:=vK I.hok ea
  obtain⟨od,J,_⟩:=O.look
  exact PySem.W.kia_one (PySem.W.kitx_own (cl.get _) cl.hd ha hn htk hm) I.kIn J e (fun z=>nomatch z) h
end
structure cO(k:Nat)(A:Around):Prop where
 hd:A.handled=none
 dp:A.depth+3*k+5<recursionLimit
 un:A.units+16*k+200<cLine
theorem cO.deeper{k:Nat}{A:Around}(r:cO (k+1) A)(env:Env):cO k (A.deeper env) :=
 ⟨r.hd,by have:=r.dp;show A.depth+1+3*k+5<_;lia,by have:=r.un;show A.units+3+16*k+200<_;lia⟩
theorem cO.depth{k:Nat}{A:Around}(r:cO k A):A.depth<recursionLimit:=by have:=r.dp;lia
def oY:TA:=fun _ H Q=>Q [] H
def jz(ta:TE)(tr:TA):TA:=fun σ H Q=>ta σ H fun x H1=>tr σ H1 fun xs H2=>Q (x::xs) H2
section
variable{X:Cx}{e:Expr}{es:List Expr}{te:TE}{t:TA}{pos:Pos}
theorem cU:PA X [] oY:=fun _ _ _ _ H Q I h=>Calls.spliced_nil ⟨[],H,I,.nil,h⟩
theorem bJ(ha:PE X e te)(hr:PA X es t)(hs:starEach (e::es) X.env=(false,eval e X.env)::starEach es X.env:=by rfl):PA X (e::es) (jz te t):=by
 intro pos pins s σ H Q I h
 rw[hs]
 show wpAny _ _ (spliced ((false,eval e X.env)::backTo pos (starEach es X.env))) _ _ s
 refine Calls.spliced_cons (thn (ha pins s σ H _ I h) fun u s1 ⟨x,H1,I1,r1,q1⟩=>?_)
 exact thn (hr pos pins s1 σ H1 _ I1 q1) fun us s2 ⟨xs,H2,I2,r2,q2⟩=>⟨x::xs,H2,I2,.cons r1 r2,q2⟩
def AZ(t:TA):TE:=fun σ H Q=>t σ H fun xs H1=>xs.length<=sizeLine/\∀ p,H1 p=none->Q (.ref p) (upd H1 p (.tup xs))
def Bn(t:TA):TE:=fun σ H Q=>t σ H fun xs H1=>xs.length<=sizeLine/\∀ p,H1 p=none->Q (.ref p) (upd H1 p (.lst xs))
theorem wQ{x1}(h:PA X es t):PE X (.Tuple es x1 pos) (AZ t):=by
 intro pins s σ H Q I hq
 refine wpAny_Tuple_spliced (thn (h pos pins s σ H _ I hq) fun us s1 ⟨xs,H1,I1,r,z,q⟩=>⟨by rw[<-r.length];exact z,?_⟩)
 have hf:H1 s1.heap.objs.size=none:=I1.hok.fresh (Nat.le_refl _)
 refine⟨.ref s1.heap.objs.size,upd H1 s1.heap.objs.size (.tup xs),I1.laid (t':=s1.toks) (fun b u e=>Heap.get?_push_of_some _ e) (Nat.le_refl _) ?_,rfl,q _ hf⟩
 exact⟨z,us,r,⟨_,Heap.get?_push_size _ rfl,rfl,_,rfl⟩⟩
theorem wU(h:PA X es t):PE X (.List es pos) (Bn t):=by
 intro pins s σ H Q I hq
 refine wpAny_List_spliced (thn (h pos pins s σ H _ I hq) fun us s1 ⟨xs,H1,I1,r,z,q⟩=>⟨by rw[<-r.length];exact z,?_⟩)
 have hf:H1 s1.heap.objs.size=none:=I1.hok.fresh (Nat.le_refl _)
 refine⟨.ref s1.heap.objs.size,upd H1 s1.heap.objs.size (.lst xs),I1.laid (t':=s1.toks) (fun b u e=>Heap.get?_push_of_some _ e) (Nat.le_refl _) ?_,rfl,q _ hf⟩
 exact⟨z,us,0,r,Heap.get?_push_size _ rfl⟩
end
abbrev Sp:=List V->Hp->VK->XK->Prop
abbrev CXT:=List Env->Hp->Shared->XK->Value->Shared->Prop
structure pD(P:Program)(w:World)(K:PySem.W.Frag)(mg:Str->Option Value)(base:Heap)(A:Around)(outer:List Env)(s:Shared)(H:Hp):Prop where
 frames:A.frames=some outer
 mod:Mod K mg base
 bs:∀ b o,base.get? b=some o->s.heap.get? b=some o/\H b=none
 bsz:base.objs.size<=s.heap.objs.size
 eM:s.heap.FunFrames base outer
 frf:∀ b∈frs outer,H b=none
 hok:HOk P w H s.heap
 bare:AllBare s.gens
def CE(outer:List Env)(P:Program)(w:World)(H:Hp)(s:Shared)(Q:VK)(u:Value)(s':Shared):Prop :=
 ∃ v H',s'.os=s.os/\AllBare s'.gens/\Un (frs outer) [] H H' s.heap s'.heap/\HOk P w H' s'.heap/\RelV v u/\Q v H'
def CR(CX:CXT)(outer:List Env)(P:Program)(w:World)(H:Hp)(s:Shared)(Q:VK)(E:XK)(r:Result)(s':Shared):Prop :=
 match r with
 | .ok (.ret u)=>CE outer P w H s Q u s'
 | .ok _=>False
 | .error e=>CX outer H s E e s'
structure fh(P:Program)(w:World)(K:PySem.W.Frag)(mg:Str->Option Value)(base:Heap)(CX:CXT)(k:Nat)(f:Addr)(fd:FuncData)(ps:List Str)(sp:Sp):Prop where
 len:∀ vs H Q E,sp vs H Q E->vs.length=ps.length
 run:∀ (A:Around) (outer:List Env) (s:Shared) (H:Hp) (args:Args) (us:List Value) (vs:List V) (Q:VK) (E:XK),cO k A->pD P w K mg base A outer s H->BindsTo s fd args (ps.zip us)->Vals vs us->sp vs H Q E ->
  codeAny (model P w) A (.call (.ref f) args) (CR CX outer P w H s Q E) s
section
variable{X:Cx}{pins:List (Addr × Obj)}{σ:St}{H:Hp}{s s':Shared}
theorem Inv.Br(I:Inv X pins σ H s):pD X.prog X.w X.K X.mg X.base X.A X.stack s H :=
 ⟨I.ok.frames,I.ok.mod,I.bs,Nat.le_trans I.ok.bsz I.sz,I.stack,I.nX,I.hok,I.bare⟩
theorem Inv.after{Q:VK}{u:Value}(I:Inv X pins σ H s)(h:CE X.stack X.prog X.w H s Q u s'):EP X pins σ Q u s':=by
 obtain⟨v,H',os,bare,un,hok,r,q⟩:=h
 obtain⟨hh,g,d,t,os'⟩:=s'
 obtain rfl:os'=s.os:=os
 exact⟨v,H',I.call (h':=hh) (g':=g) (d':=d) (t':=t) (ch:=[]) un hok bare (fun b z=>absurd z (by simp)),r,q⟩
end
def l9(sp:Sp)(dvs:List V)(E:XK)(t:TA):TE:=fun σ H Q=>t σ H fun vs H1=>sp (vs++dvs) H1 Q E
def Binds(K:PySem.W.Frag)(fd:FuncData)(ps:List Str)(ds:List Value):Prop :=
 ∀ (s:Shared) (us:List Value),K.In s.heap->(us++ds).length=ps.length->BindsTo s fd ⟨us,[]⟩ (ps.zip (us++ds))
theorem Binds.all{K:PySem.W.Frag}{fd:FuncData}{ps:List Str}(h:∀ us:List Value,us.length=ps.length->bindArgs fd ⟨us,[]⟩=pure (ps.zip us)):Binds K fd ps []:=fun s us _ hl=>by
 rw[List.append_nil]at hl ⊢
 exact .of_eq (h us hl)
def Passes(CX:CXT)(X:Cx)(E:XK):Prop:=∀ (pins:List (Addr × Obj)) (σ:St) (H:Hp) (s:Shared) (e:Value) (s':Shared),Inv X pins σ H s->CX X.stack H s E e s'->X.xe e s'
section
variable{X:Cx}{CX:CXT}{k:Nat}{f C:Addr}{fd:FuncData}{ps:List Str}{sp:Sp}{dvs:List V}{ds:List Value}{E:XK}{x m:Str}{p pos apos:Pos}{e o:Expr}{es:List Expr}{ta:TE}{t:TA}
theorem yJ{pins:List (Addr × Obj)}{σ:St}{H:Hp}{s:Shared}{Q:VK}{us:List Value}{vs:List V}(F:fh X.prog X.w X.K X.mg X.base CX k f fd ps sp)(hr:cO k X.A)(hb:Binds X.K fd ps ds)(hd:Vals dvs ds)(hx:Passes CX X E)
 (I:Inv X pins σ H s)(r:Vals vs us)(h:sp (vs++dvs) H Q E):wpAny (model X.prog X.w) X.A (call (.ref f) us) (EP X pins σ Q) X.xe s:=by
 have r2:Vals (vs++dvs) (us++ds):=r.append hd
 have hl:(us++ds).length=ps.length:=by rw[<-r2.length];exact F.len _ _ _ _ h
 refine wpAny_call (codeAny_mono (F.run X.A X.stack s H ⟨us,[]⟩ (us++ds) (vs++dvs) Q E hr I.Br (hb s us I.kIn hl) r2 h) fun r s' hq=>?_)
 cases r with
 | error e=>exact hx pins σ H s e s' I hq
 |ok fl=>
  cases fl with
  | ret u=>exact I.after hq
  | next=>exact False.elim hq
  | brk=>exact False.elim hq
  | cont=>exact False.elim hq
theorem oW(F:fh X.prog X.w X.K X.mg X.base CX k f fd ps sp)(hr:cO k X.A)(hg:Gl X x)(hm:X.mg x=some (.ref f))(hk:PySem.W.keepIn X.K (.ref f)=true)(hb:Binds X.K fd ps ds)(hd:Vals dvs ds)(hx:Passes CX X E)
 (ha:PA X (e::es) t)(hdb:(x == ("__debug__" : Str))=false:=by decide)(he:starEach (e::es) X.env=(false,eval e X.env)::starEach es X.env:=by rfl)(hpl:(backTo pos (starEach es X.env)).any (·.1)=false:=by rfl) :
  PE X (.Call (.Name x p) (e::es) [] pos) (l9 sp dvs E t):=by
 intro pins s σ H Q I h
 refine wpAny_Call_Name_kw (oP I hg hm ?_ hdb)
 refine PySem.W.callWith_K (h₀:=X.base) I.ok.mod.kin hk (thn (ha pos pins s σ H _ I h) fun us s1 ⟨vs,H1,I1,r,q⟩=>⟨I1.kIn,?_⟩) he hpl
 exact yJ F hr hb hd hx I1 r q
end
section
variable{X:Cx}{CX:CXT}{k:Nat}{f C:Addr}{fd:FuncData}{ps ks:List Str}{sp:Sp}{E:XK}{x m:Str}{p pos apos kpos:Pos}{e o:Expr}{es:List Expr}{kws:List Keyword}{te ta:TE}{t tk:TA}{nm:Option Str}
variable{g:List Value->List Value->List Value}{gV:List V->List V->List V}
end
structure i0(N P:List Str)(sc:Scope):Prop where
 kind:sc.kind=.function
 co:sc.isCoroutine=false
 gen:sc.isGenerator=false
 nd:N.Nodup
 pre:N.take P.length=P
 par:∀ x∈P,sc.names.lookup x=some .local\/sc.names.lookup x=some .cell
 yj:∀ y∈sc.names,y.2≠.free
theorem kL{kindOf:Str->Option NameKind}{x:Str}:∀ {binds:List (Str × Value)} {m:Str->Option Value},(∀ v,(x,v)∉binds)->bindL kindOf binds m x=m x
 | [],_,_=>rfl
 | (n,v)::r,m,h=>by
  unfold bindL
  rw[kL fun w hw=>h w (List.mem_cons_of_mem _ hw)]
  split
  ·have:x≠n:=by rintro rfl;exact h v List.mem_cons_self
   simp[this]
  ·rfl
theorem kE{kindOf:Str->Option NameKind}{x:Str}:∀ {binds:List (Str × Value)} {m:Str->Option Value},(∀ v,(x,v)∉binds)->bindC kindOf binds m x=m x
 | [],_,_=>rfl
 | (n,v)::r,m,h=>by
  unfold bindC
  rw[kE fun w hw=>h w (List.mem_cons_of_mem _ hw)]
  split
  ·rfl
  ·have:x≠n:=by rintro rfl;exact h v List.mem_cons_self
   simp[this]
theorem kC{kindOf:Str->Option NameKind}{x:Str}{v:Value}:∀ {P:List Str} {vs:List Value} {i:Nat} {m:Str->Option Value},P.Nodup->P[i]?=some x->vs[i]?=some v->kindOf x=some .local ->
  bindL kindOf (P.zip vs) m x=some v
 | [],_,_,_,_,h,_,_=>by simp at h
 | _::_,[],_,_,_,_,h,_=>by simp at h
 | p::P,w::vs,0,m,nd,h1,h2,hk=>by
  simp at h1 h2;subst h1;subst h2
  show bindL kindOf ((p,w)::P.zip vs) m p=_
  unfold bindL
  rw[kL fun v hv=>(List.nodup_cons.mp nd).1 (List.of_mem_zip hv).1,if_pos hk]
  simp
 | p::P,w::vs,i+1,m,nd,h1,h2,hk=>by
  show bindL kindOf ((p,w)::P.zip vs) m x=_
  unfold bindL
  exact kC (i:=i) (List.nodup_cons.mp nd).2 (by simpa using h1) (by simpa using h2) hk
theorem kO{kindOf:Str->Option NameKind}{x:Str}{v:Value}:∀ {P:List Str} {vs:List Value} {i:Nat} {m:Str->Option Value},P.Nodup->P[i]?=some x->vs[i]?=some v->kindOf x≠some .local ->
  bindC kindOf (P.zip vs) m x=some v
 | [],_,_,_,_,h,_,_=>by simp at h
 | _::_,[],_,_,_,_,h,_=>by simp at h
 | p::P,w::vs,0,m,nd,h1,h2,hk=>by
  simp at h1 h2;subst h1;subst h2
  show bindC kindOf ((p,w)::P.zip vs) m p=_
  unfold bindC
  rw[kE fun v hv=>(List.nodup_cons.mp nd).1 (List.of_mem_zip hv).1,if_neg hk]
  simp
 | p::P,w::vs,i+1,m,nd,h1,h2,hk=>by
  show bindC kindOf ((p,w)::P.zip vs) m x=_
  unfold bindC
  exact kO (i:=i) (List.nodup_cons.mp nd).2 (by simpa using h1) (by simpa using h2) hk
def start(N:List Str)(vs:List V):St:=vs.map some++List.replicate (N.length-vs.length) none
def iX(CX:CXT)(P:Program)(w:World)(K:PySem.W.Frag)(mg:Str->Option Value)(base:Heap)(N:List Str)(qual:Str)(scope:Scope)(f:Addr)(cd:Value)(A:Around)(outer:List Env)(s:Shared)(H:Hp)(E:XK):Cx where
 prog:=P
 w:=w
 K:=K
 mg:=mg
 base:=base
 A:=A.deeper (envOfC qual scope s.heap.objs.size f cd)
 N:=N
 s₀:=s
 H₀:=H
 env:=envOfC qual scope s.heap.objs.size f cd
 outer:=outer
 stack:=envOfC qual scope s.heap.objs.size f cd::outer
 ex:=[]
 calm:=true
 fn:=fun _=>true
 pn:=[]
 xe:=fun e s'=>wpAny (model P w) (A.deeper (envOfC qual scope s.heap.objs.size f cd)) (leaving (envOfC qual scope s.heap.objs.size f cd) e) (fun _ s''=>CX outer H s E e s'') (fun e' s''=>CX outer H s E e' s'') s'
theorem lQ{sc:Scope}{n:Nat}{x:Str}(h:sc.names.lookup x=some .cell):∃ c,(cellsFrom n sc.names []).lookup x=some c:=by
 have q:=PySem.W.cellsFrom_some sc.names n [] (.inl h)
 exact Option.isSome_iff_exists.mp q
theorem qm{CX:CXT}{P:Program}{w:World}{K:PySem.W.Frag}{mg:Str->Option Value}{base:Heap}{N ps:List Str}{qual:Str}{scope:Scope}{f:Addr}{cd:Value}{A:Around}{outer:List Env}{s s1:Shared}{H:Hp}{E:XK}{us:List Value}{vs:List V}
 (S:i0 N ps scope)(hd:A.handled=none)(e0:pD P w K mg base A outer s H)(hl:vs.length=ps.length)(r:Vals vs us)
 (x:InCallC s s.heap.objs.size (bindL (envOfC qual scope s.heap.objs.size f cd).kindOf (ps.zip us) fun _=>none) (cellsFrom (s.heap.objs.size+1) scope.names []) (bindC (envOfC qual scope s.heap.objs.size f cd).kindOf (ps.zip us) fun _=>none) s1) :
  Inv (iX CX P w K mg base N qual scope f cd A outer s H E) [] (start N vs) H s1:=by
 have hpl:ps.length<=N.length:=by have:=congrArg List.length S.pre;rw[List.length_take]at this;lia
 obtain⟨h1,tk,rfl,hk⟩:=x.done
 have noA:∀ b:Addr,b∉(iX CX P w K mg base N qual scope f cd A outer s H E).ex:=fun b z=>absurd (show b∈([]:List Addr)from z) (by simp)
 refine⟨⟨e0.mod,S.kind,rfl,rfl,Nat.le_refl _,fun y z c h1 h2=>?_,fun y hy=>?_,fun y c _ h=>?_,fun _=>hd,Around.frames_deeper e0.frames,.inr ⟨rfl,rfl⟩,fun b z=>absurd z (noA b),e0.bs,e0.bsz,fun b _ _=>noA b,fun b z=>absurd z (noA b),e0.eM,e0.frf⟩,
  rfl,e0.bare,Un.kept hk,⟨_,x.toInCall.ns,fun i y v h1 h2 h3=>?_⟩,fun y c h=>⟨_,x.cell y c h⟩,e0.hok.fresh (Nat.le_refl _),fun y c h=>?_,fun p hp=>absurd (show p∈([]:List (Addr × Obj))from hp) (by simp),e0.hok.kept hk,?_⟩
 ·exact name_of_addr x.apart (PySem.mem_of_lookup h1) (PySem.mem_of_lookup h2)
 ·have hy:scope.names.lookup y=some .cell\/scope.names.lookup y=some .free:=hy
  rcases hy with hy | hy
  ·exact lQ hy
  ·exact absurd rfl (S.yj _ (PySem.mem_of_lookup hy))
 ·exact Nat.le_of_lt (x.above y c (PySem.mem_of_lookup h))
 ·have hi:i<vs.length:=by
   unfold start at h2
   by_cases hi:i<vs.length
   ·exact hi
   ·rw[List.getElem?_append_right (by simpa using hi)]at h2
    rw[List.getElem?_replicate]at h2
    split at h2<;>cases h2
  have ha:vs[i]?=some v:=by
   unfold start at h2
   rw[List.getElem?_append_left (by simpa using hi),List.getElem?_map]at h2
   cases e:vs[i]? with
   | none=>rw[e]at h2;cases h2
   | some a=>rw[e]at h2;cases h2;rfl
  obtain⟨u,hu,rv⟩:=r.get ha
  have hp:ps[i]?=some y:=by
   rw[<-S.pre,List.getElem?_take_of_lt (by lia)];exact h1
  have ndP:ps.Nodup:=by rw[<-S.pre];exact S.nd.sublist (List.take_sublist _ _)
  refine⟨u,rv,?_⟩
  rcases S.par y (List.mem_of_getElem? hp)with k | k
  ·exact .inl ⟨k,kC ndP hp hu k⟩
  ·obtain⟨c,e⟩:=lQ (n:=s.heap.objs.size+1) k
   refine .inr ⟨.inl k,c,e,?_⟩
   have q:=x.cell y c e
   rw[kO ndP hp hu (by show scope.names.lookup y≠_;rw[k];decide)]at q
   exact q
 ·exact e0.hok.fresh (Nat.le_of_lt (x.above y c (PySem.mem_of_lookup h)))
 ·unfold start
  show _=N.length
  rw[List.length_append,List.length_map,List.length_replicate]
  lia
theorem zK{CX:CXT}{P:Program}{w:World}{K:PySem.W.Frag}{mg:Str->Option Value}{base:Heap}{k:Nat}{f:Addr}{name qual:Str}{params:Arguments}{body:List Stmt}{scope:Scope}{dV kV doc pm cdv ct oc:Value}{an od:Option Addr}
 {osl:Array (Option Value)}{N ps:List Str}{sp:Sp}(lk:K.lookup f=some ⟨oc,od,.func (PySem.W.fnOf name qual params body scope dV kV doc pm an cdv ct),osl⟩)(hcd:PySem.W.codeIn K cdv qual=true)(S:i0 N ps scope)
 (len:∀ vs H Q E,sp vs H Q E->vs.length=ps.length)
 (hbody:∀ (A:Around) (outer:List Env) (s:Shared) (H:Hp) (vs:List V) (Q:VK) (E:XK),cO k (A.deeper (envOfC qual scope s.heap.objs.size f cdv))->sp vs H Q E ->
   ∃ t,PSs (iX CX P w K mg base N qual scope f cdv A outer s H E) body t/\t { nx:=fun _ H'=>Q .non H',rt:=Q } (start N vs) H) :
  fh P w K mg base CX (k+1) f (PySem.W.fnOf name qual params body scope dV kV doc pm an cdv ct) ps sp:=by
 refine⟨len,fun A outer s H args us vs Q E hr e0 hb r hsp=>?_⟩
 have hl:=len _ _ _ _ hsp
 have KX:K.In s.heap:=e0.mod.kin.keeps fun b o e=>(e0.bs b o e).1
 have lim:s.heap.NoLimit:=e0.mod.nolimit.keeps fun b o e=>(e0.bs b o e).1
 have hkind:∀ y∈ps.zip us,scope.names.lookup y.1=some .local\/(scope.names.lookup y.1=some .cell/\((cellsFrom (s.heap.objs.size+1) scope.names []).lookup y.1).isSome=true):=fun⟨n,v⟩ hy=>by
  rcases S.par n (List.of_mem_zip hy).1 with q | q
  ·exact .inl q
  ·exact .inr ⟨q,PySem.W.cellsFrom_some _ _ _ (.inl q)⟩
 refine codeAny_call_function hr.depth (KX _ _ lk) rfl S.co S.gen rfl (PySem.W.codeRec_of KX hcd) (hb _ _ _ _ ?_)
 refine wpAny_newFunctionEnv_cells S.kind hkind fun env he s1 x=>?_
 subst he
 refine⟨lim.keeps x.toInCall.keep,codeAny_func ?_⟩
 obtain⟨t,ht,hq⟩:=hbody A outer s H vs Q E (hr.deeper _) hsp
 have I:Inv (iX CX P w K mg base N qual scope f cdv A outer s H E) [] (start N vs) H s1:=qm S hr.hd e0 hl r x
 refine wpAny_mono (ht [] s1 (start N vs) H _ I hq) (fun fl s' hs=>?_) fun e s' hs=>hs
 have fin:∀ {σ':St} {H':Hp} {v:V} {u:Value},Inv (iX CX P w K mg base N qual scope f cdv A outer s H E) [] σ' H' s'->RelV v u->Q v H'->CE outer P w H s Q u s' :=
  fun {σ' H' v u} J rv q=>⟨v,H',J.os,J.bare,J.base,J.hok,rv,q⟩
 cases fl with
 |ret u=>
  obtain⟨v,σ',H',J,rv,q⟩:=hs
  exact fin J rv q
 |next=>
  obtain⟨σ',H',J,q⟩:=hs
  exact fin (v:=V.non) (u:=Value.none) J rfl q
 |brk=>
  obtain⟨_,_,_,q⟩:=hs
  exact False.elim q
 |cont=>
  obtain⟨_,_,_,q⟩:=hs
  exact False.elim q
section
variable{X:Cx}{x:Str}{p pos:Pos}{e:Expr}{es:List Expr}{t:TA}{id T:String}{r:List V->Hp->VK->Prop}
def tCB(r:List V->Hp->VK->Prop)(t:TA):TE:=fun σ H Q=>t σ H fun vs H1=>r vs H1 Q
theorem iY(hc:bu X (.builtin id) r)(hg:Gl X x)(hm:X.mg x=none)(hv:bootBuiltins x=some (.builtin id))(ha:PA X (e::es) t)(hn:x ≠ "__name__" := by decide)(hdb:(x == ("__debug__" : Str))=false:=by decide)
 (he:starEach (e::es) X.env=(false,eval e X.env)::starEach es X.env:=by rfl)(hpl:(backTo pos (starEach es X.env)).any (·.1)=false:=by rfl):PE X (.Call (.Name x p) (e::es) [] pos) (tCB r t):=by
 intro pins s σ H Q I h
 refine wpAny_Call_Name_kw (eA I hg hm hv ?_ hn hdb)
 exact PyProof.Rows.callWith_builtin1 (thn (ha pos pins s σ H _ I h) fun us s1 ⟨vs,H1,I1,r1,q1⟩=>hc pins s1 σ H1 vs us Q I1 r1 q1) he hpl
theorem bX(hc:bu X (.type T) r)(hg:Gl X x)(hm:X.mg x=none)(hv:bootBuiltins x=some (.type T))(ha:PA X (e::es) t)(hn:x ≠ "__name__" := by decide)(hdb:(x == ("__debug__" : Str))=false:=by decide)
 (he:starEach (e::es) X.env=(false,eval e X.env)::starEach es X.env:=by rfl)(hpl:(backTo pos (starEach es X.env)).any (·.1)=false:=by rfl):PE X (.Call (.Name x p) (e::es) [] pos) (tCB r t):=by
 intro pins s σ H Q I h
 refine wpAny_Call_Name_kw (eA I hg hm hv ?_ hn hdb)
 exact PyProof.Rows.callWith_type1 (thn (ha pos pins s σ H _ I h) fun us s1 ⟨vs,H1,I1,r1,q1⟩=>hc pins s1 σ H1 vs us Q I1 r1 q1) he hpl
end
end L2
namespace HT
open PySem PyProof.Rows
section
open PySem.SeqAt
open PySem.AutoSeq1 (wpAny_loadPart')
open PySem.MeetsSeq PySem.MeetsSeq2 PySem.MeetsSeq3
end
section
variable{prog:Program}{w:World}{A:Around}{E:Value->Shared->Prop}{s:Shared}
theorem vD{t b:Addr}{vs ws:List Value}{Q:Value->Shared->Prop}(ht:IsTup s.heap t vs.toArray)(hb:IsTup s.heap b ws.toArray)(hv:vs≠[])
 (h1:ws=[]->Q (.ref t) s)(h2:ws≠[]->Q (.ref s.heap.objs.size) { s with heap:=s.heap.push { cls:=.type "tuple",data:=.seq (vs++ws).toArray } })
 (hsz:vs.length+ws.length<=sizeLine):wpAny (model prog w) A (binaryOp .Add (.ref t) (.ref b)) Q E s:=by
 obtain⟨⟨cls,dd,data,sl⟩,ho,hc,n,hd⟩:=id ht
 obtain⟨⟨cls2,dd2,data2,sl2⟩,ho2,hc2,n2,hd2⟩:=id hb
 simp only at hc hd hc2 hd2
 subst hc hd hc2 hd2
 have e:vs.toArray++ws.toArray=(vs++ws).toArray:=by simp
 by_cases hw:ws=[]
 ·exact concat_meets ⟨_,ho,rfl⟩ ⟨_,ho2,rfl⟩ noFill_tuple_add seq_tuple_add PySem.F.slot_tuple_add PySem.F.entry_tuple_add (PySem.F.args_tuple_add_2 _ _)
   (tuple_addW1 t b vs.toArray ws.toArray n n2 dd dd2 sl sl2 (by simpa using hv) (by simp[hw])) ⟨ho,ho2,h1 hw⟩
 ·refine concat_meets ⟨_,ho,rfl⟩ ⟨_,ho2,rfl⟩ noFill_tuple_add seq_tuple_add PySem.F.slot_tuple_add PySem.F.entry_tuple_add (PySem.F.args_tuple_add_2 _ _)
   (tuple_addW2 t b vs.toArray ws.toArray n n2 dd dd2 sl sl2 (by simpa using hv) (by simpa using hw) (by rw[List.size_toArray,List.size_toArray];exact hsz)) ⟨ho,ho2,?_⟩
  rw[e]
  exact h2 hw
def sIx(n d:Nat):Option Int->Nat
 | none=>d
 | some v=>if v<0 then(v+(n:Int)).toNat else min v.toNat n
theorem t8(n d:Nat):sIx n d none=d:=rfl
theorem yD(n d:Nat)(hd:d<=n)(o:Option Int):sIx n d o<=n:=by
 cases o with
 | none=>exact hd
 |some v=>
  show(if v<0 then(v+(n:Int)).toNat else min v.toNat n)<=n
  by_cases hv:v<0
  ·rw[if_pos hv];lia
  ·rw[if_neg hv];exact Nat.min_le_right _ _
theorem i5(v:Int)(n d:Nat):(if v<0 then max (v+(n:Int)) 0 else min v (n:Int))=((sIx n d (some v):Nat):Int):=by
 show(if v<0 then max (v+(n:Int)) 0 else min v (n:Int))=(((if v<0 then(v+(n:Int)).toNat else min v.toNat n):Nat):Int)
 by_cases hv:v<0
 ·simp only[if_pos hv];lia
 ·simp only[if_neg hv];lia
theorem pJ(lo hi:Option Int)(n:Nat):Builtin.Slice.sliceAdjust lo hi 1 (n:Int)=(((sIx n 0 lo:Nat):Int),((sIx n n hi:Nat):Int)):=by
 have h1:¬ ((1:Int)<0):=by lia
 unfold Builtin.Slice.sliceAdjust
 simp only[h1,if_false]
 refine Prod.ext ?_ ?_
 ·cases lo with
  | none=>rfl
  | some v=>exact i5 v n 0
 ·cases hi with
  | none=>rfl
  | some v=>exact i5 v n n
theorem pH(i j:Nat):Builtin.Slice.slicePlaces (i:Int) (j:Int) 1=j-i:=by
 unfold Builtin.Slice.slicePlaces
 have h1:(1:Int) > 0:=by lia
 simp only[h1,if_true,Int.ediv_one]
 split<;>lia
theorem jv{v:Value}{o:Option Int}{Q:Option Int->Shared->Prop}(p:IsPart v o)(h:Q o s):wpAny (model prog w) A (Builtin.Slice.slicePartIndex v) Q E s:=by
 cases p with
 | none=>exact slicePart_none h
 | int i t=>exact slicePart_int h
theorem ja{sl:Addr}{vl vu:Value}{lo hi:Option Int}{n:Nat}{Q:Int × Int × Nat->Shared->Prop}(hs:s.heap.IsSliceOf sl vl vu .none)(pl:IsPart vl lo)(pu:IsPart vu hi)
 (h:Q (((sIx n 0 lo:Nat):Int),1,sIx n n hi-sIx n 0 lo) s):wpAny (model prog w) A (Builtin.Slice.sliceApplied (.ref sl) (pure (n:Int))) Q E s:=by
 obtain⟨os,hos,hcs,hds⟩:=id hs
 unfold Builtin.Slice.sliceApplied Builtin.Slice.sliceFields
 refine wpAny_bind (wpAny_bind (wpAny_field hos hds (x:=vl) rfl (wpAny_bind (wpAny_field hos hds (x:=vu) rfl (wpAny_bind (wpAny_field hos hds (x:=.none) rfl (wpAny_pure ?_)))))))
 refine wpAny_bind (slicePart_none ?_)
 show wpAny _ _ (if((1:Int) == 0)=true then _ else _) _ _ s
 rw[if_neg (by decide)]
 refine wpAny_bind (jv pl (wpAny_bind (jv pu (wpAny_bind (wpAny_pure ?_)))))
 show wpAny _ _ (match Builtin.Slice.sliceAdjust lo hi 1 (n:Int)with | (lo,hi)=>pure (lo,(1:Int),Builtin.Slice.slicePlaces lo hi 1)) _ _ s
 rw[pJ lo hi n]
 show wpAny _ _ (pure (((sIx n 0 lo:Nat):Int),(1:Int),Builtin.Slice.slicePlaces ((sIx n 0 lo:Nat):Int) ((sIx n n hi:Nat):Int) 1)) _ _ s
 rw[pH]
 exact wpAny_pure h
theorem uk(xs:Array Value)(i k:Nat):((List.range k).filterMap fun(m:Nat)=>xs[((i:Int)+(m:Int)*1).toNat]?).toArray=((xs.toList.drop i).take k).toArray:=by
 have e:(fun(m:Nat)=>xs[((i:Int)+(m:Int)*1).toNat]?)=fun m=>xs[i+m]?:=by
  funext m
  have:((i:Int)+(m:Int)*1).toNat=i+m:=by lia
  rw[this]
 rw[e]
 have:=pick_run xs i k
 rw[List.filterMap_map]at this
 have e2:((fun x=>xs[x]?) ∘ fun x=>i+x)=fun m=>xs[i+m]?:=rfl
 rw[e2]at this
 rw[this]
theorem iB{t sl:Addr}{items:Array Value}{vl vu:Value}{lo hi:Option Int}{Q:Value->Shared->Prop}(ht:IsTup s.heap t items)(hs:s.heap.IsSliceOf sl vl vu .none)(pl:IsPart vl lo)(pu:IsPart vu hi)
 (hw:¬ (sIx items.size 0 lo=0/\sIx items.size items.size hi=items.size))
 (h:Q (.ref s.heap.objs.size) { s with heap:=s.heap.push { cls:=.type "tuple",data:=.seq ((items.toList.drop (sIx items.size 0 lo)).take (sIx items.size items.size hi-sIx items.size 0 lo)).toArray } })
 (hsz:items.size<=sizeLine):wpAny (model prog w) A (getItem (.ref t) (.ref sl)) Q E s:=by
 have htake:sizeOk (.seq ((items.toList.drop (sIx items.size 0 lo)).take (sIx items.size items.size hi-sIx items.size 0 lo)).toArray):=by
  show((items.toList.drop (sIx items.size 0 lo)).take (sIx items.size items.size hi-sIx items.size 0 lo)).toArray.size<=sizeLine
  rw[List.size_toArray,List.length_take,List.length_drop,Array.length_toList]
  omega
 have hj:sIx items.size items.size hi<=items.size:=yD _ _ (Nat.le_refl _) hi
 obtain⟨os,hos,hcs,hds⟩:=id hs
 have hTs:s.TypeIs (.ref sl) "slice" := ⟨os,hos,hcs⟩
 unfold getItem
 try with_reducible refine wpAny_holding ?_
 first | refine wpAny_bind (wpAny_pure ?_) | skip
 refine wpAny_bind (wpAny_sequenceKey ht.typeIs (by decide) ?_)
 refine wpAny_bind (wpAny_callSpecial?_slot (name:=Str.ofString "__getitem__") ht.typeIs PyProof.Rows.slot_tuple_getitem
  (wpAny_call_entry PyProof.Rows.slot_tuple_getitem ht.typeIs entry_tuple_getitem ?_ (args_tuple_getitem _ _)))
 show wpAny _ _ (Builtin.Tuple.tupleItemsOf (.ref t) >>= _) _ _ s
 refine wpAny_bind (tupleItemsOf_ ht ?_)
 refine wpAny_bind (wpAny_typeOf hTs ?_)
 rw[if_pos (by decide)]
 refine wpAny_bind (ja hs pl pu ?_)
 have hno:¬ ((((sIx items.size 0 lo:Nat):Int) == 0&&(1:Int) == 1&&(sIx items.size items.size hi-sIx items.size 0 lo) == items.size)=true):=by
  intro q
  rw[Bool.and_eq_true,Bool.and_eq_true]at q
  have q1:((sIx items.size 0 lo:Nat):Int)=0:=eq_of_beq q.1.1
  have q2:sIx items.size items.size hi-sIx items.size 0 lo=items.size:=eq_of_beq q.2
  exact hw ⟨by lia,by lia⟩
 show wpAny _ _ (if(((sIx items.size 0 lo:Nat):Int) == 0&&(1:Int) == 1&&(sIx items.size items.size hi-sIx items.size 0 lo) == items.size)=true then _ else _) _ _ s
 rw[if_neg hno,uk]
 first
  | exact wpAny_bind (m:=Builtin.Tuple.tupleExact _) (wpAny_newObj_type (wpAny_pure ⟨_,rfl,wpAny_pure h⟩) htake)
  | exact wpAny_bind (m:=Builtin.Tuple.tupleExact _) (wpAny_newObj_type (wpAny_bind (wpAny_pure (wpAny_pure ⟨_,rfl,wpAny_pure h⟩))) htake)
  | exact wpAny_bind (wpAny_bind (m:=Builtin.Tuple.tupleExact _) (wpAny_newObj_type (wpAny_pure (wpAny_pure ⟨_,rfl,wpAny_pure h⟩)) htake))
  | exact wpAny_bind (wpAny_bind (m:=Builtin.Tuple.tupleExact _) (wpAny_newObj_type (wpAny_pure ⟨_,rfl,wpAny_pure h⟩) htake))
end
end HT
namespace L2
open PySem PySem.Spec PyProof.Rows
abbrev TO:=St->Hp->(Option Int->Hp->Prop)->Prop
def PO(X:Cx)(e:Option Expr)(t:TO):Prop :=
 ∀ (pins:List (Addr × Obj)) (s:Shared) (σ:St) (H:Hp) (Q:Option Int->Hp->Prop),Inv X pins σ H s->t σ H Q ->
  wpAny (model X.prog X.w) X.A (evalPart e X.env) (fun u s'=>∃ o H',Inv X pins σ H' s'/\IsPart u o/\Q o H') X.xe s
def vc:TO:=fun _ H Q=>Q none H
def Ad(t:TE):TO:=fun σ H Q=>t σ H fun x H1=>∃ i,x=.int i/\Q (some i) H1
section
variable{X:Cx}{e:Expr}{te:TE}{lo hi:Option Expr}{tl th:TO}{pos p2:Pos}
theorem vS:PO X none vc:=by
 intro pins s σ H Q I h
 rw[evalPart_none]
 exact wpAny_pure ⟨none,H,I,.none,h⟩
theorem vf(h:PE X e te):PO X (some e) (Ad te):=by
 intro pins s σ H Q I hw
 rw[evalPart_some]
 refine thn (h pins s σ H _ I hw) fun u s1 ⟨x,H1,I1,r1,q1⟩=>?_
 obtain⟨i,rfl,q⟩:=q1
 obtain⟨t,rfl⟩:=r1
 exact⟨some i,H1,I1,.int i t,q⟩
def SlR(X:Cx)(r:V->Option Int->Option Int->Hp->VK->Prop):Prop :=
 ∀ (pins:List (Addr × Obj)) (s:Shared) (σ:St) (H:Hp) (x:V) (v vl vu:Value) (lo hi:Option Int) (sl:Addr) (Q:VK),Inv X pins σ H s->RelV x v->s.heap.IsSliceOf sl vl vu .none->IsPart vl lo->IsPart vu hi->r x lo hi H Q ->
  ∃ T id,typeLookup (.type T) "__getitem__" = pure (some (.builtin id))/\s.TypeIs v T/\wpAny (model X.prog X.w) X.A (getItem v (.ref sl)) (EP X pins σ Q) X.xe s
theorem SlR.or{r r':V->Option Int->Option Int->Hp->VK->Prop}(h:SlR X r)(h':SlR X r'):SlR X (fun x lo hi H Q=>r x lo hi H Q\/r' x lo hi H Q):=by
 intro pins s σ H x v vl vu lo hi sl Q I rx hs pl pu q
 rcases q with q | q
 ·exact h pins s σ H x v vl vu lo hi sl Q I rx hs pl pu q
 ·exact h' pins s σ H x v vl vu lo hi sl Q I rx hs pl pu q
def tSl(r:V->Option Int->Option Int->Hp->VK->Prop)(te:TE)(tl th:TO):TE:=fun σ H Q=>te σ H fun x H1=>tl σ H1 fun l H2=>th σ H2 fun u H3=>r x l u H3 Q
theorem sG{r:V->Option Int->Option Int->Hp->VK->Prop}(hr:SlR X r)(he:PE X e te)(hl:PO X lo tl)(hu:PO X hi th):PE X (.Subscript e (.Slice lo hi none p2) pos) (tSl r te tl th):=by
 intro pins s σ H Q I h
 refine Subscript_ (thn (he pins s σ H _ I h) fun v s1 ⟨x,H1,I1,r1,q1⟩=>?_)
 refine wpAny_Slice (thn (hl pins s1 σ H1 _ I1 q1) fun vl s2 ⟨l,H2,I2,pl,q2⟩=>thn (hu pins s2 σ H2 _ I2 q2) fun vu s3 ⟨u,H3,I3,pu,q3⟩=>?_)
 rw[evalPart_none]
 refine wpAny_pure ?_
 have I4:Inv X pins σ H3 { s3 with heap:=s3.heap.push { cls:=.type "slice",data:=.fields #[vl,vu,.none] } }:=I3.kept (t':=s3.toks) fun b ob q=>Heap.get?_push_of_some _ q
 obtain⟨T,id,hT,ht,hg⟩:=hr pins { s3 with heap:=s3.heap.push { cls:=.type "slice",data:=.fields #[vl,vu,.none] } } σ H3 x v vl vu l u s3.heap.objs.size Q I4 r1 (Heap.IsSliceOf.new ..) pl pu q3
 show wpAny (model X.prog X.w) X.A (subscriptTail e (.Slice lo hi none p2) v (.ref s3.heap.objs.size)) (EP X pins σ Q) X.xe { s3 with heap:=s3.heap.push { cls:=.type "slice",data:=.fields #[vl,vu,.none] } }
 exact tail_any (ops:=[.ref s3.heap.objs.size,v]) ht hT hg (by with_unfolding_all rfl)
def fS(xs:List V)(lo hi:Option Int):List V:=(xs.drop (HT.sIx xs.length 0 lo)).take (HT.sIx xs.length xs.length hi-HT.sIx xs.length 0 lo)
theorem iF(xs:List V)(lo hi:Option Int):(fS xs lo hi).length<=xs.length:=by
 unfold fS
 rw[List.length_take,List.length_drop]
 lia
def A9(K:PySem.W.Frag):V->Option Int->Option Int->Hp->VK->Prop:=fun x lo hi H Q=>∃ a xs,x=.ref a/\SqT K H a xs /\
 ¬ (HT.sIx xs.length 0 lo=0/\HT.sIx xs.length xs.length hi=xs.length)/\∀ p,H p=none->Q (.ref p) (upd H p (.tup (fS xs lo hi)))
theorem x6:SlR X (A9 X.K):=by
 intro pins s σ H x v vl vu lo hi sl Q I rx hs pl pu h
 obtain⟨a,xs,rfl,hx,hw,q⟩:=h
 cases rx
 obtain⟨its,r,ht,hz⟩:=I.tuple hx
 have hlen:its.toArray.size=xs.length:=by rw[List.size_toArray];exact r.length.symm
 refine⟨"tuple",_,PyProof.Rows.slot_tuple_getitem.lookup,ht.typeIs,?_⟩
 refine HT.iB ht hs pl pu (by rw[hlen];exact hw) ?_ (by rw[hlen];exact hz)
 rw[hlen]
 refine⟨.ref s.heap.objs.size,_,I.laid (t':=s.toks) (o:=.tup (fS xs lo hi)) (fun b ob q=>Heap.get?_push_of_some _ q) (Nat.le_refl _) ?_,rfl,q _ (I.hok.fresh (Nat.le_refl _))⟩
 exact⟨Nat.le_trans (iF xs lo hi) hz,_,(r.drop (HT.sIx xs.length 0 lo)).take (HT.sIx xs.length xs.length hi-HT.sIx xs.length 0 lo),IsTup.new _ _⟩
def Al(K:PySem.W.Frag):R2:=fun x y H Q=>∃ a b xs ys,x=.ref a/\y=.ref b/\SqT K H a xs/\SqT K H b ys/\xs≠[]/\xs.length+ys.length<=sizeLine /\
 (ys=[]->Q (.ref a) H)/\(ys≠[]->∀ p,H p=none->Q (.ref p) (upd H p (.tup (xs++ys))))
theorem Vals.k9{xs:List V}{us:List Value}(r:Vals xs us):us=[]↔xs=[]:=by
 cases r with
 | nil=>simp
 | cons _ _=>simp
theorem v9:OpR X (binaryOp .Add) (Al X.K):=by
 intro pins s σ H x y v u Q I rx ry h
 obtain⟨a,b,xs,ys,rfl,rfl,ha,hb,hx,hz,q1,q2⟩:=h
 cases rx
 cases ry
 obtain⟨its,r1,p1,_⟩:=I.tuple ha
 obtain⟨its2,r2,p2,_⟩:=I.tuple hb
 refine HT.vD p1 p2 (fun z=>hx (r1.k9.mp z)) (fun z=>⟨.ref a,H,I,rfl,q1 (r2.k9.mp z)⟩) (fun z=>?_) (by rw[<-r1.length,<-r2.length];exact hz)
 refine⟨.ref s.heap.objs.size,_,I.laid (t':=s.toks) (o:=.tup (xs++ys)) (fun b ob q=>Heap.get?_push_of_some _ q) (Nat.le_refl _) ?_,rfl,q2 (fun w=>z (r2.k9.mpr w)) _ (I.hok.fresh (Nat.le_refl _))⟩
 exact⟨by rw[List.length_append];exact hz,_,r1.append r2,IsTup.new _ _⟩
end
def ixN(n:Nat)(i:Int):Option Nat:=if 0<=i then(if i<n then some i.toNat else none)else if -(n:Int)<=i then some (i+n).toNat else none
def atI{α:Type}(xs:List α)(i:Int):Option α:=(ixN xs.length i).bind fun j=>xs[j]?
theorem ox{n:Nat}{i:Int}{j:Nat}(h:ixN n i=some j):seqIndex? i n=some j/\j<n/\-(n:Int)<=i/\i<n:=by
 unfold ixN at h
 by_cases h0:0<=i
 ·rw[if_pos h0]at h
  by_cases h1:i<n
  ·rw[if_pos h1]at h
   have e:i.toNat=j:=Option.some.inj h
   exact⟨by rw[seqIndex_of h0 h1,e],by lia,by lia,h1⟩
  ·rw[if_neg h1]at h;cases h
 ·rw[if_neg h0]at h
  by_cases h1:-(n:Int)<=i
  ·rw[if_pos h1]at h
   have e:(i+n).toNat=j:=Option.some.inj h
   exact⟨by rw[seqIndex_neg (by lia) h1,e],by lia,h1,by lia⟩
  ·rw[if_neg h1]at h;cases h
theorem kz{α:Type}{xs:List α}{i:Int}{v:α}(h:atI xs i=some v):∃ j,seqIndex? i xs.length=some j/\xs[j]?=some v/\j<xs.length/\-(xs.length:Int)<=i/\i<xs.length:=by
 unfold atI at h
 cases e:ixN xs.length i with
 | none=>rw[e]at h;cases h
 |some j=>
  rw[e]at h
  obtain⟨h1,h2,h3,h4⟩:=ox e
  exact⟨j,h1,h,h2,h3,h4⟩
def oh(b:Expr):Prop:=∀ o i,subscripted b false o i=operate [o,i] (getItem o i)
def IxR(X:Cx)(r:R2):Prop :=
 ∀ (value slice:Expr) (pins:List (Addr × Obj)) (s:Shared) (σ:St) (H:Hp) (x y:V) (v u:Value) (Q:VK),Inv X pins σ H s->RelV x v->RelV y u->r x y H Q ->
  subscripted slice false v u=operate [v,u] (getItem v u)->wpAny (model X.prog X.w) X.A (subscriptTail value slice v u) (EP X pins σ Q) X.xe s
def MtR(X:Cx)(id:String)(r:V->List V->Hp->VK->Prop):Prop :=
 ∀ (pins:List (Addr × Obj)) (s:Shared) (σ:St) (H:Hp) (x:V) (xs:List V) (v:Value) (us:List Value) (Q:VK),Inv X pins σ H s->RelV x v->Vals xs us->r x xs H Q ->
  wpAny (model X.prog X.w) X.A (call (.builtin id) (v::us)) (EP X pins σ Q) X.xe s
section
variable{X:Cx}{a b:Expr}{ta tb:TE}{pos:Pos}
theorem IxR.or{r r':R2}(h:IxR X r)(h':IxR X r'):IxR X (fun x y H Q=>r x y H Q\/r' x y H Q):=by
 intro value slice pins s σ H x y v u Q I rx ry q hs
 rcases q with q | q
 ·exact h value slice pins s σ H x y v u Q I rx ry q hs
 ·exact h' value slice pins s σ H x y v u Q I rx ry q hs
theorem Ab{r:R2}(hr:IxR X r)(ha:PE X a ta)(hb:PE X b tb)(hs:oh b):PE X (.Subscript a b pos) (tOp r ta tb):=by
 intro pins s σ H Q I h
 exact Subscript_ (sA ha hb I h fun v u s2 x y H2 I2 rx ry q=>hr a b pins s2 σ H2 x y v u Q I2 rx ry q (hs _ _))
def xw(K:PySem.W.Frag):R2:=fun x y H Q=>∃ p xs i v,x=.ref p/\y=.int i/\SqL K H p xs/\atI xs i=some v/\Q v H
def xu(K:PySem.W.Frag):R2:=fun x y H Q=>∃ p xs i v,x=.ref p/\y=.int i/\SqT K H p xs/\atI xs i=some v/\Q v H
def xt:R2:=fun x y H Q=>∃ z i c,x=.str z/\y=.int i/\z.length<=sizeLine/\atI z.cps.toList i=some c/\Q (.str ⟨#[c]⟩) H
theorem vx:IxR X (xw X.K):=by
 intro value slice pins s σ H x y v u Q I rx ry h hs
 obtain⟨p,xs,i,z,rfl,rfl,hq,he,q⟩:=h
 cases rx
 obtain⟨t,rfl⟩:=ry
 obtain⟨its,r,pl,hz⟩:=I.list hq
 obtain⟨j,h1,h2,h3,h4,h5⟩:=kz he
 obtain⟨w,ew,rw'⟩:=r.get h2
 have hl:=r.length
 have hn:=fA
 have fin:EP X pins σ Q w s:=⟨z,H,I,rw',q⟩
 by_cases h0:0<=i
 ·have hj:i.toNat=j:=by
   rw[seqIndex_of h0 h5]at h1
   exact Option.some.inj h1
  exact item_listR pl.isList h0 (by lia) (by rw[hj];simpa using ew) fin hs
 ·have hj:(i+(its.toArray.size:Int)).toNat=j:=by
   rw[seqIndex_neg (by lia) h4]at h1
   rw[List.size_toArray,<-hl]
   exact Option.some.inj h1
  exact subscriptTail_builtinR (x:=w) pl.isList.typeIs slot_list_getitem.lookup
   (wpAny_getItem_list_neg (Q:=fun r s'=>r=w/\EP X pins σ Q r s') pl.isList (by lia) (by rw[List.size_toArray]<;>lia) (by lia) (by rw[hj];simpa using ew) ⟨rfl,fin⟩) hs
theorem mn:IxR X (xu X.K):=by
 intro value slice pins s σ H x y v u Q I rx ry h hs
 obtain⟨p,xs,i,z,rfl,rfl,hq,he,q⟩:=h
 cases rx
 obtain⟨t,rfl⟩:=ry
 obtain⟨its,r,pl,hz⟩:=I.tuple hq
 obtain⟨j,h1,h2,h3,h4,h5⟩:=kz he
 obtain⟨w,ew,rw'⟩:=r.get h2
 have hl:=r.length
 have hn:=fA
 have fin:EP X pins σ Q w s:=⟨z,H,I,rw',q⟩
 exact subscriptTail_builtinR (x:=w) pl.typeIs slot_tuple_getitem.lookup
  (getItem_tuple (j:=j) (Q:=fun r s'=>r=w/\EP X pins σ Q r s') pl (by lia) (by lia) (by rw[List.size_toArray,<-hl];exact h1) (by simpa using ew) ⟨rfl,fin⟩) hs
theorem xb:IxR X xt:=by
 intro value slice pins s σ H x y v u Q I rx ry h hs
 obtain⟨z,i,c,rfl,rfl,hz,he,q⟩:=h
 obtain⟨t,rfl⟩:=rx
 obtain⟨t',rfl⟩:=ry
 obtain⟨j,h1,h2,h3,h4,h5⟩:=kz he
 have hl:z.cps.toList.length=z.length:=by simp[Str.length]
 rw[hl]at h1 h4 h5
 have hn:=fA
 exact tail_any (typeIs_str s z t) slot_str_getitem.lookup (getItem_str (c:=c) (by
  have e1:decide (i < -(2 ^ 63:Int))=false:=decide_eq_false (by lia)
  have e2:decide (i≥2 ^ 63)=false:=decide_eq_false (by lia)
  rw[e1,e2,Bool.or_false]) (by rw[h1];simpa using h2) ⟨.str ⟨#[c]⟩,H,I.tok _,⟨_,rfl⟩,q⟩) hs
def rIx(K:PySem.W.Frag):R2:=fun x y H Q=>xw K x y H Q\/xu K x y H Q\/xt x y H Q
theorem yb:IxR X (rIx X.K):=vx.or (mn.or xb)
theorem pX(its:List Value)(n j:Nat)(u:Value):Obj.mapSeq (·.setIfInBounds j u) { cls:=.type "list",data:=.seq its.toArray n }={ cls:=.type "list",data:=.seq (its.set j u).toArray n }:=by
 simp[Obj.mapSeq]
theorem Inv.lst{pins:List (Addr × Obj)}{σ:St}{H:Hp}{s:Shared}{p:Addr}{xs:List V}(I:Inv X pins σ H s)(h:H p=some (.lst xs)) :
  ∃ (its:List Value) (n:Nat),Vals xs its/\s.heap.get? p=some { cls:=.type "list",data:=.seq its.toArray n }/\xs.length<=sizeLine:=by
 obtain⟨z,its,n,r,e⟩:=I.hok p _ h
 exact⟨its,n,r,e,z⟩
theorem Inv.xA{pins:List (Addr × Obj)}{σ:St}{H:Hp}{s:Shared}{p:Addr}{xs ys:List V}{its its':List Value}{n n':Nat}{f:Obj->Obj}(I:Inv X pins σ H s)(h:H p=some (.lst xs))
 (ho:s.heap.get? p=some { cls:=.type "list",data:=.seq its.toArray n })(hf:f { cls:=.type "list",data:=.seq its.toArray n }={ cls:=.type "list",data:=.seq its'.toArray n' })(r:Vals ys its')(hz:ys.length<=sizeLine)(t:Nat) :
  Inv X pins σ (upd H p (.lst ys)) { s with heap:=s.heap.update p f,toks:=t }:=by
 have e:(s.heap.update p f).get? p=some { cls:=.type "list",data:=.seq its'.toArray n' }:=by
  rw[Heap.get?_update_self f ho (by rw[hf]<;>rfl),hf]
 refine I.write (x:=p) (e:=p) (by rw[h];trivial) (.inl rfl) (fun b u hb q=>(Heap.get?_update_other _ _ (Ne.symm hb)).trans q) ⟨_,e⟩ ?_
 exact⟨hz,its',n',r,e⟩
def pL:V->V->V->Hp->(Hp->Prop)->Prop:=fun o i v H Q=>∃ p xs k j,o=.ref p/\i=.int k/\H p=some (.lst xs)/\ixN xs.length k=some j/\Q (upd H p (.lst (xs.set j v)))
theorem set_list:yt X pL:=by
 intro pins s σ H o i v ov iv u Q I ro ri rv h
 obtain⟨p,xs,k,j,rfl,rfl,hp,hj,q⟩:=h
 cases ro
 obtain⟨t,rfl⟩:=ri
 obtain⟨its,n,r,ho,hz⟩:=I.lst hp
 obtain⟨h1,h2,h3,h4⟩:=ox hj
 have hl:=r.length
 have hn:=fA
 have I':Inv X pins σ (upd H p (.lst (xs.set j v))) { s with heap:=s.heap.update p (Obj.mapSeq (·.setIfInBounds j u)) } :=
  I.xA hp ho (pX its n j u) (r.set rv j) (by rw[List.length_set];exact hz) s.toks
 by_cases h0:0<=k
 ·have hk:k.toNat=j:=by
   rw[seqIndex_of h0 h4]at h1
   exact Option.some.inj h1
  exact PySem.W.ki_setAt ho h0 (by lia) (by rw[List.size_toArray,<-hl];exact h4) (by rw[hk];exact⟨_,I',q⟩)
 ·have hk:(k+(its.toArray.size:Int)).toNat=j:=by
   rw[seqIndex_neg (by lia) h3]at h1
   rw[List.size_toArray,<-hl]
   exact Option.some.inj h1
  exact PySem.W.ki_setBack ho (by lia) (by rw[List.size_toArray,<-hl];exact h3) (by lia) (by rw[hk];exact⟨_,I',q⟩)
theorem lF(lo hi:Option Int)(n:Nat):(sliceBounds lo hi none n).1=((HT.sIx n 0 lo:Nat):Int)/\(sliceBounds lo hi none n).2.1=((HT.sIx n n hi:Nat):Int)/\(sliceBounds lo hi none n).2.2=1:=by
 refine⟨?_,?_,rfl⟩
 ·cases lo with
  | none=>simp[sliceBounds,HT.sIx]
  |some i=>
   simp only[sliceBounds,HT.sIx,Option.getD_none,show(1:Int) > 0 by decide,if_true]
   by_cases h:i<0
   ·simp only[h,if_true]<;>lia
   ·simp only[h,if_false]<;>lia
 ·cases hi with
  | none=>simp[sliceBounds,HT.sIx]
  |some i=>
   simp only[sliceBounds,HT.sIx,Option.getD_none,show(1:Int) > 0 by decide,if_true]
   by_cases h:i<0
   ·simp only[h,if_true]<;>lia
   ·simp only[h,if_false]<;>lia
theorem lh(its:List Value)(lo hi:Option Int):slicePick its.toArray lo hi none=((its.drop (HT.sIx its.length 0 lo)).take (HT.sIx its.length its.length hi-HT.sIx its.length 0 lo)).toArray:=by
 obtain⟨h1,h2,h3⟩:=lF lo hi its.toArray.size
 unfold slicePick
 rw[h1,h2,h3]
 simp only[sliceRange_one,pick_run,List.size_toArray]<;>rfl
def Bj(K:PySem.W.Frag):V->Option Int->Option Int->Hp->VK->Prop:=fun x lo hi H Q=>∃ a xs,x=.ref a/\SqL K H a xs/\∀ p,H p=none->Q (.ref p) (upd H p (.lst (fS xs lo hi)))
theorem vJ:SlR X (Bj X.K):=by
 intro pins s σ H x v vl vu lo hi sl Q I rx hs pl pu h
 obtain⟨a,xs,rfl,hx,q⟩:=h
 cases rx
 obtain⟨its,r,ht,hz⟩:=I.list hx
 have hlen:=r.length
 refine⟨"list",_,slot_list_getitem.lookup,ht.isList.typeIs,?_⟩
 refine wpAny_getItem_list_slice ht.isList hs pl pu .none (by simp) ?_ (by rw[List.size_toArray]<;>lia)
 rw[lh,<-hlen]
 refine⟨.ref s.heap.objs.size,_,I.laid (t':=s.toks) (o:=.lst (fS xs lo hi)) (fun b ob q=>Heap.get?_push_of_some _ q) (Nat.le_refl _) ?_,rfl,q _ (I.hok.fresh (Nat.le_refl _))⟩
 exact⟨Nat.le_trans (iF xs lo hi) hz,_,0,(r.drop (HT.sIx xs.length 0 lo)).take (HT.sIx xs.length xs.length hi-HT.sIx xs.length 0 lo),Heap.get?_push_size _ rfl⟩
theorem bu.or{f:Value}{r r':List V->Hp->VK->Prop}(h:bu X f r)(h':bu X f r'):bu X f (fun xs H Q=>r xs H Q\/r' xs H Q):=by
 intro pins s σ H xs us Q I rs q
 rcases q with q | q
 ·exact h pins s σ H xs us Q I rs q
 ·exact h' pins s σ H xs us Q I rs q
theorem mJ:bu X (.type "list") (fun xs H Q=>∃ p ys,xs=[.ref p]/\(SqL X.K H p ys\/SqT X.K H p ys)/\∀ l,H l=none->Q (.ref l) (upd H l (.lst ys))):=by
 intro pins s σ H xs us Q I r h
 obtain⟨p,ys,rfl,hq,q⟩:=h
 obtain⟨u,rfl,rx⟩:=vals1 r
 cases rx
 have fin:∀ (its:List Value),Vals ys its->ys.length<=sizeLine->∀ (h':Heap) (c':Nat),(∀ b o',s.heap.get? b=some o'->h'.get? b=some o') ->
   h'.get? s.heap.objs.size=some { cls:=.type "list",dict:=none,data:=.seq its.toArray c',slots:=#[] }->EP X pins σ Q (.ref s.heap.objs.size) { s with heap:=h' }:=fun its r' hz h' c' kp e =>
  ⟨.ref s.heap.objs.size,_,I.laid (t':=s.toks) kp (Nat.le_refl _) (show aV X.prog X.w _ h' _ (.lst ys)from⟨hz,its,c',r',e⟩),rfl,q _ (I.hok.fresh (Nat.le_refl _))⟩
 rcases hq with hq | hq
 ·obtain⟨its,r',pl,hz⟩:=I.list hq
  have hlen:=r'.length
  obtain⟨o,ho,hc,n,hd⟩:=pl.isList
  exact call_list_seq p (.inl rfl) ho hc hd (fun h' c' kp e=>fin its r' hz h' c' kp e) (by simp only[List.size_toArray]<;>lia)
 ·obtain⟨its,r',pl,hz⟩:=I.tuple hq
  have hlen:=r'.length
  obtain⟨o,ho,hc,n,hd⟩:=pl
  exact call_list_seq p (.inr rfl) ho hc hd (fun h' c' kp e=>fin its r' hz h' c' kp e) (by simp only[List.size_toArray]<;>lia)
theorem lj:bu X (.type "tuple") (fun xs H Q=>∃ p ys,xs=[.ref p]/\((SqL X.K H p ys/\∀ l,H l=none->Q (.ref l) (upd H l (.tup ys)))\/(SqT X.K H p ys/\Q (.ref p) H))):=by
 intro pins s σ H xs us Q I r h
 obtain⟨p,ys,rfl,h⟩:=h
 obtain⟨u,rfl,rx⟩:=vals1 r
 cases rx
 rcases h with⟨hq,q⟩ | ⟨hq,q⟩
 ·obtain⟨its,r',pl,hz⟩:=I.list hq
  have hlen:=r'.length
  refine call_tuple_list pl.isList (fun h' kp=>?_) (by simp only[List.size_toArray]<;>lia)
  have I1:Inv X pins σ H { s with heap:=h' }:=I.kept (t':=s.toks) kp
  have I2:Inv X pins σ (upd H h'.objs.size (.tup ys)) { s with heap:=h'.push { cls:=.type "tuple",data:=.seq its.toArray } } :=
   I1.laid (t':=s.toks) (fun b o e=>Heap.get?_push_of_some _ e) (Nat.le_refl _) (show aV X.prog X.w _ _ _ (.tup ys)from⟨hz,its,r',IsTup.new _ _⟩)
  exact⟨.ref h'.objs.size,_,I2,rfl,q _ (I1.hok.fresh (Nat.le_refl _))⟩
 ·obtain⟨its,r',pl,hz⟩:=I.tuple hq
  exact call_tuple_same pl ⟨.ref p,H,I,rfl,q⟩
def tyV(K:PySem.W.Frag)(T:String)(x:V)(H:Hp):Prop:=match x with
 | .str _=>T = "str"
 | .int _=>T = "int"
 | .ref p=>(T = "list" /\ ∃ xs,SqL K H p xs)\/(T = "tuple" /\ ∃ o,K.lookup p=some o/\o.cls=.type "tuple" /\ o.dict=none) \/
   (T = "dict" /\ ((∃ kvs,H p=some (.dK kvs))\/∃ kvs,H p=some (.dT kvs)))\/(T = "set" /\ ∃ S n,H p=some (.set S n))
 | _=>False
theorem rF{pins:List (Addr × Obj)}{σ:St}{H:Hp}{s:Shared}{T:String}{x:V}{v:Value}(I:Inv X pins σ H s)(r:RelV x v)(ty:tyV X.K T x H) :
  s.TypeIs v T/\∀ a,v=.ref a->∃ ob,s.heap.get? a=some ob/\ob.dict=none:=by
 cases x with
 |str z=>
  obtain⟨t,rfl⟩:=r
  cases(show T = "str" from ty)
  exact⟨typeIs_str s z t,fun _ e=>nomatch e⟩
 |int i=>
  obtain⟨t,rfl⟩:=r
  cases(show T = "int" from ty)
  exact⟨typeIs_int s i t,fun _ e=>nomatch e⟩
 |ref p=>
  cases r
  rcases ty with⟨rfl,xs,hq⟩ | ⟨rfl,o,hk,hc,hd⟩ | ⟨rfl,hk⟩ | ⟨rfl,S,n,hk⟩
  ·obtain⟨its,_,pl,_⟩:=I.list hq
   refine⟨pl.isList.typeIs,fun a e=>?_⟩
   cases e
   obtain⟨o,n,e,c,hd,_⟩:=pl
   exact⟨o,e,hd⟩
  ·refine⟨⟨o,I.kIn p o hk,hc⟩,fun a e=>?_⟩
   cases e
   exact⟨o,I.kIn _ o hk,hd⟩
  ·have z:∃ o,s.heap.get? p=some o/\o.ExactDict:=by
    rcases hk with⟨kvs,hk⟩ | ⟨kvs,hk⟩
    ·obtain⟨_,_,_,_,o,_,_,e,ex,_⟩:=I.hok p _ hk
     exact⟨o,e,ex⟩
    ·obtain⟨_,_,_,_,o,_,_,e,ex,_⟩:=I.hok p _ hk
     exact⟨o,e,ex⟩
   obtain⟨o,e,ex⟩:=z
   refine⟨⟨o,e,ex.1⟩,fun a e2=>?_⟩
   cases e2
   exact⟨o,e,ex.2.1⟩
  ·obtain⟨o,_,_,_,e,ex,_⟩:=I.hok p _ hk
   refine⟨⟨o,e,ex.1⟩,fun a e2=>?_⟩
   cases e2
   exact⟨o,e,ex.2.1⟩
 | _=>exact False.elim ty
def yX(K:PySem.W.Frag)(T:String)(r:V->List V->Hp->VK->Prop)(to:TE):TE:=fun σ H Q=>to σ H fun x H1=>tyV K T x H1/\r x [] H1 Q
def tBM(K:PySem.W.Frag)(T:String)(r:V->List V->Hp->VK->Prop)(to:TE)(t:TA):TE:=fun σ H Q=>to σ H fun x H1=>tyV K T x H1/\t σ H1 fun xs H2=>r x xs H2 Q
variable{o e:Expr}{es:List Expr}{to:TE}{t:TA}{name:Str}{apos cpos:Pos}{T id:String}{r:V->List V->Hp->VK->Prop}
theorem wV(pa:PlainAttrs T)(slot:Slot T name id)(hty:typeOf (.builtin id)=pure (.type "method_descriptor"))(hm:MtR X id r)(ho:PE X o to)
 (hbase:attributeBase o name X.env (eval o X.env)=eval o X.env:=by rfl)(hline:(apos.endLine == cpos.line)=true:=by rfl):PE X (.Call (.Attribute o name apos) [] [] cpos) (yX X.K T r to):=by
 intro pins s σ H Q I h
 refine wpAny_Call_method0_late hbase hline (thn (ho pins s σ H _ I h) fun v s1 ⟨x,H1,I1,r1,ty,q1⟩=>?_)
 obtain⟨h1,h2⟩:=rF I1 r1 ty
 exact⟨T,id,pa,slot,hty,h1,h2,Calls.callWith_builtin rfl (PySem.evalArgs_none (hm pins s1 σ H1 x [] v [] Q I1 r1 .nil q1))⟩
theorem A2(pa:PlainAttrs T)(slot:Slot T name id)(hty:typeOf (.builtin id)=pure (.type "method_descriptor"))(hm:MtR X id r)(ho:PE X o to)(ha:PA X (e::es) t)
 (hbase:attributeBase o name X.env (eval o X.env)=eval o X.env:=by rfl)
 (hfew:((backTo cpos (starEach (e::es) X.env)).all (fun x=>!x.1)&&(backToKw cpos (keywordEach [] X.env)).all (fun x=>x.1.isSome)
   && decide ((e::es).length+([]:List Keyword).length+(if([]:List Keyword).isEmpty then 0 else 1)<30))=true:=by rfl)
 (hline:(apos.endLine == cpos.line)=true:=by rfl)(hs:starEach (e::es) X.env=(false,eval e X.env)::starEach es X.env:=by rfl)(hplain:(backTo cpos (starEach es X.env)).any (·.1)=false:=by rfl) :
  PE X (.Call (.Attribute o name apos) (e::es) [] cpos) (tBM X.K T r to t):=by
 intro pins s σ H Q I h
 refine wpAny_Call_method_late hbase hfew hline rfl (thn (ho pins s σ H _ I h) fun v s1 ⟨x,H1,I1,r1,ty,q1⟩=>?_)
 obtain⟨h1,h2⟩:=rF I1 r1 ty
 refine⟨T,id,pa,slot,hty,h1,h2,?_⟩
 have hA:=ha cpos pins s1 σ H1 _ I1 q1
 rw[hs]at hA ⊢
 refine Calls.callWith_builtin (by show(false || (backTo cpos (starEach es X.env)).any (·.1))=false;rw[hplain]<;>rfl) (Calls.evalArgs_plain ?_)
 exact thn hA fun us s2 ⟨vs,H2,I2,r2,q2⟩=>hm pins s2 σ H2 x vs v us Q I2 r1 r2 q2
end
def MtM(X:Cx)(id:String)(r:V->List V->Hp->VK->Prop):Prop :=
 ∀ (pins:List (Addr × Obj)) (s:Shared) (σ:St) (H:Hp) (x:V) (xs:List V) (v:Value) (us:List Value) (Q:VK),Inv X pins σ H s->RelV x v->Vals xs us->r x xs H Q ->
  wpAny (model X.prog X.w) X.A (call (.builtin id) (v::us)) (EP X pins σ Q) X.xe s
theorem Vals.one:∀ {x:V} {us:List Value},Vals [x] us->∃ u,us=[u]/\RelV x u
 | _,_,.cons r .nil=>⟨_,rfl,r⟩
theorem Vals.zero:∀ {us:List Value},Vals [] us->us=[]
 | _,.nil=>rfl
theorem Vals.dropLast{xs:List V}{us:List Value}(h:Vals xs us):Vals xs.dropLast us.dropLast:=by
 induction h with
 | nil=>exact .nil
 |cons r t ih=>
  cases t with
  | nil=>exact .nil
  | cons q t'=>exact .cons r ih
theorem Vals.rep{xs:List V}{us:List Value}(h:Vals xs us):∀ k:Nat,Vals (List.replicate k xs).flatten (List.replicate k us).flatten
 | 0=>.nil
 | k+1=>by
  rw[List.replicate_succ,List.replicate_succ,List.flatten_cons,List.flatten_cons]
  exact Vals.append h (Vals.rep h k)
theorem pq{α:Type}(l:List α):l.eraseIdx (l.length-1)=l.dropLast:=by
 induction l with
 | nil=>rfl
 |cons a r ih=>
  cases r with
  | nil=>rfl
  |cons b r=>
   have e:(a::b::r).length-1=((b::r).length-1)+1:=by
    have h1:(a::b::r).length=r.length+2:=rfl
    have h2:(b::r).length=r.length+1:=rfl
    lia
   rw[e,List.eraseIdx_cons_succ,ih]
   all_goals rfl
theorem foldl_rep(its:List Value):∀ (k:Nat) (acc:List Value),
  List.foldl (fun x1 x2=>x1++x2) acc.toArray (List.replicate k its.toArray)=(acc++(List.replicate k its).flatten).toArray
 | 0,acc=>by simp
 | k+1,acc=>by
  have e:acc.toArray++its.toArray=(acc++its).toArray:=by simp
  have e2:(acc++its)++(List.replicate k its).flatten=acc++(List.replicate (k+1) its).flatten:=by
   rw[List.replicate_succ,List.flatten_cons,List.append_assoc]
  rw[<-e2,<-foldl_rep its k (acc++its),<-e,List.replicate_succ,List.foldl_cons]
section
variable{X:Cx}{pins:List (Addr × Obj)}{σ:St}{H:Hp}{s:Shared}{l b:Addr}{xs ys zs:List V}
theorem Inv.wY{its its':List Value}{n:Nat}{f:Array Value->Array Value}{t':Nat}(I:Inv X pins σ H s)(hH:H l=some (.lst xs))
 (e:s.heap.get? l=some { cls:=.type "list",data:=.seq its.toArray n })(hf:f its.toArray=its'.toArray)(hv:Vals ys its')(hz:ys.length<=sizeLine) :
  Inv X pins σ (upd H l (.lst ys)) { s with heap:=s.heap.update l (Obj.mapSeq f),toks:=t' }:=by
 have q:=PySem.IsL.update e f
 rw[hf]at q
 refine I.write (x:=l) (e:=l) (by rw[hH];exact trivial) (.inl rfl) (fun b' u hb hu=>(Heap.get?_update_other s.heap (Obj.mapSeq f) (Ne.symm hb)).trans hu) ⟨_,q⟩ ?_
 exact⟨hz,its',_,hv,q⟩
theorem Inv.wR{its:List Value}{t':Nat}(I:Inv X pins σ H s)(hv:Vals ys its)(hz:ys.length<=sizeLine) :
  Inv X pins σ (upd H s.heap.objs.size (.lst ys)) { s with heap:=s.heap.push { cls:=.type "list",data:=.seq its.toArray },toks:=t' } :=
 I.laid (fun _ _ q=>Heap.get?_push_of_some _ q) (Nat.le_refl _) ⟨hz,its,0,hv,Heap.get?_push_size _ rfl⟩
theorem Inv.fresh(I:Inv X pins σ H s):H s.heap.objs.size=none:=I.hok.fresh (Nat.le_refl _)
theorem Inv.lV(I:Inv X pins σ H s)(hH:H l=some (.lst xs)):xs.length<=sizeLine/\∃ (its:List Value) (n:Nat),Vals xs its/\xs.length=its.length/\s.heap.get? l=some { cls:=.type "list",data:=.seq its.toArray n }:=by
 obtain⟨z,its,n,r,e⟩:=I.hok l _ hH
 exact⟨z,its,n,r,r.length,e⟩
theorem sY{n:Nat}(h:n<=sizeLine):Builtin.List.listTooLong n=false:=by
 unfold Builtin.List.listTooLong
 exact decide_eq_false (by lia)
end
section
variable{X:Cx}
def ot:V->List V->Hp->VK->Prop:=fun x vs H Q=>∃ l xs y,x=.ref l/\vs=[y]/\H l=some (.lst xs)/\xs.length<sizeLine/\Q .non (upd H l (.lst (xs++[y])))
theorem kD:MtM X "list.append" ot:=by
 intro pins s σ H x vs v us Q I rx rv h
 obtain⟨l,xs,y,rfl,rfl,hH,hz,q⟩:=h
 cases rx
 obtain⟨u,rfl,ru⟩:=rv.one
 obtain⟨z,its,n,r,hl,e⟩:=I.lV hH
 refine call_meets F.slot_list_append ⟨_,e,rfl⟩ F.entry_list_append (F.args_list_append_2 _ _) (PySem.list_append l its.toArray n u (by rw[List.size_toArray];lia)) ⟨e,?_⟩
 refine⟨.non,_,I.wY (its':=its++[u]) hH e (by simp) (r.append (.cons ru .nil)) ?_,rfl,q⟩
 rw[List.length_append,List.length_singleton]
 lia
def zB:V->List V->Hp->VK->Prop:=fun x vs H Q=>∃ l xs y,x=.ref l/\vs=[]/\H l=some (.lst xs)/\xs[xs.length-1]?=some y/\Q y (upd H l (.lst xs.dropLast))
theorem xE:MtM X "list.pop" zB:=by
 intro pins s σ H x vs v us Q I rx rv h
 obtain⟨l,xs,y,rfl,rfl,hH,hy,q⟩:=h
 cases rx
 have hus:=rv.zero
 subst hus
 obtain⟨z,its,n,r,hl,e⟩:=I.lV hH
 obtain⟨u,hu,ru⟩:=r.get hy
 have hy':its.toArray[its.toArray.size-1]?=some u:=by
  show its.toArray[its.length-1]?=some u
  rw[<-Array.getElem?_toList,<-hl]
  exact hu
 refine call_meets F.slot_list_pop ⟨_,e,rfl⟩ F.entry_list_pop (F.args_list_pop_1 _) (MeetsSeq.list_pop_last l its.toArray n u hy' (by rw[List.size_toArray];lia)) ⟨e,?_⟩
 refine⟨y,_,I.wY (its':=its.dropLast) hH e ?_ r.dropLast ?_,ru,q⟩
 ·show its.toArray.eraseIdxIfInBounds (its.toArray.size-1)=its.dropLast.toArray
  rw[List.size_toArray,List.eraseIdxIfInBounds_toArray,pq]
 ·rw[List.length_dropLast]
  lia
def AG:R2:=fun x y H Q=>∃ l b xs zs,x=.ref l/\y=.ref b/\H l=some (.lst xs)/\H b=some (.lst zs)/\xs.length+zs.length<=sizeLine/\∀ p,H p=none->Q (.ref p) (upd H p (.lst (xs++zs)))
theorem yV:OpR X (binaryOp .Add) AG:=by
 intro pins s σ H x y v u Q I rx ry h
 obtain⟨l,b,xs,zs,rfl,rfl,hH,hB,hz,q⟩:=h
 cases rx
 cases ry
 obtain⟨z,its,n,r,hl,e⟩:=I.lV hH
 obtain⟨z2,its2,n2,r2,hl2,e2⟩:=I.lV hB
 refine PySem.P.add_list e e2 ?_ (by rw[List.size_toArray,List.size_toArray];lia)
 have ea:its.toArray++its2.toArray=(its++its2).toArray:=by simp
 rw[ea]
 exact⟨.ref _,_,I.wR (t':=s.toks) (r.append r2) (by rw[List.length_append];lia),rfl,q _ I.fresh⟩
def Ba:R2:=fun x y H Q=>∃ l k xs,x=.ref l/\y=.int k/\H l=some (.lst xs)/\-(2 ^ 63)<=k/\k<2 ^ 63/\xs.length*k.toNat<=sizeLine /\
 ∀ p,H p=none->Q (.ref p) (upd H p (.lst (List.replicate k.toNat xs).flatten))
theorem len_rep{α:Type}(xs:List α)(k:Nat):(List.replicate k xs).flatten.length=k*xs.length:=by
 induction k with
 | zero=>simp
 | succ k ih=>rw[List.replicate_succ,List.flatten_cons,List.length_append,ih,Nat.succ_mul,Nat.add_comm]
theorem yS:OpR X (binaryOp .Mult) Ba:=by
 intro pins s σ H x y v u Q I rx ry h
 obtain⟨l,k,xs,rfl,rfl,hH,h1,h2,hz,q⟩:=h
 cases rx
 obtain⟨t,rfl⟩:=ry
 obtain⟨z,its,n,r,hl,e⟩:=I.lV hH
 have hlen:its.toArray.size*k.toNat<=sizeLine:=by rw[List.size_toArray,<-hl];exact hz
 have hcap:¬ its.toArray.size*k.toNat > (2 ^ 63-1) / 8:=by
  have:(sizeLine:Nat)<=(2 ^ 63-1) / 8:=by decide
  lia
 have hfit:¬ (!Builtin.List.listFitsIndex k)=true:=by
  rw[fitsIndex_both h1 h2]
  exact Bool.false_ne_true
 have hlong:¬ Builtin.List.listTooLong (its.toArray.size*k.toNat)=true:=by
  rw[sY hlen]
  exact Bool.false_ne_true
 have hnew:List.foldl (fun x1 x2=>x1++x2) #[] (List.replicate (if its.toArray.isEmpty=true then 0 else k.toNat) its.toArray)=(List.replicate k.toNat its).flatten.toArray:=by
  have f0:∀ m:Nat,List.foldl (fun x1 x2=>x1++x2) #[] (List.replicate m its.toArray)=(List.replicate m its).flatten.toArray:=fun m=>by
   have:=foldl_rep its m []
   rw[List.nil_append]at this
   exact this
  rw[f0]
  cases its with
  | nil=>simp
  | cons a r'=>rw[if_neg (by simp)]
 refine wpAny_binaryOp_repeat_ref (T := "list") (U := "int") (by decide) ⟨_,e,rfl⟩ (fun s'=>typeIs_int s' k t) noFill_list_mul F.fills_int_mul F.slot_int_rmul repeat_list F.slot_int_index.lookup
  (call_meets F.slot_int_rmul (typeIs_int s k t) F.entry_int_rmul (F.args_int_rmul_2 _ _) (int___rmul___int_list k t l its.toArray n)
   ⟨e,rfl,⟨_,e,rfl⟩,call_meets F.slot_list_mul ⟨_,e,rfl⟩ F.entry_list_mul (F.args_list_mul_2 _ _) (AutoListH.list___mul___list_int_3 l its.toArray n k t hfit hcap hlong) ⟨e,?_⟩⟩)
 rw[hnew]
 exact⟨.ref _,_,I.wR (t':=s.toks) (r.rep k.toNat) (by rw[len_rep,Nat.mul_comm];exact hz),rfl,q _ I.fresh⟩
end
section
variable{prog:Program}{w:World}{A:Around}{E:Value->Shared->Prop}{s:Shared}
set_option maxRecDepth 100000 in
end
section
variable{X:Cx}
end
section
variable{κ:Type} [DecidableEq κ]
def cV(kvs:List (κ × V))(k:κ):Option V:=(kvs.find? fun kv=>decide (kv.1=k)).map (·.2)
def putK(kvs:List (κ × V))(k:κ)(v:V):List (κ × V) :=
 if(kvs.any fun kv=>decide (kv.1=k))=true then kvs.map (fun kv=>if kv.1=k then(kv.1,v)else kv)else kvs++[(k,v)]
theorem gr{p:κ × V}{r:List (κ × V)}{k:κ}(e:p.1=k):cV (p::r) k=some p.2:=by simp[cV,List.find?_cons,e]
theorem fT{p:κ × V}{r:List (κ × V)}{k:κ}(e:¬ p.1=k):cV (p::r) k=cV r k:=by simp[cV,List.find?_cons,e]
theorem nq(k:κ):∀ kvs:List (κ × V),(kvs.any fun kv=>decide (kv.1=k))=(cV kvs k).isSome
 | []=>rfl
 | p::r=>by
  rw[List.any_cons]
  by_cases e:p.1=k
  ·simp only[gr e,decide_eq_true e,Bool.true_or,Option.isSome_some]
  ·rw[fT e,decide_eq_false e,Bool.false_or];exact nq k r
theorem iD(kvs:List (κ × V))(k:κ)(v:V):(putK kvs k v).length<=kvs.length+1:=by
 unfold putK
 split
 ·rw[List.length_map];lia
 ·rw[List.length_append,List.length_cons,List.length_nil];lia
theorem gf.rB{o:Option V}{u:Option Value}(r:gf o u):o.isSome=u.isSome:=by
 cases o with
 | none=>cases u with
  | none=>rfl
  | some _=>exact(show False from r).elim
 | some _=>cases u with
  | none=>exact(show False from r).elim
  | some _=>rfl
theorem gf.getD{o:Option V}{u:Option Value}{d:V}{d':Value}(r:gf o u)(rd:RelV d d'):RelV (o.getD d) (u.getD d'):=by
 cases o with
 | none=>cases u with
  | none=>exact rd
  | some _=>exact(show False from r).elim
 | some _=>cases u with
  | none=>exact(show False from r).elim
  | some _=>exact r
theorem KV.val{kvs:List (κ × V)}{vs:List (κ × Value)}(r:KV kvs vs)(k:κ):gf (cV kvs k) (valueAt vs k):=by
 unfold KV at r
 induction r with
 | nil=>exact True.intro
 |@cons p q ps qs h t ih=>
  obtain⟨h1,h2⟩:=h
  by_cases e:p.1=k
  ·have e':q.1=k:=h1.symm.trans e
   have b:valueAt (q::qs) k=some q.2:=by simp[valueAt,List.find?_cons,e']
   rw[gr e,b];exact h2
  ·have e':¬ q.1=k:=fun z=>e (h1.trans z)
   have b:valueAt (q::qs) k=valueAt qs k:=by simp[valueAt,List.find?_cons,e']
   rw[fT e,b];exact ih
theorem KV.any{kvs:List (κ × V)}{vs:List (κ × Value)}(r:KV kvs vs)(k:κ):(kvs.any fun kv=>decide (kv.1=k))=vs.any fun kv=>decide (kv.1=k):=by
 unfold KV at r
 induction r with
 | nil=>rfl
 | cons h t ih=>rw[List.any_cons,List.any_cons,ih,h.1]
theorem KV.sx{kvs:List (κ × V)}{vs:List (κ × Value)}(r:KV kvs vs)(k:κ){y:V}{u:Value}(ry:RelV y u) :
  KV (kvs.map fun kv=>if kv.1=k then(kv.1,y)else kv) (vs.map fun kv=>if kv.1=k then(kv.1,u)else kv):=by
 unfold KV at r ⊢
 induction r with
 | nil=>exact .nil
 |@cons p q ps qs h t ih=>
  rw[List.map_cons,List.map_cons]
  refine .cons ?_ ih
  obtain⟨h1,h2⟩:=h
  by_cases e:p.1=k
  ·rw[if_pos e,if_pos (h1.symm.trans e)];exact⟨h1,ry⟩
  ·rw[if_neg e,if_neg (fun z=>e (h1.trans z))];exact⟨h1,h2⟩
theorem KV.put{kvs:List (κ × V)}{vs:List (κ × Value)}(r:KV kvs vs)(k:κ){y:V}{u:Value}(ry:RelV y u):KV (putK kvs k y) (stored vs k u):=by
 unfold putK stored
 rw[r.any k]
 by_cases e:(vs.any fun kv=>decide (kv.1=k))=true
 ·rw[if_pos e,if_pos e];exact r.sx k ry
 ·rw[if_neg e,if_neg e];exact Paired.snoc r ⟨rfl,ry⟩
theorem KV.length{kvs:List (κ × V)}{vs:List (κ × Value)}(r:KV kvs vs):kvs.length=vs.length:=Paired.length r
end
theorem pE{P:Program}{w:World}{k:Key}{u:Value}(r:RelV (kV k) u):(bq P w).is k u=true:=by
 cases k with
 | inl i=>obtain⟨t,e⟩:=(show ∃ t,u=Value.int i t from r);subst e;exact nL P w i t
 | inr x=>obtain⟨t,e⟩:=(show ∃ t,u=Value.str x t from r);subst e;exact nG P w x t
theorem kJ{P:Program}{w:World}:∀ {ks:List Key} {us:List Value},Vals (ks.map kV) us->ItemsAre (bq P w) ks us
 | [],_,r=>by rw[List.map_nil]at r;cases r;exact .nil
 | k::ks,_,r=>by
  rw[List.map_cons]at r
  cases r with
  | cons h t=>exact .cons (pE h) (kJ t)
abbrev KT(H:Hp):List (List Key × V)->List (List Key × Addr × Value)->Prop:=Paired fun p q=>p.1=q.1/\H q.2.1=some (.tup (p.1.map kV))/\RelV p.2 q.2.2
theorem KT.val{H:Hp}{kvs:List (List Key × V)}{xs:List (List Key × Addr × Value)}(r:KT H kvs xs)(k:List Key):gf (cV kvs k) ((atKey xs k).map (·.2)):=by
 induction r with
 | nil=>exact True.intro
 |@cons p q ps qs h t ih=>
  obtain⟨h1,_,h2⟩:=h
  by_cases e:p.1=k
  ·have e':q.1=k:=h1.symm.trans e
   have b:atKey (q::qs) k=some q.2:=by simp[atKey,List.find?_cons,e']
   rw[gr e,b];exact h2
  ·have e':¬ q.1=k:=fun z=>e (h1.trans z)
   have b:atKey (q::qs) k=atKey qs k:=by simp[atKey,List.find?_cons,e']
   rw[fT e,b];exact ih
theorem KT.sx{H:Hp}{kvs:List (List Key × V)}{xs:List (List Key × Addr × Value)}(r:KT H kvs xs)(k:List Key){y:V}{u:Value}(ry:RelV y u) :
  KT H (kvs.map fun kv=>if kv.1=k then(kv.1,y)else kv) (xs.map (putAt k u)):=by
 induction r with
 | nil=>exact .nil
 |@cons p q ps qs h t ih=>
  rw[List.map_cons,List.map_cons]
  refine .cons ?_ ih
  obtain⟨h1,h2,h3⟩:=h
  unfold putAt
  by_cases e:p.1=k
  ·rw[if_pos e,if_pos (h1.symm.trans e)];exact⟨h1,h2,ry⟩
  ·rw[if_neg e,if_neg (fun z=>e (h1.trans z))];exact⟨h1,h2,h3⟩
theorem KT.put{H:Hp}{kvs:List (List Key × V)}{xs:List (List Key × Addr × Value)}(r:KT H kvs xs)(k:List Key){b:Addr}{y:V}{u:Value}(hb:H b=some (.tup (k.map kV)))(ry:RelV y u) :
  KT H (putK kvs k y) (storedH xs k b u):=by
 have e:(kvs.any fun kv=>decide (kv.1=k))=(atKey xs k).isSome:=by
  rw[nq,(r.val k).rB,Option.isSome_map]
 unfold putK storedH
 rw[e]
 by_cases q:(atKey xs k).isSome=true
 ·rw[if_pos q,if_pos q];exact r.sx k ry
 ·rw[if_neg q,if_neg q];exact Paired.snoc r ⟨rfl,hb,ry⟩
theorem KT.keeps{H H':Hp}{kvs:List (List Key × V)}{xs:List (List Key × Addr × Value)}(r:KT H kvs xs)(ht:∀ b ys,H b=some (.tup ys)->H' b=some (.tup ys)):KT H' kvs xs :=
 Paired.sy r fun _ _ z=>⟨z.1,ht _ _ z.2.1,z.2.2⟩
section
variable{P:Program}{w:World}{H:Hp}{h:Heap}{a:Addr}
theorem uM{u:HO}(ok:HOk P w H h)(e:Rd H a u):aV P w H h a u:=e.ok ok
theorem lx{kvs:List (Key × V)}(ok:HOk P w H h)(e:Rd H a (.dK kvs)):kvs.length<=sizeLine/\(a == sysModules)=false/\∃ vs,KV kvs vs/\h.DictOf (bq P w) a vs :=
 show aV P w H h a (.dK kvs)from uM ok e
theorem As{kvs:List (Key × V)}(ok:HOk P w H h)(e:H a=some (.dK kvs)):kvs.length<=sizeLine/\(a == sysModules)=false/\∃ vs,KV kvs vs/\h.DictOf (bq P w) a vs:=lx ok (.inl e)
theorem mG{ks:List Key}(ok:HOk P w H h)(e:H a=some (.tup (ks.map kV))):(tupleKind (bq P w)).is h ks a:=by
 obtain⟨_,its,r,o,h1,h2,n,h3⟩:=(show aV P w H h a (.tup (ks.map kV))from ok a _ e)
 exact⟨o,its.toArray,n,h1,h2,h3,by simpa using kJ r⟩
theorem pU{kvs:List (List Key × V)}(ok:HOk P w H h)(e:Rd H a (.dT kvs)):kvs.length<=sizeLine/\(a == sysModules)=false /\
  ∃ xs,KT H kvs xs/\h.DictOfH (tupleKind (bq P w)) a xs:=by
 obtain⟨z,y,xs,r,o,es,ep,h1,h2,h3,h4,h5⟩:=(show aV P w H h a (.dT kvs)from uM ok e)
 refine⟨z,y,xs,r,o,es,ep,h1,h2,h3,h4,fun x hx=>?_,h5⟩
 have all:∀ {l:List (List Key × V)} {m:List (List Key × Addr × Value)},KT H l m->∀ x∈m,(tupleKind (bq P w)).is h x.1 x.2.1:=by
  intro l m q
  induction q with
  | nil=>intro x hx;exact nomatch hx
  |@cons p q ps qs hq t ih=>
   intro x hx
   rcases List.mem_cons.mp hx with e | hx
   ·subst e
    exact mG ok (by rw[<-hq.1];exact hq.2.1)
   ·exact ih x hx
 exact all r x hx
theorem uF{kvs:List (List Key × V)}(ok:HOk P w H h)(e:H a=some (.dT kvs)):kvs.length<=sizeLine/\(a == sysModules)=false /\
  ∃ xs,KT H kvs xs/\h.DictOfH (tupleKind (bq P w)) a xs:=pU ok (.inl e)
end
def fP(H:Hp)(a:Addr)(y:V)(r:Option V):Prop :=
 (∃ kvs k,Rd H a (.dK kvs)/\y=kV k/\r=cV kvs k)\/∃ kvs k b,Rd H a (.dT kvs)/\y=.ref b/\H b=some (.tup (k.map kV))/\r=cV kvs k
def gJ(H:Hp)(a:Addr)(y v:V)(H':Hp):Prop :=
 (∃ kvs k,H a=some (.dK kvs)/\y=kV k/\kvs.length<sizeLine/\H'=upd H a (.dK (putK kvs k v))) \/
 ∃ kvs k b,H a=some (.dT kvs)/\y=.ref b/\H b=some (.tup (k.map kV))/\kvs.length<sizeLine/\H'=upd H a (.dT (putK kvs k v))
theorem fP.k{H:Hp}{a:Addr}{kvs:List (Key × V)}{k:Key}(e:H a=some (.dK kvs)):fP H a (kV k) (cV kvs k):=.inl ⟨kvs,k,.inl e,rfl,rfl⟩
theorem fP.t{H:Hp}{a b:Addr}{kvs:List (List Key × V)}{k:List Key}(e:H a=some (.dT kvs))(eb:H b=some (.tup (k.map kV))):fP H a (.ref b) (cV kvs k):=.inr ⟨kvs,k,b,.inl e,rfl,eb,rfl⟩
theorem gJ.k{H:Hp}{a:Addr}{kvs:List (Key × V)}{k:Key}{v:V}(e:H a=some (.dK kvs))(hl:kvs.length<sizeLine):gJ H a (kV k) v (upd H a (.dK (putK kvs k v))):=.inl ⟨kvs,k,e,rfl,hl,rfl⟩
theorem gJ.t{H:Hp}{a b:Addr}{kvs:List (List Key × V)}{k:List Key}{v:V}(e:H a=some (.dT kvs))(eb:H b=some (.tup (k.map kV)))(hl:kvs.length<sizeLine) :
  gJ H a (.ref b) v (upd H a (.dT (putK kvs k v))):=.inr ⟨kvs,k,b,e,rfl,eb,hl,rfl⟩
section
variable{X:Cx}{pins:List (Addr × Obj)}{σ:St}{H:Hp}{s:Shared}{a:Addr}{y v:V}{u r:Value}{o:Option V}{A:Around}{E:Value->Shared->Prop}
theorem Inv.big(I:Inv X pins σ H s):sysModules<s.heap.objs.size:=by
 have h:mainGlobals<s.heap.objs.size:=(I.mod.glob.keeps I.bk).lt
 exact Nat.lt_trans (by decide) h
theorem nV{h':Heap}{t':Nat}{ob:HO}(I:Inv X pins σ H s)(mu:Mut (H a))(hs:Heap.SameBut a s.heap h')(he:∃ q,h'.get? a=some q)(new:aV X.prog X.w (upd H a ob) h' a ob) :
  Inv X pins σ (upd H a ob) { s with heap:=h',toks:=t' } :=
 I.write (x:=a) (e:=a) mu (.inl rfl) (fun b q hb z=>(hs.2 b hb).trans z) he new
theorem xg{P:Program}{w:World}{H':Hp}{h':Heap}{kvs:List (Key × V)}{vs:List (Key × Value)}(z:kvs.length<=sizeLine)(hd:(a == sysModules)=false)(rel:KV kvs vs)(dd:h'.DictOf (bq P w) a vs) :
  aV P w H' h' a (.dK kvs):=⟨z,hd,vs,rel,dd⟩
theorem rY{H':Hp}{Q:Unit->Shared->Prop}(hu:A.units+1<cLine)(I:Inv X pins σ H s)(g:gJ H a y v H')(ry:RelV y u)(rv:RelV v r)(h:∀ s',Inv X pins σ H' s'->Q () s') :
  wpAny (model X.prog X.w) A (setItem (.ref a) u r) Q E s:=by
 rcases g with⟨kvs,k,e,ey,l,eH⟩ | ⟨kvs,k,b,e,ey,eb,l,eH⟩
 ·subst ey eH
  obtain⟨z,hd,vs,rel,dd⟩:=As I.hok e
  have hz:vs.length<=sizeLine:=by rw[<-rel.length];exact z
  have hl:(putK kvs k v).length<=sizeLine:=by have:=iD kvs k v;lia
  refine wpAny_setItem_pairs (hsz:=hz) (pE ry) dd fun h' dd' hs=>h _ ?_
  have he:∃ q,h'.get? a=some q:=let ⟨q,_,_,hq,_⟩:=dd';⟨q,hq⟩
  exact nV I (by rw[e];exact True.intro) hs he (xg hl hd (rel.put k rv) dd')
 ·subst ey eH
  cases(show u=Value.ref b from ry)
  obtain⟨z,hd,xs,rel,dd⟩:=uF I.hok e
  have hz:xs.length<=sizeLine:=by rw[<-Paired.length rel];exact z
  have hl:(putK kvs k v).length<=sizeLine:=by have:=iD kvs k v;lia
  refine wpAny_setItem_heap (hsz:=hz) (tupleKind_room_in1 hu) (mG I.hok eb) dd fun h' dd' hs=>h _ ?_
  obtain⟨q,es,ep,hq,h2,h3,h4,_,h5⟩:=dd'
  refine nV I (by rw[e];exact True.intro) hs ⟨q,hq⟩ ⟨hl,hd,_,(rel.put k eb rv).keeps fun c ys ec=>?_,q,es,ep,hq,h2,h3,h4,h5⟩
  rw[aH (qc ec e (fun z=>nomatch z))]
  exact ec
end
section
variable{X:Cx}{pins:List (Addr × Obj)}{σ:St}{H:Hp}{s:Shared}{a:Addr}{kvs:List (Key × V)}{k:Key}{u:Value}{A:Around}{E:Value->Shared->Prop}
theorem zG{Q:Value->Shared->Prop}(I:Inv X pins σ H s)(e:Rd H a (.dK kvs))(h:∀ t s',Inv X pins σ H s'->Q (.int kvs.length t) s'):wpAny (model X.prog X.w) A (call (.builtin "len") [.ref a]) Q E s:=by
 obtain⟨z,hd,vs,rel,dd⟩:=lx I.hok e
 refine call_len_dict hd dd (by rw[<-rel.length];rw[sizeLine_eq]at z;lia) ?_
 rw[<-rel.length]
 exact h _ _ (I.tok _)
end
def pf(td ty tv:TE):TS:=fun D σ H=>tv σ H fun v H1=>td σ H1 fun x H2=>ty σ H2 fun y H3=>∃ a H4,x=.ref a/\gJ H3 a y v H4/\D.nx σ H4
section
variable{X:Cx}{o i e value:Expr}{pos pos' tpos:Pos}{td ty tv:TE}
theorem uX(hu:X.A.units+1<cLine)(ho:PE X o td)(hi:PE X i ty)(hv:PE X value tv)(hs:swapsWith value (some (.Subscript o i pos')) pos.line X.env=pure false) :
  PS X (.Assign [.Subscript o i pos'] value pos) (pf td ty tv):=by
 intro pins s σ H D I h
 refine wpAny_Assign_Subscript (thn (hv pins s σ H _ I h) fun r s1 ⟨v,H1,I1,rv,q1⟩=>thn (ho pins s1 σ H1 _ I1 q1) fun u s2 ⟨x,H2,I2,rx,q2⟩=>thn (hi pins s2 σ H2 _ I2 q2) fun iv s3 ⟨y,H3,I3,ry,a,H4,ex,g,q3⟩=>?_) hs
 subst ex
 obtain rfl:u=Value.ref a:=rx
 exact rY hu I3 g ry rv fun s4 I4=>⟨σ,H4,I4,q3⟩
end
theorem sg{P:Program}{w:World}{H:Hp}(h:Heap)(hb:sysModules<h.objs.size):aV P w H (h.push { cls:=.type "dict",data:=.dict #[] }) h.objs.size (.dT []) :=
 ⟨Nat.zero_le _,beq_eq_false_iff_ne.mpr (Ne.symm (Nat.ne_of_lt hb)),[],.nil,_,#[],0,Heap.get?_push_size _ rfl,⟨rfl,rfl,rfl⟩,rfl,rfl,List.nodup_nil⟩
def xM:TE:=fun _ H Q=>∀ p,H p=none->Q (.ref p) (upd H p (.dT []))
section
variable{X:Cx}{pos:Pos}
theorem t5:PE X (.Dict [] [] pos) xM:=fun pins s σ H Q I h =>
 wpAny_Dict_empty ⟨.ref s.heap.objs.size,_,I.laid (a:=s.heap.objs.size) (o:=.dT []) (t':=s.toks) (fun _ _ q=>Heap.get?_push_of_some _ q) (Nat.le_refl _) (sg s.heap I.big),rfl,h _ (I.hok.fresh (Nat.le_refl _))⟩
end
structure M2(X:Cx)(o:Expr)(m:Str)(apos:Pos)(e f:Expr)(cpos:Pos):Prop where
 base:attributeBase o m X.env (eval o X.env)=eval o X.env
 few:((backTo cpos (starEach [e,f] X.env)).all (fun x=>!x.1)&&(backToKw cpos (keywordEach [] X.env)).all (fun x=>x.1.isSome)
  && decide (([e,f]:List Expr).length+([]:List Keyword).length+(if([]:List Keyword).isEmpty then 0 else 1)<30))=true
 line:(apos.endLine == cpos.line)=true
 trees:backTo cpos (starEach [e,f] X.env)=[(false,eval e X.env),(false,eval f X.env)]
def IsD(H:Hp)(a:Addr):Prop:=(∃ kvs,Rd H a (.dK kvs))\/∃ kvs,Rd H a (.dT kvs)
theorem zl{X:Cx}{pins:List (Addr × Obj)}{σ:St}{H:Hp}{s:Shared}{a:Addr}(I:Inv X pins σ H s)(d:IsD H a) :
  s.TypeIs (.ref a) "dict" /\ (∀ b,Value.ref a=.ref b->∃ ob,s.heap.get? b=some ob/\ob.dict=none)/\(a == sysModules)=false:=by
 rcases d with⟨kvs,e⟩ | ⟨kvs,e⟩
 ·obtain⟨_,hd,vs,_,dd⟩:=lx I.hok e
  refine⟨dd.typeIs,fun b q=>?_,hd⟩
  cases q
  obtain⟨ob,_,_,h1,h2,_⟩:=dd
  exact⟨ob,h1,h2.2.1⟩
 ·obtain⟨_,hd,xs,_,dd⟩:=pU I.hok e
  refine⟨dd.typeIs,fun b q=>?_,hd⟩
  cases q
  obtain⟨ob,_,_,h1,h2,_⟩:=dd
  exact⟨ob,h1,h2.2.1⟩
section
variable{X:Cx}{pins:List (Addr × Obj)}{σ:St}{H:Hp}{s:Shared}{a:Addr}{y d:V}{u r:Value}{o:Option V}{A:Around}{E:Value->Shared->Prop}
theorem yW{Q:Value->Shared->Prop}(hu:A.units+1<cLine)(I:Inv X pins σ H s)(g:fP H a y o)(ry:RelV y u)(rd:RelV d r)(h:∀ w' s',Inv X pins σ H s'->RelV (o.getD d) w'->Q w' s') :
  wpAny (model X.prog X.w) A (call (.builtin "dict.get") [.ref a,u,r]) Q E s:=by
 rcases g with⟨kvs,k,e,ey,l⟩ | ⟨kvs,k,b,e,ey,eb,l⟩
 ·subst ey
  obtain⟨z,hd,vs,rel,dd⟩:=lx I.hok e
  refine call_meetsIn PySem.F.slot_dict_get dd.typeIs PySem.F.entry_dict_get (PySem.F.args_dict_get_3 _ _ _) (meets_dict_get_default (bq X.prog X.w) a (pE ry) hd r) ⟨_,dd.mapOf,h _ _ (I.tok _) ?_⟩
  rw[l]
  exact(rel.val k).getD rd
 ·subst ey
  cases(show u=Value.ref b from ry)
  obtain⟨z,hd,xs,rel,dd⟩:=pU I.hok e
  refine call_meetsIn PySem.F.slot_dict_get dd.typeIs PySem.F.entry_dict_get (PySem.F.args_dict_get_3 _ _ _) (meetsH_dict_get_default (tupleKind (bq X.prog X.w)) a b hd r) ⟨tupleKind_room_in1 hu,k,xs,mG I.hok eb,dd,h _ _ (I.tok _) ?_⟩
  rw[l]
  exact(rel.val k).getD rd
end
def zg(td ty tx:TE):TE:=fun σ H Q=>td σ H fun x H1=>∃ a,x=.ref a/\IsD H1 a/\ty σ H1 fun y H2=>tx σ H2 fun z H3=>∃ o,fP H3 a y o/\Q (o.getD z) H3
section
variable{X:Cx}{o e f:Expr}{apos cpos:Pos}{td ty tx:TE}
theorem tf(hu:X.A.units+1<cLine)(ho:PE X o td)(he:PE X e ty)(hf:PE X f tx)(m:M2 X o "get" apos e f cpos):PE X (.Call (.Attribute o "get" apos) [e,f] [] cpos) (zg td ty tx):=by
 intro pins s σ H Q I h
 refine wpAny_Call_method m.base m.few m.line PySem.F.plainAttrs_dict PySem.F.slot_dict_get PySem.F.type_dict_get (thn (ho pins s σ H _ I h) fun u s1 ⟨x,H1,I1,rx,a,ex,d,q1⟩=>?_)
 subst ex
 obtain rfl:u=Value.ref a:=rx
 obtain⟨t1,t2,_⟩:=zl I1 d
 refine⟨t1,t2,?_⟩
 rw[m.trees]
 refine Calls.callWith_builtin rfl (Calls.evalArgs_plain (Calls.spliced_cons (thn (he pins s1 σ H1 _ I1 q1) fun iv s2 ⟨y,H2,I2,ry,q2⟩ =>
  Calls.spliced_cons (thn (hf pins s2 σ H2 _ I2 q2) fun fv s3 ⟨z,H3,I3,rz,ov,g,q3⟩=>Calls.spliced_nil ?_))))
 exact yW hu I3 g ry rz fun w' s4 I4 rw'=>⟨_,H3,I4,rw',q3⟩
end
section
variable{X:Cx}{pins:List (Addr × Obj)}{σ:St}{H:Hp}{s:Shared}{a:Addr}{kvs:List (Key × V)}{A:Around}{E:Value->Shared->Prop}
end
section
variable{X:Cx}{pins:List (Addr × Obj)}{σ:St}{H:Hp}{s:Shared}{a:Addr}{y:V}{u:Value}{A:Around}{E:Value->Shared->Prop}
end
end L2
namespace Att
open PySem PySem.W PySem.Calls PyProof.Rows
theorem j5{P:Params}{h:Heap}:∀ (ns:List Int) (vs:List Value),WellAll P h vs (ns.map WData.int)->IntsAre vs ns:=by
 intro ns
 induction ns with
 |nil=>
  intro vs w
  rw[List.map_nil]at w
  cases w
  exact .nil
 |cons n ns ih=>
  intro vs w
  rw[List.map_cons]at w
  cases w with
  |cons a b=>
   cases a
   exact .cons _ _ (ih _ b)
theorem qB{l:OpenLaw}{n:Nat}(hn:l.most=some n){P:Params}{h:Heap}{args:List WData}{vals:List Value}
 (hpre:l.row.toRowW.claim.pre args=true)(hwl:WellAll P h vals args) :
  ∃ a vs ns,vals=[Value.ref a]/\args=[WData.list (ns.map WData.int)]/\h.get? a=some { cls:=.type "list",data:=.seq vs.toArray }/\IntsAre vs ns/\ns.length<=n:=by
 have hsh:WShape.hasAll [] args [.list .int]=true:=(pre_splitW hpre).1
 have hc:l.pre.holds [] { args:=args }=true:=(pre_splitW hpre).2
 obtain⟨d,r,rfl,h1,h2⟩:=hasAllW_cons hsh
 obtain rfl:=hasAllW_nil h2
 obtain⟨xs,rfl,h3⟩:=hasW_list h1
 obtain⟨ns,rfl⟩:=items_int h3
 have hlen:ns.length<=n:=by
  unfold OpenLaw.pre at hc
  have h4:(WTm.not (.lt (.lit (.int (n:Int))) (.len (.arg 0)))).holds [] { args:=[.list (ns.map .int)] }=true:=by
   have h4:=(holds_andW hc).1
   rw[hn]at h4
   exact h4
  have h5:=condW_of h4 (w_not (w_lt w_lit (w_len_list (w_arg rfl))))
  rw[List.length_map]at h5
  refine Nat.le_of_not_lt fun q=>?_
  have q':(n:Int)<((ns.length:Nat):Int):=by omega
  first
   | (rw[decide_eq_true q']at h5;exact absurd h5 (by decide))
   | (simp at h5;omega)
 cases hwl with
 |cons w1 w2=>
  cases w2
  cases w1 with
  | list ho hall=>exact⟨_,_,ns,rfl,rfl,ho,j5 ns _ hall,hlen⟩
theorem rH(l:OpenLaw)(args:List WData):l.row.toRowW.claim.post args (.bool true) args=true :=
 postW_of (r:=l.row.toRowW) (X:=(true == true))
  (show WShape.has [] (.bool true) .bool=true by first | rfl | decide | simp[WShape.has,WShape.arms,WShape.armsAll])
  (show(WTm.eq .res (.lit (.bool true))).value [] { args:=args,res:=some (.bool true),after:=args }=some (.bool (true == true))from w_eq_bool (w_res rfl) w_lit) rfl
theorem nK{l:OpenLaw}{n:Nat}{q:Program}{loose:List Str}{XP:(Str->Option Value)->Heap->Prop}{YP:World->Heap->Prop}{d:DefRec}
 (hn:l.most=some n)(hdf:d.params.defaults=[])
 (call:∀ (w:World) (s₀ s₁:Shared) (mg mb:Str->Option Value) (fa:Addr) (o:Obj) (pm cd doc:Value) (a:Addr) (vs:List Value) (ns:List Int),
   Ground q loose [] XP w s₀ mg mb s₁.heap->YP w s₁.heap ->
   s₁.heap.get? fa=some o->o.data=.func (docDef d.name d.params d.body d.scope pm cd doc)->s₁.heap.CodeRec cd d.name->mg d.name=some (.ref fa) ->
   s₁.heap.get? a=some { cls:=.type "list",data:=.seq vs.toArray }->IntsAre vs ns->ns.length<=n->s₁.gens=#[] ->
   codeAny (model l.prog w) callerA (.call (.ref fa) ⟨[.ref a],[]⟩) (fun r s'=>r=.ok (.ret (.bool true))/\OldK s₁.heap s'.heap/\s'.os=s₁.os/\AllBare s'.gens) s₁) :
  WalkO q loose XP YP l.row.toRowW d [] (fun f vs=>PySem.call f vs):=by
 intro w s₀ s₁ mg mb G Y fa o pm cd doc dV kV ho hd hcd hD hmg hg args vals as hpre hlay hrd hwl hlo
 obtain rfl:dV=.none:=Dflts.none hD hdf
 obtain rfl:kV=.none:=Dflts.noKw hD
 obtain⟨a,vs,ns,rfl,rfl,hobj,hints,hlen⟩:=qB hn hpre hwl
 refine enter_call (codeAny_mono (call w s₀ s₁ mg mb fa o pm cd doc a vs ns G Y ho (fd_plain hd) hcd hmg hobj hints hlen hg) fun r s' hq=>?_)
 obtain⟨rfl,h2,h3,h4⟩:=hq
 exact⟨.inl ⟨.bool true,.bool true,[],rfl,fun _=>rfl,.bool true,rH l _,fun _=>⟨List.Pairwise.nil,fun _ hm=>(nomatch hm)⟩⟩,h2,h3,h4⟩
section
variable{prog:Program}{w:World}{A:Around}{E:Value->Shared->Prop}{s:Shared}{K:Frag}
end
end Att
namespace L2
open PySem PySem.Spec PyProof.Rows
theorem kG:∀ {vs:List Value} {ns:List Int},IntsAre vs ns->Vals (ns.map V.int) vs
 | _,_,.nil=>.nil
 | _,_,.cons n t h=>.cons ⟨t,rfl⟩ (kG h)
def mK(H:Hp):Prop:=∀ b,H b=none\/∃ o xs,H b=some (.frz o (.lst xs))
theorem tF{P:Program}{w:World}{K:PySem.W.Frag}{mg mb:Str->Option Value}{CX:CXT}{k:Nat}{fa a:Addr}{fd:FuncData}{x:Str}{sp:Sp}{s₁:Shared}{vs:List Value}{ns:List Int}
 (KX:K.In s₁.heap)(hns:s₁.heap.Ns mainGlobals mg)(hb:s₁.heap.Ns builtinsNs mb)(hbb:∀ x:Str,x ≠ "__name__" -> mb x=bootBuiltins x)(hlim:s₁.heap.NoLimit)(hg:s₁.gens=#[])
 (ha:s₁.heap.get? a=some { cls:=.type "list",data:=.seq vs.toArray })(hi:IntsAre vs ns)(hl:ns.length<=sizeLine)(hr:cO k callerA)
 (F:∀ base:Heap,K.In base->base.Ns mainGlobals mg->fh P w K mg base CX k fa fd [x] sp)(hbind:∀ (s:Shared) (u:Value),BindsTo s fd ⟨[u],[]⟩ [(x,u)])
 (hsp:∀ H:Hp,mK H->SqL K H a (ns.map V.int)->sp [.ref a] H (fun v _=>v=.bl true) fun _ _ _=>False)
 (hCX:∀ H e s',CX [] H s₁ (fun _ _ _=>False) e s'->False) :
  codeAny (model P w) callerA (.call (.ref fa) ⟨[.ref a],[]⟩) (fun r s'=>r=.ok (.ret (.bool true))/\OldK s₁.heap s'.heap/\s'.os=s₁.os/\AllBare s'.gens) s₁:=by
 have rv:=kG hi
 have lenV:=hi.length
 have core:∀ H:Hp,mK H->SqL K H a (ns.map V.int)->HOk P w H s₁.heap->(∀ b,H b≠none->b=a)->(H a≠none->K.lookup a=none) ->
   codeAny (model P w) callerA (.call (.ref fa) ⟨[.ref a],[]⟩) (fun r s'=>r=.ok (.ret (.bool true))/\OldK s₁.heap s'.heap/\s'.os=s₁.os/\AllBare s'.gens) s₁:=by
  intro H hO hS hok hA hK
  have base_of:∀ {b:Addr} {o:Obj},s₁.heap.get? b=some o->H b=none->(gq s₁.heap H).get? b=some o:=fun e n=>um e n
  have noA:∀ {b:Addr} {o:Obj} {es:Array DictEntry} {ep:Nat},s₁.heap.get? b=some o->o.data=.dict es ep->H b=none:=fun {b o es ep} e d=>by
   cases q:H b with
   | none=>rfl
   |some u=>
    have e':b=a:=hA b (by rw[q];simp)
    subst e'
    rw[ha]at e;cases e
    have d':Data.seq vs.toArray _=Data.dict es ep:=d
    cases d'
  have nsK:∀ {b:Addr} {m:Str->Option Value},s₁.heap.Ns b m->(gq s₁.heap H).Ns b m:=fun {b m} ⟨o,es,ep,e,d,r⟩=>⟨o,es,ep,base_of e (noA e d),d,r⟩
  have hKb:K.In (gq s₁.heap H):=fun b o e=>base_of (KX b o e) (by
   cases q:H b with
   | none=>rfl
   |some u=>
    have e':b=a:=hA b (by rw[q];simp)
    subst e'
    rw[hK (by rw[q];simp)]at e;cases e)
  have hM:Mod K mg (gq s₁.heap H):=⟨hKb,nsK hns,⟨mb,nsK hb,hbb⟩,let ⟨mc,h1,h2⟩:=hlim;⟨mc,nsK h1,h2⟩⟩
  have e0:pD P w K mg (gq s₁.heap H) callerA [] s₁ H:=⟨rfl,hM,fun b o e=>uT e,Nat.le_of_eq (q0 _ _),trivial,fun b hb=>absurd (show b∈([]:List Addr)from hb) (by simp),hok,.of_eq hg⟩
  refine codeAny_mono ((F _ hKb (nsK hns)).run callerA [] s₁ H ⟨[.ref a],[]⟩ [.ref a] [.ref a] _ _ hr e0 (hbind s₁ (.ref a)) (.cons rfl .nil) (hsp H hO hS)) fun r s' h=>?_
  cases r with
  | error e=>exact(hCX H e s' h).elim
  |ok fl=>
   cases fl with
   | next=>exact False.elim h
   | brk=>exact False.elim h
   | cont=>exact False.elim h
   |ret u=>
    obtain⟨v,H',os,bare,un,hok',r',q⟩:=h
    have q':v=.bl true:=q
    subst q'
    obtain rfl:u=Value.bool true:=r'
    refine⟨rfl,OldK.of_keep fun b o e=>?_,os,bare⟩
    cases q:H b with
    | none=>exact un.keep b o e q (by intro z;exact absurd (show b∈([]:List Addr)from z) (by simp)) (by simp)
    |some u=>
     rcases hO b with z | ⟨ob,xs,z⟩
     ·rw[q]at z;cases z
     ·have z2:=un.fY b ob _ z
      obtain⟨e1,_⟩:=hok b _ z
      obtain⟨e2,_⟩:=hok' b _ z2
      rw[e]at e1;cases e1
      exact e2
 cases hk:K.lookup a with
 |some o=>
  have e:=KX a o hk
  rw[ha]at e
  cases e
  refine core (fun _=>none) (fun _=>.inl rfl) (.inr ⟨_,vs.toArray,_,hk,rfl,rfl,rfl,by rw[List.size_toArray,lenV];exact hl,by simpa using rv⟩) (fun b u z=>by have z':(none:Option HO)=some u:=z;cases z') (fun b z=>absurd rfl z) fun z=>absurd rfl z
 |none=>
  refine core (fun b=>if b=a then some (.frz { cls:=.type "list",data:=.seq vs.toArray } (.lst (ns.map V.int)))else none) (fun b=>?_) (.inl (.inr ⟨{ cls:=.type "list",data:=.seq vs.toArray },if_pos rfl⟩)) (fun b u z=>?_) (fun b z=>?_) fun _=>hk
  ·by_cases hb:b=a
   ·exact .inr ⟨_,_,if_pos hb⟩
   ·exact .inl (if_neg hb)
  ·by_cases hb:b=a
   ·have z':=(if_pos hb).symm.trans z
    cases z'
    subst hb
    exact⟨ha,by rw[List.length_map];exact hl,vs,_,rv,ha⟩
   ·have z':=(if_neg hb).symm.trans z
    cases z'
  ·by_cases hb:b=a
   ·exact hb
   ·exact absurd (if_neg hb) z
abbrev KOf{K:PySem.W.Frag}{h:Heap}(_:K.In h):PySem.W.Frag:=K
theorem o5{l:PySem.W.OpenLaw}{n k:Nat}{q:Program}{loose:List Str}{XP:(Str->Option Value)->Heap->Prop}{YP:World->Heap->Prop}{d:DefRec}{K:Params->PySem.W.Frag}{CX:World->CXT}{sp:World->Sp}{x:Str}
 (hn:l.most=some n)(hn2:n<=sizeLine)(hdf:d.params.defaults=[])(hr:cO k callerA)
 (hY:∀ (w:World) (h:Heap),YP w h->(K w.params).In h)
 (F:∀ (w:World) (mg:Str->Option Value) (fa:Addr) (h:Heap),(K w.params).In h->h.Ns mainGlobals mg->mg d.name=some (.ref fa) ->
   ∃ fd:FuncData,(∀ (s:Shared) (u:Value),BindsTo s fd ⟨[u],[]⟩ [(x,u)]) /\
    ∀ base:Heap,(K w.params).In base->base.Ns mainGlobals mg->fh l.prog w (K w.params) mg base (CX w) k fa fd [x] (sp w))
 (hsp:∀ (w:World) (H:Hp) (a:Addr) (ns:List Int),ns.length<=n->mK H->SqL (K w.params) H a (ns.map V.int)->sp w [.ref a] H (fun v _=>v=.bl true) fun _ _ _=>False)
 (hCX:∀ (w:World) (H:Hp) (s:Shared) (e:Value) (s':Shared),CX w [] H s (fun _ _ _=>False) e s'->False) :
  PySem.W.WalkO q loose XP YP l.row.toRowW d [] (fun f vs=>PySem.call f vs):=by
 refine Att.nK hn hdf fun w s₀ s₁ mg mb fa o pm cd doc a vs ns G Y ho hd hcd hmg hobj hints hlen hg=>?_
 have KX:=hY w _ Y
 obtain⟨fd,hb,hF⟩:=F w mg fa _ KX G.T.g hmg
 exact tF KX G.T.g G.T.b G.T.builtins G.T.nolimit hg hobj hints (Nat.le_trans hlen hn2) hr hF hb (fun H hO hS=>hsp w H a ns hlen hO hS) fun H e s'=>hCX w H s₁ e s'
theorem sF{l:PySem.W.OpenLaw}{n k:Nat}{q:Program}{loose:List Str}{XP:(Str->Option Value)->Heap->Prop}{YP:World->Heap->Prop}{d:DefRec}{K:Params->PySem.W.Frag}{CX:CXT}{sp:PySem.W.Frag->Sp}{x:Str}
 (hn:l.most=some n)(hn2:n<=sizeLine)(hdf:d.params.defaults=[])(hr:cO k callerA)
 (hY:∀ (w:World) (h:Heap),YP w h->(K w.params).In h)
 (F:∀ (w:World) (mg:Str->Option Value) (fa:Addr) (h:Heap),(K w.params).In h->h.Ns mainGlobals mg->mg d.name=some (.ref fa) ->
   ∃ fd:FuncData,(∀ (s:Shared) (u:Value),BindsTo s fd ⟨[u],[]⟩ [(x,u)]) /\
    ∀ base:Heap,(K w.params).In base->base.Ns mainGlobals mg->fh l.prog w (K w.params) mg base CX k fa fd [x] (sp (K w.params)))
 (hsp:∀ (K:PySem.W.Frag) (H:Hp) (a:Addr) (ns:List Int),ns.length<=n->mK H->SqL K H a (ns.map V.int)->sp K [.ref a] H (fun v _=>v=.bl true) fun _ _ _=>False)
 (hCX:∀ (H:Hp) (s:Shared) (e:Value) (s':Shared),CX [] H s (fun _ _ _=>False) e s'->False) :
  PySem.W.WalkO q loose XP YP l.row.toRowW d [] (fun f vs=>PySem.call f vs) :=
 o5 (K:=K) (CX:=fun _=>CX) (sp:=fun w=>sp (K w.params)) hn hn2 hdf hr hY F (fun w H a ns h1 h2 h3=>hsp (K w.params) H a ns h1 h2 h3) fun _ H s e s'=>hCX H s e s'
def fz(s:Stmt):Arguments:=match s with
 | .FunctionDef _ a _ _ _ _ _ _ _ _=>a
 | _=>{ posonlyargs:=[],args:=[],vararg:=none,kwonlyargs:=[],kw_defaults:=[],kwarg:=none,defaults:=[] }
def dA(s:Stmt):List Stmt:=match s with
 | .FunctionDef _ _ b _ _ _ _ _ _ _=>b
 | _=>[]
def bL(s:Stmt):Scope:=match s with
 | .FunctionDef _ _ _ _ _ _ sc _ _ _=>sc
 | _=>{ kind:=.function,names:=[],isGenerator:=false,isCoroutine:=false }
abbrev CX0:CXT:=fun _ _ _ _ _ _=>False
abbrev E0:XK:=fun _ _ _=>False
theorem uv{X:Cx}:Passes CX0 X E0:=fun _ _ _ _ _ _ _ h=>h.elim
structure Fun(K:PySem.W.Frag)(x qual:Str)(st:Stmt)(f:Addr)(fd:FuncData):Prop where
 ex:∃ (oc:Value) (od:Option Addr) (kV doc pm:Value) (an:Option Addr) (cdv ct:Value) (osl:Array (Option Value)),
  fd=PySem.W.fnOf x qual (fz st) (dA st) (bL st) .none kV doc pm an cdv ct/\K.lookup f=some ⟨oc,od,.func fd,osl⟩/\PySem.W.codeIn K cdv qual=true
 kp:PySem.W.keepIn K (.ref f)=true
section
variable{P:Program}{w:World}{K:PySem.W.Frag}{mg:Str->Option Value}{base:Heap}
theorem Fun.ok{x qual:Str}{st:Stmt}{f:Addr}{fd:FuncData}{N ps:List Str}{k:Nat}{sp:Sp}(F:Fun K x qual st f fd)(S:i0 N ps (bL st))(len:∀ vs H Q E,sp vs H Q E->vs.length=ps.length)
 (hbody:∀ (cdv:Value) (A:Around) (outer:List Env) (s:Shared) (H:Hp) (vs:List V) (Q:VK) (E:XK),cO k (A.deeper (envOfC qual (bL st) s.heap.objs.size f cdv))->sp vs H Q E ->
   ∃ t,PSs (iX CX0 P w K mg base N qual (bL st) f cdv A outer s H E).nox (dA st) t/\t { nx:=fun _ H'=>Q .non H',rt:=Q } (start N vs) H):fh P w K mg base CX0 (k+1) f fd ps sp:=by
 obtain⟨oc,od,kV,doc,pm,an,cdv,ct,osl,rfl,lk,hcd⟩:=F.ex
 refine zK lk hcd S len fun A outer s H vs Q E hr hsp=>?_
 obtain⟨t,h,q⟩:=hbody cdv A outer s H vs Q E hr hsp
 exact⟨t,h.nox,q⟩
theorem Fun.binds{x qual:Str}{st:Stmt}{f:Addr}{fd:FuncData}{ps:List Str}(F:Fun K x qual st f fd)
 (h:∀ (kV doc pm:Value) (an:Option Addr) (cdv ct:Value) (us:List Value),us.length=ps.length->bindArgs (PySem.W.fnOf x qual (fz st) (dA st) (bL st) .none kV doc pm an cdv ct) ⟨us,[]⟩=pure (ps.zip us)):Binds K fd ps []:=by
 obtain⟨oc,od,kV,doc,pm,an,cdv,ct,osl,rfl,lk,hcd⟩:=F.ex
 exact .all (h kV doc pm an cdv ct)
theorem yQ{x qual:Str}{st:Stmt}{f:Addr}{oc:Value}{od an:Option Addr}{osl:Array (Option Value)}{kV doc pm cdv ct:Value}(l:K.lookup f=some ⟨oc,od,.func (PySem.W.fnOf x qual (fz st) (dA st) (bL st) .none kV doc pm an cdv ct),osl⟩)
 (c:PySem.W.codeIn K cdv qual=true)(k:PySem.W.keepIn K (.ref f)=true):Fun K x qual st f (PySem.W.fnOf x qual (fz st) (dA st) (bL st) .none kV doc pm an cdv ct):=⟨⟨oc,od,kV,doc,pm,an,cdv,ct,osl,rfl,l,c⟩,k⟩
end
theorem kH{n:Nat}(h:n<=1000):n<sizeLine:=Nat.lt_of_le_of_lt h (by decide)
section
variable{X:Cx}
end
theorem dP{A B:Prop}(h:B):if false=true then A else B:=by
 rw[if_neg Bool.false_ne_true]
 exact h
theorem dB{A B:Prop}(h:A):if true=true then A else B:=by
 rw[if_pos rfl]
 exact h
def ax(H H':Hp):Prop:=∀ b o,H b=some o->H' b=some o
theorem ax.refl(H:Hp):ax H H:=fun _ _ h=>h
theorem ax.trans{H H1 H2:Hp}(a:ax H H1)(b:ax H1 H2):ax H H2:=fun c o h=>b c o (a c o h)
theorem ax.free{H H':Hp}(e:ax H H'){l:Addr}(h:H' l=Option.none):H l=Option.none:=by
 cases q:H l with
 | none=>rfl
 |some o=>
  rw[e l o q]at h
  cases h
section
variable{X:Cx}
theorem rm:bu X (.builtin "len") (fun xs H Q=>∃ a kvs,xs=[V.ref a]/\H a=some (.dK kvs)/\Q (.int kvs.length) H):=by
 intro pins s σ H xs us Q I r h
 obtain⟨a,kvs,rfl,ha,q⟩:=h
 obtain⟨u,rfl,ru⟩:=vals1 r
 cases ru
 exact zG I (.inl ha) fun t s' I'=>⟨.int kvs.length,H,I',⟨t,rfl⟩,q⟩
end
section
variable{κ:Type} [DecidableEq κ]
end
end L2
namespace RS
open PySem PySem.Spec PyProof.Rows L2
noncomputable def nP:Addr->Prop:=fun _=>False
noncomputable def hJ(K:PySem.W.Frag)(H:Hp)(a:Addr)(xs:List V):Prop:=(∃ o,H a=some (.frz o (.lst xs)))\/SqL K (fun _=>none) a xs
theorem hJ.seq{K:PySem.W.Frag}{H:Hp}{a:Addr}{xs:List V}(h:hJ K H a xs):SqL K H a xs:=by
 rcases h with⟨o,h⟩ | (h | ⟨o,h⟩) | h
 ·exact .inl (.inr ⟨o,h⟩)
 ·cases h
 ·cases h
 ·exact .inr h
theorem hJ.same{K:PySem.W.Frag}{H H':Hp}{a:Addr}{xs:List V}(e:ax H H')(h:hJ K H a xs):hJ K H' a xs:=by
 rcases h with⟨o,h⟩ | h
 ·exact .inl ⟨o,e _ _ h⟩
 ·exact .inr h
mutual
noncomputable def Rep(P:Addr->Prop)(K:PySem.W.Frag)(H:Hp):RL.D->V->Prop
 | .non,v=>v=.non
 | .bl b,v=>v=.bl b
 | .int i,v=>v=.int i
 | .str x,v=>v=.str x
 | .tup ds,v=>∃ a xs,v=.ref a/\H a=some (.tup xs)/\ab P K H ds xs
 | .lst ds,v=>∃ a xs,v=.ref a/\¬ P a/\H a=some (.lst xs)/\ab P K H ds xs
 | .dK ks ds,v=>∃ a xs,v=.ref a/\¬ P a/\H a=some (.dK (ks.zip xs))/\ks.length=ds.length/\ab P K H ds xs
 | .dT ks ds,v=>∃ a xs,v=.ref a/\¬ P a/\H a=some (.dT (ks.zip xs))/\ks.length=ds.length/\ab P K H ds xs
 | .scr ds,v=>∃ a xs,v=.ref a/\hJ K H a xs/\ab P K H ds xs
noncomputable def ab(P:Addr->Prop)(K:PySem.W.Frag)(H:Hp):List RL.D->List V->Prop
 | [],xs=>xs=[]
 | d::r,xs=>∃ x t,xs=x::t/\Rep P K H d x/\ab P K H r t
end
mutual
theorem Rep.same{P:Addr->Prop}{K:PySem.W.Frag}{H H':Hp}(e:ax H H'):∀ {d:RL.D} {v:V},Rep P K H d v->Rep P K H' d v
 | .non,v,h=>by simpa[Rep]using h
 | .bl _,v,h=>by simpa[Rep]using h
 | .int _,v,h=>by simpa[Rep]using h
 | .str _,v,h=>by simpa[Rep]using h
 | .tup ds,v,h=>by
  rw[Rep]at h ⊢
  obtain⟨a,xs,e1,e2,e3⟩:=h
  exact⟨a,xs,e1,e _ _ e2,ab.same e e3⟩
 | .lst ds,v,h=>by
  rw[Rep]at h ⊢
  obtain⟨a,xs,e1,e0,e2,e3⟩:=h
  exact⟨a,xs,e1,e0,e _ _ e2,ab.same e e3⟩
 | .dK ks ds,v,h=>by
  rw[Rep]at h ⊢
  obtain⟨a,xs,e1,e0,e2,el,e3⟩:=h
  exact⟨a,xs,e1,e0,e _ _ e2,el,ab.same e e3⟩
 | .dT ks ds,v,h=>by
  rw[Rep]at h ⊢
  obtain⟨a,xs,e1,e0,e2,el,e3⟩:=h
  exact⟨a,xs,e1,e0,e _ _ e2,el,ab.same e e3⟩
 | .scr ds,v,h=>by
  rw[Rep]at h ⊢
  obtain⟨a,xs,e1,e2,e3⟩:=h
  exact⟨a,xs,e1,hJ.same e e2,ab.same e e3⟩
theorem ab.same{P:Addr->Prop}{K:PySem.W.Frag}{H H':Hp}(e:ax H H'):∀ {ds:List RL.D} {xs:List V},ab P K H ds xs->ab P K H' ds xs
 | [],xs,h=>by rw[ab]at h ⊢;exact h
 | d::r,xs,h=>by
  rw[ab]at h ⊢
  obtain⟨x,t,e1,e2,e3⟩:=h
  exact⟨x,t,e1,Rep.same e e2,ab.same e e3⟩
end
mutual
theorem Rep.weak{P P':Addr->Prop}{K:PySem.W.Frag}{H:Hp}(e:∀ a,P' a->P a):∀ {d:RL.D} {v:V},Rep P K H d v->Rep P' K H d v
 | .non,v,h=>by simpa[Rep]using h
 | .bl _,v,h=>by simpa[Rep]using h
 | .int _,v,h=>by simpa[Rep]using h
 | .str _,v,h=>by simpa[Rep]using h
 | .tup ds,v,h=>by
  rw[Rep]at h ⊢
  obtain⟨a,xs,e1,e2,e3⟩:=h
  exact⟨a,xs,e1,e2,ab.weak e e3⟩
 | .lst ds,v,h=>by
  rw[Rep]at h ⊢
  obtain⟨a,xs,e1,e0,e2,e3⟩:=h
  exact⟨a,xs,e1,fun z=>e0 (e a z),e2,ab.weak e e3⟩
 | .dK ks ds,v,h=>by
  rw[Rep]at h ⊢
  obtain⟨a,xs,e1,e0,e2,el,e3⟩:=h
  exact⟨a,xs,e1,fun z=>e0 (e a z),e2,el,ab.weak e e3⟩
 | .dT ks ds,v,h=>by
  rw[Rep]at h ⊢
  obtain⟨a,xs,e1,e0,e2,el,e3⟩:=h
  exact⟨a,xs,e1,fun z=>e0 (e a z),e2,el,ab.weak e e3⟩
 | .scr ds,v,h=>by
  rw[Rep]at h ⊢
  obtain⟨a,xs,e1,e2,e3⟩:=h
  exact⟨a,xs,e1,e2,ab.weak e e3⟩
theorem ab.weak{P P':Addr->Prop}{K:PySem.W.Frag}{H:Hp}(e:∀ a,P' a->P a):∀ {ds:List RL.D} {xs:List V},ab P K H ds xs->ab P' K H ds xs
 | [],xs,h=>by rw[ab]at h ⊢;exact h
 | d::r,xs,h=>by
  rw[ab]at h ⊢
  obtain⟨x,t,e1,e2,e3⟩:=h
  exact⟨x,t,e1,Rep.weak e e2,ab.weak e e3⟩
end
theorem Rep.none{P:Addr->Prop}{K:PySem.W.Frag}{H:Hp}{d:RL.D}{v:V}(h:Rep P K H d v):Rep nP K H d v:=h.weak fun _ z=>z.elim
mutual
theorem Rep.imm{P P':Addr->Prop}{K:PySem.W.Frag}{H:Hp}:∀ {d:RL.D} {v:V},d.imm=true->Rep P K H d v->Rep P' K H d v
 | .non,v,_,h=>by simpa[Rep]using h
 | .bl _,v,_,h=>by simpa[Rep]using h
 | .int _,v,_,h=>by simpa[Rep]using h
 | .str _,v,_,h=>by simpa[Rep]using h
 | .tup ds,v,i,h=>by
  rw[Rep]at h ⊢
  rw[RL.D.imm]at i
  obtain⟨a,xs,e1,e2,e3⟩:=h
  exact⟨a,xs,e1,e2,ab.imm i e3⟩
 | .lst ds,v,i,h=>by rw[RL.D.imm]at i;cases i
 | .dK ks ds,v,i,h=>by rw[RL.D.imm]at i;cases i
 | .dT ks ds,v,i,h=>by rw[RL.D.imm]at i;cases i
 | .scr ds,v,i,h=>by
  rw[Rep]at h ⊢
  rw[RL.D.imm]at i
  obtain⟨a,xs,e1,e2,e3⟩:=h
  exact⟨a,xs,e1,e2,ab.imm i e3⟩
theorem ab.imm{P P':Addr->Prop}{K:PySem.W.Frag}{H:Hp}:∀ {ds:List RL.D} {xs:List V},RL.au ds=true->ab P K H ds xs->ab P' K H ds xs
 | [],xs,_,h=>by rw[ab]at h ⊢;exact h
 | d::r,xs,i,h=>by
  rw[ab]at h ⊢
  rw[RL.au,Bool.and_eq_true]at i
  obtain⟨x,t,e1,e2,e3⟩:=h
  exact⟨x,t,e1,Rep.imm i.1 e2,ab.imm i.2 e3⟩
end
noncomputable def bW(o:HO):Prop:=(∃ xs,o=.lst xs)\/(∃ kvs,o=.dK kvs)\/(∃ kvs,o=.dT kvs)
mutual
theorem Rep.upd{P:Addr->Prop}{K:PySem.W.Frag}{H:Hp}{a:Addr}{o o':HO}(ha:H a=some o)(m:bW o)(p:P a):∀ {d:RL.D} {v:V},Rep P K H d v->Rep P K (upd H a o') d v
 | .non,v,h=>by simpa[Rep]using h
 | .bl _,v,h=>by simpa[Rep]using h
 | .int _,v,h=>by simpa[Rep]using h
 | .str _,v,h=>by simpa[Rep]using h
 | .tup ds,v,h=>by
  rw[Rep]at h ⊢
  obtain⟨b,xs,e1,e2,e3⟩:=h
  have n:b≠a:=qc e2 ha (by rcases m with⟨z,rfl⟩ | ⟨z,rfl⟩ | ⟨z,rfl⟩<;>(intro q;cases q))
  exact⟨b,xs,e1,by rw[L2.aH n];exact e2,ab.upd ha m p e3⟩
 | .lst ds,v,h=>by
  rw[Rep]at h ⊢
  obtain⟨b,xs,e1,e0,e2,e3⟩:=h
  have n:b≠a:=fun z=>e0 (z▸p)
  exact⟨b,xs,e1,e0,by rw[L2.aH n];exact e2,ab.upd ha m p e3⟩
 | .dK ks ds,v,h=>by
  rw[Rep]at h ⊢
  obtain⟨b,xs,e1,e0,e2,el,e3⟩:=h
  have n:b≠a:=fun z=>e0 (z▸p)
  exact⟨b,xs,e1,e0,by rw[L2.aH n];exact e2,el,ab.upd ha m p e3⟩
 | .dT ks ds,v,h=>by
  rw[Rep]at h ⊢
  obtain⟨b,xs,e1,e0,e2,el,e3⟩:=h
  have n:b≠a:=fun z=>e0 (z▸p)
  exact⟨b,xs,e1,e0,by rw[L2.aH n];exact e2,el,ab.upd ha m p e3⟩
 | .scr ds,v,h=>by
  rw[Rep]at h ⊢
  obtain⟨b,xs,e1,e2,e3⟩:=h
  refine⟨b,xs,e1,?_,ab.upd ha m p e3⟩
  rcases e2 with⟨q,e2⟩ | e2
  ·have n:b≠a:=qc e2 ha (by rcases m with⟨z,rfl⟩ | ⟨z,rfl⟩ | ⟨z,rfl⟩<;>(intro q;cases q))
   exact .inl ⟨q,by rw[L2.aH n];exact e2⟩
  ·exact .inr e2
theorem ab.upd{P:Addr->Prop}{K:PySem.W.Frag}{H:Hp}{a:Addr}{o o':HO}(ha:H a=some o)(m:bW o)(p:P a):∀ {ds:List RL.D} {xs:List V},ab P K H ds xs->ab P K (upd H a o') ds xs
 | [],xs,h=>by rw[ab]at h ⊢;exact h
 | d::r,xs,h=>by
  rw[ab]at h ⊢
  obtain⟨x,t,e1,e2,e3⟩:=h
  exact⟨x,t,e1,Rep.upd ha m p e2,ab.upd ha m p e3⟩
end
section lists
variable{P:Addr->Prop}{K:PySem.W.Frag}{H:Hp}
theorem ab.nil:ab P K H [] []:=by rw[ab]
theorem ab.cons{d:RL.D}{ds:List RL.D}{x:V}{xs:List V}(h:Rep P K H d x)(t:ab P K H ds xs):ab P K H (d::ds) (x::xs):=by rw[ab];exact⟨x,xs,rfl,h,t⟩
theorem ab.length:∀ {ds:List RL.D} {xs:List V},ab P K H ds xs->ds.length=xs.length
 | [],xs,h=>by rw[ab]at h;rw[h];rfl
 | d::r,xs,h=>by
  rw[ab]at h
  obtain⟨x,t,rfl,_,e3⟩:=h
  rw[List.length_cons,List.length_cons,ab.length e3]
theorem ab.append:∀ {ds es:List RL.D} {xs ys:List V},ab P K H ds xs->ab P K H es ys->ab P K H (ds++es) (xs++ys)
 | [],_,xs,_,h,k=>by rw[ab]at h;rw[h];exact k
 | d::r,_,xs,_,h,k=>by
  rw[ab]at h
  obtain⟨x,t,rfl,e2,e3⟩:=h
  exact ab.cons e2 (ab.append e3 k)
theorem ab.get:∀ {ds:List RL.D} {xs:List V} {i:Nat} {d:RL.D},ab P K H ds xs->ds[i]?=some d->∃ x,xs[i]?=some x/\Rep P K H d x
 | [],_,i,d,_,e=>by simp at e
 | d::r,xs,0,d',h,e=>by
  rw[ab]at h
  obtain⟨x,t,rfl,e2,_⟩:=h
  simp at e;subst e
  exact⟨x,rfl,e2⟩
 | d::r,xs,i+1,d',h,e=>by
  rw[ab]at h
  obtain⟨x,t,rfl,_,e3⟩:=h
  obtain⟨y,h1,h2⟩:=ab.get (i:=i) e3 (by simpa using e)
  exact⟨y,by simpa using h1,h2⟩
theorem ab.set:∀ {ds:List RL.D} {xs:List V} (i:Nat) {d:RL.D} {x:V},ab P K H ds xs->Rep P K H d x->ab P K H (ds.set i d) (xs.set i x)
 | [],xs,_,_,_,h,_=>by rw[ab]at h;rw[h];exact ab.nil
 | d::r,xs,0,_,_,h,k=>by
  rw[ab]at h
  obtain⟨x,t,rfl,_,e3⟩:=h
  exact ab.cons k e3
 | d::r,xs,i+1,_,_,h,k=>by
  rw[ab]at h
  obtain⟨x,t,rfl,e2,e3⟩:=h
  exact ab.cons e2 (ab.set i e3 k)
theorem ab.take:∀ {ds:List RL.D} {xs:List V} (n:Nat),ab P K H ds xs->ab P K H (ds.take n) (xs.take n)
 | _,_,0,_=>by simpa using ab.nil
 | [],xs,n+1,h=>by rw[ab]at h;rw[h];simpa using ab.nil
 | d::r,xs,n+1,h=>by
  rw[ab]at h
  obtain⟨x,t,rfl,e2,e3⟩:=h
  exact ab.cons e2 (ab.take n e3)
theorem ab.rep{ds:List RL.D}{xs:List V}(h:ab P K H ds xs):∀ n:Nat,ab P K H (List.replicate n ds).flatten (List.replicate n xs).flatten
 | 0=>ab.nil
 | n+1=>by
  rw[List.replicate_succ,List.replicate_succ,List.flatten_cons,List.flatten_cons]
  exact ab.append h (ab.rep h n)
end lists
noncomputable def RV0(K:PySem.W.Frag)(σD:RL.St)(σ:L2.St)(H:Hp):Prop:=σD.length<=σ.length/\∀ (i:Nat) (d:RL.D),σD[i]?=some (some d)->∃ v,σ[i]?=some (some v)/\Rep nP K H d v
theorem RV0.same{K:PySem.W.Frag}{σD:RL.St}{σ:L2.St}{H H':Hp}(h:RV0 K σD σ H)(e:ax H H'):RV0 K σD σ H':=⟨h.1,fun i d q=>by
 obtain⟨v,h1,h2⟩:=h.2 i d q
 exact⟨v,h1,h2.same e⟩⟩
noncomputable def iS:RL.D->Bool
 | .lst _=>true
 | .dK _ _=>true
 | .dT _ _=>true
 | _=>false
structure Res(K:PySem.W.Frag)(σD:RL.St)(σ:L2.St)(H:Hp)(e:RL.E)(d:RL.D)(v:V)(H':Hp):Prop where
 same:ax H H'
 rep:Rep nP K H' d v
 fresh:RL.az e=true->iS d=true->∀ a,v=.ref a->H a=none
 av:∀ M,RL.avE M e=true->∀ P:Addr->Prop,(∀ a,P a->H a≠none)->(∀ (j:Nat) (dj:RL.D) (vj:V),M.contains j=false->σD[j]?=some (some dj)->σ[j]?=some (some vj)->Rep P K H dj vj)->Rep P K H' d v
noncomputable def tE(K:PySem.W.Frag)(cl:RL.Cl)(e:RL.E):TE:=fun σ H Q=>∃ σD d,RV0 K σD σ H/\RL.ev cl σD e=some d/\∀ v H',Res K σD σ H e d v H'->Q v H'
noncomputable def SE(X:Cx)(cl:RL.Cl)(e:Expr)(e':RL.E):Prop:=PE X e (tE X.K cl e')
theorem PE.weak{X:Cx}{e:Expr}{t t':TE}(h:PE X e t)(w:∀ σ H Q,t' σ H Q->t σ H Q):PE X e t':=fun pins s σ H Q I q=>h pins s σ H Q I (w σ H Q q)
noncomputable def tEs(K:PySem.W.Frag)(cl:RL.Cl)(es:RL.Es):TA:=fun σ H Q=>∃ σD ds,RV0 K σD σ H/\RL.evs cl σD es=some ds/\∀ vs H',ax H H'->ab nP K H' ds vs->Q vs H'
noncomputable def SEs(X:Cx)(cl:RL.Cl)(es:List Expr)(es':RL.Es):Prop:=PA X es (tEs X.K cl es')
section rules
variable{X:Cx}{cl:RL.Cl}{a b c:Expr}{a' b' c':RL.E}{pos:Pos}
theorem two{σD:RL.St}{σ:L2.St}{H:Hp}{x y:RL.D}{R:V->V->Hp->Prop}(rv:RV0 X.K σD σ H)(ea:RL.ev cl σD a'=some x)(eb:RL.ev cl σD b'=some y)
 (k:∀ v u H1 H2,ax H H1->ax H1 H2->Rep nP X.K H2 x v->Rep nP X.K H2 y u->Res X.K σD σ H a' x v H1->Res X.K σD σ H1 b' y u H2->R v u H2) :
  tE X.K cl a' σ H fun v H1=>tE X.K cl b' σ H1 fun u H2=>R v u H2 :=
 ⟨σD,x,rv,ea,fun v H1 r1=>⟨σD,y,rv.same r1.same,eb,fun u H2 r2=>k v u H1 H2 r1.same r2.same (r1.rep.same r2.same) r2.rep r1 r2⟩⟩
theorem bind_some{α β:Type}{o:Option α}{f:α->Option β}{y:β}(h:o.bind f=some y):∃ x,o=some x/\f x=some y:=by
 cases o with
 | none=>cases h
 | some x=>exact⟨x,rfl,h⟩
theorem map_some{α β:Type}{o:Option α}{f:α->β}{y:β}(h:o.map f=some y):∃ x,o=some x/\f x=y:=by
 cases o with
 | none=>cases h
 | some x=>exact⟨x,rfl,Option.some.inj h⟩
theorem bH:RL.most<=sizeLine:=by decide
theorem ax.bI{H:Hp}{p:Addr}{o:HO}(hn:H p=none):ax H (upd H p o):=fun b u e=>by rw[aH (aG e hn)];exact e
theorem xj{i:Nat}{x:Str}(hN:X.N[i]?=some x)(hv:Vis X.env.scope x)(hd:(x == ("__debug__" : Str))=false)(hcd:(x == ("__classdict__" : Str))=false):SE X cl (.Name x pos) (.var i):=by
 refine PE.weak (fG hN hv hd hcd) fun σ H Q h=>?_
 obtain⟨σD,d,rv,e,k⟩:=h
 have e':σD[i]?=some (some d):=by
  rw[RL.ev]at e
  obtain⟨o,h1,h2⟩:=bind_some e
  cases o with
  | none=>cases h2
  | some z=>cases h2;exact h1
 obtain⟨v,h1,h2⟩:=rv.2 i d e'
 refine⟨v,h1,k v H ⟨ax.refl H,h2,fun z=>(by cases z),fun M z P hP av=>?_⟩⟩
 rw[RL.avE]at z
 exact av i d v (by simpa using z) e' h1
theorem jf{j:Nat}{k:Const}{d:RL.D}{v:V}(h:PE X (.Constant k j pos) (tC v))(r:∀ P H,Rep P X.K H d v)(hm:iS d=false):SE X cl (.Constant k j pos) (.cst d):=by
 refine PE.weak h fun σ H Q q=>?_
 obtain⟨σD,d',rv,e,k⟩:=q
 rw[RL.ev]at e
 cases e
 exact k v H ⟨ax.refl H,r _ _,fun z=>(by cases z),fun M z=>nomatch (show false=true from z)⟩
theorem wX{x:Str}{i:Int}{u:Value}(h:PE X (.Name x pos) (tC (.int i))):SE X cl (.Name x pos) (.glb x i):=by
 refine PE.weak h fun σ H Q q=>?_
 obtain⟨σD,d',rv,e,k⟩:=q
 rw[RL.ev]at e
 cases e
 exact k _ H ⟨ax.refl H,(by rw[Rep]),fun z=>(by cases z),fun M z=>nomatch (show false=true from z)⟩
end rules
section rules
variable{X:Cx}{cl:RL.Cl}{a b c:Expr}{a' b' c':RL.E}{pos:Pos}
theorem cR{σD:RL.St}{σ:L2.St}{H H':Hp}{e:RL.E}{d:RL.D}{v:V}(sm:ax H H')(r:Rep nP X.K H' d v)(im:d.imm=true):Res X.K σD σ H e d v H' where
 same:=sm
 rep:=r
 fresh:=fun _ m=>by
  cases d with
  | lst _=>cases im
  | dK _ _=>cases im
  | dT _ _=>cases im
  | _=>cases m
 av:=fun M _ P _ _=>r.imm im
theorem uc:OpR X (binaryOp .FloorDiv) (rI (fun _ j=>0<j/\j<2 ^ 200) fun i j=>.int (i / j)):=opI fun i j _ _ _ _ _ hc q=>by
 refine floordiv_int (by lia) ?_ (.inl (PyProof.noPylong_of_log2 ?_))
 ·rw[Int.fdiv_eq_ediv_of_nonneg _ (by lia)]
  exact q
 ·have h0:j.natAbs≠0:=by lia
  have h1:j.natAbs<2 ^ 200:=by
   have:=hc.2
   omega
  have h2:j.natAbs.log2<200:=(Nat.log2_lt h0).mpr h1
  lia
theorem d5{σD:RL.St}{σ:L2.St}{H H1:Hp}{e:RL.E}{ds:List RL.D}{xs:List V}{p:Addr}(sm:ax H H1)(hn:H1 p=none)(r:ab nP X.K H1 ds xs)(hav:∀ M,RL.avE M e=false):Res X.K σD σ H e (.lst ds) (.ref p) (upd H1 p (.lst xs)) where
 same:=sm.trans (ax.bI hn)
 rep:=by
  rw[Rep]
  exact⟨p,xs,rfl,fun z=>z,bb,r.same (ax.bI hn)⟩
 fresh:=fun _ _ a z=>by
  cases z
  exact sm.free hn
 av:=fun M z=>by rw[hav M]at z;cases z
theorem eS{σD:RL.St}{σ:L2.St}{H H1:Hp}{e:RL.E}{ds:List RL.D}{xs:List V}{p:Addr}(sm:ax H H1)(hn:H1 p=none)(r:ab nP X.K H1 ds xs)(hav:∀ M,RL.avE M e=false):Res X.K σD σ H e (.tup ds) (.ref p) (upd H1 p (.tup xs)) where
 same:=sm.trans (ax.bI hn)
 rep:=by
  rw[Rep]
  exact⟨p,xs,rfl,bb,r.same (ax.bI hn)⟩
 fresh:=fun _ m=>by cases m
 av:=fun M z=>by rw[hav M]at z;cases z
noncomputable def m6:RL.Bop->Operator
 | .add=>.Add
 | .sub=>.Sub
 | .mul=>.Mult
 | .fdiv=>.FloorDiv
 | .mod=>.Mod
 | .pow=>.Pow
theorem aN{P:Addr->Prop}{K:PySem.W.Frag}{H:Hp}{i:Int}:Rep P K H (.int i) (.int i):=by rw[Rep]
theorem lG{P:Addr->Prop}{K:PySem.W.Frag}{H:Hp}{i:Bool}:Rep P K H (.bl i) (.bl i):=by rw[Rep]
theorem fq{P:Addr->Prop}{K:PySem.W.Frag}{H:Hp}{i:Str}:Rep P K H (.str i) (.str i):=by rw[Rep]
theorem af{P:Addr->Prop}{K:PySem.W.Frag}{H:Hp}{i:Int}{v:V}(h:Rep P K H (.int i) v):v=.int i:=by rw[Rep]at h;exact h
theorem aK{P:Addr->Prop}{K:PySem.W.Frag}{H:Hp}{i:Bool}{v:V}(h:Rep P K H (.bl i) v):v=.bl i:=by rw[Rep]at h;exact h
theorem aE{P:Addr->Prop}{K:PySem.W.Frag}{H:Hp}{i:Str}{v:V}(h:Rep P K H (.str i) v):v=.str i:=by rw[Rep]at h;exact h
noncomputable def j8(X:Cx)(o:RL.Bop)(r:R2):Prop :=
 ∀ (σD:RL.St) (σ:L2.St) (H H2:Hp) (e:RL.E) (x y d:RL.D) (v u:V) (Q:VK),ax H H2->Rep nP X.K H2 x v->Rep nP X.K H2 y u->RL.a8 o x y=some d->(∀ M,RL.avE M e=false) ->
  (∀ w H',Res X.K σD σ H e d w H'->Q w H')->r v u H2 Q
theorem eu{o:RL.Bop}{r:R2}(ho:OpR X (binaryOp (m6 o)) r)(ok:j8 X o r)(ha:SE X cl a a')(hb:SE X cl b b'):SE X cl (.BinOp a (m6 o) b pos) (.bin o a' b'):=by
 refine PE.weak (Ap ho ha hb) fun σ H Q h=>?_
 obtain⟨σD,d,rv,e,k⟩:=h
 rw[RL.ev]at e
 obtain⟨x,ea,e⟩:=bind_some e
 obtain⟨y,eb,e⟩:=bind_some e
 refine two rv ea eb fun v u H1 H2 s1 s2 rx ry _ _=>?_
 exact ok σD σ H H2 _ x y d v u Q (s1.trans s2) rx ry e (fun _=>rfl) k
end rules
section rules
variable{X:Cx}{cl:RL.Cl}{a b c:Expr}{a' b' c':RL.E}{pos:Pos}
theorem bZ{α:Type}{c:Prop} [Decidable c]{a d:α}(h:(if c then some a else none)=some d):c/\d=a:=by
 by_cases hc:c
 ·rw[if_pos hc]at h
  exact⟨hc,(Option.some.inj h).symm⟩
 ·rw[if_neg hc]at h
  cases h
theorem noN{α:Type}{o:Option α}{d:α}{p:Prop}(e:o=none)(h:o=some d):p:=by rw[e]at h;cases h
theorem se{x y d:RL.D}(h:RL.a8 .add x y=some d):(∃ i j,x=.int i/\y=.int j/\d=.int (i+j))\/(∃ i j:Str,x=.str i/\y=.str j/\i.length+j.length<=RL.most/\d=.str (i++j)) \/
  (∃ i j,x=.lst i/\y=.lst j/\i.length+j.length<=RL.most/\d=.lst (i++j)) \/
  (∃ i j,x=.tup i/\y=.tup j/\(i.length+j.length<=RL.most/\0<i.length)/\d=.tup (i++j)):=by
 cases x with
 | int i=>cases y with
  | int j=>cases h;exact .inl ⟨i,j,rfl,rfl,rfl⟩
  | _=>exact noN rfl h
 | str i=>cases y with
  |str j=>
   obtain⟨hc,e⟩:=bZ h
   exact .inr (.inl ⟨i,j,rfl,rfl,hc,e⟩)
  | _=>exact noN rfl h
 | lst i=>cases y with
  |lst j=>
   obtain⟨hc,e⟩:=bZ h
   exact .inr (.inr (.inl ⟨i,j,rfl,rfl,hc,e⟩))
  | _=>exact noN rfl h
 | tup i=>cases y with
  |tup j=>
   obtain⟨hc,e⟩:=bZ h
   exact .inr (.inr (.inr ⟨i,j,rfl,rfl,hc,e⟩))
  | _=>exact noN rfl h
 | _=>exact noN rfl h
theorem tZ{x y d:RL.D}(h:RL.a8 .mul x y=some d):(∃ i j,x=.int i/\y=.int j/\pd i j/\d=.int (i*j)) \/
  (∃ i j,x=.lst i/\y=.int j/\(0<=j/\j<=RL.most/\i.length*j.toNat<=RL.most)/\d=.lst (List.replicate j.toNat i).flatten):=by
 cases x with
 | int i=>cases y with
  |int j=>
   obtain⟨hc,e⟩:=bZ h
   exact .inl ⟨i,j,rfl,rfl,hc,e⟩
  | _=>exact noN rfl h
 | lst i=>cases y with
  |int j=>
   obtain⟨hc,e⟩:=bZ h
   exact .inr ⟨i,j,rfl,rfl,hc,e⟩
  | _=>exact noN rfl h
 | _=>exact noN rfl h
theorem eV{o:RL.Bop}{x y d:RL.D}(h:RL.a8 o x y=some d)(ho:o≠.add)(hm:o≠.mul):∃ i j,x=.int i/\y=.int j/\RL.a8 o (.int i) (.int j)=some d:=by
 have no:∀ {a b:RL.D},RL.a8 .sub a b=none->RL.a8 .fdiv a b=none->RL.a8 .mod a b=none->RL.a8 .pow a b=none->RL.a8 o a b=some d->False:=fun e1 e2 e3 e4 h=>by
  cases o with
  | add=>exact ho rfl
  | mul=>exact hm rfl
  | sub=>rw[e1]at h;cases h
  | fdiv=>rw[e2]at h;cases h
  | mod=>rw[e3]at h;cases h
  | pow=>rw[e4]at h;cases h
 cases x with
 | int i=>cases y with
  | int j=>exact⟨i,j,rfl,rfl,h⟩
  | _=>exact(no rfl rfl rfl rfl h).elim
 | _=>exact(no rfl rfl rfl rfl h).elim
theorem sQ{x y d:RL.D}(h:RL.a8 .sub x y=some d):∃ i j,x=.int i/\y=.int j/\d=.int (i-j):=by
 obtain⟨i,j,e1,e2,h⟩:=eV h (by decide) (by decide)
 cases h
 exact⟨i,j,e1,e2,rfl⟩
theorem qX{x y d:RL.D}(h:RL.a8 .fdiv x y=some d):∃ i j,x=.int i/\y=.int j/\(0<j/\j<2 ^ 200)/\d=.int (i / j):=by
 obtain⟨i,j,e1,e2,h⟩:=eV h (by decide) (by decide)
 obtain⟨hc,e⟩:=bZ h
 exact⟨i,j,e1,e2,hc,e⟩
theorem tm{x y d:RL.D}(h:RL.a8 .mod x y=some d):∃ i j,x=.int i/\y=.int j/\0<j/\d=.int (i%j):=by
 obtain⟨i,j,e1,e2,h⟩:=eV h (by decide) (by decide)
 obtain⟨hc,e⟩:=bZ h
 exact⟨i,j,e1,e2,hc,e⟩
theorem sT{x y d:RL.D}(h:RL.a8 .pow x y=some d):∃ i j,x=.int i/\y=.int j/\(0<=j/\j<=1000/\i.natAbs<2 ^ 64)/\d=.int (i ^ j.toNat):=by
 obtain⟨i,j,e1,e2,h⟩:=eV h (by decide) (by decide)
 obtain⟨hc,e⟩:=bZ h
 exact⟨i,j,e1,e2,hc,e⟩
theorem a6{P:Addr->Prop}{K:PySem.W.Frag}{H:Hp}{ds:List RL.D}{v:V}(h:Rep P K H (.lst ds) v):∃ a xs,v=.ref a/\¬ P a/\H a=some (.lst xs)/\ab P K H ds xs:=by rw[Rep]at h;exact h
theorem aR{P:Addr->Prop}{K:PySem.W.Frag}{H:Hp}{ds:List RL.D}{v:V}(h:Rep P K H (.tup ds) v):∃ a xs,v=.ref a/\H a=some (.tup xs)/\ab P K H ds xs:=by rw[Rep]at h;exact h
theorem yh:j8 X .sub (rI0 fun i j=>.int (i-j)):=by
 intro σD σ H H2 e x y d v u Q sm rx ry h hav k
 obtain⟨i,j,rfl,rfl,rfl⟩:=sQ h
 exact⟨i,j,af rx,af ry,k _ _ (cR sm aN rfl)⟩
theorem ve:j8 X .fdiv (rI (fun _ j=>0<j/\j<2 ^ 200) fun i j=>.int (i / j)):=by
 intro σD σ H H2 e x y d v u Q sm rx ry h hav k
 obtain⟨i,j,rfl,rfl,hc,rfl⟩:=qX h
 exact⟨i,j,af rx,af ry,hc,k _ _ (cR sm aN rfl)⟩
theorem wM:j8 X .mod (rI (fun _ j=>0<j) fun i j=>.int (i%j)):=by
 intro σD σ H H2 e x y d v u Q sm rx ry h hav k
 obtain⟨i,j,rfl,rfl,hc,rfl⟩:=tm h
 exact⟨i,j,af rx,af ry,hc,k _ _ (cR sm aN rfl)⟩
theorem wB:j8 X .pow (rI wF fun i j=>.int (i ^ j.toNat)):=by
 intro σD σ H H2 e x y d v u Q sm rx ry h hav k
 obtain⟨i,j,rfl,rfl,hc,rfl⟩:=sT h
 exact⟨i,j,af rx,af ry,⟨hc.1,Int.le_trans hc.2.1 (by decide),hc.2.2⟩,k _ _ (cR sm aN rfl)⟩
theorem ym(ha:SE X cl a a')(hb:SE X cl b b'):SE X cl (.BinOp a .Add b pos) (.bin .add a' b'):=by
 refine eu (o:=.add) (xH.or (pR.or (yV.or v9))) ?_ ha hb
 intro σD σ H H2 e x y d v u Q sm rx ry h hav k
 rcases se h with⟨i,j,rfl,rfl,rfl⟩ | ⟨i,j,rfl,rfl,hc,rfl⟩ | ⟨i,j,rfl,rfl,hc,rfl⟩ | ⟨i,j,rfl,rfl,⟨hc,ha⟩,rfl⟩
 ·exact .inl ⟨i,j,af rx,af ry,k _ _ (cR sm aN rfl)⟩
 ·exact .inr (.inl ⟨i,j,aE rx,aE ry,Nat.le_trans hc bH,k _ _ (cR sm fq rfl)⟩)
 ·obtain⟨p,xs,e1,_,e2,e3⟩:=a6 rx
  obtain⟨q,ys,f1,_,f2,f3⟩:=a6 ry
  refine .inr (.inr (.inl ⟨p,q,xs,ys,e1,f1,e2,f2,?_,fun l hl=>k _ _ (d5 sm hl (e3.append f3) hav)⟩))
  rw[<-e3.length,<-f3.length]
  exact Nat.le_trans hc bH
 ·obtain⟨p,xs,e1,e2,e3⟩:=aR rx
  obtain⟨q,ys,f1,f2,f3⟩:=aR ry
  refine .inr (.inr (.inr ⟨p,q,xs,ys,e1,f1,SqT.of e2,SqT.of f2,fun z=>?_,?_,fun z=>?_,fun _ l hl=>k _ _ (eS sm hl (e3.append f3) hav)⟩))
  ·rw[e3.length,z]at ha
   exact absurd ha (by decide)
  ·rw[<-e3.length,<-f3.length]
   exact Nat.le_trans hc bH
  ·have hj:j=[]:=by
    have:=f3.length
    rw[z]at this
    exact List.length_eq_zero_iff.mp this
   subst hj
   rw[List.append_nil]at k
   exact k _ _ ⟨sm,e1▸rx,fun _ m=>(by cases m),fun M z=>by rw[hav M]at z;cases z⟩
theorem x3(ha:SE X cl a a')(hb:SE X cl b b'):SE X cl (.BinOp a .Mult b pos) (.bin .mul a' b'):=by
 refine eu (o:=.mul) (xI.or yS) ?_ ha hb
 intro σD σ H H2 e x y d v u Q sm rx ry h hav k
 rcases tZ h with⟨i,j,rfl,rfl,hc,rfl⟩ | ⟨i,j,rfl,rfl,hc,rfl⟩
 ·exact .inl ⟨i,j,af rx,af ry,hc,k _ _ (cR sm aN rfl)⟩
 ·obtain⟨p,xs,e1,_,e2,e3⟩:=a6 rx
  refine .inr ⟨p,j,xs,e1,af ry,e2,?_,?_,?_,fun l hl=>k _ _ (d5 sm hl (e3.rep _) hav)⟩
  ·exact Int.le_trans (by decide) hc.1
  ·exact Int.lt_of_le_of_lt hc.2.1 (by decide)
  ·rw[<-e3.length]
   exact Nat.le_trans hc.2.2 bH
theorem wC{o:RL.Bop}(ha:SE X cl a a')(hb:SE X cl b b'):SE X cl (.BinOp a (m6 o) b pos) (.bin o a' b'):=by
 cases o with
 | add=>exact ym ha hb
 | mul=>exact x3 ha hb
 | sub=>exact eu (o:=.sub) xO yh ha hb
 | fdiv=>exact eu (o:=.fdiv) uc ve ha hb
 | mod=>exact eu (o:=.mod) yL wM ha hb
 | pow=>exact eu (o:=.pow) yO wB ha hb
theorem d6{σD:RL.St}{σ:L2.St}{H H':Hp}{e:RL.E}{k:Bool}(sm:ax H H'):Res X.K σD σ H e (.bl k) (.bl k) H':=cR sm lG rfl
theorem yN{rest:List Expr}(ha:SE X cl a a')(hb:SE X cl (.BoolOp .And (b::rest) pos) b'):SE X cl (.BoolOp .And (a::b::rest) pos) (.and a' b'):=by
 refine PE.weak (zm ha hb) fun σ H Q h=>?_
 obtain⟨σD,d,rv,e,k⟩:=h
 rw[RL.ev]at e
 obtain⟨x,ea,e⟩:=bind_some e
 refine⟨σD,x,rv,ea,fun v H1 r1=>?_⟩
 cases x with
 |bl t=>
  refine⟨t,aK r1.rep,?_⟩
  cases t with
  |true=>
   refine dB ?_
   refine⟨σD,d,rv.same r1.same,e,fun w H2 r2=>k w H2 ?_⟩
   exact⟨r1.same.trans r2.same,r2.rep,fun z=>(by cases z),fun M z=>nomatch (show false=true from z)⟩
  |false=>
   refine dP ?_
   cases e
   exact k _ _ (d6 r1.same)
 | _=>cases e
theorem Am{rest:List Expr}(ha:SE X cl a a')(hb:SE X cl (.BoolOp .Or (b::rest) pos) b'):SE X cl (.BoolOp .Or (a::b::rest) pos) (.or a' b'):=by
 refine PE.weak (zY ha hb) fun σ H Q h=>?_
 obtain⟨σD,d,rv,e,k⟩:=h
 rw[RL.ev]at e
 obtain⟨x,ea,e⟩:=bind_some e
 refine⟨σD,x,rv,ea,fun v H1 r1=>?_⟩
 cases x with
 |bl t=>
  refine⟨t,aK r1.rep,?_⟩
  cases t with
  |false=>
   refine dP ?_
   refine⟨σD,d,rv.same r1.same,e,fun w H2 r2=>k w H2 ?_⟩
   exact⟨r1.same.trans r2.same,r2.rep,fun z=>(by cases z),fun M z=>nomatch (show false=true from z)⟩
  |true=>
   refine dB ?_
   cases e
   exact k _ _ (d6 r1.same)
 | _=>cases e
theorem rV{op}(ha:SE X cl a a'):SE X cl (.BoolOp op [a] pos) a':=zd ha
noncomputable def tT(K:PySem.W.Frag)(cl:RL.Cl)(e:RL.E):TT:=fun σ H Q=>∃ σD k,RV0 K σD σ H/\(RL.ev cl σD e).bind RL.truth=some k/\∀ H',ax H H'->Q k H'
noncomputable def ST(X:Cx)(cl:RL.Cl)(e:Expr)(e':RL.E):Prop:=PT X e (tT X.K cl e')
noncomputable def SW(X:Cx)(cl:RL.Cl)(e:Expr)(e':RL.E):Prop:=PW X e (tT X.K cl e')
theorem PT.weak{e:Expr}{t t':TT}(h:PT X e t)(w:∀ σ H Q,t' σ H Q->t σ H Q):PT X e t':=fun pins s σ H Q I q=>h pins s σ H Q I (w σ H Q q)
theorem PW.weak{e:Expr}{t t':TT}(h:PW X e t)(w:∀ σ H Q,t' σ H Q->t σ H Q):PW X e t':=fun wh pins s σ H Q I q=>h wh pins s σ H Q I (w σ H Q q)
theorem ab.isEmpty{P:Addr->Prop}{K:PySem.W.Frag}{H:Hp}{ds:List RL.D}{xs:List V}(h:ab P K H ds xs):ds.isEmpty=xs.isEmpty:=by
 cases ds with
 | nil=>rw[ab]at h;rw[h];rfl
 |cons d r=>
  rw[ab]at h
  obtain⟨x,t,rfl,_⟩:=h
  rfl
theorem yB{K:PySem.W.Frag}{H:Hp}{d:RL.D}{v:V}{k:Bool}(r:Rep nP K H d v)(h:RL.truth d=some k):pQ K v H k:=by
 cases d<;>simp only[RL.truth]at h<;>first | (cases h;done) | skip
 case bl t=>cases h;rw[aK r];exact rfl
 case int t =>
  cases h
  rw[af r]
  simp[pQ]
 case tup ds =>
  obtain⟨a,xs,rfl,e,rs⟩:=aR r
  cases h
  exact .inr (.inl ⟨xs,SqT.of e,by rw[rs.isEmpty]⟩)
 case lst ds =>
  obtain⟨a,xs,rfl,_,e,rs⟩:=a6 r
  cases h
  exact .inl ⟨xs,SqL.of e,by rw[rs.isEmpty]⟩
theorem sO(ha:SE X cl a a')(he:∀ whole,isTrue a X.env whole=(do let v <- whole;standAt a.pos;holding [v] (truthy v))):ST X cl a a':=by
 refine PT.weak (sh ha he) fun σ H Q h=>?_
 obtain⟨σD,k,rv,e,q⟩:=h
 obtain⟨d,e1,e2⟩:=bind_some e
 exact⟨σD,d,rv,e1,fun v H1 r1=>⟨k,yB r1.rep e2,q H1 r1.same⟩⟩
theorem qz{op:BoolOp}(ha:ST X cl a a'):SW X cl (.BoolOp op [a] pos) a':=by
 cases op with
 | And=>exact vI ha
 | Or=>exact yA ha
theorem qR{σD:RL.St}{k:Bool}(h:(RL.ev cl σD (.and a' b')).bind RL.truth=some k):∃ t,(RL.ev cl σD a').bind RL.truth=some t/\(if t=true then(RL.ev cl σD b').bind RL.truth=some k else k=false):=by
 rw[RL.ev]at h
 cases ea:RL.ev cl σD a' with
 | none=>rw[ea]at h;cases h
 |some x=>
  rw[ea]at h
  cases x with
  |bl t=>
   cases t with
   | true=>exact⟨true,rfl,dB h⟩
   | false=>exact⟨false,rfl,dP (by cases h;rfl)⟩
  | _=>exact noN rfl h
theorem t9{σD:RL.St}{k:Bool}(h:(RL.ev cl σD (.or a' b')).bind RL.truth=some k):∃ t,(RL.ev cl σD a').bind RL.truth=some t/\(if t=true then k=true else(RL.ev cl σD b').bind RL.truth=some k):=by
 rw[RL.ev]at h
 cases ea:RL.ev cl σD a' with
 | none=>rw[ea]at h;cases h
 |some x=>
  rw[ea]at h
  cases x with
  |bl t=>
   cases t with
   | true=>exact⟨true,rfl,dB (by cases h;rfl)⟩
   | false=>exact⟨false,rfl,dP h⟩
  | _=>exact noN rfl h
theorem x4{rest:List Expr}(ha:ST X cl a a')(hb:SW X cl (.BoolOp .And (b::rest) pos) b'):SW X cl (.BoolOp .And (a::b::rest) pos) (.and a' b'):=by
 refine PW.weak (xC ha hb) fun σ H Q h=>?_
 obtain⟨σD,k,rv,e,q⟩:=h
 obtain⟨t,e1,e2⟩:=qR e
 refine⟨σD,t,rv,e1,fun H1 s1=>?_⟩
 cases t with
 | true=>exact dB ⟨σD,k,rv.same s1,e2,fun H2 s2=>q H2 (s1.trans s2)⟩
 |false=>
  have e2:k=false:=e2
  subst e2
  exact dP (q H1 s1)
theorem zV{rest:List Expr}(ha:ST X cl a a')(hb:SW X cl (.BoolOp .Or (b::rest) pos) b'):SW X cl (.BoolOp .Or (a::b::rest) pos) (.or a' b'):=by
 refine PW.weak (Aq ha hb) fun σ H Q h=>?_
 obtain⟨σD,k,rv,e,q⟩:=h
 obtain⟨t,e1,e2⟩:=t9 e
 refine⟨σD,t,rv,e1,fun H1 s1=>?_⟩
 cases t with
 |true=>
  have e2:k=true:=e2
  subst e2
  exact dB (q H1 s1)
 | false=>exact dP ⟨σD,k,rv.same s1,e2,fun H2 s2=>q H2 (s1.trans s2)⟩
theorem xr(ha:ST X cl a a'):ST X cl (.UnaryOp .Not a pos) (.not a'):=by
 refine PT.weak (xY ha) fun σ H Q h=>?_
 obtain⟨σD,k,rv,e,q⟩:=h
 rw[RL.ev]at e
 obtain⟨d,e1,e2⟩:=bind_some e
 obtain⟨t,e3,e4⟩:=map_some e1
 subst e4
 cases e2
 exact⟨σD,t,rv,e3,fun H1 s1=>q H1 s1⟩
theorem x9(hc:ST X cl c c')(ha:SE X cl a a')(hb:SE X cl b b'):SE X cl (.IfExp c a b pos) (.ifx c' a' b'):=by
 refine PE.weak (tq hc ha hb) fun σ H Q h=>?_
 obtain⟨σD,d,rv,e,q⟩:=h
 rw[RL.ev]at e
 obtain⟨t,e1,e2⟩:=bind_some e
 refine⟨σD,t,rv,e1,fun H1 s1=>?_⟩
 have fin:∀ (a':RL.E) (v:V) (H2:Hp),(∀ M,RL.avE M (.ifx c' a' b')=true->RL.avE M a'=true)->True:=fun _ _ _ _=>trivial
 cases t with
 |true=>
  refine dB ⟨σD,d,rv.same s1,e2,fun v H2 r2=>q v H2 ⟨s1.trans r2.same,r2.rep,fun z=>(by cases z),fun M z P hP av=>?_⟩⟩
  have z:(RL.avE M a'&&RL.avE M b')=true:=z
  rw[Bool.and_eq_true]at z
  exact r2.av M z.1 P (fun a p=>(Option.ne_none_iff_exists'.mpr (by obtain⟨o,ho⟩:=Option.ne_none_iff_exists'.mp (hP a p);exact⟨o,s1 _ _ ho⟩))) fun j dj vj h1 h2 h3=>(av j dj vj h1 h2 h3).same s1
 |false=>
  refine dP ⟨σD,d,rv.same s1,e2,fun v H2 r2=>q v H2 ⟨s1.trans r2.same,r2.rep,fun z=>(by cases z),fun M z P hP av=>?_⟩⟩
  have z:(RL.avE M a'&&RL.avE M b')=true:=z
  rw[Bool.and_eq_true]at z
  exact r2.av M z.2 P (fun a p=>(Option.ne_none_iff_exists'.mpr (by obtain⟨o,ho⟩:=Option.ne_none_iff_exists'.mp (hP a p);exact⟨o,s1 _ _ ho⟩))) fun j dj vj h1 h2 h3=>(av j dj vj h1 h2 h3).same s1
end rules
section rules
variable{X:Cx}{cl:RL.Cl}{a b c:Expr}{a' b' c':RL.E}{pos:Pos}
theorem zx(ha:SE X cl a a'):SE X cl (.UnaryOp .Not a pos) (.not a'):=by
 intro pins s σ H Q I h
 obtain⟨σD,d,rv,e,k⟩:=h
 rw[RL.ev]at e
 obtain⟨t,e1,e2⟩:=map_some e
 obtain⟨x,e3,e4⟩:=bind_some e1
 subst e2
 refine UnaryOp_ (thn (ha pins s σ H (fun v H1=>ax H H1/\Rep nP X.K H1 x v) I ⟨σD,x,rv,e3,fun v H1 r1=>⟨r1.same,r1.rep⟩⟩) fun v s1 ⟨y,H1,I1,r1,sm,rp⟩=>?_)
 refine not_of (thn (qC pins s1 σ H1 y v (fun k H2=>k=t/\H2=H1) I1 r1 ⟨t,yB rp e4,rfl,rfl⟩) fun k2 s2 ⟨H2,I2,q1,q2⟩=>?_)
 subst q1
 subst q2
 exact⟨.bl (!k2),H2,I2,rfl,k _ _ (d6 sm)⟩
noncomputable def noStar:Expr->Bool
 | .Starred _ _=>false
 | _=>true
theorem ay{e:Expr}(es:List Expr)(h:noStar e=true):starEach (e::es) X.env=(false,eval e X.env)::starEach es X.env:=by
 cases e<;>first | rfl | (cases h)
theorem cP:∀ {es:List Expr} {pos:Pos},es.all noStar=true->(backTo pos (starEach es X.env)).any (·.1)=false
 | [],_,_=>rfl
 | e::es,pos,h=>by
  rw[List.all_cons,Bool.and_eq_true]at h
  rw[ay es h.1]
  show(false || (backTo pos (starEach es X.env)).any (·.1))=false
  rw[cP h.2]
  rfl
theorem cv:SEs X cl [] .nil:=by
 intro pos pins s σ H Q I h
 obtain⟨σD,ds,rv,e,k⟩:=h
 rw[RL.evs]at e
 cases e
 exact cU pos pins s σ H Q I (k [] H (ax.refl H) ab.nil)
theorem bo{e:Expr}{es:List Expr}{e':RL.E}{es':RL.Es}(he:SE X cl e e')(hr:SEs X cl es es')(hn:noStar e=true):SEs X cl (e::es) (.cons e' es'):=by
 intro pos pins s σ H Q I h
 refine bJ he hr (ay es hn) pos pins s σ H Q I ?_
 obtain⟨σD,ds,rv,e,k⟩:=h
 rw[RL.evs]at e
 obtain⟨d,e1,e2⟩:=bind_some e
 obtain⟨r,e3,e4⟩:=map_some e2
 subst e4
 refine⟨σD,d,rv,e1,fun v H1 r1=>⟨σD,r,rv.same r1.same,e3,fun vs H2 s2 r2=>k (v::vs) H2 (r1.same.trans s2) (ab.cons (r1.rep.same s2) r2)⟩⟩
noncomputable def de:RL.Es->Nat
 | .nil=>0
 | .cons _ r=>de r+1
theorem je{σD:RL.St}:∀ {es:RL.Es} {ds:List RL.D},RL.evs cl σD es=some ds->ds.length=de es
 | .nil,ds,h=>by rw[RL.evs]at h;cases h;rfl
 | .cons e r,ds,h=>by
  rw[RL.evs]at h
  obtain⟨d,e1,e2⟩:=bind_some h
  obtain⟨t,e3,e4⟩:=map_some e2
  subst e4
  rw[List.length_cons,je e3,de]
theorem yr{es:List Expr}{es':RL.Es}{x1}(h:SEs X cl es es')(hl:de es'<=1000):SE X cl (.Tuple es x1 pos) (.tup es'):=by
 refine PE.weak (wQ h) fun σ H Q q=>?_
 obtain⟨σD,d,rv,e,k⟩:=q
 rw[RL.ev]at e
 obtain⟨ds,e1,e2⟩:=map_some e
 subst e2
 refine⟨σD,ds,rv,e1,fun vs H1 s1 r1=>⟨?_,fun p hp=>k _ _ (eS s1 hp r1 fun _=>rfl)⟩⟩
 rw[<-r1.length,je e1]
 exact Nat.le_of_lt (kH hl)
theorem zA{es:List Expr}{es':RL.Es}(h:SEs X cl es es')(hl:de es'<=1000):SE X cl (.List es pos) (.lst es'):=by
 refine PE.weak (wU h) fun σ H Q q=>?_
 obtain⟨σD,d,rv,e,k⟩:=q
 rw[RL.ev]at e
 obtain⟨ds,e1,e2⟩:=map_some e
 subst e2
 refine⟨σD,ds,rv,e1,fun vs H1 s1 r1=>⟨?_,fun p hp=>k _ _ (d5 s1 hp r1 fun _=>rfl)⟩⟩
 rw[<-r1.length,je e1]
 exact Nat.le_of_lt (kH hl)
theorem ky{α:Type}{xs:List α}{i:Int}{x:α}(h:RL.bR xs i=some x):atI xs i=some x:=by
 unfold RL.bR at h
 unfold atI ixN
 by_cases h0:0<=i
 ·rw[if_pos h0]at h
  rw[if_pos h0]
  obtain⟨h1,_⟩:=List.getElem?_eq_some_iff.mp h
  rw[if_pos (by lia)]
  exact h
 ·rw[if_neg h0]at h
  rw[if_neg h0]
  by_cases h1:-(xs.length:Int)<=i
  ·rw[if_pos h1]at h
   rw[if_pos h1]
   exact h
  ·rw[if_neg h1]at h
   cases h
theorem eX{P:Addr->Prop}{K:PySem.W.Frag}{H:Hp}{ds:List RL.D}{xs:List V}{i:Int}{d:RL.D}(r:ab P K H ds xs)(h:RL.bR ds i=some d):∃ x,RL.bR xs i=some x/\Rep P K H d x:=by
 unfold RL.bR at h ⊢
 rw[<-r.length]
 by_cases h0:0<=i
 ·rw[if_pos h0]at h ⊢
  exact r.get h
 ·rw[if_neg h0]at h ⊢
  by_cases h1:-(ds.length:Int)<=i
  ·rw[if_pos h1]at h ⊢
   exact r.get h
  ·rw[if_neg h1]at h
   cases h
noncomputable def mF:Expr->Bool
 | .Slice _ _ _ _=>false
 | _=>true
theorem vR{b:Expr}(h:mF b=true):oh b:=by
 intro o i
 cases b<;>first | rfl | (cases h)
theorem qJ{x y d:RL.D}(h:RL.ixV x y=some d):(∃ xs i,x=.lst xs/\y=.int i/\RL.bR xs i=some d)\/(∃ xs i,x=.tup xs/\y=.int i/\RL.bR xs i=some d) \/
  (∃ (z:Str) (i:Int) (c:Nat),x=.str z/\y=.int i/\z.length<=RL.most/\RL.bR z.cps.toList i=some c/\d=.str ⟨#[c]⟩):=by
 have no:∀ {o:Option RL.D},o=none->o=some d->False:=fun e h=>by rw[e]at h;cases h
 cases x with
 | lst xs=>cases y with
  | int i=>exact .inl ⟨xs,i,rfl,rfl,h⟩
  | _=>exact(no rfl h).elim
 | tup xs=>cases y with
  | int i=>exact .inr (.inl ⟨xs,i,rfl,rfl,h⟩)
  | _=>exact(no rfl h).elim
 | str z=>cases y with
  |int i=>
   by_cases hc:z.length<=RL.most
   ·obtain⟨c,e1,e2⟩:=map_some (show(RL.bR z.cps.toList i).map (fun c=>RL.D.str ⟨#[c]⟩)=some d from(if_pos hc).symm.trans h)
    exact .inr (.inr ⟨z,i,c,rfl,rfl,hc,e1,e2.symm⟩)
   ·exact(no (if_neg hc) h).elim
  | _=>exact(no rfl h).elim
 | _=>exact(no rfl h).elim
theorem Ai(ha:SE X cl a a')(hb:SE X cl b b')(hs:mF b=true):SE X cl (.Subscript a b pos) (.ix a' b'):=by
 refine PE.weak (Ab yb ha hb (vR hs)) fun σ H Q h=>?_
 obtain⟨σD,d,rv,e,k⟩:=h
 rw[RL.ev]at e
 obtain⟨x,ea,e⟩:=bind_some e
 obtain⟨y,eb,e⟩:=bind_some e
 refine two rv ea eb fun v u H1 H2 s1 s2 rx ry ra rb=>?_
 have fin:∀ (w:V),Rep nP X.K H2 d w->(∀ P:Addr->Prop,Rep P X.K H2 x v->Rep P X.K H2 d w)->Res X.K σD σ H (.ix a' b') d w H2:=fun w h1 h2=>{
  same:=s1.trans s2
  rep:=h1
  fresh:=fun z=>by cases z
  av:=fun M z P hP av=>h2 P ((ra.av M z P hP av).same s2) }
 rcases qJ e with⟨xs,i,rfl,rfl,hd⟩ | ⟨xs,i,rfl,rfl,hd⟩ | ⟨z,i,c,rfl,rfl,hz,hd,rfl⟩
 ·obtain⟨p,ys,rfl,_,e2,e3⟩:=a6 rx
  obtain⟨w,h1,h2⟩:=eX e3 hd
  refine .inl ⟨p,ys,i,w,rfl,af ry,SqL.of e2,ky h1,k _ _ (fin w h2 fun P rp=>?_)⟩
  obtain⟨p',ys',q1,_,q2,q3⟩:=a6 rp
  cases q1
  rw[e2]at q2
  cases q2
  obtain⟨w',h3,h4⟩:=eX q3 hd
  rw[h1]at h3
  cases h3
  exact h4
 ·obtain⟨p,ys,rfl,e2,e3⟩:=aR rx
  obtain⟨w,h1,h2⟩:=eX e3 hd
  refine .inr (.inl ⟨p,ys,i,w,rfl,af ry,SqT.of e2,ky h1,k _ _ (fin w h2 fun P rp=>?_)⟩)
  obtain⟨p',ys',q1,q2,q3⟩:=aR rp
  cases q1
  rw[e2]at q2
  cases q2
  obtain⟨w',h3,h4⟩:=eX q3 hd
  rw[h1]at h3
  cases h3
  exact h4
 ·exact .inr (.inr ⟨z,i,c,aE rx,af ry,Nat.le_trans hz bH,ky hd,k _ _ (fin _ fq fun P _=>fq)⟩)
end rules
section rules
variable{X:Cx}{cl:RL.Cl}{a b c:Expr}{a' b' c':RL.E}{pos:Pos}
theorem er{f:RL.D->RL.D->Option Bool}:∀ {as bs:List RL.D} {k:Bool},RL.eqs f as bs=some k ->
  ∃ e:Nat->Bool,k=(List.range (min as.length bs.length)).all e/\∀ j x y,as[j]?=some x->bs[j]?=some y->f x y=some (e j)
 | [],bs,k,h=>by
  have h:some true=some k:=by simpa[RL.eqs]using h
  cases h
  exact⟨fun _=>true,by simp,fun j x y h1=>by simp at h1⟩
 | a::r,[],k,h=>by
  have h:some true=some k:=by simpa[RL.eqs]using h
  cases h
  exact⟨fun _=>true,by simp,fun j x y h1 h2=>by simp at h2⟩
 | a::r,b::s,k,h=>by
  rw[RL.eqs]at h
  obtain⟨e0,h1,h2⟩:=bind_some h
  obtain⟨k',h3,h4⟩:=map_some h2
  obtain⟨e,h5,h6⟩:=er h3
  refine⟨fun j=>match j with | 0=>e0 | j+1=>e j,?_,fun j x y hx hy=>?_⟩
  ·rw[<-h4,h5,List.length_cons,List.length_cons,Nat.succ_min_succ,List.range_succ_eq_map,List.all_cons,List.all_map]
   rfl
  ·cases j with
   |zero=>
    simp at hx hy
    subst hx hy
    exact h1
   | succ j=>exact h6 j x y (by simpa using hx) (by simpa using hy)
theorem dH{n:Nat}{x y:RL.D}{k:Bool}(h:RL.eqD n x y=some k):(∃ i j,x=.bl i/\y=.bl j/\(i == j)=k)\/(∃ i j,x=.int i/\y=.int j/\(i == j)=k)\/(∃ i j,x=.str i/\y=.str j/\(i == j)=k) \/
  (∃ m i j,n=m+1/\x=.tup i/\y=.tup j/\Option.map (fun k=>k&&i.length == j.length) (RL.eqs (RL.eqD m) i j)=some k)\/(∃ m i j,n=m+1/\x=.lst i/\y=.lst j/\Option.map (fun k=>k&&i.length == j.length) (RL.eqs (RL.eqD m) i j)=some k):=by
 cases n with
 | zero=>cases x with
  | bl i=>cases y with
   | bl j=>exact .inl ⟨i,j,rfl,rfl,Option.some.inj h⟩
   | _=>exact noN rfl h
  | int i=>cases y with
   | int j=>exact .inr (.inl ⟨i,j,rfl,rfl,Option.some.inj h⟩)
   | _=>exact noN rfl h
  | str i=>cases y with
   | str j=>exact .inr (.inr (.inl ⟨i,j,rfl,rfl,Option.some.inj h⟩))
   | _=>exact noN rfl h
  | _=>exact noN rfl h
 | succ m=>cases x with
  | bl i=>cases y with
   | bl j=>exact .inl ⟨i,j,rfl,rfl,Option.some.inj h⟩
   | _=>exact noN rfl h
  | int i=>cases y with
   | int j=>exact .inr (.inl ⟨i,j,rfl,rfl,Option.some.inj h⟩)
   | _=>exact noN rfl h
  | str i=>cases y with
   | str j=>exact .inr (.inr (.inl ⟨i,j,rfl,rfl,Option.some.inj h⟩))
   | _=>exact noN rfl h
  | tup i=>cases y with
   | tup j=>exact .inr (.inr (.inr (.inl ⟨m,i,j,rfl,rfl,rfl,h⟩)))
   | _=>exact noN rfl h
  | lst i=>cases y with
   | lst j=>exact .inr (.inr (.inr (.inr ⟨m,i,j,rfl,rfl,rfl,h⟩)))
   | _=>exact noN rfl h
  | _=>exact noN rfl h
theorem kR{K:PySem.W.Frag}{H:Hp}:∀ (n:Nat) (x y:RL.D) (v:V) (k:Bool),Rep nP K H x v->Rep nP K H y v->RL.eqD n x y=some k->k=true:=by
 intro n
 induction n with
 |zero=>
  intro x y v k rx ry h
  rcases dH h with⟨i,j,rfl,rfl,rfl⟩ | ⟨i,j,rfl,rfl,rfl⟩ | ⟨i,j,rfl,rfl,rfl⟩ | ⟨m,i,j,hn,hx,hy,h⟩ | ⟨m,i,j,hn,hx,hy,h⟩
  ·have:=aK rx;rw[aK ry]at this;cases this;simp
  ·have:=af rx;rw[af ry]at this;cases this;simp
  ·have:=aE rx;rw[aE ry]at this;cases this;simp
  ·cases hn
  ·cases hn
 |succ n ih=>
  intro x y v k rx ry h
  have seq:∀ (i j:List RL.D) (xs:List V) (k:Bool),ab nP K H i xs->ab nP K H j xs->Option.map (fun k=>k&&i.length == j.length) (RL.eqs (RL.eqD n) i j)=some k->k=true:=by
   intro i j xs k e3 f3 h
   obtain⟨k',h1,h2⟩:=map_some h
   obtain⟨e,h3,h4⟩:=er h1
   have hl:i.length=j.length:=e3.length.trans f3.length.symm
   have hk:k'=true:=by
    rw[h3,List.all_eq_true]
    intro m hm
    rw[List.mem_range]at hm
    obtain⟨w,w1,w2⟩:=e3.get (i:=m) (d:=i[m]'(by lia)) (by simp)
    obtain⟨w',w1',w2'⟩:=f3.get (i:=m) (d:=j[m]'(by lia)) (by simp)
    rw[w1]at w1'
    cases w1'
    exact ih _ _ w (e m) w2 w2' (h4 m _ _ (by simp) (by simp))
   rw[<-h2,hk,hl]
   simp
  rcases dH h with⟨i,j,rfl,rfl,rfl⟩ | ⟨i,j,rfl,rfl,rfl⟩ | ⟨i,j,rfl,rfl,rfl⟩ | ⟨m,i,j,hn,hx,hy,h⟩ | ⟨m,i,j,hn,hx,hy,h⟩
  ·have:=aK rx;rw[aK ry]at this;cases this;simp
  ·have:=af rx;rw[af ry]at this;cases this;simp
  ·have:=aE rx;rw[aE ry]at this;cases this;simp
  ·cases hn;subst hx;subst hy
   obtain⟨p,xs,rfl,e2,e3⟩:=aR rx
   obtain⟨q,ys,q1,f2,f3⟩:=aR ry
   cases q1
   rw[e2]at f2
   cases f2
   exact seq i j xs k e3 f3 h
  ·cases hn;subst hx;subst hy
   obtain⟨p,xs,rfl,_,e2,e3⟩:=a6 rx
   obtain⟨q,ys,q1,_,f2,f3⟩:=a6 ry
   cases q1
   rw[e2]at f2
   cases f2
   exact seq i j xs k e3 f3 h
open SeqAt in
theorem deep{pins:List (Addr × Obj)}{σ:L2.St}{H:Hp}{s:Shared}(I:Inv X pins σ H s):∀ (n:Nat) (A:Around) (x y:RL.D) (v u:V) (va ua:Value) (k:Bool),A.units+n<cLine->Rep nP X.K H x v->Rep nP X.K H y u->RelV v va->RelV u ua ->
  RL.eqD n x y=some k->RcAt A s va ua k/\EqAt A s va ua k:=by
 intro n
 induction n with
 |zero=>
  intro A x y v u va ua k hu rx ry qx qy h
  rcases dH h with⟨i,j,rfl,rfl,rfl⟩ | ⟨i,j,rfl,rfl,rfl⟩ | ⟨i,j,rfl,rfl,rfl⟩ | ⟨m,i,j,hn,hx,hy,h⟩ | ⟨m,i,j,hn,hx,hy,h⟩
  ·rw[aK rx]at qx;rw[aK ry]at qy;cases qx;cases qy;exact⟨RcAt.bool_bool i j,EqAt.bool_bool i j⟩
  ·rw[af rx]at qx;rw[af ry]at qy;obtain⟨t,rfl⟩:=qx;obtain⟨t',rfl⟩:=qy;exact⟨RcAt.int_int i t j t',EqAt.int_int i t j t'⟩
  ·rw[aE rx]at qx;rw[aE ry]at qy;obtain⟨t,rfl⟩:=qx;obtain⟨t',rfl⟩:=qy;exact⟨RcAt.str_str i t j t',EqAt.str_str i t j t'⟩
  ·cases hn
  ·cases hn
 |succ n ih=>
  intro A x y v u va ua k hu rx ry qx qy h
  rcases dH h with⟨i,j,rfl,rfl,rfl⟩ | ⟨i,j,rfl,rfl,rfl⟩ | ⟨i,j,rfl,rfl,rfl⟩ | ⟨m,i,j,hn,hx,hy,h⟩ | ⟨m,i,j,hn,hx,hy,h⟩
  ·rw[aK rx]at qx;rw[aK ry]at qy;cases qx;cases qy;exact⟨RcAt.bool_bool i j,EqAt.bool_bool i j⟩
  ·rw[af rx]at qx;rw[af ry]at qy;obtain⟨t,rfl⟩:=qx;obtain⟨t',rfl⟩:=qy;exact⟨RcAt.int_int i t j t',EqAt.int_int i t j t'⟩
  ·rw[aE rx]at qx;rw[aE ry]at qy;obtain⟨t,rfl⟩:=qx;obtain⟨t',rfl⟩:=qy;exact⟨RcAt.str_str i t j t',EqAt.str_str i t j t'⟩
  ·cases hn;subst hx;subst hy
   obtain⟨p,xs,rfl,e2,e3⟩:=aR rx
   obtain⟨q,ys,rfl,f2,f3⟩:=aR ry
   cases qx;cases qy
   obtain⟨its,r1,t1,z1⟩:=I.tuple (SqT.of e2)
   obtain⟨jts,r2,t2,z2⟩:=I.tuple (SqT.of f2)
   obtain⟨k',h1,h2⟩:=map_some h
   obtain⟨e,h3,h4⟩:=er h1
   have l1:i.length=its.length:=e3.length.trans r1.length
   have l2:j.length=jts.length:=f3.length.trans r2.length
   have he:∀ m (g1:m<its.toArray.size) (g2:m<jts.toArray.size),EqAt A.in1 s its.toArray[m] jts.toArray[m] (e m):=fun m g1 g2=>by
    rw[List.size_toArray]at g1 g2
    obtain⟨w,w1,w2⟩:=e3.get (i:=m) (d:=i[m]'(by lia)) (by simp)
    obtain⟨w',w1',w2'⟩:=f3.get (i:=m) (d:=j[m]'(by lia)) (by simp)
    obtain⟨uu,b1,b2⟩:=r1.get w1
    obtain⟨uu',b1',b2'⟩:=r2.get w1'
    have c1:its.toArray[m]=uu:=by simpa using(List.getElem?_eq_some_iff.mp b1).2
    have c2:jts.toArray[m]=uu':=by simpa using(List.getElem?_eq_some_iff.mp b1').2
    rw[c1,c2]
    exact(ih A.in1 _ _ w w' uu uu' (e m) (by show A.units+1+n<cLine;lia) w2 w2' b2 b2' (h4 m _ _ (by simp) (by simp))).2
   have main:RcAt A s (.ref p) (.ref q) k:=by
    have z:=RcAt.tuples (e:=e) t1 t2 (by lia) he
    rw[List.size_toArray,List.size_toArray,<-l1,<-l2,<-h3,h2]at z
    exact z
   refine⟨main,?_⟩
   by_cases z:p=q
   ·subst z
    rw[kR (n+1) _ _ _ k rx ry h]
    exact EqAt.same _
   ·exact EqAt.of_refs z main
  ·cases hn;subst hx;subst hy
   obtain⟨p,xs,rfl,_,e2,e3⟩:=a6 rx
   obtain⟨q,ys,rfl,_,f2,f3⟩:=a6 ry
   cases qx;cases qy
   obtain⟨its,r1,t1,z1⟩:=I.list (SqL.of e2)
   obtain⟨jts,r2,t2,z2⟩:=I.list (SqL.of f2)
   obtain⟨k',h1,h2⟩:=map_some h
   obtain⟨e,h3,h4⟩:=er h1
   have l1:i.length=its.length:=e3.length.trans r1.length
   have l2:j.length=jts.length:=f3.length.trans r2.length
   have he:∀ m (g1:m<its.toArray.size) (g2:m<jts.toArray.size),EqAt A.in1 s its.toArray[m] jts.toArray[m] (e m):=fun m g1 g2=>by
    rw[List.size_toArray]at g1 g2
    obtain⟨w,w1,w2⟩:=e3.get (i:=m) (d:=i[m]'(by lia)) (by simp)
    obtain⟨w',w1',w2'⟩:=f3.get (i:=m) (d:=j[m]'(by lia)) (by simp)
    obtain⟨uu,b1,b2⟩:=r1.get w1
    obtain⟨uu',b1',b2'⟩:=r2.get w1'
    have c1:its.toArray[m]=uu:=by simpa using(List.getElem?_eq_some_iff.mp b1).2
    have c2:jts.toArray[m]=uu':=by simpa using(List.getElem?_eq_some_iff.mp b1').2
    rw[c1,c2]
    exact(ih A.in1 _ _ w w' uu uu' (e m) (by show A.units+1+n<cLine;lia) w2 w2' b2 b2' (h4 m _ _ (by simp) (by simp))).2
   have main:RcAt A s (.ref p) (.ref q) k:=by
    by_cases hl:its.length=jts.length
    ·have z:=RcAt.lists (e:=e) t1.isList t2.isList (by rw[List.size_toArray,List.size_toArray];exact hl) (by lia) he
     rw[List.size_toArray]at z
     have hk:k=(List.range its.length).all e:=by
      rw[<-h2,h3,l1,l2,hl]
      simp
     rw[hk]
     exact z
    ·have hk:k=false:=by
      rw[<-h2,l1,l2]
      simp[hl]
     rw[hk]
     exact RcAt.lists_lengths t1.isList t2.isList (by rw[List.size_toArray,List.size_toArray];simpa using hl) (by lia)
   refine⟨main,?_⟩
   by_cases z:p=q
   ·subst z
    rw[kR (n+1) _ _ _ k rx ry h]
    exact EqAt.same _
   ·exact EqAt.of_refs z main
end rules
section rules
variable{X:Cx}{cl:RL.Cl}{a b c:Expr}{a' b' c':RL.E}{pos:Pos}
open SeqAt in
theorem xR{pins:List (Addr × Obj)}{σ:L2.St}{H:Hp}{s:Shared}(I:Inv X pins σ H s)(n:Nat)(A:Around)(x y:RL.D)(v u:V)(va ua:Value)(k:Bool)(hu:A.units+n<cLine)(rx:Rep nP X.K H x v)(ry:Rep nP X.K H y u)(qx:RelV v va)(qy:RelV u ua)
 (h:RL.eqD n x y=some k):RcNeAt A s va ua (!k):=by
 rcases dH h with⟨i,j,rfl,rfl,rfl⟩ | ⟨i,j,rfl,rfl,rfl⟩ | ⟨i,j,rfl,rfl,rfl⟩ | ⟨nn,i,j,hn,hx,hy,h⟩ | ⟨nn,i,j,hn,hx,hy,h⟩
 ·rw[aK rx]at qx;rw[aK ry]at qy;cases qx;cases qy;exact RcNeAt.bool_bool i j
 ·rw[af rx]at qx;rw[af ry]at qy;obtain⟨t,rfl⟩:=qx;obtain⟨t',rfl⟩:=qy;exact RcNeAt.int_int i t j t'
 ·rw[aE rx]at qx;rw[aE ry]at qy;obtain⟨t,rfl⟩:=qx;obtain⟨t',rfl⟩:=qy;exact RcNeAt.str_str i t j t'
 ·subst hn;subst hx;subst hy
  obtain⟨p,xs,rfl,e2,e3⟩:=aR rx
  obtain⟨q,ys,rfl,f2,f3⟩:=aR ry
  cases qx;cases qy
  obtain⟨its,r1,t1,z1⟩:=I.tuple (SqT.of e2)
  obtain⟨jts,r2,t2,z2⟩:=I.tuple (SqT.of f2)
  obtain⟨k',h1,h2⟩:=map_some h
  obtain⟨e,h3,h4⟩:=er h1
  have l1:i.length=its.length:=e3.length.trans r1.length
  have l2:j.length=jts.length:=f3.length.trans r2.length
  have he:∀ m (g1:m<its.toArray.size) (g2:m<jts.toArray.size),EqAt A.in1 s its.toArray[m] jts.toArray[m] (e m):=fun m g1 g2=>by
   rw[List.size_toArray]at g1 g2
   obtain⟨w,w1,w2⟩:=e3.get (i:=m) (d:=i[m]'(by lia)) (by simp)
   obtain⟨w',w1',w2'⟩:=f3.get (i:=m) (d:=j[m]'(by lia)) (by simp)
   obtain⟨uu,b1,b2⟩:=r1.get w1
   obtain⟨uu',b1',b2'⟩:=r2.get w1'
   have c1:its.toArray[m]=uu:=by simpa using(List.getElem?_eq_some_iff.mp b1).2
   have c2:jts.toArray[m]=uu':=by simpa using(List.getElem?_eq_some_iff.mp b1').2
   rw[c1,c2]
   exact(deep I nn A.in1 _ _ w w' uu uu' (e m) (by show A.units+1+nn<cLine;lia) w2 w2' b2 b2' (h4 m _ _ (by simp) (by simp))).2
  have z:=RcNeAt.tuples (e:=e) t1 t2 (by lia) he
  rw[List.size_toArray,List.size_toArray,<-l1,<-l2,<-h3,h2]at z
  exact z
 ·subst hn;subst hx;subst hy
  obtain⟨p,xs,rfl,_,e2,e3⟩:=a6 rx
  obtain⟨q,ys,rfl,_,f2,f3⟩:=a6 ry
  cases qx;cases qy
  obtain⟨its,r1,t1,z1⟩:=I.list (SqL.of e2)
  obtain⟨jts,r2,t2,z2⟩:=I.list (SqL.of f2)
  obtain⟨k',h1,h2⟩:=map_some h
  obtain⟨e,h3,h4⟩:=er h1
  have l1:i.length=its.length:=e3.length.trans r1.length
  have l2:j.length=jts.length:=f3.length.trans r2.length
  have he:∀ m (g1:m<its.toArray.size) (g2:m<jts.toArray.size),EqAt A.in1 s its.toArray[m] jts.toArray[m] (e m):=fun m g1 g2=>by
   rw[List.size_toArray]at g1 g2
   obtain⟨w,w1,w2⟩:=e3.get (i:=m) (d:=i[m]'(by lia)) (by simp)
   obtain⟨w',w1',w2'⟩:=f3.get (i:=m) (d:=j[m]'(by lia)) (by simp)
   obtain⟨uu,b1,b2⟩:=r1.get w1
   obtain⟨uu',b1',b2'⟩:=r2.get w1'
   have c1:its.toArray[m]=uu:=by simpa using(List.getElem?_eq_some_iff.mp b1).2
   have c2:jts.toArray[m]=uu':=by simpa using(List.getElem?_eq_some_iff.mp b1').2
   rw[c1,c2]
   exact(deep I nn A.in1 _ _ w w' uu uu' (e m) (by show A.units+1+nn<cLine;lia) w2 w2' b2 b2' (h4 m _ _ (by simp) (by simp))).2
  by_cases hl:its.length=jts.length
  ·have z:=RcNeAt.lists (e:=e) t1.isList t2.isList (by rw[List.size_toArray,List.size_toArray];exact hl) (by lia) he
   rw[List.size_toArray]at z
   have hk:k=(List.range its.length).all e:=by
    rw[<-h2,h3,l1,l2,hl]
    simp
   rw[hk]
   exact z
  ·have hk:k=false:=by
    rw[<-h2,l1,l2]
    simp[hl]
   rw[hk]
   exact RcNeAt.lists_lengths t1.isList t2.isList (by rw[List.size_toArray,List.size_toArray];simpa using hl) (by lia)
noncomputable def cw:RL.Cop->CmpOp
 | .lt=>.Lt
 | .le=>.LtE
 | .gt=>.Gt
 | .ge=>.GtE
 | .eq=>.Eq
 | .ne=>.NotEq
noncomputable def qa(K:PySem.W.Frag)(c:RL.Cop):R2:=fun v u H Q=>∃ x y k,Rep nP K H x v/\Rep nP K H y u/\RL.aT c x y=some k/\Q (.bl k) H
theorem fR{c:RL.Cop}(hc:c≠.eq)(hc2:c≠.ne){x y:RL.D}{k:Bool}(h:RL.aT c x y=some k):∃ i j,x=.int i/\y=.int j:=by
 have no:∀ {a b:RL.D},RL.aT .lt a b=none->RL.aT .le a b=none->RL.aT .gt a b=none->RL.aT .ge a b=none->RL.aT c a b=some k->False:=fun e1 e2 e3 e4 h=>by
  cases c with
  | eq=>exact hc rfl
  | ne=>exact hc2 rfl
  | lt=>rw[e1]at h;cases h
  | le=>rw[e2]at h;cases h
  | gt=>rw[e3]at h;cases h
  | ge=>rw[e4]at h;cases h
 cases x with
 | int i=>cases y with
  | int j=>exact⟨_,_,rfl,rfl⟩
  | _=>exact(no rfl rfl rfl rfl h).elim
 | _=>exact(no rfl rfl rfl rfl h).elim
theorem fH{c:RL.Cop}(hu:X.A.units+100<cLine):OpR X (compareOp (cw c)) (qa X.K c):=by
 intro pins s σ H x y v u Q I rx ry h
 obtain⟨dx,dy,k,ex,ey,e,q⟩:=h
 have fin:EP X pins σ Q (.bool k) s:=⟨.bl k,H,I,rfl,q⟩
 cases c with
 |eq=>
  have e:RL.eqD 8 dx dy=some k:=e
  exact(deep I 8 X.A dx dy x y v u k (by lia) ex ey rx ry e).1 X.prog X.w X.xe _ fin
 |ne=>
  obtain⟨k',e1,e2⟩:=map_some (show(RL.eqD 8 dx dy).map not=some k from e)
  subst e2
  exact xR I 8 X.A dx dy x y v u k' (by lia) ex ey rx ry e1 X.prog X.w X.xe _ fin
 |lt=>
  obtain⟨i,j,rfl,rfl⟩:=fR (by decide) (by decide) e
  cases e
  rw[af ex]at rx;rw[af ey]at ry
  obtain⟨t,rfl⟩:=rx;obtain⟨t',rfl⟩:=ry
  exact lt_int fin
 |le=>
  obtain⟨i,j,rfl,rfl⟩:=fR (by decide) (by decide) e
  cases e
  rw[af ex]at rx;rw[af ey]at ry
  obtain⟨t,rfl⟩:=rx;obtain⟨t',rfl⟩:=ry
  exact le_int fin
 |gt=>
  obtain⟨i,j,rfl,rfl⟩:=fR (by decide) (by decide) e
  cases e
  rw[af ex]at rx;rw[af ey]at ry
  obtain⟨t,rfl⟩:=rx;obtain⟨t',rfl⟩:=ry
  exact gt_int fin
 |ge=>
  obtain⟨i,j,rfl,rfl⟩:=fR (by decide) (by decide) e
  cases e
  rw[af ex]at rx;rw[af ey]at ry
  obtain⟨t,rfl⟩:=rx;obtain⟨t',rfl⟩:=ry
  exact ge_int fin
theorem gj{c:RL.Cop}(b:Expr):behindInMarks (cw c) b=false:=by cases c<;>exact m7 b
theorem qU{c:RL.Cop}{σ:L2.St}{H:Hp}{Q:VK}(h:∃ σD d,RV0 X.K σD σ H/\RL.ev cl σD (.cmp c a' b')=some d/\∀ H',ax H H'->∃ k,d=.bl k/\Q (.bl k) H'):tOp (qa X.K c) (tE X.K cl a') (tE X.K cl b') σ H Q:=by
 obtain⟨σD,d,rv,e,k⟩:=h
 rw[RL.ev]at e
 obtain⟨x,ea,e⟩:=bind_some e
 obtain⟨y,eb,e⟩:=bind_some e
 obtain⟨t,e1,e2⟩:=map_some e
 refine two rv ea eb fun v u H1 H2 s1 s2 rx ry _ _=>?_
 obtain⟨k',h1,h2⟩:=k H2 (s1.trans s2)
 rw[h1]at e2
 cases e2
 exact⟨x,y,t,rx,ry,e1,h2⟩
theorem kT{c:RL.Cop}{σD:RL.St}{d:RL.D}(e:RL.ev cl σD (.cmp c a' b')=some d):∃ k,d=.bl k:=by
 rw[RL.ev]at e
 obtain⟨x,ea,e⟩:=bind_some e
 obtain⟨y,eb,e⟩:=bind_some e
 obtain⟨t,e1,e2⟩:=map_some e
 exact⟨t,e2.symm⟩
theorem yK{c:RL.Cop}(hu:X.A.units+100<cLine)(ha:SE X cl a a')(hb:SE X cl b b'):SE X cl (.Compare a [cw c] [b] pos) (.cmp c a' b'):=by
 refine PE.weak (nU (fH hu) ha hb (gj b)) fun σ H Q h=>?_
 obtain⟨σD,d,rv,e,k⟩:=h
 obtain⟨t,rfl⟩:=kT e
 exact qU ⟨σD,_,rv,e,fun H' sm=>⟨t,rfl,k _ _ (d6 sm)⟩⟩
theorem zh{c:RL.Cop}(hu:X.A.units+100<cLine)(ha:SE X cl a a')(hb:SE X cl b b'):ST X cl (.Compare a [cw c] [b] pos) (.cmp c a' b'):=by
 refine PT.weak (jZ (fH hu) ha hb (gj b)) fun σ H Q h=>?_
 obtain⟨σD,k,rv,e,q⟩:=h
 obtain⟨d,e1,e2⟩:=bind_some e
 obtain⟨t,rfl⟩:=kT e1
 cases e2
 exact qU ⟨σD,_,rv,e1,fun H' sm=>⟨k,rfl,k,rfl,q H' sm⟩⟩
theorem u9{c c':RL.Cop}(b e:Expr):lastMarks [cw c,cw c'] [b,e]=false:=by
 show behindInMarks (cw c') e=false
 exact gj e
variable{e:Expr}{e':RL.E}
theorem iC{c c':RL.Cop}{σD:RL.St}{d:RL.D}(h:RL.ev cl σD (.chain c c' a' b' e')=some d):∃ k,d=.bl k:=by
 rw[RL.ev]at h
 obtain⟨x,ea,h⟩:=bind_some h
 obtain⟨y,eb,h⟩:=bind_some h
 obtain⟨t,e1,h⟩:=bind_some h
 cases t with
 |true=>
  obtain⟨z,ec,h⟩:=bind_some (show(RL.ev cl σD e').bind _=some d from h)
  obtain⟨t,e1,e2⟩:=map_some h
  exact⟨t,e2.symm⟩
 | false=>exact⟨false,(Option.some.inj (show some (RL.D.bl false)=some d from h)).symm⟩
theorem mW{c c':RL.Cop}{σ:L2.St}{H:Hp}{Q:VK}(h:∃ σD k,RV0 X.K σD σ H/\RL.ev cl σD (.chain c c' a' b' e')=some (.bl k)/\∀ H',ax H H'->Q (.bl k) H') :
  mI (qa X.K c) (qa X.K c') (tE X.K cl a') (tE X.K cl b') (tE X.K cl e') σ H Q:=by
 obtain⟨σD,k,rv,h,q⟩:=h
 rw[RL.ev]at h
 obtain⟨x,ea,h⟩:=bind_some h
 obtain⟨y,eb,h⟩:=bind_some h
 obtain⟨t,e1,h⟩:=bind_some h
 refine two rv ea eb fun v u H1 H2 s1 s2 rx ry _ _=>?_
 refine⟨x,y,t,rx,ry,e1,t,rfl,?_⟩
 have sm:=s1.trans s2
 cases t with
 |true=>
  rw[if_pos rfl]at h
  obtain⟨z,ec,h⟩:=bind_some h
  obtain⟨t,e3,e2⟩:=map_some h
  cases e2
  exact dB ⟨σD,z,rv.same sm,ec,fun w H3 r3=>⟨y,z,k,ry.same r3.same,r3.rep,e3,q H3 (sm.trans r3.same)⟩⟩
 |false=>
  rw[if_neg (by decide)]at h
  cases h
  exact dP (q H2 sm)
theorem uq{c c':RL.Cop}(hu:X.A.units+100<cLine)(ha:SE X cl a a')(hb:SE X cl b b')(he:SE X cl e e'):SE X cl (.Compare a [cw c,cw c'] [b,e] pos) (.chain c c' a' b' e'):=by
 refine PE.weak (sX (fH hu) (fH hu) ha hb he (u9 b e)) fun σ H Q h=>?_
 obtain⟨σD,d,rv,h,k⟩:=h
 obtain⟨t,rfl⟩:=iC h
 exact mW ⟨σD,t,rv,h,fun H' sm=>k _ _ (d6 sm)⟩
theorem sM{c c':RL.Cop}(hu:X.A.units+100<cLine)(ha:SE X cl a a')(hb:SE X cl b b')(he:SE X cl e e'):ST X cl (.Compare a [cw c,cw c'] [b,e] pos) (.chain c c' a' b' e'):=by
 refine PT.weak (sP (fH hu) (fH hu) ha hb he (u9 b e)) fun σ H Q h=>?_
 obtain⟨σD,k,rv,h,q⟩:=h
 obtain⟨d,e1,e2⟩:=bind_some h
 obtain⟨t,rfl⟩:=iC e1
 cases e2
 exact mW ⟨σD,k,rv,e1,fun H' sm=>⟨k,rfl,q H' sm⟩⟩
end rules
section rules
variable{X:Cx}{cl:RL.Cl}{a b c:Expr}{a' b' c':RL.E}{pos:Pos}
theorem kU{neg:Bool}(b:Expr):behindInMarks (if neg then .IsNot else .Is) b=false:=by cases neg<;>exact m7 b
theorem oM{neg:Bool}:OpR X (compareOp (if neg then .IsNot else .Is)) (fun x y H Q=>y=.non/\Q (.bl (if neg then !decide (x=.non)else decide (x=.non))) H):=by
 cases neg with
 | true=>exact wt
 | false=>exact yv
theorem qf{neg:Bool}{σD:RL.St}{d:RL.D}(h:RL.ev cl σD (.isN neg a')=some d):∃ x,RL.ev cl σD a'=some x/\∀ v (H:Hp),Rep nP X.K H x v->d=.bl (if neg then !decide (v=.non)else decide (v=.non)):=by
 rw[RL.ev]at h
 obtain⟨x,ea,h⟩:=bind_some h
 refine⟨x,ea,fun v H r=>?_⟩
 cases x with
 | non=>cases h;rw[Rep]at r;subst r;cases neg<;>rfl
 | bl k=>cases h;rw[aK r];cases neg<;>rfl
 | int k=>cases h;rw[af r];cases neg<;>rfl
 | str k=>cases h;rw[aE r];cases neg<;>rfl
 | tup k=>cases h;obtain⟨p,xs,rfl,_⟩:=aR r;cases neg<;>rfl
 | lst k=>cases h;obtain⟨p,xs,rfl,_⟩:=a6 r;cases neg<;>rfl
 | scr k=>cases h;rw[Rep]at r;obtain⟨p,xs,rfl,_⟩:=r;cases neg<;>rfl
 | dK _ _=>cases h
 | dT _ _=>cases h
theorem xc{neg:Bool}{j:Nat}{p:Pos}(ha:SE X cl a a'):SE X cl (.Compare a [if neg then .IsNot else .Is] [.Constant .none j p] pos) (.isN neg a'):=by
 refine PE.weak (nU oM ha m4 (kU _)) fun σ H Q h=>?_
 obtain⟨σD,d,rv,e,q⟩:=h
 obtain⟨x,ea,hx⟩:=qf (X:=X) e
 refine⟨σD,_,rv,ea,fun v H1 r1=>⟨rfl,?_⟩⟩
 have hd:=hx v H1 r1.rep
 subst hd
 exact q _ _ (d6 r1.same)
theorem yz{neg:Bool}{j:Nat}{p:Pos}(ha:SE X cl a a'):ST X cl (.Compare a [if neg then .IsNot else .Is] [.Constant .none j p] pos) (.isN neg a'):=by
 refine PT.weak (jZ oM ha m4 (kU _)) fun σ H Q h=>?_
 obtain⟨σD,k,rv,e,q⟩:=h
 obtain⟨d,e1,e2⟩:=bind_some e
 obtain⟨x,ea,hx⟩:=qf (X:=X) e1
 refine⟨σD,_,rv,ea,fun v H1 r1=>⟨rfl,?_⟩⟩
 have hd:=hx v H1 r1.rep
 subst hd
 cases e2
 exact⟨_,rfl,q _ r1.same⟩
theorem eC{P:Addr->Prop}{K:PySem.W.Frag}{H:Hp}{d:RL.D}{ds:List RL.D}{v:V}(h:RL.items d=some ds)(r:Rep P K H d v):∃ p xs,v=.ref p/\((H p=some (.lst xs)/\d=.lst ds)\/(H p=some (.tup xs)/\d=.tup ds))/\ab P K H ds xs:=by
 cases d<;>simp only[RL.items]at h<;>first | (cases h;done) | skip
 case lst ys=>cases h;obtain⟨p,xs,e1,_,e2,e3⟩:=a6 r;exact⟨p,xs,e1,.inl ⟨e2,rfl⟩,e3⟩
 case tup ys=>cases h;obtain⟨p,xs,e1,e2,e3⟩:=aR r;exact⟨p,xs,e1,.inr ⟨e2,rfl⟩,e3⟩
noncomputable def spF(K:PySem.W.Frag)(cl:RL.Cl)(f:Nat):Sp:=fun vs H Q _=>∃ ds d,ab nP K H ds vs/\cl f ds=some d/\∀ v H',ax H H'->Rep (fun p=>H p≠none) K H' d v->Q v H'
theorem vn{es:List Expr}{e:Expr}{es':RL.Es}{e':RL.E}{f:Nat}{x:Str}{p:Pos}{k:Nat}{fa:Addr}{fd:FuncData}{ps:List Str}(F:fh X.prog X.w X.K X.mg X.base CX0 k fa fd ps (spF X.K cl f))(hr:cO k X.A)(hg:Gl X x)
 (hm:X.mg x=some (.ref fa))(hk:PySem.W.keepIn X.K (.ref fa)=true)(hb:Binds X.K fd ps [])(he:SEs X cl (e::es) (.cons e' es'))(hdb:(x == ("__debug__" : Str))=false)(hn:noStar e=true)(hns:es.all noStar=true) :
  SE X cl (.Call (.Name x p) (e::es) [] pos) (.call f (.cons e' es')):=by
 refine PE.weak (oW F hr hg hm hk hb .nil uv he hdb (ay es hn) (cP hns)) fun σ H Q h=>?_
 obtain⟨σD,d,rv,ev,q⟩:=h
 rw[RL.ev]at ev
 obtain⟨ds,e1,e2⟩:=bind_some ev
 refine⟨σD,ds,rv,e1,fun vs H1 s1 r1=>?_⟩
 show spF X.K cl f (vs++[]) H1 Q E0
 rw[List.append_nil]
 refine⟨ds,d,r1,e2,fun v H2 s2 r2=>q v H2 ⟨s1.trans s2,r2.none,fun _ m a z=>?_,fun M _ P hP _=>?_⟩⟩
 ·subst z
  have hh:H1 a=none:=by
   cases d with
   | lst ds=>obtain⟨p,xs,e1,e2,_⟩:=a6 r2;cases e1;exact Classical.byContradiction e2
   | dK ks ds=>rw[Rep]at r2;obtain⟨p,xs,e1,e2,_⟩:=r2;cases e1;exact Classical.byContradiction e2
   | dT ks ds=>rw[Rep]at r2;obtain⟨p,xs,e1,e2,_⟩:=r2;cases e1;exact Classical.byContradiction e2
   | _=>cases m
  exact s1.free hh
 ·refine r2.weak fun a z=>?_
  obtain⟨o,ho⟩:=Option.ne_none_iff_exists'.mp (hP a z)
  rw[s1 _ _ ho]
  exact fun q=>nomatch q
end rules
noncomputable def Off(P:Addr->Prop)(H H':Hp):Prop:=∀ b o,¬ P b->H b=some o->H' b=some o
theorem Off.same{H H':Hp}(h:ax H H'){P:Addr->Prop}:Off P H H':=fun b o _ e=>h b o e
mutual
theorem Rep.off{P:Addr->Prop}{K:PySem.W.Frag}{H H':Hp}(hm:∀ b o,P b->H b=some o->bW o)(k:Off P H H'):∀ {d:RL.D} {v:V},Rep P K H d v->Rep P K H' d v
 | .non,v,h=>by simpa[Rep]using h
 | .bl _,v,h=>by simpa[Rep]using h
 | .int _,v,h=>by simpa[Rep]using h
 | .str _,v,h=>by simpa[Rep]using h
 | .tup ds,v,h=>by
  rw[Rep]at h ⊢
  obtain⟨b,xs,e1,e2,e3⟩:=h
  have n:¬ P b:=fun p=>by rcases hm b _ p e2 with⟨z,q⟩ | ⟨z,q⟩ | ⟨z,q⟩<;>cases q
  exact⟨b,xs,e1,k _ _ n e2,ab.off hm k e3⟩
 | .lst ds,v,h=>by
  rw[Rep]at h ⊢
  obtain⟨b,xs,e1,e0,e2,e3⟩:=h
  exact⟨b,xs,e1,e0,k _ _ e0 e2,ab.off hm k e3⟩
 | .dK ks ds,v,h=>by
  rw[Rep]at h ⊢
  obtain⟨b,xs,e1,e0,e2,el,e3⟩:=h
  exact⟨b,xs,e1,e0,k _ _ e0 e2,el,ab.off hm k e3⟩
 | .dT ks ds,v,h=>by
  rw[Rep]at h ⊢
  obtain⟨b,xs,e1,e0,e2,el,e3⟩:=h
  exact⟨b,xs,e1,e0,k _ _ e0 e2,el,ab.off hm k e3⟩
 | .scr ds,v,h=>by
  rw[Rep]at h ⊢
  obtain⟨b,xs,e1,e2,e3⟩:=h
  refine⟨b,xs,e1,?_,ab.off hm k e3⟩
  rcases e2 with⟨q,e2⟩ | e2
  ·have n:¬ P b:=fun p=>by rcases hm b _ p e2 with⟨z,q⟩ | ⟨z,q⟩ | ⟨z,q⟩<;>cases q
   exact .inl ⟨q,k _ _ n e2⟩
  ·exact .inr e2
theorem ab.off{P:Addr->Prop}{K:PySem.W.Frag}{H H':Hp}(hm:∀ b o,P b->H b=some o->bW o)(k:Off P H H'):∀ {ds:List RL.D} {xs:List V},ab P K H ds xs->ab P K H' ds xs
 | [],xs,h=>by rw[ab]at h ⊢;exact h
 | d::r,xs,h=>by
  rw[ab]at h ⊢
  obtain⟨x,t,e1,e2,e3⟩:=h
  exact⟨x,t,e1,Rep.off hm k e2,ab.off hm k e3⟩
end
structure gn(K:PySem.W.Frag)(J:L2.It)(ds:List RL.D)(P:Addr->Prop)(H:Hp):Prop where
 go:∀ H' i,Off P H H'->i<ds.length->J.go i H'
 stop:∀ H',Off P H H'->J.stop ds.length H'
 yld:∀ H' i d x H2,Off P H H'->ds[i]?=some d->J.yld i H' x H2->ax H' H2/\(d.imm=true\/ax H H'->Rep nP K H2 d x)
noncomputable def uP(K:PySem.W.Frag)(σD:RL.St)(σ:L2.St)(H:Hp)(it:RL.It)(J:L2.It)(ds:List RL.D)(H1:Hp):Prop :=
 gn K J ds nP H1/\∀ (M:List Nat) (P:Addr->Prop),RL.pO M it=true->(∀ b,P b->∃ o,H b=some o/\bW o)->(∀ (j:Nat) (dj:RL.D) (vj:V),M.contains j=false->σD[j]?=some (some dj)->σ[j]?=some (some vj)->Rep P K H dj vj)->gn K J ds P H1
noncomputable def tI(K:PySem.W.Frag)(cl:RL.Cl)(it:RL.It):TI:=fun σ H R=>∃ σD ds,RV0 K σD σ H/\RL.aZ cl σD it=some ds/\∀ J H1,ax H H1->uP K σD σ H it J ds H1->R J H1
noncomputable def SI(X:Cx)(cl:RL.Cl)(tg iter:Expr)(it:RL.It):Prop:=PI X tg iter (tI X.K cl it)
theorem PI.weak{X:Cx}{tg iter:Expr}{t t':TI}(h:PI X tg iter t)(w:∀ σ H R,t' σ H R->t σ H R):PI X tg iter t':=fun pins s σ H R I q=>h pins s σ H R I (w σ H R q)
theorem eF{K:PySem.W.Frag}{P:Addr->Prop}{H H':Hp}{d:RL.D}{v:V}(hm:∀ b o,P b->H b=some o->bW o)(k:Off P H H')(r:Rep nP K H d v)(i:d.imm=true):Rep nP K H' d v :=
 ((r.imm i).off hm k).imm i
theorem oQ{K:PySem.W.Frag}{H:Hp}{a:Addr}{ds:List RL.D}{xs:List V}{P:Addr->Prop}(h:H a=some (.lst xs))(r:ab nP K H ds xs)(hp:¬ P a)(hm:∀ b o,P b->H b=some o->bW o):gn K (Itl K a) ds P H where
 go:=fun H' i k hi=>by
  obtain⟨x,e,_⟩:=r.get (i:=i) (d:=ds[i]) (by simp[hi])
  exact⟨xs,x,SqL.of (k _ _ hp h),e⟩
 stop:=fun H' k=>⟨xs,SqL.of (k _ _ hp h),by rw[r.length];exact Nat.le_refl _⟩
 yld:=fun H' i d x H2 k e y=>by
  obtain⟨z,y⟩:=y
  subst z
  have hx:=y xs (SqL.of (k _ _ hp h))
  obtain⟨x',e1,e2⟩:=r.get e
  rw[hx]at e1
  cases e1
  refine⟨ax.refl _,fun q=>?_⟩
  rcases q with q | q
  ·exact eF hm k e2 q
  ·exact e2.same q
theorem qY{K:PySem.W.Frag}{H:Hp}{a:Addr}{ds:List RL.D}{xs:List V}{P:Addr->Prop}(h:H a=some (.tup xs))(r:ab nP K H ds xs)(hm:∀ b o,P b->H b=some o->bW o):gn K (Itt K a) ds P H:=by
 have hp:¬ P a:=fun p=>by rcases hm a _ p h with⟨z,q⟩ | ⟨z,q⟩ | ⟨z,q⟩<;>cases q
 exact {
  go:=fun H' i k hi=>by
   obtain⟨x,e,_⟩:=r.get (i:=i) (d:=ds[i]) (by simp[hi])
   exact⟨xs,x,SqT.of (k _ _ hp h),e⟩
  stop:=fun H' k=>⟨xs,SqT.of (k _ _ hp h),by rw[r.length];exact Nat.le_refl _⟩
  yld:=fun H' i d x H2 k e y=>by
   obtain⟨z,y⟩:=y
   subst z
   have hx:=y xs (SqT.of (k _ _ hp h))
   obtain⟨x',e1,e2⟩:=r.get e
   rw[hx]at e1
   cases e1
   refine⟨ax.refl _,fun q=>?_⟩
   rcases q with q | q
   ·exact eF hm k e2 q
   ·exact e2.same q }
theorem jE:∀ (n:Nat) (lo:Int) (i:Nat) (d:RL.D),(RL.bO lo n)[i]?=some d->d=.int (lo+i)
 | 0,lo,i,d,h=>by simp[RL.bO]at h
 | n+1,lo,0,d,h=>by simp[RL.bO]at h;simp[h]
 | n+1,lo,i+1,d,h=>by
  rw[RL.bO,List.getElem?_cons_succ]at h
  rw[jE n (lo+1) i d h]
  congr 1
  lia
theorem gv:∀ (n:Nat) (lo:Int),(RL.bO lo n).length=n
 | 0,_=>rfl
 | n+1,lo=>by rw[RL.bO,List.length_cons,gv n]
theorem j0{K:PySem.W.Frag}{H:Hp}{lo:Int}{n:Nat}{P:Addr->Prop}:gn K (Itr lo n) (RL.bO lo n) P H where
 go:=fun H' i k hi=>by rw[gv]at hi;exact hi
 stop:=fun H' k=>by rw[gv];exact Nat.le_refl _
 yld:=fun H' i d x H2 k e y=>by
  obtain⟨z,y⟩:=y
  subst z
  refine⟨ax.refl _,fun _=>?_⟩
  rw[jE n lo i d e,y]
  exact aN
section rules
variable{X:Cx}{cl:RL.Cl}{tg a b l:Expr}{a' b' e':RL.E}{pos p:Pos}
theorem zZ{t t':TE}{l:Expr}(hl:PE X l t):PI X tg l (fun σ H R=>t σ H fun x H1=>(∃ a,x=.ref a/\(∃ xs,SqL X.K H1 a xs)/\R (Itl X.K a) H1)\/(∃ a,x=.ref a/\(∃ xs,SqT X.K H1 a xs)/\R (Itt X.K a) H1)):=by
 intro pins s σ H R I h
 refine thn (hl pins s σ H _ I h) fun v s1 ⟨x,H1,I1,r1,q1⟩=>?_
 rcases q1 with⟨a,e,⟨xs,hq⟩,q⟩ | ⟨a,e,⟨xs,hq⟩,q⟩
 ·subst e
  cases r1
  obtain⟨its,rv,p,hz⟩:=I1.list hq
  refine wpAny_pyIter_list p.isList ⟨s1.heap.objs.size,[s1.heap.objs.size],_,_,H1,rfl,I1.kept (t':=s1.toks) fun b o e=>Heap.get?_push_of_some _ e,qp a _,⟨_,Heap.get?_push_size _ rfl,rfl,rfl⟩,fun b hb=>?_,q⟩
  rw[show b=s1.heap.objs.size by simpa using hb]
  exact I1.ko (Nat.le_refl _) (I1.hok.fresh (Nat.le_refl _))
 ·subst e
  cases r1
  obtain⟨its,rv,p,hz⟩:=I1.tuple hq
  refine wpAny_pyIter_tuple (show s1.heap.IsTuple a its.toArray from p) ⟨s1.heap.objs.size,[s1.heap.objs.size],_,_,H1,rfl,I1.kept (t':=s1.toks) fun b o e=>Heap.get?_push_of_some _ e,pj a _,⟨_,Heap.get?_push_size _ rfl,rfl,rfl⟩,fun b hb=>?_,q⟩
  rw[show b=s1.heap.objs.size by simpa using hb]
  exact I1.ko (Nat.le_refl _) (I1.hok.fresh (Nat.le_refl _))
theorem jw{σD:RL.St}{σ:L2.St}{H H1:Hp}{d:RL.D}{v:V}{M:List Nat}{P:Addr->Prop}(r1:Res X.K σD σ H e' d v H1)(z:(RL.avE M e' || RL.az e')=true)(hP:∀ b,P b->∃ o,H b=some o/\bW o)
 (av:∀ (j:Nat) (dj:RL.D) (vj:V),M.contains j=false->σD[j]?=some (some dj)->σ[j]?=some (some vj)->Rep P X.K H dj vj):∀ ds a,d=.lst ds->v=.ref a->¬ P a:=by
 intro ds a hd hv
 subst hd hv
 rw[Bool.or_eq_true]at z
 rcases z with z | z
 ·obtain⟨p,xs,e1,e2,_⟩:=a6 (r1.av M z P (fun b q=>by obtain⟨o,ho,_⟩:=hP b q;rw[ho];exact fun z=>nomatch z) av)
  cases e1
  exact e2
 ·intro q
  obtain⟨o,ho,_⟩:=hP a q
  rw[r1.fresh z rfl a rfl]at ho
  cases ho
theorem cN{P:Addr->Prop}{H H1:Hp}(s:ax H H1)(hP:∀ b,P b->∃ o,H b=some o/\bW o):∀ b o,P b->H1 b=some o->bW o:=fun b o q e=>by
 obtain⟨o',ho,m⟩:=hP b q
 rw[s _ _ ho]at e
 cases e
 exact m
theorem eI{H1:Hp}:∀ b o,nP b->H1 b=some o->bW o:=fun b o q=>q.elim
theorem xU(hl:SE X cl l e')(hs:True):PI X tg l (fun σ H R=>∃ σD d ds,RV0 X.K σD σ H/\RL.ev cl σD e'=some d/\RL.items d=some ds/\∀ J H1,ax H H1->uP X.K σD σ H (.seq e') J ds H1->R J H1):=by
 refine PI.weak (zZ (t':=tE X.K cl e') hl) fun σ H R h=>?_
 obtain⟨σD,d,ds,rv,e,ei,k⟩:=h
 refine⟨σD,d,rv,e,fun v H1 r1=>?_⟩
 obtain⟨p,xs,rfl,hp,rs⟩:=eC ei r1.rep
 rcases hp with⟨hp,rfl⟩ | ⟨hp,rfl⟩
 ·refine .inl ⟨p,rfl,⟨xs,SqL.of hp⟩,k _ _ r1.same ⟨oQ hp rs (fun z=>z) eI,fun M P z hP av=>oQ hp rs (jw r1 z hP av _ _ rfl rfl) (cN r1.same hP)⟩⟩
 ·exact .inr ⟨p,rfl,⟨xs,SqT.of hp⟩,k _ _ r1.same ⟨qY hp rs eI,fun M P z hP av=>qY hp rs (cN r1.same hP)⟩⟩
theorem ju{x y:RL.D}{ds:List RL.D}(h:RL.cK x y=some ds):∃ i j:Int,x=.int i/\y=.int j/\(-(2 ^ 62)<=i/\i<2 ^ 62/\-(2 ^ 62)<=j/\j<2 ^ 62)/\(j-i).toNat<=RL.most/\ds=RL.bO i (j-i).toNat:=by
 have no:∀ {o:Option (List RL.D)},o=none->o=some ds->False:=fun e h=>by rw[e]at h;cases h
 cases x with
 | int i=>cases y with
  |int j=>
   obtain⟨hc,e⟩:=bZ h
   have lo:-(2 ^ 62:Int)<=-(2 ^ 60):=by decide
   have hi:(2 ^ 60:Int)<2 ^ 62:=by decide
   exact⟨i,j,rfl,rfl,⟨Int.le_trans lo hc.2.1,Int.lt_trans hc.2.2.1 hi,Int.le_trans lo hc.2.2.2.1,Int.lt_trans hc.2.2.2.2 hi⟩,hc.1,e⟩
  | _=>exact(no rfl h).elim
 | _=>exact(no rfl h).elim
theorem uS(hg:Gl X "range")(hm:X.mg "range" = none)(ha:SE X cl a a')(hn:noStar a=true):SI X cl tg (.Call (.Name "range" p) [a] [] pos) (.rng1 a'):=by
 refine PI.weak (rP hg hm (bo (cl:=cl) ha cv hn) (ay [] hn)) fun σ H R h=>?_
 obtain⟨σD,ds,rv,e,k⟩:=h
 rw[RL.aZ]at e
 obtain⟨x,ea,e⟩:=bind_some e
 obtain⟨i,j,e1,rfl,hb,_,rfl⟩:=ju e
 cases e1
 refine⟨σD,[.int j],rv,by rw[RL.evs,ea];rfl,fun vs H1 s1 r1=>?_⟩
 rw[ab]at r1
 obtain⟨v,t,rfl,r2,r3⟩:=r1
 rw[ab]at r3
 subst r3
 refine⟨j,by rw[af r2],hb.2.2.1,hb.2.2.2,?_⟩
 have hz:(j-0).toNat=j.toNat:=by simp
 rw[hz]at k
 exact k _ _ s1 ⟨j0,fun _ _ _ _ _=>j0⟩
theorem w4(hg:Gl X "range")(hm:X.mg "range" = none)(ha:SE X cl a a')(hb:SE X cl b b')(hn:noStar a=true)(hn2:noStar b=true):SI X cl tg (.Call (.Name "range" p) [a,b] [] pos) (.rng2 a' b'):=by
 refine PI.weak (qe hg hm (bo (cl:=cl) ha (bo hb cv hn2) hn) (by rw[ay _ hn,ay _ hn2];rfl) (ay [] hn2)) fun σ H R h=>?_
 obtain⟨σD,ds,rv,e,k⟩:=h
 rw[RL.aZ]at e
 obtain⟨x,ea,e⟩:=bind_some e
 obtain⟨y,eb,e⟩:=bind_some e
 obtain⟨i,j,rfl,rfl,hb,_,rfl⟩:=ju e
 refine⟨σD,[.int i,.int j],rv,by rw[RL.evs,ea,RL.evs,eb];rfl,fun vs H1 s1 r1=>?_⟩
 rw[ab]at r1
 obtain⟨v,t,rfl,r2,r3⟩:=r1
 rw[ab]at r3
 obtain⟨u,t,rfl,r4,r5⟩:=r3
 rw[ab]at r5
 subst r5
 exact⟨i,j,by rw[af r2,af r4],hb,k _ _ s1 ⟨j0,fun _ _ _ _ _=>j0⟩⟩
end rules
end RS
namespace L2
open PySem PySem.Spec PyProof.Rows
noncomputable def eN(ifs:List Expr)(env:Env):Sem Bool:=forIn ifs true fun c r=>if r=true then do let ok <- isTrue c env (eval c env);pure (ForInStep.yield ok)else pure (ForInStep.yield r)
section
variable{M:Model}{A:Around}{Q:Fin->Shared->Prop}{E:Value->Shared->Prop}{s:Shared}
theorem zr{α:Type}{m:Sem α}{P:α->Shared->Prop}{E:Value->Shared->Prop}{s:Shared}(h:wpAny M A m P (fun _ _=>False) s):wpAny M A m P E s :=
 wpAny_mono h (fun _ _ q=>q) fun _ _ z=>z.elim
theorem cu{α β:Type}{m:Sem α}{k:α->Sem β}{P:β->Shared->Prop}{E:Value->Shared->Prop}{s:Shared}(h:wpAny M A m (fun a s1=>wpAny M A (k a) P E s1) (fun _ _=>False) s):wpAny M A (m >>= k) P E s:=wpAny_bind (zr h)
end
section
variable{prog:Program}{w:World}{A:Around}{elt tg iter:Expr}{ifs:List Expr}{scope:Scope}{pos:Pos}{it acc:Value}{env:Env}
noncomputable def kI(prog:Program)(w:World)(A:Around)(elt tg:Expr)(ifs:List Expr)(it acc:Value)(env:Env)(stop next:Shared->Prop)(s:Shared):Prop :=
 wpAny (model prog w) A (pyNext it) (fun r s1=>match r with
  | none=>stop s1
  | some v=>wpAny (model prog w) A (letOwnedTupleGo tg it v) (fun _ s2=>wpAny (model prog w) A (assign tg env v) (fun _ s3=>wpAny (model prog w) A (eN ifs env) (fun ok s4 =>
     if ok=true then wpAny (model prog w) A (eval elt env) (fun x s5=>wpAny (model prog w) A (call (.builtin "list.append") [acc,x]) (fun _ s6=>next s6) (fun _ _=>False) s5) (fun _ _=>False) s4
     else next s4) (fun _ _=>False) s3) (fun _ _=>False) s2) (fun _ _=>False) s1) (fun _ _=>False) s
theorem tM{stop next:Shared->Prop}{E:Value->Shared->Prop}{s:Shared}(h:kI prog w A elt tg ifs it acc env stop next s) :
  wpAny (model prog w) A (compTurn (.ListComp elt [⟨tg,iter,ifs,0⟩] scope pos) 0 it acc env) (fun fin s'=>match fin with
   | .done f=>f=.next/\stop s'
   | .again c=>c=.compLoop (.ListComp elt [⟨tg,iter,ifs,0⟩] scope pos) 0 it acc env/\next s') E s:=by
 rw[compTurn_list]
 apply wpAny_bind
 apply wpAny_standAt
 apply cu
 refine thn h fun r s1 h1=>?_
 cases r with
 |none=>
  apply wpAny_pure
  exact⟨rfl,h1⟩
 |some v=>
  apply cu
  refine thn h1 fun _ s2 h2=>?_
  apply cu
  refine thn h2 fun _ s3 h3=>?_
  apply cu
  refine thn h3 fun ok s4 h4=>?_
  cases ok
  ·apply wpAny_pure
   exact⟨rfl,h4⟩
  ·apply wpAny_bind
   apply cu
   refine thn h4 fun x s5 h5=>?_
   apply cu
   refine thn h5 fun _ s6 h6=>?_
   apply wpAny_pure
   apply wpAny_pure
   exact⟨rfl,h6⟩
theorem qD{R:Result->Shared->Prop}{s:Shared}(I:Nat->Shared->Prop)(turn:∀ n s,I n s->kI prog w A elt tg ifs it acc env (R (.ok .next)) (fun s'=>∃ m,m<n/\I m s') s)
 (n:Nat)(h:I n s):codeAny (model prog w) A (.compLoop (.ListComp elt [⟨tg,iter,ifs,0⟩] scope pos) 0 it acc env) R s :=
 codeAny_loop (M:=model prog w) rfl I (fun n s hI=>wpAny_noted (thn (tM (turn n s hI)) fun fin s' q=>by
  cases fin with
  |done f=>
   obtain⟨rfl,q⟩:=q
   exact q
  | again c=>exact q)) n h
end
theorem ib:∀ (names:List (Str × NameKind)) (n:Nat) (acc:List (Str × Addr)) (x:Str) (c:Addr),(cellsFrom n names acc).lookup x=some c->(acc.lookup x=some c/\(x,NameKind.cell)∉names)\/(n<=c/\(x,NameKind.cell)∈names)
 | [],n,acc,x,c,h=>.inl ⟨h,by simp⟩
 | (nm,k)::r,n,acc,x,c,h=>by
  unfold cellsFrom at h
  by_cases hk:(k == NameKind.cell)=true
  ·rw[if_pos hk]at h
   have ek:k=.cell:=by simpa using hk
   subst ek
   rcases ib r (n+1) ((nm,n)::acc) x c h with⟨a,b⟩ | ⟨a,b⟩
   ·rw[List.lookup_cons]at a
    cases hx:x == nm with
    |true=>
     rw[hx]at a
     cases a
     have:x=nm:=by simpa using hx
     subst this
     exact .inr ⟨Nat.le_refl _,List.mem_cons_self ..⟩
    |false=>
     rw[hx]at a
     refine .inl ⟨a,fun z=>?_⟩
     rcases List.mem_cons.mp z with z | z
     ·cases z
      simp at hx
     ·exact b z
   ·exact .inr ⟨Nat.le_of_succ_le a,List.mem_cons_of_mem _ b⟩
  ·rw[if_neg hk]at h
   rcases ib r n acc x c h with⟨a,b⟩ | ⟨a,b⟩
   ·refine .inl ⟨a,fun z=>?_⟩
    rcases List.mem_cons.mp z with z | z
    ·cases z
     exact hk (by simp)
    ·exact b z
   ·exact .inr ⟨a,List.mem_cons_of_mem _ b⟩
theorem k6:∀ (names:List (Str × NameKind)) (n:Nat) (acc:List (Str × Addr)) (x:Str),(x,NameKind.cell)∉names->(cellsFrom n names acc).lookup x=acc.lookup x
 | [],n,acc,x,_=>rfl
 | (nm,k)::r,n,acc,x,h=>by
  have hr:(x,NameKind.cell)∉r:=fun z=>h (List.mem_cons_of_mem _ z)
  unfold cellsFrom
  by_cases hk:(k == NameKind.cell)=true
  ·rw[if_pos hk,k6 r (n+1) _ x hr,List.lookup_cons]
   have ek:k=.cell:=by simpa using hk
   subst ek
   have:(x == nm)=false:=by
    rw[beq_eq_false_iff_ne]
    intro z
    subst z
    exact h (List.mem_cons_self ..)
   rw[this]
  ·rw[if_neg hk]
   exact k6 r n acc x hr
theorem mV:∀ (names:List (Str × NameKind)) (n:Nat) (acc:List (Str × Addr)),(∀ x c,acc.lookup x=some c->c<n)->(∀ x y c,acc.lookup x=some c->acc.lookup y=some c->x=y)->∀ x y c,(cellsFrom n names acc).lookup x=some c->(cellsFrom n names acc).lookup y=some c->x=y
 | [],n,acc,_,hi,x,y,c,h1,h2=>hi x y c h1 h2
 | (nm,k)::r,n,acc,hl,hi,x,y,c,h1,h2=>by
  unfold cellsFrom at h1 h2
  by_cases hk:(k == NameKind.cell)=true
  ·rw[if_pos hk]at h1 h2
   refine mV r (n+1) ((nm,n)::acc) (fun x c e=>?_) (fun x y c e1 e2=>?_) x y c h1 h2
   ·rw[List.lookup_cons]at e
    cases hx:x == nm with
    | true=>rw[hx]at e;cases e;exact Nat.lt_succ_self _
    | false=>rw[hx]at e;exact Nat.lt_succ_of_lt (hl x c e)
   ·rw[List.lookup_cons]at e1 e2
    cases hx:x == nm with
    |true=>
     rw[hx]at e1
     cases e1
     cases hy:y == nm with
     |true=>
      have a:x=nm:=by simpa using hx
      have b:y=nm:=by simpa using hy
      rw[a,b]
     |false=>
      rw[hy]at e2
      exact absurd (hl y n e2) (Nat.lt_irrefl _)
    |false=>
     rw[hx]at e1
     cases hy:y == nm with
     |true=>
      rw[hy]at e2
      cases e2
      exact absurd (hl x n e1) (Nat.lt_irrefl _)
     |false=>
      rw[hy]at e2
      exact hi x y c e1 e2
  ·rw[if_neg hk]at h1 h2
   exact mV r n acc hl hi x y c h1 h2
theorem jU:∀ (names:List (Str × NameKind)) (h:Heap) (acc:List (Str × Addr)) (x:Str) (c:Addr),(cellsFrom h.objs.size names acc).lookup x=some c->acc.lookup x=some c\/(pushCells h names).IsCell c none
 | [],h,acc,x,c,e=>.inl e
 | (nm,k)::r,h,acc,x,c,e=>by
  unfold cellsFrom at e
  unfold pushCells
  by_cases hk:(k == NameKind.cell)=true
  ·rw[if_pos hk]at e ⊢
   have e':(cellsFrom (h.push { cls:=.type "cell",data:=.cell none }).objs.size r ((nm,h.objs.size)::acc)).lookup x=some c:=by rw[Heap.size_push];exact e
   rcases jU r (h.push { cls:=.type "cell",data:=.cell none }) ((nm,h.objs.size)::acc) x c e' with a | a
   ·rw[List.lookup_cons]at a
    cases hx:x == nm with
    |true=>
     rw[hx]at a
     cases a
     exact .inr ⟨_,pushCells_keeps r _ _ _ (Heap.get?_push_size _ rfl),rfl⟩
    |false=>
     rw[hx]at a
     exact .inl a
   ·exact .inr a
  ·rw[if_neg hk]at e ⊢
   exact jU r h acc x c e
theorem vM{M:Model}{A:Around}{E:Value->Shared->Prop}{s:Shared}{scope:Scope}{globals:Addr}{closure:List (Str × Addr)}{qual:Str}{func:Option Addr}{code:Value}{outer:Env}{builtins:Addr}{Q:Env->Shared->Prop}
 (hQ:Q (newEnv scope s.heap.objs.size globals (cellsFrom (s.heap.objs.size+1) scope.names closure) qual func code (some outer) builtins) { s with heap:=pushCells (s.heap.push { cls:=.type "dict",data:=.dict #[] }) scope.names }) :
  wpAny M A (newFunctionEnv scope globals closure [] qual func code (some outer) builtins) Q E s:=by
 simp only[newFunctionEnv,Option.isSome_some,if_true]
 refine wpAny_bind (wpAny_alloc ?_)
 refine wpAny_bind (wpAny_layCells _ (fun name kind cells=>by cases hkc:kind == NameKind.cell<;>simp[hkc]) _ _ _ _ ?_)
 rw[show({ s with heap:=s.heap.push { cls:=.type "dict",data:=.dict #[] } }:Shared).heap.objs.size=s.heap.objs.size+1 from Heap.size_push ..]
 refine wpAny_bind ?_
 rw[List.forIn_nil]
 exact wpAny_pure (wpAny_pure hQ)
noncomputable def blk(X:Cx)(scope:Scope)(cls:List (Str × Addr))(C:Addr)(fp:List Addr)(s:Shared)(H:Hp):Cx where
 prog:=X.prog
 w:=X.w
 K:=X.K
 mg:=X.mg
 base:=X.base
 A:=X.A
 N:=X.N
 s₀:=s
 H₀:=H
 env:=compEnvC scope cls C X.env
 outer:=X.stack
 stack:=X.stack
 ex:=fp
 fn:=fun x=>scope.names.lookup x == some .cell
 calm:=X.calm
 pn:=[]
 xe:=fun _ _=>False
structure dI(scope:Scope)(sc:Scope)(cls:List (Str × Addr))(cells:List (Str × Addr)):Prop where
 kind:scope.kind=.function
 own:∀ x∈scope.names,x.2=.cell->scope.names.lookup x.1=some .cell
 loc:∀ x∈scope.names,x.2=.local->scope.names.lookup x.1=some .local
 sub:∀ x c,cls.lookup x=some c->cells.lookup x=some c
 has:∀ x,scope.names.lookup x=some .free->∃ c,cls.lookup x=some c
 vis:∀ x,scope.names.lookup x=some .free->sc.names.lookup x=some .cell\/sc.names.lookup x=some .free
theorem bw{env:Env}:∀ {names:List (Str × NameKind)} {x:Str} {k:NameKind},
  (names.map fun(n,k)=>if(k == NameKind.free&&env.scope.kind == .function&&env.kindOf n == some .cell)then(n,NameKind.cell)else(n,k)).lookup x=some k ->
  names.lookup x=some k\/(k=.cell/\names.lookup x=some .free/\env.kindOf x=some .cell)
 | [],x,k,h=>by simp at h
 | (n,k')::r,x,k,h=>by
  have ih:=@bw env r x k
  rw[List.map_cons]at h
  cases hx:x == n with
  |true=>
   have en:x=n:=by simpa using hx
   subst en
   by_cases hc:(k' == NameKind.free&&env.scope.kind == .function&&env.kindOf x == some .cell)=true
   ·simp only[hc,if_true]at h
    rw[List.lookup_cons,hx]at h
    cases h
    simp only[Bool.and_eq_true,beq_iff_eq]at hc
    refine .inr ⟨rfl,?_,hc.2⟩
    rw[List.lookup_cons,hx,hc.1.1]
   ·simp only[Bool.not_eq_true]at hc
    simp only[hc,Bool.false_eq_true,if_false]at h
    rw[List.lookup_cons,hx]at h
    cases h
    exact .inl (by rw[List.lookup_cons,hx])
  |false=>
   have h':(r.map fun(n,k)=>if(k == NameKind.free&&env.scope.kind == .function&&env.kindOf n == some .cell)then(n,NameKind.cell)else(n,k)).lookup x=some k:=by
    by_cases hc:(k' == NameKind.free&&env.scope.kind == .function&&env.kindOf n == some .cell)=true
    ·simp only[hc,if_true]at h
     rw[List.lookup_cons,hx]at h
     exact h
    ·simp only[Bool.not_eq_true]at hc
     simp only[hc,Bool.false_eq_true,if_false]at h
     rw[List.lookup_cons,hx]at h
     exact h
   rcases ih h' with q | ⟨q1,q2,q3⟩
   ·exact .inl (by rw[List.lookup_cons,hx];exact q)
   ·exact .inr ⟨q1,by rw[List.lookup_cons,hx];exact q2,q3⟩
noncomputable def u7(X:Cx)(scope:Scope)(σ σB:St):Prop:=σB.length=σ.length/\∀ (i:Nat) (x:Str) (v:V),X.N[i]?=some x->σB[i]?=some (some v)->σ[i]?=some (some v)/\scope.names.lookup x≠some .local/\scope.names.lookup x≠some .cell
section
variable{X:Cx}{pins:List (Addr × Obj)}{σ σB:St}{H:Hp}{s:Shared}{scope:Scope}{cls:List (Str × Addr)}{fp:List Addr}
theorem vh{h':Heap}{t:Nat}(I:Inv X pins σ H s)(S:dI scope X.env.scope cls X.env.cells)(hf:∀ b∈fp,gd X pins H b/\b<s.heap.objs.size)(ho:u7 X scope σ σB)
 (hns:h'.Ns s.heap.objs.size (fun _=>none))(hk:∀ b o,s.heap.get? b=some o->h'.get? b=some o)(hcl:∀ x c,(cellsFrom (s.heap.objs.size+1) scope.names cls).lookup x=some c->cls.lookup x=some c\/h'.IsCell c none) :
  Inv (blk X scope (cellsFrom (s.heap.objs.size+1) scope.names cls) s.heap.objs.size fp s H) [] σB H { s with heap:=h',toks:=t }:=by
 have hC:H s.heap.objs.size=none:=I.hok.fresh (Nat.le_refl _)
 have clt:∀ x c,cls.lookup x=some c->c<s.heap.objs.size:=fun x c e=>by
  obtain⟨v,q⟩:=I.cell x c (S.sub x c e)
  exact q.lt
 have cas:∀ x c,(cellsFrom (s.heap.objs.size+1) scope.names cls).lookup x=some c->(X.env.cells.lookup x=some c/\c<s.heap.objs.size)\/(s.heap.objs.size+1<=c/\scope.names.lookup x=some .cell):=fun x c e=>by
  rcases ib _ _ _ _ _ e with⟨a,_⟩ | ⟨a,b⟩
  ·exact .inl ⟨S.sub x c a,clt x c a⟩
  ·exact .inr ⟨a,S.own _ b rfl⟩
 have fre:∀ x c,cls.lookup x=some c->scope.names.lookup x=some .free->(cellsFrom (s.heap.objs.size+1) scope.names cls).lookup x=some c:=fun x c e f=>by
  rw[k6 _ _ _ _ fun z=>by rw[S.own _ z rfl]at f;cases f]
  exact e
 refine⟨⟨I.ok.mod,?_,I.ok.glob,I.ok.blt,Nat.le_refl _,fun x y c h1 h2=>mV _ _ _ (fun x c e=>Nat.lt_succ_of_lt (clt x c e)) (fun x y c e1 e2=>I.ok.inj x y c (S.sub x c e1) (S.sub y c e2)) x y c h1 h2,fun x hx=>?_,fun x c z e=>?_,I.ok.hd,I.ok.frames,.inl rfl,fun b hb=>?_,fun b o e=>I.bs b o e,Nat.le_trans I.ok.bsz I.sz,fun b o e hb=>?_,fun b hb=>?_,I.stack,I.nX⟩,
  rfl,I.bare,Un.kept hk,⟨_,hns,fun i x v h1 h2 h3=>?_⟩,fun x c e=>?_,hC,fun x c e=>?_,fun p hp=>absurd hp (by simp[blk]),I.hok.kept hk,ho.1.trans I.len⟩
 ·exact S.kind
 ·have hx:(relabel scope X.env).names.lookup x=some .cell\/(relabel scope X.env).names.lookup x=some .free:=hx
  have key:scope.names.lookup x=some .cell\/scope.names.lookup x=some .free:=by
   rcases hx with hx | hx
   ·rcases bw hx with q | ⟨_,q,_⟩
    ·exact .inl q
    ·exact .inr q
   ·rcases bw hx with q | ⟨q,_⟩
    ·exact .inr q
    ·cases q
  rcases key with q | q
  ·have:=PySem.W.cellsFrom_some scope.names (s.heap.objs.size+1) cls (.inl q)
   exact Option.isSome_iff_exists.mp this
  ·obtain⟨c,hc⟩:=S.has x q
   exact⟨c,fre x c hc q⟩
 ·have z:(scope.names.lookup x == some .cell)=true:=z
  rcases ib _ _ _ _ _ (show(cellsFrom (s.heap.objs.size+1) scope.names cls).lookup x=some c from e)with⟨_,b⟩ | ⟨b,_⟩
  ·exact absurd (PySem.mem_of_lookup (by simpa using z)) b
  ·exact Nat.le_of_succ_le b
 ·obtain⟨⟨f0,f1,f2,f3,f4,f5⟩,f6⟩:=hf b hb
  refine⟨Nat.ne_of_lt f6,fun x c e=>?_⟩
  rcases cas x c e with⟨a,_⟩ | ⟨a,_⟩
  ·exact f4 x c a
  ·exact Nat.ne_of_gt (Nat.lt_trans f6 a)
 ·obtain⟨⟨f0,f1,f2,f3,f4,f5⟩,f6⟩:=hf b hb
  rcases f3 with z | z
  ·exact I.ok.lP b o e z
  ·exact absurd (Nat.lt_of_lt_of_le (Heap.lt_size e) I.ok.bsz) (Nat.not_lt.mpr z)
 ·obtain⟨⟨f0,f1,f2,f3,f4,f5⟩,f6⟩:=hf b hb
  intro z
  rcases List.mem_cons.mp (I.ny b z)with e | e
  ·exact f1 e
  ·exact f2 e
 ·obtain⟨h4,h5,h6⟩:=ho.2 i x v h1 h2
  have h3:(relabel scope X.env).names.lookup x=some .local\/(relabel scope X.env).names.lookup x=some .cell\/(relabel scope X.env).names.lookup x=some .free:=h3
  have key:scope.names.lookup x=some .free:=by
   rcases h3 with z | z | z
   ·rcases bw z with q | ⟨q,_⟩
    ·exact absurd q h5
    ·cases q
   ·rcases bw z with q | ⟨_,q,_⟩
    ·exact absurd q h6
    ·exact q
   ·rcases bw z with q | ⟨q,_⟩
    ·exact q
    ·cases q
  obtain⟨c,hc⟩:=S.has x key
  have hcx:=S.sub x c hc
  obtain⟨m,hn,hl⟩:=I.loc
  have hv:Vis X.env.scope x:=.inr (S.vis x key)
  obtain⟨u,ru,lk⟩:=hl i x v h1 h4 hv
  refine⟨u,ru,.inr ⟨?_,c,fre x c hc key,?_⟩⟩
  ·rcases h3 with z | z
   ·rcases bw z with q | ⟨q,_⟩
    ·exact absurd q h5
    ·cases q
   ·exact z
  ·rcases lk with⟨z,_⟩ | ⟨_,c',e',q⟩
   ·have z:X.env.scope.names.lookup x=some .local:=z
    rcases S.vis x key with z' | z'<;>(rw[z]at z';cases z')
   ·rw[hcx]at e'
    cases e'
    obtain⟨o,g1,g2⟩:=q
    exact⟨o,hk _ _ g1,g2⟩
 ·rcases hcl x c e with a | a
  ·obtain⟨v,q⟩:=I.cell x c (S.sub x c a)
   obtain⟨o,h1,h2⟩:=q
   exact⟨v,o,hk _ _ h1,h2⟩
  ·exact⟨none,a⟩
 ·rcases cas x c e with⟨a,_⟩ | ⟨a,_⟩
  ·exact I.da x c a
  ·exact I.hok.fresh (Nat.le_of_succ_le a)
noncomputable def f9(wi:TI)(clr:St->St)(g:TG)(tc:TT)(te:TE):TE:=fun σ H Q=>wi σ H fun J H1=>∀ l,H1 l=none->∃ W:Nat->Nat->List V->Hp->Prop,(∃ m,W 0 m [] (upd H1 l (.lst []))) /\
 ∀ i m ys H2,W i m ys H2->H2 l=some (.lst ys)/\((J.stop i H2/\Q (.ref l) H2)\/(J.go i H2/\∀ x H3,J.yld i H2 x H3->g x (clr σ) H3 fun σ4 H4=>tc σ4 H4 fun k H5 =>
  if k=true then te σ4 H5 fun y H6=>H6 l=some (.lst ys)/\ys.length<sizeLine/\∃ m',m'<m/\W (i+1) m' (ys++[y]) (upd H6 l (.lst (ys++[y])))else ∃ m',m'<m/\W (i+1) m' ys H5))
structure lr(X:Cx)(scope:Scope)(tg:Expr)(ifs:List Expr)(elt:Expr)(clr:St->St)(g:TG)(tc:TT)(te:TE):Prop where
 htg:∀ cls C fp s H,PG (blk X scope cls C fp s H) tg g
 htc:∀ cls C fp s H pins s' σ H' Q,Inv (blk X scope cls C fp s H) pins σ H' s'->tc σ H' Q->wpAny (model X.prog X.w) X.A (eN ifs (compEnvC scope cls C X.env)) (TP (blk X scope cls C fp s H) pins σ Q) (fun _ _=>False) s'
 hte:∀ cls C fp s H,PE (blk X scope cls C fp s H) elt te
 xK:∀ σ:St,σ.length=X.N.length->u7 X scope σ (clr σ)
 u5:∀ (x:V) (σ:St) (H:Hp) (Q:St->Hp->Prop),g x (clr σ) H Q->g x (clr σ) H fun σ2 H2=>Q σ2 H2/\(clr σ).length=σ2.length/\∀ (i:Nat) v,(clr σ)[i]?=some (some v)->σ2[i]?=some (some v)
theorem kN{elt tg iter:Expr}{ifs:List Expr}{pos:Pos}{wi:TI}{clr:St->St}{g:TG}{tc:TT}{te:TE}{Q:VK}{RR:Value->Addr->Result->Shared->Prop}(hc:X.calm=true)(S:dI scope X.env.scope cls X.env.cells)
 (hi:PI X tg iter wi)(B:lr X scope tg ifs elt clr g tc te)(I:Inv X pins σ H s)(h:f9 wi clr g tc te σ H Q)
 (hRR:∀ l C H' s',Inv X pins σ H' s'->(∃ m,s'.heap.Ns C m)->H' C=none->C≠X.env.locals->X.s₀.heap.objs.size<=C->(∀ x c,X.env.cells.lookup x=some c->c≠C)->(∀ p∈X.pn++pins,p.1≠C)->Q (.ref l) H'->RR (.ref l) C (.ok .next) s') :
  wpAny (model X.prog X.w) X.A (eval iter X.env) (fun x s1=>wpAny (model X.prog X.w) X.A (pyIter x) (fun it s2=>wpAny (model X.prog X.w) X.A (newList []) (fun acc s3 =>
   wpAny (model X.prog X.w) X.A (newFunctionEnv scope X.env.globals cls [] X.env.qual none .none (some X.env)) (fun cenv s4 =>
    codeAny (model X.prog X.w) X.A (.compStart (.ListComp elt [⟨tg,iter,ifs,0⟩] scope pos) 0 it acc { cenv with scope:=relabel scope X.env }) (RR acc cenv.locals) s4) X.xe s3) X.xe s2) X.xe s1) X.xe s:=by
 refine thn (hi pins s σ H _ I h) fun x s1 h1=>thn h1 fun itv s2 h2=>?_
 obtain⟨it,fp,tn,J,H2,e,I2,T,st2,f2,h3⟩:=h2
 subst e
 have flt:∀ b∈fp,b<s2.heap.objs.size:=fun b hb=>by
  obtain⟨o,e,_⟩:=T.obj _ _ st2 b hb
  exact Heap.lt_size e
 refine wpAny_newObj_type ?_
 have I3:Inv X pins σ (upd H2 s2.heap.objs.size (.lst [])) { s2 with heap:=s2.heap.push { cls:=.type "list",dict:=none,data:=.seq ([]:List Value).toArray } } :=
  I2.laid (t':=s2.toks) (fun b u e=>Heap.get?_push_of_some _ e) (Nat.le_refl _) ⟨Nat.zero_le _,[],0,.nil,Heap.get?_push_size _ rfl⟩
 have hl2:H2 s2.heap.objs.size=none:=I2.hok.fresh (Nat.le_refl _)
 obtain⟨W,⟨m0,w0⟩,turn⟩:=h3 s2.heap.objs.size hl2
 have f3:∀ b∈fp,gd X pins (upd H2 s2.heap.objs.size (.lst [])) b/\b<(s2.heap.push { cls:=.type "list",dict:=none,data:=.seq ([]:List Value).toArray }).objs.size:=fun b hb=>by
  obtain⟨z0,z⟩:=f2 b hb
  refine⟨⟨?_,z⟩,?_⟩
  ·rw[aH (Nat.ne_of_lt (flt b hb))]
   exact z0
  ·rw[Heap.size_push]
   exact Nat.lt_succ_of_lt (flt b hb)
 generalize hs3:({ s2 with heap:=s2.heap.push { cls:=.type "list",dict:=none,data:=.seq ([]:List Value).toArray } }:Shared)=s3 at I3
 have hs3h:s3.heap=s2.heap.push { cls:=.type "list",dict:=none,data:=.seq ([]:List Value).toArray }:=by rw[<-hs3]
 rw[<-hs3h]at f3
 have st3:tn 0 s3.heap:=T.keep _ _ _ st2 fun b hb o e=>by rw[hs3h];exact Heap.get?_push_of_some _ e
 refine vM ?_
 have k4:∀ b o,s3.heap.get? b=some o->(pushCells (s3.heap.push { cls:=.type "dict",data:=.dict #[] }) scope.names).get? b=some o:=fun b o e=>pushCells_keeps _ _ b o (Heap.get?_push_of_some _ e)
 have hns4:(pushCells (s3.heap.push { cls:=.type "dict",data:=.dict #[] }) scope.names).Ns s3.heap.objs.size (fun _=>none):=(Heap.Ns.new s3.heap (.type "dict")).keeps (pushCells_keeps _ _)
 have hcl4:∀ x c,(cellsFrom (s3.heap.objs.size+1) scope.names cls).lookup x=some c->cls.lookup x=some c\/(pushCells (s3.heap.push { cls:=.type "dict",data:=.dict #[] }) scope.names).IsCell c none:=fun x c e=>jU scope.names (s3.heap.push { cls:=.type "dict",data:=.dict #[] }) cls x c (by rw[Heap.size_push];exact e)
 generalize pushCells (s3.heap.push { cls:=.type "dict",data:=.dict #[] }) scope.names=h4 at k4 hns4 hcl4
 have I4:Inv (blk X scope (cellsFrom (s3.heap.objs.size+1) scope.names cls) s3.heap.objs.size fp s3 (upd H2 s2.heap.objs.size (.lst []))) [] (clr σ) (upd H2 s2.heap.objs.size (.lst [])) { s3 with heap:=h4 } :=
  vh (t:=s3.toks) I3 S f3 (B.xK σ I.len) hns4 k4 hcl4
 generalize hs4:({ s3 with heap:=h4 }:Shared)=s4 at I4
 have hs4h:s4.heap=h4:=by rw[<-hs4]
 generalize hH3:upd H2 s2.heap.objs.size (.lst [])=H3 at I3 I4 w0
 have st4:tn 0 s4.heap:=T.keep _ _ _ st3 fun b hb o e=>by rw[hs4h];exact k4 b o e
 have fn4:∀ b∈fp,H3 b=none:=fun b hb=>by rw[<-hH3];exact(f3 b hb).1.1
 have stat:∀ {H':Hp} {σ':St} {s':Shared},Inv (blk X scope (cellsFrom (s3.heap.objs.size+1) scope.names cls) s3.heap.objs.size fp s3 H3) [] σ' H' s'->(∀ b∈fp,H' b=none)->∀ b∈fp,gd (blk X scope (cellsFrom (s3.heap.objs.size+1) scope.names cls) s3.heap.objs.size fp s3 H3) [] H' b :=
  fun {H' σ' s'} J hn b hb=>⟨hn b hb,(J.ok.exf b hb).1,J.ok.nc b hb,.inl hb,(J.ok.exf b hb).2,fun p hp=>absurd hp (by simp[blk])⟩
 have fin:∀ {H':Hp} {s':Shared},Inv (blk X scope (cellsFrom (s3.heap.objs.size+1) scope.names cls) s3.heap.objs.size fp s3 H3) [] (clr σ) H' s'->Q (.ref s2.heap.objs.size) H'->RR (.ref s2.heap.objs.size) s3.heap.objs.size (.ok .next) s':=fun {H' s'} J q=>by
  obtain⟨m,hn,_⟩:=J.loc
  have J1:Inv X pins σ H' s':=I3.uE (s':=s') (ch:=fp) (J.os.trans rfl) J.base J.hok J.bare fun b hb=>by
   obtain⟨⟨g0,g1,g2,g3,g4,g5⟩,_⟩:=f3 b hb
   exact⟨g3,g1,g4,g5⟩
  refine hRR _ _ H' s' J1 ⟨m,hn⟩ J.free (Nat.ne_of_gt I3.lt) I3.sz (fun x c e=>?_) (fun p hp=>?_) q
  ·obtain⟨v,z⟩:=I3.cell x c e
   exact Nat.ne_of_lt z.lt
  ·exact Nat.ne_of_lt (Heap.lt_size (I3.pin p hp).1)
 have loop:codeAny (model X.prog X.w) X.A (.compLoop (.ListComp elt [⟨tg,iter,ifs,0⟩] scope pos) 0 (.ref it) (.ref s2.heap.objs.size) (compEnvC scope (cellsFrom (s3.heap.objs.size+1) scope.names cls) s3.heap.objs.size X.env))
   (RR (.ref s2.heap.objs.size) s3.heap.objs.size) s4:=by
  refine qD (fun n s'=>∃ i ys H',Inv (blk X scope (cellsFrom (s3.heap.objs.size+1) scope.names cls) s3.heap.objs.size fp s3 H3) [] (clr σ) H' s'/\tn i s'.heap/\(∀ b∈fp,H' b=none)/\W i n ys H') ?_ m0 ⟨0,[],H3,I4,st4,fn4,w0⟩
  rintro n s5 ⟨i,ys,H5,I5,st5,fr5,w5⟩
  obtain⟨hl5,tr⟩:=turn i n ys H5 w5
  rcases tr with⟨stop,qn⟩ | ⟨go,step⟩
  ·refine thn (T.done (blk X scope (cellsFrom (s3.heap.objs.size+1) scope.names cls) s3.heap.objs.size fp s3 H3) rfl rfl rfl hc i [] s5 (clr σ) H5 (fun _ _=>False) I5 (stat I5 fr5) st5 stop) fun r s6 ⟨hr,I6⟩=>?_
   subst hr
   exact fin I6 qn
  ·refine thn (T.item (blk X scope (cellsFrom (s3.heap.objs.size+1) scope.names cls) s3.heap.objs.size fp s3 H3) rfl rfl rfl hc i [] s5 (clr σ) H5 (fun _ _=>False) I5 (stat I5 fr5) st5 go) fun r s6 ⟨u,hr,h6⟩=>?_
   subst hr
   refine thn h6 fun _ s7 ⟨x,H7,I7,r7,y7,st7,fr7⟩=>?_
   have I7':=I7.pinned (stat I7 fr7) (T.obj _ _ st7)
   have back:∀ {σ':St} {H':Hp} {s':Shared},Inv (blk X scope (cellsFrom (s3.heap.objs.size+1) scope.names cls) s3.heap.objs.size fp s3 H3) ([]++gC fp s7.heap) σ' H' s'->(clr σ).length=σ'.length->(∀ (i:Nat) v,(clr σ)[i]?=some (some v)->σ'[i]?=some (some v))->(∃ m ys',m<n/\W (i+1) m ys' H') ->
     ∃ m,m<n/\∃ i ys H',Inv (blk X scope (cellsFrom (s3.heap.objs.size+1) scope.names cls) s3.heap.objs.size fp s3 H3) [] (clr σ) H' s'/\tn i s'.heap/\(∀ b∈fp,H' b=none)/\W i m ys H':=fun {σ' H' s'} J el ew hw=>by
    obtain⟨m,ys',hm,w8⟩:=hw
    refine⟨m,hm,i+1,ys',H',J.fZ.weak el ew,T.keep _ _ _ st7 fun b hb o e=>(J.pin (b,o) (List.mem_append_right _ (List.mem_append_right _ (dU hb e)))).1,fun b hb=>?_,w8⟩
    obtain⟨o,e,d⟩:=T.obj _ _ st7 b hb
    exact(J.pin (b,o) (List.mem_append_right _ (List.mem_append_right _ (dU hb e)))).2.1
   refine thn (B.htg _ s3.heap.objs.size fp s3 H3 _ s7 (clr σ) H7 x u _ I7' r7 (B.u5 x σ H7 _ (step x H7 y7))) fun _ s8 ⟨σ8,H8,I8,q8,el8,ew8⟩=>?_
   refine thn (B.htc _ s3.heap.objs.size fp s3 H3 _ s8 σ8 H8 _ I8 q8) fun ok s9 ⟨H9,I9,q9⟩=>?_
   cases ok with
   |false=>
    have q9:∃ m',m'<n/\W (i+1) m' ys H9:=q9
    obtain⟨m',hm,w9⟩:=q9
    exact back I9 el8 ew8 ⟨m',ys,hm,w9⟩
   |true=>
    refine thn (B.hte _ s3.heap.objs.size fp s3 H3 _ s9 σ8 H9 _ I9 q9) fun v s10 ⟨y,H10,I10,r10,hl10,hz,m',hm,w10⟩=>?_
    refine thn (kD (X:=blk X scope (cellsFrom (s3.heap.objs.size+1) scope.names cls) s3.heap.objs.size fp s3 H3) _ s10 σ8 H10 (.ref s2.heap.objs.size) [y] (.ref s2.heap.objs.size) [v] (fun _ H'=>H'=upd H10 s2.heap.objs.size (.lst (ys++[y]))) I10 rfl (.cons r10 .nil) ⟨_,ys,y,rfl,rfl,hl10,hz,rfl⟩) fun _ s11 ⟨_,H11,I11,_,e11⟩=>?_
    subst e11
    exact back I11 el8 ew8 ⟨m',_,hm,w10⟩
 exact codeAny_compStart_list loop (T.self _ 0 _ _ _ st4 loop)
theorem oK{elt tg iter:Expr}{ifs:List Expr}{pos:Pos}{wi:TI}{clr:St->St}{g:TG}{tc:TT}{te:TE}(hc:X.calm=true)(S:dI scope X.env.scope cls X.env.cells)(hclos:closureFor scope X.env=pure cls)
 (hi:PI X tg iter wi)(B:lr X scope tg ifs elt clr g tc te)(hs:∀ x,foldedSetIterable iter X.env x=pure x):PE X (.ListComp elt [⟨tg,iter,ifs,0⟩] scope pos) (f9 wi clr g tc te):=by
 intro pins s σ H Q I h
 rw[eval_ListComp]
 refine wpAny_comprehension_free (use:=none) rfl hs hclos S.kind S.loc (kN (RR:=fun acc C=>compPost (model X.prog X.w) X.A X.xe none (EP X pins σ Q) acc C) hc S hi B I h ?_)
 intro l C H' s' J hn c0 c1 c2 c3 c4 q
 obtain⟨m,hn⟩:=hn
 exact⟨m,hn,fun h' sb=>⟨.ref l,H',J.turned (it:=C) (h':=h') (t':=s'.toks) (fun b o hb e=>(sb.2 b hb).trans e) c0 (Ne.symm (Ne.symm c1)) (.inr c2) c3 c4,rfl,q⟩⟩
noncomputable def zO(i:Nat)(t:TE):TS:=fun D σ H=>t σ H fun v H1=>D.nx (σ.set i (some v)) H1
theorem om{elt tg iter:Expr}{ifs:List Expr}{pos spos py:Pos}{y:Str}{i:Nat}{wi:TI}{clr:St->St}{g:TG}{tc:TT}{te:TE}(hc:X.calm=true)(hN:X.N.Nodup)(hiy:X.N[i]?=some y)(hy:X.env.scope.names.lookup y=some .local)
 (S:dI scope X.env.scope cls X.env.cells)(hclos:closureFor scope X.env=pure cls)
 (hi:PI X tg iter wi)(B:lr X scope tg ifs elt clr g tc te)(hs:∀ x,foldedSetIterable iter X.env x=pure x)
 (hsw:swapsWith (.ListComp elt [⟨tg,iter,ifs,0⟩] scope pos) (some (.Name y py)) spos.line X.env=pure true) :
  PS X (.Assign [.Name y py] (.ListComp elt [⟨tg,iter,ifs,0⟩] scope pos) spos) (zO i (f9 wi clr g tc te)):=by
 intro pins s σ H D I h
 have back:∀ (l C:Addr) (H':Hp) (s':Shared),Inv X pins σ H' s'->(∃ m,s'.heap.Ns C m)->H' C=none->C≠X.env.locals->X.s₀.heap.objs.size<=C->(∀ x c,X.env.cells.lookup x=some c->c≠C)->(∀ p∈X.pn++pins,p.1≠C)->D.nx (σ.set i (some (.ref l))) H' ->
   compPost (model X.prog X.w) X.A X.xe (some (assign (.Name y py) X.env)) (fun _ s'=>SP X pins D .next s') (.ref l) C (.ok .next) s':=by
  intro l C H' s' J hn c0 c1 c2 c3 c4 q
  obtain⟨m,hn⟩:=hn
  show wpAny _ X.A (assign (.Name y py) X.env (.ref l)) _ _ s'
  refine wpAny_assign_Name (kX (v:=.ref l) J hN hiy (.inl hy) rfl (fun s2 J2 ⟨a,sb,ha⟩=>?_) (.inr hy))
  have hne:C≠a:=by
   rcases ha with z | z
   ·rw[z];exact c1
   ·exact(c3 _ _ z).symm
  exact⟨m,hn.sameBut sb hne,fun h' sb'=>⟨σ.set i (some (.ref l)),H',J2.turned (it:=C) (h':=h') (t':=s2.toks) (fun b o hb e=>(sb'.2 b hb).trans e) c0 c1 (.inr c2) c3 c4,q⟩⟩
 have core:=kN (RR:=fun acc C=>compPost (model X.prog X.w) X.A X.xe (some (assign (.Name y py) X.env)) (fun _ s'=>SP X pins D .next s') acc C) (pos:=pos) hc S hi B I h back
 have whole:=wpAny_comprehension_free (e:=.ListComp elt [⟨tg,iter,ifs,0⟩] scope pos) (newAcc:=newList []) (use:=some (assign (.Name y py) X.env)) (Q:=fun _ s'=>SP X pins D .next s') (pos:=iter.pos) rfl hs hclos S.kind S.loc core
 rw[exec_Assign_Name_used (hs:=hsw)]
 apply wpAny_bind
 apply wpAny_standAt
 apply wpAny_bind
 apply wpAny_bind
 refine thn whole fun _ s' hq=>?_
 apply wpAny_pure
 apply wpAny_pure
 exact hq
end
end L2
namespace RS
open PySem PySem.Spec PyProof.Rows L2
theorem fQ{env:Env}:∀ (names:List (Str × NameKind)) (acc:List (Str × Addr)),(∀ x,(x,NameKind.free)∈names->∃ c,env.cells.lookup x=some c)->(∀ x c,acc.lookup x=some c->env.cells.lookup x=some c) ->
  ∃ cls,(forIn names acc fun(p:Str × NameKind) cs=>match p with | (name,kind)=>if(kind == NameKind.free)=true then do let c <- cellOf env name;pure (ForInStep.yield ((name,c)::cs))else pure (ForInStep.yield cs):Sem (List (Str × Addr)))=pure cls /\
   (∀ x c,cls.lookup x=some c->env.cells.lookup x=some c)/\(∀ x,(acc.lookup x).isSome=true\/(x,NameKind.free)∈names->∃ c,cls.lookup x=some c)
 | [],acc,_,ha=>⟨acc,rfl,ha,fun x hx=>by
   rcases hx with h | h
   ·exact Option.isSome_iff_exists.mp h
   ·simp at h⟩
 | (n,k)::r,acc,hn,ha=>by
  by_cases hk:k=.free
  ·subst hk
   obtain⟨c,hc⟩:=hn n List.mem_cons_self
   have ha':∀ x c',((n,c)::acc).lookup x=some c'->env.cells.lookup x=some c':=fun x c' e=>by
    rw[List.lookup_cons]at e
    cases hx:x == n with
    |true=>
     rw[hx]at e
     cases e
     rw[show x=n by simpa using hx]
     exact hc
    |false=>
     rw[hx]at e
     exact ha x c' e
   obtain⟨cls,h1,h2,h3⟩:=fQ r ((n,c)::acc) (fun x hx=>hn x (List.mem_cons_of_mem _ hx)) ha'
   refine⟨cls,?_,h2,fun x hx=>h3 x ?_⟩
   ·rw[List.forIn_cons]
    have hcell:cellOf env n=pure c:=by unfold cellOf;rw[hc]
    simp only[beq_self_eq_true,if_true,hcell]
    exact h1
   ·rcases hx with h | h
    ·left
     rw[List.lookup_cons]
     split<;>simp_all
    ·rcases List.mem_cons.mp h with e | e
     ·cases e
      left
      simp[List.lookup_cons]
     ·exact .inr e
  ·obtain⟨cls,h1,h2,h3⟩:=fQ r acc (fun x hx=>hn x (List.mem_cons_of_mem _ hx)) ha
   refine⟨cls,?_,h2,fun x hx=>h3 x ?_⟩
   ·rw[List.forIn_cons]
    have:(k == NameKind.free)=false:=by simpa using hk
    simp only[this,Bool.false_eq_true,if_false]
    exact h1
   ·rcases hx with h | h
    ·exact .inl h
    ·rcases List.mem_cons.mp h with e | e
     ·cases e
      exact absurd rfl hk
     ·exact .inr e
theorem pN{env:Env}{scope:Scope}(h:∀ x,(x,NameKind.free)∈scope.names->∃ c,env.cells.lookup x=some c) :
  ∃ cls,closureFor scope env=pure cls/\(∀ x c,cls.lookup x=some c->env.cells.lookup x=some c)/\(∀ x,scope.names.lookup x=some .free->∃ c,cls.lookup x=some c):=by
 obtain⟨cls,h1,h2,h3⟩:=fQ (env:=env) scope.names [] h (fun x c e=>by simp at e)
 refine⟨cls,?_,h2,fun x hx=>h3 x (.inr (PySem.mem_of_lookup hx))⟩
 unfold closureFor
 simp only[bind_pure_comp]at h1 ⊢
 rw[h1]
 rfl
section
variable{X:Cx}{pos:Pos}
noncomputable def kn(K:PySem.W.Frag)(n:Nat)(t:TGs):TG:=fun v σ H Q=>∃ a xs,v=.ref a/\SqL K H a xs/\xs.length=n/\t xs σ H Q
theorem qI{es:List Expr}{k:Nat}{t:TGs}{n:Nat}(hc:X.calm=true)(h:PGs X es t)(hn:(assignEach es X.env).length=n)(hst:(assignEach es X.env).findIdx? (·.1)=none):PG X (.Tuple es k pos) (kn X.K n t):=by
 intro pins s σ H v u Q I r hw
 obtain⟨a,xs,e1,hq,hl,hw⟩:=hw
 subst e1
 cases r
 obtain⟨its,rv,ht,hz⟩:=I.list hq
 have hsz:(assignEach es X.env).length=its.toArray.size:=by rw[hn,<-hl,rv.length,List.size_toArray]
 rw[PyProof.Rows.assign_Tuple]
 refine wpAny_bind (wpAny_standAt ?_)
 unfold unpack
 rw[hsz,hst]
 refine wpAny_bind (wpAny_holding (PySem.W.kun_itemsOf (I.ok.hd hc) ht.isList fun h' hx=>?_))
 have I1:Inv X pins σ H { s with heap:=h' }:=I.kept (t':=s.toks) fun b o e=>hx b o (Nat.ne_of_lt (Heap.lt_size e)) e
 exact h pins _ σ H xs _ Q I1 (by simpa using rv) hw
end
section
variable{X:Cx}
theorem qq{tgE:Expr}{t t':TG}(h:PG X tgE t)(h':PG X tgE t'):PG X tgE (fun v σ H Q=>t v σ H Q\/t' v σ H Q):=by
 intro pins s σ H v u Q I r hw
 rcases hw with q | q
 ·exact h pins s σ H v u Q I r q
 ·exact h' pins s σ H v u Q I r q
end
noncomputable def gs:List Nat->TGs
 | []=>yE
 | i::r=>uy (l8 i) (gs r)
noncomputable def gT(K:PySem.W.Frag):List Nat->TG
 | [i]=>l8 i
 | is=>fun v σ H Q=>kr K is.length (gs is) v σ H Q\/kn K is.length (gs is) v σ H Q
noncomputable def cm:List Nat->List V->L2.St->L2.St
 | i::is,v::vs,σ=>cm is vs (σ.set i (some v))
 | _,_,σ=>σ
noncomputable def cQ:List Nat->List RL.D->RL.St->RL.St
 | i::is,d::ds,σ=>cQ is ds (σ.set i (some d))
 | _,_,σ=>σ
theorem dN:∀ {is:List Nat} {ds:List RL.D} {σ σ1:RL.St},RL.bg is ds σ=some σ1->is.length=ds.length/\σ1=cQ is ds σ
 | [],[],σ,σ1,h=>by cases h;exact⟨rfl,rfl⟩
 | [],d::ds,σ,σ1,h=>by cases h
 | i::is,[],σ,σ1,h=>by cases h
 | i::is,d::ds,σ,σ1,h=>by
  obtain⟨h1,h2⟩:=dN (is:=is) (ds:=ds) (σ:=σ.set i (some d)) h
  exact⟨by simp[h1],h2⟩
theorem fL:∀ {is:List Nat} {vs:List V} {σ:L2.St} {H:Hp} {Q:L2.St->Hp->Prop},is.length=vs.length->Q (cm is vs σ) H->gs is vs σ H Q
 | [],[],σ,H,Q,_,q=>⟨rfl,q⟩
 | [],_::_,_,_,_,h,_=>by simp at h
 | _::_,[],_,_,_,h,_=>by simp at h
 | i::is,v::vs,σ,H,Q,h,q=>⟨v,vs,rfl,fL (is:=is) (by simpa using h) q⟩
theorem uz{K:PySem.W.Frag}{tg:List Nat}{d:RL.D}{v:V}{σD σD1:RL.St}{H:Hp}(h:RL.aI tg d σD=some σD1)(r:Rep nP K H d v) :
  ∃ ds vs,σD1=cQ tg ds σD/\tg.length=ds.length/\ab nP K H ds vs/\(d.imm=true->RL.au ds=true)/\∀ (σ:L2.St) (Q:L2.St->Hp->Prop),Q (cm tg vs σ) H->gT K tg v σ H Q:=by
 unfold RL.aI at h
 split at h
 ·rename_i i
  cases h
  exact⟨[d],[v],rfl,rfl,ab.cons r ab.nil,fun z=>by simp[RL.au,z],fun σ Q q=>q⟩
 ·rename_i hne
  have key:gT K tg=fun v σ H Q=>kr K tg.length (gs tg) v σ H Q\/kn K tg.length (gs tg) v σ H Q:=by
   unfold gT
   split
   ·rename_i i
    exact absurd rfl (hne i)
   ·rfl
  rw[key]
  split at h
  ·rename_i ds
   obtain⟨h1,h2⟩:=dN h
   obtain⟨p,xs,rfl,e2,e3⟩:=aR r
   exact⟨ds,xs,h2,h1,e3,fun z=>by rw[RL.D.imm]at z;exact z,fun σ Q q=>.inl ⟨p,xs,rfl,SqT.of e2,by rw[<-e3.length,h1],fL (h1.trans e3.length) q⟩⟩
  ·rename_i ds
   obtain⟨h1,h2⟩:=dN h
   obtain⟨p,xs,rfl,_,e2,e3⟩:=a6 r
   exact⟨ds,xs,h2,h1,e3,fun z=>(by cases z),fun σ Q q=>.inr ⟨p,xs,rfl,SqL.of e2,by rw[<-e3.length,h1],fL (h1.trans e3.length) q⟩⟩
  ·cases h
theorem mL:∀ (is:List Nat) (vs:List V) (σ:L2.St),(cm is vs σ).length=σ.length
 | [],_,_=>rfl
 | _::_,[],_=>rfl
 | i::is,v::vs,σ=>by rw[cm,mL is vs,List.length_set]
theorem k7:∀ (is:List Nat) (vs:List V) (σ:L2.St) (j:Nat),is.contains j=false->(cm is vs σ)[j]?=σ[j]?
 | [],_,_,_,_=>rfl
 | _::_,[],_,_,_=>rfl
 | i::is,v::vs,σ,j,h=>by
  rw[List.contains_cons,Bool.or_eq_false_iff]at h
  rw[cm,k7 is vs _ j h.2,List.getElem?_set_ne (by intro e;subst e;simp at h)]
theorem iZ:∀ (is:List Nat) (vs:List RL.D) (σ:RL.St),(cQ is vs σ).length=σ.length
 | [],_,_=>rfl
 | _::_,[],_=>rfl
 | i::is,v::vs,σ=>by rw[cQ,iZ is vs,List.length_set]
theorem iq:∀ (is:List Nat) (vs:List RL.D) (σ:RL.St) (j:Nat),is.contains j=false->(cQ is vs σ)[j]?=σ[j]?
 | [],_,_,_,_=>rfl
 | _::_,[],_,_,_=>rfl
 | i::is,v::vs,σ,j,h=>by
  rw[List.contains_cons,Bool.or_eq_false_iff]at h
  rw[cQ,iq is vs _ j h.2,List.getElem?_set_ne (by intro e;subst e;simp at h)]
noncomputable def RVx(T:List Nat)(K:PySem.W.Frag)(σD:RL.St)(σ:L2.St)(H:Hp):Prop:=σD.length<=σ.length/\∀ (i:Nat) (d:RL.D),T.contains i=false->σD[i]?=some (some d)->∃ v,σ[i]?=some (some v)/\Rep nP K H d v
theorem RVx.set{K:PySem.W.Frag}{σD:RL.St}{σ:L2.St}{H:Hp}{i:Nat}{T:List Nat}{d:RL.D}{v:V}(h:RVx (i::T) K σD σ H)(r:Rep nP K H d v):RVx T K (σD.set i (some d)) (σ.set i (some v)) H:=⟨by simpa using h.1,fun j dj hT e=>by
 by_cases hj:j=i
 ·subst hj
  have hlt:j<σD.length:=by
   have:=(List.getElem?_eq_some_iff.mp e).1
   simpa using this
  rw[List.getElem?_set_self hlt]at e
  cases e
  exact⟨v,by rw[List.getElem?_set_self (Nat.lt_of_lt_of_le hlt h.1)],r⟩
 ·rw[List.getElem?_set_ne (Ne.symm hj)]at e ⊢
  exact h.2 j dj (by rw[List.contains_cons,hT,Bool.or_false];simpa using hj) e⟩
theorem RVx.bg{K:PySem.W.Frag}{H:Hp}:∀ {is:List Nat} {ds:List RL.D} {vs:List V} {σD:RL.St} {σ:L2.St},RVx is K σD σ H->is.length=ds.length->ab nP K H ds vs->RV0 K (cQ is ds σD) (cm is vs σ) H
 | [],_,_,_,_,h,_,_=>⟨h.1,fun i d e=>h.2 i d rfl e⟩
 | i::is,[],_,_,_,_,hl,_=>by simp at hl
 | i::is,d::ds,vs,σD,σ,h,hl,r=>by
  rw[ab]at r
  obtain⟨v,t,rfl,r1,r2⟩:=r
  rw[cQ,cm]
  exact RVx.bg (h.set r1) (by simpa using hl) r2
theorem wK{K:PySem.W.Frag}{tg:List Nat}{v:V}{σ:L2.St}{H:Hp}{Q:L2.St->Hp->Prop}(h:gT K tg v σ H Q):∃ vs,tg.length=vs.length/\Q (cm tg vs σ) H/\∀ Q':L2.St->Hp->Prop,Q' (cm tg vs σ) H->gT K tg v σ H Q':=by
 have inv:∀ (is:List Nat) (xs:List V) (σ:L2.St) (Q:L2.St->Hp->Prop),gs is xs σ H Q->is.length=xs.length/\Q (cm is xs σ) H:=by
  intro is
  induction is with
  | nil=>intro xs σ Q h;obtain⟨rfl,q⟩:=h;exact⟨rfl,q⟩
  |cons i r ih=>
   intro xs σ Q h
   obtain⟨v,t,rfl,q⟩:=h
   obtain⟨h1,h2⟩:=ih t _ Q q
   exact⟨by simp[h1],h2⟩
 unfold gT at h
 split at h
 ·rename_i i
  exact⟨[v],rfl,h,fun Q' q=>q⟩
 ·rename_i hne
  have key:gT K tg=fun v σ H Q=>kr K tg.length (gs tg) v σ H Q\/kn K tg.length (gs tg) v σ H Q:=by
   unfold gT
   split
   ·rename_i i
    exact absurd rfl (hne i)
   ·rfl
  rw[key]
  rcases h with⟨a,xs,rfl,hq,hl,hg⟩ | ⟨a,xs,rfl,hq,hl,hg⟩
  ·obtain⟨h1,h2⟩:=inv _ _ _ _ hg
   exact⟨xs,h1,h2,fun Q' q=>.inl ⟨a,xs,rfl,hq,hl,fL h1 q⟩⟩
  ·obtain⟨h1,h2⟩:=inv _ _ _ _ hg
   exact⟨xs,h1,h2,fun Q' q=>.inr ⟨a,xs,rfl,hq,hl,fL h1 q⟩⟩
noncomputable def dQ(tg:List Nat)(σ:L2.St):L2.St:=σ.mapIdx fun i o=>if tg.contains i then none else o
theorem nv(tg:List Nat)(σ:L2.St):(dQ tg σ).length=σ.length:=by simp[dQ]
theorem nR{tg:List Nat}{σ:L2.St}{i:Nat}(h:tg.contains i=false):(dQ tg σ)[i]?=σ[i]?:=by
 unfold dQ
 rw[List.getElem?_mapIdx]
 cases σ[i]? with
 | none=>rfl
 | some o=>simp only[Option.map_some,h,Bool.false_eq_true,if_false]
theorem oz{tg:List Nat}{σ:L2.St}{i:Nat}{v:V}(h:tg.contains i=true):(dQ tg σ)[i]?≠some (some v):=by
 unfold dQ
 rw[List.getElem?_mapIdx]
 cases σ[i]? with
 | none=>simp
 | some o=>simp only[Option.map_some,h,if_true];intro z;cases z
section comp
variable{X:Cx}{cl:RL.Cl}{tgE iter elt c:Expr}{e' c':RL.E}{it:RL.It}{tg:List Nat}{scope:Scope}{cls:List (Str × Addr)}{pos:Pos}{ifs:List Expr}
structure ij(X:Cx)(cl:RL.Cl)(scope:Scope)(tgE:Expr)(tg:List Nat)(elt:Expr)(e':RL.E)(tcs:TT)(ifs:List Expr):Prop where
 htg:∀ cls C fp s H,PG (blk X scope cls C fp s H) tgE (gT X.K tg)
 htc:∀ cls C fp s H pins s' σ H' Q,Inv (blk X scope cls C fp s H) pins σ H' s'->tcs σ H' Q->wpAny (model X.prog X.w) X.A (eN ifs (compEnvC scope cls C X.env)) (TP (blk X scope cls C fp s H) pins σ Q) (fun _ _=>False) s'
 hte:∀ cls C fp s H,SE (blk X scope cls C fp s H) cl elt e'
 cover:∀ (i:Nat) (x:Str),X.N[i]?=some x->scope.names.lookup x=some .local\/scope.names.lookup x=some .cell->tg.contains i=true
theorem ij.blk{tcs:TT}(B:ij X cl scope tgE tg elt e' tcs ifs):lr X scope tgE ifs elt (dQ tg) (gT X.K tg) tcs (tE X.K cl e') where
 htg:=B.htg
 htc:=B.htc
 hte:=B.hte
 xK:=fun σ hl=>⟨nv tg σ,fun i x v h1 h2=>by
  by_cases hc:tg.contains i=true
  ·exact absurd h2 (oz hc)
  ·simp only[Bool.not_eq_true]at hc
   rw[nR hc]at h2
   refine⟨h2,fun z=>?_,fun z=>?_⟩
   ·rw[B.cover i x h1 (.inl z)]at hc
    cases hc
   ·rw[B.cover i x h1 (.inr z)]at hc
    cases hc⟩
 u5:=fun x σ H Q h=>by
  obtain⟨vs,h1,h2,h3⟩:=wK h
  refine h3 _ ⟨h2,(mL _ _ _).symm,fun i v e=>?_⟩
  by_cases hc:tg.contains i=true
  ·exact absurd e (oz hc)
  ·simp only[Bool.not_eq_true]at hc
   rw[k7 _ _ _ _ hc]
   exact e
theorem qS{f:RL.St->Option (Option RL.D)}{σ:RL.St}{d:RL.D}{r ys:List RL.D}(h:RL.c6 f tg σ (d::r)=some ys):∃ σ1 y ys',RL.aI tg d σ=some σ1/\f σ1=some y/\RL.c6 f tg σ r=some ys'/\RL.jc y ys'=some ys:=by
 rw[RL.c6]at h
 obtain⟨σ1,h1,h⟩:=bind_some h
 obtain⟨y,h2,h⟩:=bind_some h
 obtain⟨ys',h3,h⟩:=bind_some h
 exact⟨σ1,y,ys',h1,h2,h3,h⟩
theorem oV{tcs:TT}{f:RL.St->Option (Option RL.D)}{σ:L2.St}{H:Hp}{Q:VK}{σD:RL.St}{ds total:List RL.D}(rv:RV0 X.K σD σ H)(ei:RL.aZ cl σD it=some ds)(hz:ds.length<=RL.most)(hm:RL.c6 f tg σD ds=some total)
 (ht:∀ σ1 σV H y (Q:Bool->Hp->Prop),RV0 X.K σ1 σV H->f σ1=some y->(∀ k H',ax H H'->(if k=true then ∃ d,y=some d/\RL.ev cl σ1 e'=some d else y=none)->Q k H')->tcs σV H Q)
 (k:∀ l H',ax H H'->H l=none->(∃ xs,H' l=some (.lst xs)/\ab nP X.K H' total xs)->Q (.ref l) H'):f9 (tI X.K cl it) (dQ tg) (gT X.K tg) tcs (tE X.K cl e') σ H Q:=by
 refine⟨σD,ds,rv,ei,fun J H1 s1 src l hl=>?_⟩
 obtain⟨ok,_⟩:=src
 refine⟨fun i m xs H2=>∃ don rest,m=ds.length-i/\i<=ds.length/\ax H1 H2/\H2 l=some (.lst xs)/\ab (fun p=>p=l) X.K H2 don xs/\RL.c6 f tg σD (ds.drop i)=some rest/\don++rest=total/\don.length<=i,
  ⟨_,[],total,rfl,Nat.zero_le _,ax.bI hl,bb,ab.nil,hm,rfl,Nat.le_refl _⟩,?_⟩
 rintro i m xs H2 ⟨don,rest,rfl,hi,s2,hl2,rs,hr,htot,hdn⟩
 refine⟨hl2,?_⟩
 have off:Off nP H1 H2:=Off.same s2
 by_cases hlt:i<ds.length
 ·refine .inr ⟨ok.go H2 i off hlt,fun x H3 y=>?_⟩
  have hd:ds[i]?=some ds[i]:=by simp[hlt]
  obtain⟨s3,rp⟩:=ok.yld H2 i ds[i] x H3 off hd y
  have rp:=rp (.inr s2)
  rw[List.drop_eq_getElem_cons hlt]at hr
  obtain⟨σ1,y1,ys',h1,h2,h3,h4⟩:=qS hr
  obtain⟨dv,vs,e1,e2,e3,_,e5⟩:=uz h1 rp
  refine e5 _ _ ?_
  have rv3:RV0 X.K σD σ H3:=rv.same ((s1.trans s2).trans s3)
  have rvx:RVx tg X.K σD (dQ tg σ) H3:=⟨by rw[nv];exact rv3.1,fun j d hT e=>by rw[nR hT];exact rv3.2 j d e⟩
  have rv1:RV0 X.K σ1 (cm tg vs (dQ tg σ)) H3:=by rw[e1];exact rvx.bg e2 e3
  refine ht σ1 _ H3 y1 _ rv1 h2 fun t H5 s5 hy=>?_
  have hl5:H5 l=some (.lst xs):=s5 _ _ (s3 _ _ hl2)
  have rs5:ab (fun p=>p=l) X.K H5 don xs:=(rs.same s3).same s5
  cases t with
  |true=>
   obtain⟨d,rfl,hv⟩:=(show ∃ d,y1=some d/\RL.ev cl σ1 e'=some d from hy)
   have him:d.imm=true/\rest=d::ys':=by
    unfold RL.jc at h4
    dsimp only at h4
    split at h4
    ·rename_i hh
     cases h4
     exact⟨hh,rfl⟩
    ·cases h4
   refine dB ⟨σ1,d,rv1.same s5,hv,fun v H6 r6=>⟨r6.same _ _ hl5,?_,ds.length-(i+1),by lia,don++[d],ys',rfl,hlt,?_,bb,?_,h3,?_,?_⟩⟩
   ·rw[<-rs.length]
    exact Nat.lt_of_lt_of_le (Nat.lt_of_le_of_lt hdn (Nat.lt_of_lt_of_le hlt hz)) (Nat.le_of_lt (by decide))
   ·intro b o e
    have hb:b≠l:=aG e hl
    rw[aH hb]
    exact r6.same _ _ (s5 _ _ (s3 _ _ (s2 _ _ e)))
   ·exact ab.upd (P:=fun p=>p=l) (r6.same _ _ hl5) (.inl ⟨_,rfl⟩) rfl (ab.append (rs5.same r6.same) (ab.cons (r6.rep.imm him.1) ab.nil))
   ·rw[<-htot,him.2,List.append_assoc]
    rfl
   ·rw[List.length_append,List.length_singleton]
    lia
  |false=>
   have hy:y1=none:=hy
   subst hy
   have hr2:rest=ys':=by
    unfold RL.jc at h4
    dsimp only at h4
    cases h4
    rfl
   refine dP ⟨ds.length-(i+1),by lia,don,ys',rfl,hlt,(s2.trans s3).trans s5,hl5,rs5,h3,by rw[<-htot,hr2],by lia⟩
 ·have e:i=ds.length:=by lia
  subst e
  refine .inl ⟨ok.stop H2 off,k l H2 (s1.trans s2) (s1.free hl) ⟨xs,hl2,?_⟩⟩
  rw[List.drop_length,RL.c6]at hr
  cases hr
  rw[List.append_nil]at htot
  rw[<-htot]
  exact ab.weak (fun _ z=>z.elim) rs
end comp
section comp
variable{X:Cx}{cl:RL.Cl}{tgE iter elt c:Expr}{e' c':RL.E}{it:RL.It}{tg:List Nat}{scope:Scope}{pos:Pos}{ifs:List Expr}
structure jS(scope sc:Scope):Prop where
 kind:scope.kind=.function
 own:∀ x∈scope.names,x.2=.cell->scope.names.lookup x.1=some .cell
 loc:∀ x∈scope.names,x.2=.local->scope.names.lookup x.1=some .local
 vis:∀ x∈scope.names,x.2=.free->sc.names.lookup x.1=some .cell\/sc.names.lookup x.1=some .free
theorem eh{pins:List (Addr × Obj)}{σ:L2.St}{H:Hp}{s:Shared}(S:jS scope X.env.scope)(I:Inv X pins σ H s):∃ cls,closureFor scope X.env=pure cls/\dI scope X.env.scope cls X.env.cells:=by
 obtain⟨cls,h1,h2,h3⟩:=pN (env:=X.env) (scope:=scope) fun x hx=>I.ok.has x (S.vis _ hx rfl)
 exact⟨cls,h1,S.kind,S.own,S.loc,h2,h3,fun x hx=>S.vis _ (PySem.mem_of_lookup hx) rfl⟩
theorem mZ{σD:RL.St}{σ:L2.St}{H H':Hp}{e:RL.E}{l:Addr}{total:List RL.D}(sm:ax H H')(hl:H l=none)(h:∃ xs,H' l=some (.lst xs)/\ab nP X.K H' total xs)(hav:∀ M,RL.avE M e=false):Res X.K σD σ H e (.lst total) (.ref l) H' where
 same:=sm
 rep:=by
  obtain⟨xs,h1,h2⟩:=h
  rw[Rep]
  exact⟨l,xs,rfl,fun z=>z,h1,h2⟩
 fresh:=fun _ _ a z=>by cases z;exact hl
 av:=fun M z=>by rw[hav M]at z;cases z
noncomputable def jA:TT:=fun _ H Q=>Q true H
theorem nj{σ:L2.St}{H:Hp}{Q:VK}(h:tE X.K cl (.compA e' tg it) σ H Q):f9 (tI X.K cl it) (dQ tg) (gT X.K tg) jA (tE X.K cl e') σ H Q:=by
 obtain⟨σD,d,rv,e,k⟩:=h
 rw[RL.ev]at e
 obtain⟨ds,e1,e⟩:=bind_some e
 obtain⟨ds',e2,e⟩:=bind_some e
 obtain⟨total,e3,e4⟩:=map_some e
 unfold RL.fits at e2
 split at e2
 ·rename_i hz
  cases e2
  subst e4
  refine oV (f:=fun σ1=>(RL.ev cl σ1 e').map some) rv e1 hz e3 (fun σ1 σV H y Q rv1 hy q=>?_) fun l H' sm hl hx=>k _ _ (mZ sm hl hx fun _=>rfl)
  obtain⟨d,h1,h2⟩:=map_some hy
  exact q true H (ax.refl H) (dB ⟨d,h2.symm,h1⟩)
 ·cases e2
theorem lY{σ:L2.St}{H:Hp}{Q:VK}(h:tE X.K cl (.comp e' tg it c') σ H Q):f9 (tI X.K cl it) (dQ tg) (gT X.K tg) (tT X.K cl c') (tE X.K cl e') σ H Q:=by
 obtain⟨σD,d,rv,e,k⟩:=h
 rw[RL.ev]at e
 obtain⟨ds,e1,e⟩:=bind_some e
 obtain⟨ds',e2,e⟩:=bind_some e
 obtain⟨total,e3,e4⟩:=map_some e
 unfold RL.fits at e2
 split at e2
 ·rename_i hz
  cases e2
  subst e4
  refine oV rv e1 hz e3 (fun σ1 σV H y Q rv1 hy q=>?_) fun l H' sm hl hx=>k _ _ (mZ sm hl hx fun _=>rfl)
  obtain⟨t,h1,h2⟩:=bind_some hy
  refine⟨σ1,t,rv1,h1,fun H' sm=>q t H' sm ?_⟩
  cases t with
  |true=>
   obtain⟨d,h3,h4⟩:=map_some (show(RL.ev cl σ1 e').map some=some y from h2)
   exact dB ⟨d,h4.symm,h3⟩
  |false=>
   cases(show(some none:Option (Option RL.D))=some y from h2)
   exact dP rfl
 ·cases e2
theorem sD(hc:X.calm=true)(S:jS scope X.env.scope)(hi:SI X cl tgE iter it)(B:ij X cl scope tgE tg elt e' jA [])(hs:∀ x,foldedSetIterable iter X.env x=pure x):SE X cl (.ListComp elt [⟨tgE,iter,[],0⟩] scope pos) (.compA e' tg it):=by
 intro pins s σ H Q I h
 obtain⟨cls,h1,h2⟩:=eh S I
 exact oK hc h2 h1 hi B.blk hs pins s σ H Q I (nj h)
theorem tH(hc:X.calm=true)(S:jS scope X.env.scope)(hi:SI X cl tgE iter it)(B:ij X cl scope tgE tg elt e' (tT X.K cl c') [c])(hs:∀ x,foldedSetIterable iter X.env x=pure x):SE X cl (.ListComp elt [⟨tgE,iter,[c],0⟩] scope pos) (.comp e' tg it c'):=by
 intro pins s σ H Q I h
 obtain⟨cls,h1,h2⟩:=eh S I
 exact oK hc h2 h1 hi B.blk hs pins s σ H Q I (lY h)
noncomputable def SA(X:Cx)(cl:RL.Cl)(st:Stmt)(i:Nat)(e':RL.E):Prop:=PS X st (fun D σ H=>tE X.K cl e' σ H fun v H1=>D.nx (σ.set i (some v)) H1)
theorem PS.weak{st:Stmt}{t t':TS}(h:PS X st t)(w:∀ D σ H,t' D σ H->t D σ H):PS X st t':=fun pins s σ H D I q=>h pins s σ H D I (w D σ H q)
theorem PSs.weak{st:List Stmt}{t t':TS}(h:PSs X st t)(w:∀ D σ H,t' D σ H->t D σ H):PSs X st t':=fun pins s σ H D I q=>h pins s σ H D I (w D σ H q)
variable{y:Str}{i:Nat}{py spos:Pos}
theorem tD(hc:X.calm=true)(hN:X.N.Nodup)(hiy:X.N[i]?=some y)(hy:X.env.scope.names.lookup y=some .local)(S:jS scope X.env.scope)(hi:SI X cl tgE iter it)(B:ij X cl scope tgE tg elt e' jA [])(hs:∀ x,foldedSetIterable iter X.env x=pure x)
 (hsw:swapsWith (.ListComp elt [⟨tgE,iter,[],0⟩] scope pos) (some (.Name y py)) spos.line X.env=pure true):SA X cl (.Assign [.Name y py] (.ListComp elt [⟨tgE,iter,[],0⟩] scope pos) spos) i (.compA e' tg it):=by
 intro pins s σ H D I h
 obtain⟨cls,h1,h2⟩:=eh S I
 exact om hc hN hiy hy h2 h1 hi B.blk hs hsw pins s σ H D I (nj h)
theorem sf(hc:X.calm=true)(hN:X.N.Nodup)(hiy:X.N[i]?=some y)(hy:X.env.scope.names.lookup y=some .local)(S:jS scope X.env.scope)(hi:SI X cl tgE iter it)(B:ij X cl scope tgE tg elt e' (tT X.K cl c') [c])(hs:∀ x,foldedSetIterable iter X.env x=pure x)
 (hsw:swapsWith (.ListComp elt [⟨tgE,iter,[c],0⟩] scope pos) (some (.Name y py)) spos.line X.env=pure true):SA X cl (.Assign [.Name y py] (.ListComp elt [⟨tgE,iter,[c],0⟩] scope pos) spos) i (.comp e' tg it c'):=by
 intro pins s σ H D I h
 obtain⟨cls,h1,h2⟩:=eh S I
 exact om hc hN hiy hy h2 h1 hi B.blk hs hsw pins s σ H D I (lY h)
theorem sL{e:Expr}(hN:X.N.Nodup)(hiy:X.N[i]?=some y)(hx:Loc X.env.scope y)(he:SE X cl e e')(hf:X.fn y=true\/X.env.scope.names.lookup y=some .local)(hs:swapsWith e (some (.Name y py)) spos.line X.env=pure false)(hf2:True):SA X cl (.Assign [.Name y py] e spos) i e':=by
 exact xG hN hiy hx he hs hf
end comp
noncomputable def aW(M:List Nat)(σ:L2.St):Addr->Prop:=fun a=>∃ i,M.contains i=true/\σ[i]?=some (some (.ref a))
noncomputable def Own(K:PySem.W.Frag)(H:Hp)(d:RL.D)(v:V):Prop:=iS d=true/\RL.aJ d=true/\Rep nP K H d v
structure RVm(K:PySem.W.Frag)(M:List Nat)(σD:RL.St)(σ:L2.St)(H:Hp):Prop where
 len:σD.length=σ.length
 val:∀ (i:Nat) (d:RL.D),σD[i]?=some (some d)->∃ v,σ[i]?=some (some v)/\(if M.contains i=true then Own K H d v else Rep (aW M σ) K H d v)
 non:∀ (i:Nat) (v:V),σ[i]?=some (some v)->∃ d,σD[i]?=some (some d)
 sep:∀ (i j:Nat) (a:Addr),M.contains i=true->M.contains j=true->σ[i]?=some (some (.ref a))->σ[j]?=some (some (.ref a))->i=j
noncomputable def Fr'(M:List Nat)(σ:L2.St)(H:Hp)(σ':L2.St)(H':Hp):Prop:=(∀ b o,H b=some o->¬ aW M σ b->H' b=some o/\¬ aW M σ' b)/\∀ j,2<=M.count j->σ'[j]?=σ[j]?
theorem Fr'.trans{M:List Nat}{σ σ1 σ2:L2.St}{H H1 H2:Hp}(a:Fr' M σ H σ1 H1)(b:Fr' M σ1 H1 σ2 H2):Fr' M σ H σ2 H2:=⟨fun c o e n=>b.1 c o (a.1 c o e n).1 (a.1 c o e n).2,fun j hj=>(b.2 j hj).trans (a.2 j hj)⟩
theorem Fr'.same{M:List Nat}{σ:L2.St}{H H1:Hp}(s:ax H H1):Fr' M σ H σ H1:=⟨fun c o e n=>⟨s _ _ e,n⟩,fun _ _=>rfl⟩
theorem i9{M:List Nat}{j:Nat}(h:2<=M.count j):M.contains j=true:=by
 have:0<M.count j:=by lia
 simpa using List.count_pos_iff.mp this
section st
variable{K:PySem.W.Frag}{M:List Nat}{σD:RL.St}{σ:L2.St}{H H1:Hp}
theorem Own.ref{d:RL.D}{v:V}(h:Own K H d v):∃ a o,v=.ref a/\H a=some o/\bW o:=by
 obtain⟨m,_,r⟩:=h
 cases d with
 | lst ds=>obtain⟨a,xs,e1,_,e2,_⟩:=a6 r;exact⟨a,_,e1,e2,.inl ⟨_,rfl⟩⟩
 | dK ks ds=>rw[Rep]at r;obtain⟨a,xs,e1,_,e2,_⟩:=r;exact⟨a,_,e1,e2,.inr (.inl ⟨_,rfl⟩)⟩
 | dT ks ds=>rw[Rep]at r;obtain⟨a,xs,e1,_,e2,_⟩:=r;exact⟨a,_,e1,e2,.inr (.inr ⟨_,rfl⟩)⟩
 | _=>cases m
theorem RVm.rv0(h:RVm K M σD σ H):RV0 K σD σ H:=⟨Nat.le_of_eq h.len,fun i d e=>by
 obtain⟨v,h1,h2⟩:=h.val i d e
 refine⟨v,h1,?_⟩
 by_cases hm:M.contains i=true
 ·rw[if_pos hm]at h2
  exact h2.2.2
 ·rw[if_neg hm]at h2
  exact h2.none⟩
theorem RVm.uj(h:RVm K M σD σ H):∀ a,aW M σ a->∃ o,H a=some o/\bW o:=fun a ⟨i,hi,e⟩=>by
 obtain⟨d,hd⟩:=h.non i _ e
 obtain⟨v,h1,h2⟩:=h.val i d hd
 rw[if_pos hi]at h2
 obtain⟨b,o,e1,e2,e3⟩:=h2.ref
 rw[e]at h1
 cases h1
 cases e1
 exact⟨o,e2,e3⟩
theorem RVm.mQ(h:RVm K M σD σ H):∀ a,aW M σ a->H a≠none:=fun a p=>by
 obtain⟨o,e,_⟩:=h.uj a p
 rw[e]
 exact fun z=>nomatch z
theorem Own.same{d:RL.D}{v:V}(h:Own K H d v)(s:ax H H1):Own K H1 d v:=⟨h.1,h.2.1,h.2.2.same s⟩
theorem RVm.same(h:RVm K M σD σ H)(s:ax H H1):RVm K M σD σ H1:=⟨h.len,fun i d e=>by
 obtain⟨v,h1,h2⟩:=h.val i d e
 refine⟨v,h1,?_⟩
 by_cases hm:M.contains i=true
 ·rw[if_pos hm]at h2 ⊢
  exact h2.same s
 ·rw[if_neg hm]at h2 ⊢
  exact h2.same s,h.non,h.sep⟩
theorem aW.set{i:Nat}{v:V}(hi:M.contains i=false):aW M (σ.set i (some v))=aW M σ:=by
 funext a
 apply propext
 constructor
 ·rintro⟨j,hj,e⟩
  have hne:i≠j:=fun z=>by subst z;rw[hi]at hj;cases hj
  rw[List.getElem?_set_ne hne]at e
  exact⟨j,hj,e⟩
 ·rintro⟨j,hj,e⟩
  have hne:i≠j:=fun z=>by subst z;rw[hi]at hj;cases hj
  exact⟨j,hj,by rw[List.getElem?_set_ne hne];exact e⟩
theorem RVm.bind{i:Nat}{d:RL.D}{v:V}(h:RVm K M σD σ H)(hi:M.contains i=false)(r:Rep (aW M σ) K H d v):RVm K M (σD.set i (some d)) (σ.set i (some v)) H where
 len:=by simpa using h.len
 val:=fun j dj e=>by
  rw[aW.set hi]
  by_cases hj:j=i
  ·subst hj
   have hlt:j<σD.length:=by
    have:=(List.getElem?_eq_some_iff.mp e).1
    simpa using this
   rw[List.getElem?_set_self hlt]at e
   cases e
   refine⟨v,by rw[List.getElem?_set_self (by rw[<-h.len];exact hlt)],?_⟩
   rw[if_neg (by rw[hi];decide)]
   exact r
  ·rw[List.getElem?_set_ne (Ne.symm hj)]at e ⊢
   exact h.val j dj e
 non:=fun j w e=>by
  by_cases hj:j=i
  ·subst hj
   have hlt:j<σ.length:=by
    have:=(List.getElem?_eq_some_iff.mp e).1
    simpa using this
   exact⟨d,by rw[List.getElem?_set_self (by rw[h.len];exact hlt)]⟩
  ·rw[List.getElem?_set_ne (Ne.symm hj)]at e ⊢
   exact h.non j w e
 sep:=fun j k a hj hk e1 e2=>by
  have n1:i≠j:=fun z=>by subst z;rw[hi]at hj;cases hj
  have n2:i≠k:=fun z=>by subst z;rw[hi]at hk;cases hk
  rw[List.getElem?_set_ne n1]at e1
  rw[List.getElem?_set_ne n2]at e2
  exact h.sep j k a hj hk e1 e2
theorem Fr'.bind{i:Nat}{v:V}(hi:M.contains i=false)(s:ax H H1):Fr' M σ H (σ.set i (some v)) H1:=⟨fun b o e n=>⟨s _ _ e,by rw[aW.set hi];exact n⟩,fun j hj=>List.getElem?_set_ne (fun z=>by subst z;rw[i9 hj]at hi;cases hi)⟩
end st
mutual
theorem Rep.di{P:Addr->Prop}{K:PySem.W.Frag}{H:Hp}{a:Addr}(ha:H a=none):∀ {d:RL.D} {v:V},Rep P K H d v->Rep (fun p=>P p\/p=a) K H d v
 | .non,v,h=>by simpa[Rep]using h
 | .bl _,v,h=>by simpa[Rep]using h
 | .int _,v,h=>by simpa[Rep]using h
 | .str _,v,h=>by simpa[Rep]using h
 | .tup ds,v,h=>by
  rw[Rep]at h ⊢
  obtain⟨b,xs,e1,e2,e3⟩:=h
  exact⟨b,xs,e1,e2,ab.di ha e3⟩
 | .lst ds,v,h=>by
  rw[Rep]at h ⊢
  obtain⟨b,xs,e1,e0,e2,e3⟩:=h
  exact⟨b,xs,e1,fun z=>z.elim e0 (fun q=>aG e2 ha q),e2,ab.di ha e3⟩
 | .dK ks ds,v,h=>by
  rw[Rep]at h ⊢
  obtain⟨b,xs,e1,e0,e2,el,e3⟩:=h
  exact⟨b,xs,e1,fun z=>z.elim e0 (fun q=>aG e2 ha q),e2,el,ab.di ha e3⟩
 | .dT ks ds,v,h=>by
  rw[Rep]at h ⊢
  obtain⟨b,xs,e1,e0,e2,el,e3⟩:=h
  exact⟨b,xs,e1,fun z=>z.elim e0 (fun q=>aG e2 ha q),e2,el,ab.di ha e3⟩
 | .scr ds,v,h=>by
  rw[Rep]at h ⊢
  obtain⟨b,xs,e1,e2,e3⟩:=h
  exact⟨b,xs,e1,e2,ab.di ha e3⟩
theorem ab.di{P:Addr->Prop}{K:PySem.W.Frag}{H:Hp}{a:Addr}(ha:H a=none):∀ {ds:List RL.D} {xs:List V},ab P K H ds xs->ab (fun p=>P p\/p=a) K H ds xs
 | [],xs,h=>by rw[ab]at h ⊢;exact h
 | d::r,xs,h=>by
  rw[ab]at h ⊢
  obtain⟨x,t,e1,e2,e3⟩:=h
  exact⟨x,t,e1,Rep.di ha e2,ab.di ha e3⟩
end
section st
variable{K:PySem.W.Frag}{M:List Nat}{σD:RL.St}{σ:L2.St}{H H1:Hp}
theorem RVm.own{i:Nat}{d:RL.D}{a:Addr}(h:RVm K M σD σ H)(s:ax H H1)(hi:M.contains i=true)(hi2:M.count i<2)(ha:H a=none)(r:Own K H1 d (.ref a)):RVm K M (σD.set i (some d)) (σ.set i (some (.ref a))) H1/\Fr' M σ H (σ.set i (some (.ref a))) H1:=by
 have sub:∀ b,aW M (σ.set i (some (.ref a))) b->aW M σ b\/b=a:=fun b ⟨j,hj,e⟩=>by
  by_cases hji:j=i
  ·subst hji
   have hlt:j<σ.length:=by
    have:=(List.getElem?_eq_some_iff.mp e).1
    simpa using this
   rw[List.getElem?_set_self hlt]at e
   cases e
   exact .inr rfl
  ·rw[List.getElem?_set_ne (Ne.symm hji)]at e
   exact .inl ⟨j,hj,e⟩
 have old:∀ b,aW M σ b->b≠a:=fun b p z=>h.mQ b p (z▸ha)
 refine⟨⟨by simpa using h.len,fun j dj e=>?_,fun j w e=>?_,fun j k b hj hk e1 e2=>?_⟩,⟨fun b o e n=>⟨s _ _ e,fun z=>(sub b z).elim n fun q=>aG e ha q⟩,fun j hj=>List.getElem?_set_ne (fun z=>by subst z;lia)⟩⟩
 ·by_cases hj:j=i
  ·subst hj
   have hlt:j<σD.length:=by
    have:=(List.getElem?_eq_some_iff.mp e).1
    simpa using this
   rw[List.getElem?_set_self hlt]at e
   cases e
   refine⟨.ref a,by rw[List.getElem?_set_self (by rw[<-h.len];exact hlt)],?_⟩
   rw[if_pos hi]
   exact r
  ·rw[List.getElem?_set_ne (Ne.symm hj)]at e ⊢
   obtain⟨v,h1,h2⟩:=h.val j dj e
   refine⟨v,h1,?_⟩
   by_cases hm:M.contains j=true
   ·rw[if_pos hm]at h2 ⊢
    exact h2.same s
   ·rw[if_neg hm]at h2 ⊢
    exact((h2.di ha).weak sub).same s
 ·by_cases hj:j=i
  ·subst hj
   have hlt:j<σ.length:=by
    have:=(List.getElem?_eq_some_iff.mp e).1
    simpa using this
   exact⟨d,by rw[List.getElem?_set_self (by rw[h.len];exact hlt)]⟩
  ·rw[List.getElem?_set_ne (Ne.symm hj)]at e ⊢
   exact h.non j w e
 ·by_cases h1:j=i
  ·by_cases h2:k=i
   ·rw[h1,h2]
   ·subst h1
    have hlt:j<σ.length:=by
     have:=(List.getElem?_eq_some_iff.mp e1).1
     simpa using this
    rw[List.getElem?_set_self hlt]at e1
    rw[List.getElem?_set_ne (Ne.symm h2)]at e2
    cases e1
    exact absurd rfl (old _ ⟨k,hk,e2⟩)
  ·rw[List.getElem?_set_ne (Ne.symm h1)]at e1
   by_cases h2:k=i
   ·subst h2
    have hlt:k<σ.length:=by
     have:=(List.getElem?_eq_some_iff.mp e2).1
     simpa using this
    rw[List.getElem?_set_self hlt]at e2
    cases e2
    exact absurd rfl (old _ ⟨j,hj,e1⟩)
   ·rw[List.getElem?_set_ne (Ne.symm h2)]at e2
    exact h.sep j k b hj hk e1 e2
theorem RVm.gP{i:Nat}{d':RL.D}{a:Addr}{o o':HO}(h:RVm K M σD σ H)(hi:M.contains i=true)(e:σ[i]?=some (some (.ref a)))(ha:H a=some o)(m:bW o)(r:Own K (upd H a o') d' (.ref a)):RVm K M (σD.set i (some d')) σ (upd H a o')/\Fr' M σ H σ (upd H a o'):=by
 have pa:aW M σ a:=⟨i,hi,e⟩
 refine⟨⟨by simpa using h.len,fun j dj e'=>?_,fun j w e'=>?_,h.sep⟩,⟨fun b u eb n=>⟨?_,n⟩,fun _ _=>rfl⟩⟩
 ·by_cases hj:j=i
  ·subst hj
   have hlt:j<σD.length:=by
    have:=(List.getElem?_eq_some_iff.mp e').1
    simpa using this
   rw[List.getElem?_set_self hlt]at e'
   cases e'
   refine⟨.ref a,e,?_⟩
   rw[if_pos hi]
   exact r
  ·rw[List.getElem?_set_ne (Ne.symm hj)]at e'
   obtain⟨v,h1,h2⟩:=h.val j dj e'
   refine⟨v,h1,?_⟩
   by_cases hm:M.contains j=true
   ·rw[if_pos hm]at h2 ⊢
    obtain⟨b,ob,rfl,hb,_⟩:=h2.ref
    have hne:b≠a:=fun z=>by subst z;exact hj (h.sep j i b hm hi h1 e)
    obtain⟨q1,q2,q3⟩:=h2
    refine⟨q1,q2,?_⟩
    have im:∀ {ds:List RL.D} {xs:List V},RL.au ds=true->ab nP K H ds xs->ab nP K (L2.upd H a o') ds xs:=fun hi r=>(ab.upd (P:=fun p=>p=a) ha m rfl (r.imm hi)).imm hi
    cases dj with
    | lst ds=>obtain⟨b',xs,e1,e0,e2,e3⟩:=a6 q3;cases e1;rw[Rep];exact⟨b,xs,rfl,fun z=>z,by rw[L2.aH hne];exact e2,im q2 e3⟩
    | dK ks ds=>rw[Rep]at q3 ⊢;obtain⟨b',xs,e1,e0,e2,el,e3⟩:=q3;cases e1;exact⟨b,xs,rfl,fun z=>z,by rw[L2.aH hne];exact e2,el,im q2 e3⟩
    | dT ks ds=>rw[Rep]at q3 ⊢;obtain⟨b',xs,e1,e0,e2,el,e3⟩:=q3;cases e1;exact⟨b,xs,rfl,fun z=>z,by rw[L2.aH hne];exact e2,el,im q2 e3⟩
    | _=>cases q1
   ·rw[if_neg hm]at h2 ⊢
    exact Rep.upd ha m pa h2
 ·obtain⟨dj,hd⟩:=h.non j w e'
  by_cases hj:j=i
  ·subst hj
   have hlt:=(List.getElem?_eq_some_iff.mp hd).1
   exact⟨d',by rw[List.getElem?_set_self hlt]⟩
  ·exact⟨dj,by rw[List.getElem?_set_ne (Ne.symm hj)];exact hd⟩
 ·have hb:b≠a:=fun z=>n (z▸pa)
  rw[L2.aH hb]
  exact eb
end st
noncomputable def pF(K:PySem.W.Frag)(M:List Nat)(D:Ends)(σ:L2.St)(H:Hp):RL.Out->RL.St->Prop
 | .nx,σD'=>∀ σ' H',RVm K M σD' σ' H'->Fr' M σ H σ' H'->D.nx σ' H'
 | .rt d,σD'=>∀ σ1 H1 v H',RVm K M σD' σ1 H1->Fr' M σ H σ1 H1->ax H1 H'->(∀ P:Addr->Prop,(∀ p,P p->H1 p≠none/\¬ aW M σ1 p)->Rep P K H' d v)->D.rt v H'
theorem pF.from{K:PySem.W.Frag}{M:List Nat}{D:Ends}{σ σ1:L2.St}{H H1:Hp}{r:RL.Out}{σD':RL.St}(h:pF K M D σ H r σD')(f:Fr' M σ H σ1 H1):pF K M D σ1 H1 r σD':=by
 cases r with
 | nx=>exact fun σ2 H2 rv2 fr2=>h σ2 H2 rv2 (f.trans fr2)
 | rt d=>exact fun σ1 H1 v H2 rv2 fr2 sm rp=>h σ1 H1 v H2 rv2 (f.trans fr2) sm rp
noncomputable def tS(K:PySem.W.Frag)(M:List Nat)(f:RL.St->Option (RL.Out × RL.St)):TS:=fun D σ H=>∃ σD r σD',RVm K M σD σ H/\f σD=some (r,σD')/\pF K M D σ H r σD'
noncomputable def SS(X:Cx)(cl:RL.Cl)(M:List Nat)(st:Stmt)(s:RL.S):Prop:=PS X st (tS X.K M (RL.evS cl M s))
noncomputable def SSs(X:Cx)(cl:RL.Cl)(M:List Nat)(st:List Stmt)(s:RL.Ss):Prop:=PSs X st (tS X.K M (RL.aj cl M s))
section rules
variable{X:Cx}{cl:RL.Cl}{M:List Nat}{st:Stmt}{sts:List Stmt}{e' k' c':RL.E}{i j:Nat}
theorem vb:SSs X cl M [] .nil:=by
 refine PSs.weak v5 fun D σ H h=>?_
 obtain⟨σD,r,σD',rv,e,k⟩:=h
 rw[RL.aj]at e
 cases e
 exact k σ H rv (Fr'.same (ax.refl H))
theorem tX{s:RL.S}{r:RL.Ss}(h1:SS X cl M st s)(h2:SSs X cl M sts r):SSs X cl M (st::sts) (.cons s r):=by
 refine PSs.weak (tL h1 h2) fun D σ H h=>?_
 obtain⟨σD,o,σD',rv,e,k⟩:=h
 rw[RL.aj]at e
 obtain⟨p,e1,e2⟩:=bind_some e
 obtain⟨o1,σ1⟩:=p
 refine⟨σD,o1,σ1,rv,e1,?_⟩
 cases o1 with
 |rt d=>
  cases e2
  exact k
 |nx=>
  exact fun σ' H' rv' fr'=>⟨σ1,o,σD',rv',e2,k.from fr'⟩
theorem sR:SS X cl M st .never:=by
 refine PS.weak sk fun D σ H h=>?_
 obtain⟨σD,o,σD',rv,e,k⟩:=h
 rw[RL.evS]at e
 cases e
theorem wD(h:SA X cl st i e')(hi:M.contains i=false):SS X cl M st (.asg i e'):=by
 refine PS.weak h fun D σ H h=>?_
 obtain⟨σD,o,σD',rv,e,k⟩:=h
 rw[RL.evS]at e
 obtain⟨d,e1,e2⟩:=bind_some e
 split at e2
 ·rename_i ok
  cases e2
  refine⟨σD,d,rv.rv0,e1,fun v H1 r1=>k _ _ ?_ (Fr'.bind hi r1.same)⟩
  refine(rv.same r1.same).bind hi ?_
  unfold RL.bz at ok
  rw[Bool.or_eq_true,Bool.or_eq_true,Bool.and_eq_true]at ok
  rcases ok with(q | ⟨q1,q2⟩) | q
  ·exact r1.rep.imm q
  ·have rp:=r1.rep
   have fr:iS d=true->∀ a,v=.ref a->¬ aW M σ a:=fun m a z p=>rv.mQ a p (r1.fresh q2 m a z)
   cases d with
   | lst ds=>obtain⟨a,xs,e1,e0,e2,e3⟩:=a6 rp;rw[Rep];exact⟨a,xs,e1,fr rfl a e1,e2,e3.imm q1⟩
   | dK ks ds=>rw[Rep]at rp ⊢;obtain⟨a,xs,e1,e0,e2,el,e3⟩:=rp;exact⟨a,xs,e1,fr rfl a e1,e2,el,e3.imm q1⟩
   | dT ks ds=>rw[Rep]at rp ⊢;obtain⟨a,xs,e1,e0,e2,el,e3⟩:=rp;exact⟨a,xs,e1,fr rfl a e1,e2,el,e3.imm q1⟩
   | _=>cases q1
  ·refine r1.av M q _ rv.mQ fun j dj vj hj h1 h2=>?_
   obtain⟨v',h3,h4⟩:=rv.val j dj h1
   rw[h2]at h3
   cases h3
   rw[if_neg (by rw[hj];decide)]at h4
   exact h4
 ·cases e2
theorem wI(h:SA X cl st i e')(hi:M.contains i=true)(hi2:M.count i<2):SS X cl M st (.own i e'):=by
 refine PS.weak h fun D σ H h=>?_
 obtain⟨σD,o,σD',rv,e,k⟩:=h
 rw[RL.evS]at e
 obtain⟨d,e1,e2⟩:=bind_some e
 split at e2
 ·rename_i ok
  cases e2
  rw[Bool.and_eq_true]at ok
  refine⟨σD,d,rv.rv0,e1,fun v H1 r1=>?_⟩
  have m:iS d=true:=by
   cases d with
   | lst _=>rfl
   | dK _ _=>rfl
   | dT _ _=>rfl
   | _=>cases ok.1
  have ow:Own X.K H1 d v:=⟨m,ok.1,r1.rep⟩
  obtain⟨a,ob,rfl,_,_⟩:=ow.ref
  obtain⟨h1,h2⟩:=rv.own r1.same hi hi2 (r1.fresh ok.2 m a rfl) ow
  exact k _ _ h1 h2
 ·cases e2
theorem zN{c:Expr}{a b:List Stmt}{a' b':RL.Ss}{pos:Pos}(hc:ST X cl c c')(ha:SSs X cl M a a')(hb:SSs X cl M b b'):SS X cl M (.If c a b pos) (.ife c' a' b'):=by
 refine PS.weak (uJ hc ha hb) fun D σ H h=>?_
 obtain⟨σD,o,σD',rv,e,k⟩:=h
 rw[RL.evS]at e
 obtain⟨t,e1,e2⟩:=bind_some e
 refine⟨σD,t,rv.rv0,e1,fun H1 s1=>?_⟩
 have k1:=k.from (Fr'.same (σ:=σ) s1)
 cases t with
 | true=>exact dB ⟨σD,o,σD',rv.same s1,e2,k1⟩
 | false=>exact dP ⟨σD,o,σD',rv.same s1,e2,k1⟩
theorem wG{e:Expr}{pos:Pos}(he:SE X cl e e')(hv:∀ i,e'=.var i->M.contains i=false):SS X cl M (.Return (some e) pos) (.ret e'):=by
 refine PS.weak (qE he) fun D σ H h=>?_
 obtain⟨σD,o,σD',rv,ev,k⟩:=h
 rw[RL.evS]at ev
 obtain⟨d,e1,e2⟩:=bind_some ev
 split at e2
 ·rename_i ok
  cases e2
  refine⟨σD,d,rv.rv0,e1,fun v H1 r1=>k σ H v H1 rv (Fr'.same (ax.refl H)) r1.same fun P hP=>?_⟩
  unfold RL.b9 at ok
  rw[Bool.or_eq_true,Bool.and_eq_true,Bool.or_eq_true]at ok
  rcases ok with q | ⟨q1,q2⟩
  ·exact r1.rep.imm q
  ·have rp:=r1.rep
   have fr:iS d=true->∀ a,v=.ref a->¬ P a:=fun m a z p=>by
    rcases q2 with q | q
    ·exact(hP a p).1 (r1.fresh q m a z)
    ·cases e' with
     |var i=>
      have hi:M.contains i=true:=q
      rw[hv i rfl]at hi
      cases hi
     | _=>cases q
   cases d with
   | lst ds=>obtain⟨a,xs,e1,e0,e2,e3⟩:=a6 rp;rw[Rep];exact⟨a,xs,e1,fr rfl a e1,e2,e3.imm q1⟩
   | dK ks ds=>rw[Rep]at rp ⊢;obtain⟨a,xs,e1,e0,e2,el,e3⟩:=rp;exact⟨a,xs,e1,fr rfl a e1,e2,el,e3.imm q1⟩
   | dT ks ds=>rw[Rep]at rp ⊢;obtain⟨a,xs,e1,e0,e2,el,e3⟩:=rp;exact⟨a,xs,e1,fr rfl a e1,e2,el,e3.imm q1⟩
   | _=>cases q1
 ·cases e2
theorem vo{x:Str}{p pos:Pos}(hN:X.N[i]?=some x)(hv:Vis X.env.scope x)(hd:(x == ("__debug__" : Str))=false)(hcd:(x == ("__classdict__" : Str))=false)(hi:M.contains i=true):SS X cl M (.Return (some (.Name x p)) pos) (.ret (.var i)):=by
 refine PS.weak (qE (fG hN hv hd hcd)) fun D σ H h=>?_
 obtain⟨σD,o,σD',rv,e,k⟩:=h
 rw[RL.evS]at e
 obtain⟨d,e1,e2⟩:=bind_some e
 split at e2
 ·cases e2
  have e3:σD[i]?=some (some d):=by
   rw[RL.ev]at e1
   obtain⟨o,h1,h2⟩:=bind_some e1
   cases o with
   | none=>cases h2
   | some z=>cases h2;exact h1
  obtain⟨v,h1,h2⟩:=rv.val i d e3
  rw[if_pos hi]at h2
  refine⟨v,h1,k σ H v H rv (Fr'.same (ax.refl H)) (ax.refl H) fun P hP=>?_⟩
  obtain⟨a,o,rfl,_,_⟩:=h2.ref
  have np:¬ P a:=fun p=>(hP a p).2 ⟨i,hi,h1⟩
  obtain⟨q1,q2,q3⟩:=h2
  cases d with
  | lst ds=>obtain⟨b,xs,e1,e0,e2,e3⟩:=a6 q3;cases e1;rw[Rep];exact⟨a,xs,rfl,np,e2,e3.imm q2⟩
  | dK ks ds=>rw[Rep]at q3 ⊢;obtain⟨b,xs,e1,e0,e2,el,e3⟩:=q3;cases e1;exact⟨a,xs,rfl,np,e2,el,e3.imm q2⟩
  | dT ks ds=>rw[Rep]at q3 ⊢;obtain⟨b,xs,e1,e0,e2,el,e3⟩:=q3;cases e1;exact⟨a,xs,rfl,np,e2,el,e3.imm q2⟩
  | _=>cases q1
 ·cases e2
theorem slot_get{σD:RL.St}{d:RL.D}(h:(σD[i]?).bind id=some d):σD[i]?=some (some d):=by
 obtain⟨o,h1,h2⟩:=bind_some h
 cases o with
 | none=>cases h2
 | some z=>cases h2;exact h1
theorem yI(h:PS X st (l0 (tBM X.K "list" ot (gQ i) (tEs X.K cl (.cons e' .nil)))))(hi:M.contains i=true):SS X cl M st (.app i e'):=by
 refine PS.weak h fun D σ H h=>?_
 obtain⟨σD,o,σD',rv,e,k⟩:=h
 rw[RL.evS]at e
 obtain⟨d,e1,e2⟩:=bind_some e
 obtain⟨l,e3,e4⟩:=bind_some e2
 cases l with
 |lst ds=>
  dsimp only at e4
  split at e4
  ·rename_i ok
   cases e4
   rw[Bool.and_eq_true,decide_eq_true_eq]at ok
   obtain⟨v,h1,h2⟩:=rv.val i _ (slot_get e3)
   rw[if_pos hi]at h2
   obtain⟨q1,q2,q3⟩:=h2
   obtain⟨a,xs,rfl,_,f2,f3⟩:=a6 q3
   refine⟨.ref a,h1,.inl ⟨rfl,xs,SqL.of f2⟩,σD,[d],rv.rv0,by rw[RL.evs,e1];rfl,fun vs H1 s1 r1=>?_⟩
   rw[ab]at r1
   obtain⟨y,t,rfl,r2,r3⟩:=r1
   rw[ab]at r3
   subst r3
   have hl:xs.length<sizeLine:=by rw[<-f3.length];exact Nat.lt_of_lt_of_le ok.2 bH
   refine⟨a,xs,y,rfl,rfl,s1 _ _ f2,hl,?_⟩
   have im:RL.au (ds++[d])=true:=by
    have:∀ l:List RL.D,RL.au l=true->RL.au (l++[d])=true:=fun l=>by
     induction l with
     | nil=>intro _;simp[RL.au,ok.1]
     | cons z r ih=>intro h;rw[RL.au,Bool.and_eq_true]at h;rw[List.cons_append,RL.au,h.1,ih h.2];rfl
    exact this ds q2
   have rs:ab nP X.K (upd H1 a (.lst (xs++[y]))) (ds++[d]) (xs++[y]):=(ab.upd (P:=fun p=>p=a) (s1 _ _ f2) (.inl ⟨_,rfl⟩) rfl ((ab.append (f3.same s1) (ab.cons r2 ab.nil)).imm im)).imm im
   obtain⟨g1,g2⟩:=(rv.same s1).gP (d':=.lst (ds++[d])) (o':=.lst (xs++[y])) hi h1 (s1 _ _ f2) (.inl ⟨_,rfl⟩) ⟨rfl,im,by rw[Rep];exact⟨a,_,rfl,fun z=>z,bb,rs⟩⟩
   exact k _ _ g1 ((Fr'.same s1).trans g2)
  ·cases e4
 | _=>cases e4
end rules
theorem RVm.bg{K:PySem.W.Frag}{M:List Nat}{H:Hp}:∀ {tg:List Nat} {ds:List RL.D} {vs:List V} {σD:RL.St} {σ:L2.St},RVm K M σD σ H->(∀ i∈tg,M.contains i=false)->tg.length=ds.length->RL.au ds=true->ab nP K H ds vs ->
  RVm K M (cQ tg ds σD) (cm tg vs σ) H/\aW M (cm tg vs σ)=aW M σ
 | [],_,_,_,_,h,_,_,_,_=>⟨h,rfl⟩
 | i::is,[],_,_,_,_,_,hl,_,_=>by simp at hl
 | i::is,d::ds,vs,σD,σ,h,hM,hl,him,r=>by
  rw[ab]at r
  obtain⟨v,t,rfl,r1,r2⟩:=r
  rw[RL.au,Bool.and_eq_true]at him
  rw[cQ,cm]
  have hi:=hM i List.mem_cons_self
  obtain⟨g1,g2⟩:=RVm.bg (h.bind hi (r1.imm him.1)) (fun j hj=>hM j (List.mem_cons_of_mem _ hj)) (by simpa using hl) him.2 r2
  exact⟨g1,g2.trans (aW.set hi)⟩
theorem nk{M tg:List Nat}{vs:List V}{σ:L2.St}{j:Nat}(hM:∀ i∈tg,M.contains i=false)(hj:2<=M.count j):(cm tg vs σ)[j]?=σ[j]?:=by
 refine k7 tg vs σ j ?_
 cases hc:tg.contains j with
 | false=>rfl
 |true=>
  have:=hM j (by simpa using hc)
  rw[i9 hj]at this
  cases this
section rules
variable{X:Cx}{cl:RL.Cl}{M:List Nat}{st:Stmt}{tgE iter:Expr}{body:List Stmt}{b:RL.Ss}{it:RL.It}{tg:List Nat}{e' k' a' b':RL.E}{i j:Nat}{pos:Pos}
theorem pe{f:RL.St->Option (RL.Out × RL.St)}{d:RL.D}{ds:List RL.D}{σ:RL.St}{p:RL.Out × RL.St}(h:RL.bh f tg (d::ds) σ=some p):d.imm=true/\∃ σ1 o σ2,RL.aI tg d σ=some σ1/\f σ1=some (o,σ2) /\
  (match o with | .nx=>RL.bh f tg ds σ2=some p | .rt d=>p=(.rt d,σ2)):=by
 rw[RL.bh]at h
 split at h
 ·rename_i him
  obtain⟨σ1,h1,h⟩:=bind_some h
  obtain⟨⟨o,σ2⟩,h2,h⟩:=bind_some h
  refine⟨him,σ1,o,σ2,h1,h2,?_⟩
  cases o with
  | nx=>exact h
  | rt d=>exact(Option.some.inj h).symm
 ·cases h
theorem wW(hx:X.xe=fun _ _=>False)(hc:X.calm=true)(hi:SI X cl tgE iter it)(hg:PG X tgE (gT X.K tg))(hb:SSs X cl M body b)(hs:∀ x,foldedSetIterable iter X.env x=pure x)(hav:RL.pO M it=true)(hM:∀ i∈tg,M.contains i=false) :
  SS X cl M (.For tgE iter body [] pos) (.forr tg it b):=by
 refine PS.weak (y8 (by rw[hx];exact PassesOwn.never) hc hi hg hb hs) fun D σ H h=>?_
 obtain⟨σD,r,σD',rv,e,k⟩:=h
 rw[RL.evS]at e
 obtain⟨ds,e1,e2⟩:=bind_some e
 refine⟨σD,ds,rv.rv0,e1,fun J H1 s1 src=>?_⟩
 have ok:gn X.K J ds (aW M σ) H1:=src.2 M (aW M σ) hav rv.uj fun j dj vj hj h1 h2=>by
  obtain⟨v',h3,h4⟩:=rv.val j dj h1
  rw[h2]at h3
  cases h3
  rw[if_neg (by rw[hj];decide)]at h4
  exact h4
 have k1:=k.from (Fr'.same (σ:=σ) s1)
 refine⟨fun i m σ2 H2=>∃ σD2,m=ds.length-i/\i<=ds.length/\RVm X.K M σD2 σ2 H2/\Fr' M σ H1 σ2 H2/\RL.bh (RL.aj cl M b) tg (ds.drop i) σD2=some (r,σD'),⟨_,σD,rfl,Nat.zero_le _,rv.same s1,Fr'.same (ax.refl _),e2⟩,?_⟩
 rintro i m σ2 H2 ⟨σD2,rfl,hi2,rv2,fr2,hl⟩
 have off:Off (aW M σ) H1 H2:=fun b o n e=>(fr2.1 b o e n).1
 by_cases hlt:i<ds.length
 ·refine .inr ⟨ok.go H2 i off hlt,fun σ' H'=>∃ m',m'<ds.length-i/\∃ σD2,m'=ds.length-(i+1)/\i+1<=ds.length/\RVm X.K M σD2 σ' H'/\Fr' M σ H1 σ' H'/\RL.bh (RL.aj cl M b) tg (ds.drop (i+1)) σD2=some (r,σD'),fun σ' H' z=>z,fun x H3 y=>?_⟩
  rw[List.drop_eq_getElem_cons hlt]at hl
  obtain⟨him,σ3,o,σ4,h1,h2,h3⟩:=pe hl
  obtain⟨s3,rp⟩:=ok.yld H2 i ds[i] x H3 off (by simp[hlt]) y
  obtain⟨dv,vs,q1,q2,q3,q4,q5⟩:=uz h1 (rp (.inl him))
  refine q5 _ _ ?_
  obtain⟨rv3,as3⟩:=(rv2.same s3).bg hM q2 (q4 him) q3
  have fr3:Fr' M σ H1 (cm tg vs σ2) H3:=⟨fun b o e n=>⟨s3 _ _ (fr2.1 b o e n).1,by rw[as3];exact(fr2.1 b o e n).2⟩,fun j hj=>(nk hM hj).trans (fr2.2 j hj)⟩
  refine⟨σ3,o,σ4,by rw[q1];exact rv3,h2,?_⟩
  cases o with
  | nx=>exact fun σ' H' rv' fr'=>⟨_,by lia,σ4,rfl,hlt,rv',fr3.trans fr',h3⟩
  |rt d=>
   cases h3
   exact fun σ' H' v H4 rv' fr' sm rp=>k1 σ' H' v H4 rv' (fr3.trans fr') sm rp
 ·have e:i=ds.length:=by lia
  subst e
  rw[List.drop_length,RL.bh]at hl
  cases hl
  exact .inl ⟨ok.stop H2 off,k1 σ2 H2 rv2 fr2⟩
theorem ue{n:Nat}{k:Int}{j:Nat}(h:RL.jQ n k=some j):ixN n k=some j:=h
theorem qM:∀ {ds:List RL.D} {d:RL.D} (j:Nat),RL.au ds=true->d.imm=true->RL.au (ds.set j d)=true
 | [],d,j,_,_=>by simp[RL.au]
 | x::r,d,0,h,hd=>by rw[RL.au,Bool.and_eq_true]at h;rw[List.set_cons_zero,RL.au,hd,h.2];rfl
 | x::r,d,j+1,h,hd=>by rw[RL.au,Bool.and_eq_true]at h;rw[List.set_cons_succ,RL.au,h.1,qM j h.2 hd];rfl
theorem oG{H:Hp}{a:Addr}{ds:List RL.D}{xs ys:List V}{ds':List RL.D}(f2:H a=some (.lst xs))(im:RL.au ds'=true)(rs:ab nP X.K H ds' ys):Own X.K (upd H a (.lst ys)) (.lst ds') (.ref a) :=
 ⟨rfl,im,by rw[Rep];exact⟨a,_,rfl,fun z=>z,bb,(ab.upd (P:=fun p=>p=a) f2 (.inl ⟨_,rfl⟩) rfl (rs.imm im)).imm im⟩⟩
theorem wA(h:PS X st (mh (tE X.K cl e') (sU (gQ i) (tE X.K cl k') pL)))(hi:M.contains i=true)(hl:True):PS X st (tS X.K M fun σD=>(RL.ev cl σD e').bind fun d=>(RL.ev cl σD k').bind fun kk=>((σD[i]?).bind id).bind fun l=>match l with
  | .lst _=>if d.imm then(RL.eY l kk d).map fun l'=>(.nx,σD.set i (some l'))else none
  | _=>none):=by
 refine PS.weak h fun D σ H h=>?_
 obtain⟨σD,o,σD',rv,e,k⟩:=h
 obtain⟨d,e1,e⟩:=bind_some e
 obtain⟨kk,e2,e⟩:=bind_some e
 obtain⟨l,e3,e⟩:=bind_some e
 cases l with
 |lst ds=>
  dsimp only at e
  split at e
  ·rename_i him
   obtain⟨l',e4,e5⟩:=map_some e
   cases e5
   obtain⟨v,h1,h2⟩:=rv.val i _ (slot_get e3)
   rw[if_pos hi]at h2
   obtain⟨q1,q2,q3⟩:=h2
   obtain⟨a,xs,rfl,_,f2,f3⟩:=a6 q3
   cases kk with
   |int kk=>
    obtain⟨jx,e6,e7⟩:=map_some (show(RL.jQ ds.length kk).map (fun j=>RL.D.lst (ds.set j d))=some l' from e4)
    subst e7
    refine⟨σD,d,rv.rv0,e1,fun y H1 r1=>⟨.ref a,h1,σD,.int kk,rv.rv0.same r1.same,e2,fun z H2 r2=>?_⟩⟩
    have sm:=r1.same.trans r2.same
    refine⟨a,xs,kk,jx,rfl,af r2.rep,sm _ _ f2,?_,?_⟩
    ·rw[<-f3.length]
     exact ue e6
    ·have im:=qM jx q2 him
     obtain⟨g1,g2⟩:=(rv.same sm).gP (d':=.lst (ds.set jx d)) (o':=.lst (xs.set jx y)) hi h1 (sm _ _ f2) (.inl ⟨_,rfl⟩) (oG (ds:=ds) (sm _ _ f2) im (ab.set jx (f3.same sm) (r1.rep.same r2.same)))
     exact k _ _ g1 ((Fr'.same sm).trans g2)
   | _=>cases e4
  ·cases e
 | _=>cases e
theorem oI:∀ {ds:List RL.D},RL.au ds=true->RL.au ds.dropLast=true
 | [],_=>rfl
 | [x],_=>rfl
 | x::y::r,h=>by rw[RL.au,Bool.and_eq_true]at h;rw[List.dropLast_cons_cons,RL.au,h.1,oI h.2];rfl
theorem ab.dropLast{P:Addr->Prop}{K:PySem.W.Frag}{H:Hp}{ds:List RL.D}{xs:List V}(h:ab P K H ds xs):ab P K H ds.dropLast xs.dropLast:=by
 rw[List.dropLast_eq_take,List.dropLast_eq_take,<-h.length]
 exact h.take _
theorem yZ(h:PS X st (wH i j (tEs X.K cl (.cons a' (.cons b' .nil)))))(hi:M.contains i=false)(hj:M.contains j=false):SS X cl M st (.par i j a' b'):=by
 refine PS.weak h fun D σ H h=>?_
 obtain⟨σD,o,σD',rv,e,k⟩:=h
 rw[RL.evS]at e
 obtain⟨x,e1,e⟩:=bind_some e
 obtain⟨y,e2,e⟩:=bind_some e
 split at e
 ·rename_i him
  cases e
  rw[Bool.and_eq_true]at him
  refine⟨σD,[x,y],rv.rv0,by rw[RL.evs,e1,RL.evs,e2];rfl,fun vs H1 s1 r1=>?_⟩
  rw[ab]at r1
  obtain⟨v,t,rfl,r2,r3⟩:=r1
  rw[ab]at r3
  obtain⟨u,t,rfl,r4,r5⟩:=r3
  rw[ab]at r5
  subst r5
  refine⟨v,u,rfl,k _ _ ?_ ?_⟩
  ·refine((rv.same s1).bind hi (r2.imm him.1)).bind hj (r4.imm him.2)
  ·exact(Fr'.bind hi s1).trans (Fr'.bind hj (ax.refl _))
 ·cases e
theorem x8(h:PS X st (l0 (tE X.K cl e'))):SS X cl M st (.exc e'):=by
 refine PS.weak h fun D σ H h=>?_
 obtain⟨σD,o,σD',rv,e,k⟩:=h
 rw[RL.evS]at e
 obtain⟨d,e1,e2⟩:=map_some e
 cases e2
 exact⟨σD,d,rv.rv0,e1,fun v H1 r1=>k _ _ (rv.same r1.same) (Fr'.same r1.same)⟩
end rules
section rules
variable{X:Cx}{cl:RL.Cl}{M:List Nat}{st:Stmt}{e':RL.E}
theorem vk{is:List Nat}(h:PS X st (mh (tE X.K cl e') (fun v σ H Q=>kr X.K is.length (gs is) v σ H Q\/kn X.K is.length (gs is) v σ H Q)))(hM:∀ i∈is,M.contains i=false):SS X cl M st (.unp is e'):=by
 refine PS.weak h fun D σ H h=>?_
 obtain⟨σD,o,σD',rv,e,k⟩:=h
 rw[RL.evS]at e
 obtain⟨d,e1,e⟩:=bind_some e
 obtain⟨ds,e2,e⟩:=bind_some e
 split at e
 ·rename_i him
  obtain⟨σ1,e3,e4⟩:=map_some e
  cases e4
  obtain⟨q1,q2⟩:=dN e3
  refine⟨σD,d,rv.rv0,e1,fun v H1 r1=>?_⟩
  obtain⟨p,xs,rfl,hp,rs⟩:=eC e2 r1.rep
  obtain⟨g1,g2⟩:=(rv.same r1.same).bg (vs:=xs) hM q1 him rs
  have fin:D.nx (cm is xs σ) H1:=k _ _ (by rw[q2];exact g1) ⟨fun b o e n=>⟨r1.same _ _ e,by rw[g2];exact n⟩,fun j hj=>nk hM hj⟩
  have hl:xs.length=is.length:=by rw[<-rs.length,q1]
  rcases hp with⟨hp,_⟩ | ⟨hp,_⟩
  ·exact .inr ⟨p,xs,rfl,SqL.of hp,hl,fL hl.symm fin⟩
  ·exact .inl ⟨p,xs,rfl,SqT.of hp,hl,fL hl.symm fin⟩
 ·cases e
theorem jd{α:Type}(xs:List α)(k:Int):(xs.drop (HT.sIx xs.length 0 none)).take (HT.sIx xs.length xs.length (some k)-HT.sIx xs.length 0 none)=xs.take (RL.cutAt xs.length k):=by
 rw[HT.t8,List.drop_zero,Nat.sub_zero]
 congr 1
 have h:=HT.i5 k xs.length xs.length
 unfold RL.cutAt
 split at h
 ·rename_i h0
  rw[if_neg (by lia)]
  lia
 ·rename_i h0
  rw[if_pos (by lia)]
  lia
end rules
section rules
variable{X:Cx}{cl:RL.Cl}{a b:Expr}{a' b':RL.E}{pos p p2:Pos}{x:Str}
theorem one{σ:L2.St}{H:Hp}{R:List V->Hp->Prop}{σD:RL.St}{d:RL.D}(rv:RV0 X.K σD σ H)(ea:RL.ev cl σD a'=some d)(k:∀ v H1,ax H H1->Rep nP X.K H1 d v->R [v] H1):tEs X.K cl (.cons a' .nil) σ H R :=
 ⟨σD,[d],rv,by rw[RL.evs,ea];rfl,fun vs H1 s1 r1=>by
  rw[ab]at r1
  obtain⟨v,t,rfl,r2,r3⟩:=r1
  rw[ab]at r3
  subst r3
  exact k v H1 s1 r2⟩
theorem pair{σ:L2.St}{H:Hp}{R:List V->Hp->Prop}{σD:RL.St}{d d':RL.D}(rv:RV0 X.K σD σ H)(ea:RL.ev cl σD a'=some d)(eb:RL.ev cl σD b'=some d')(k:∀ v u H1,ax H H1->Rep nP X.K H1 d v->Rep nP X.K H1 d' u->R [v,u] H1):tEs X.K cl (.cons a' (.cons b' .nil)) σ H R :=
 ⟨σD,[d,d'],rv,by rw[RL.evs,ea,RL.evs,eb];rfl,fun vs H1 s1 r1=>by
  rw[ab]at r1
  obtain⟨v,t,rfl,r2,r3⟩:=r1
  rw[ab]at r3
  obtain⟨u,t,rfl,r4,r5⟩:=r3
  rw[ab]at r5
  subst r5
  exact k v u H1 s1 r2 r4⟩
theorem gX{id:String}{r:List V->Hp->VK->Prop}{b:RL.Bi}(hc:bu X (.builtin id) r)(hg:Gl X x)(hm:X.mg x=none)(hv:bootBuiltins x=some (.builtin id))(ha:SE X cl a a')(hn:noStar a=true)(h1:x ≠ "__name__")(h2:(x == ("__debug__" : Str))=false)
 (ok:∀ (σD:RL.St) (σ:L2.St) (H H1:Hp) (y d:RL.D) (v:V) (Q:VK),RL.biV b y=some d->ax H H1->Rep nP X.K H1 y v->(∀ w H',Res X.K σD σ H (.bi b a') d w H'->Q w H')->r [v] H1 Q):SE X cl (.Call (.Name x p) [a] [] pos) (.bi b a'):=by
 refine PE.weak (iY hc hg hm hv (bo (cl:=cl) ha cv hn) h1 h2 (ay [] hn) rfl) fun σ H Q h=>?_
 obtain⟨σD,d,rv,e,k⟩:=h
 rw[RL.ev]at e
 obtain⟨y,ea,e⟩:=bind_some e
 exact one rv ea fun v H1 s1 r1=>ok σD σ H H1 y d v Q e s1 r1 k
theorem kS{T:String}{r:List V->Hp->VK->Prop}{b:RL.Bi}(hc:bu X (.type T) r)(hg:Gl X x)(hm:X.mg x=none)(hv:bootBuiltins x=some (.type T))(ha:SE X cl a a')(hn:noStar a=true)(h1:x ≠ "__name__")(h2:(x == ("__debug__" : Str))=false)
 (ok:∀ (σD:RL.St) (σ:L2.St) (H H1:Hp) (y d:RL.D) (v:V) (Q:VK),RL.biV b y=some d->ax H H1->Rep nP X.K H1 y v->(∀ w H',Res X.K σD σ H (.bi b a') d w H'->Q w H')->r [v] H1 Q):SE X cl (.Call (.Name x p) [a] [] pos) (.bi b a'):=by
 refine PE.weak (bX hc hg hm hv (bo (cl:=cl) ha cv hn) h1 h2 (ay [] hn) rfl) fun σ H Q h=>?_
 obtain⟨σD,d,rv,e,k⟩:=h
 rw[RL.ev]at e
 obtain⟨y,ea,e⟩:=bind_some e
 exact one rv ea fun v H1 s1 r1=>ok σD σ H H1 y d v Q e s1 r1 k
theorem wb(hg:Gl X "list")(hm:X.mg "list" = none)(ha:SE X cl a a')(hn:noStar a=true):SE X cl (.Call (.Name "list" p) [a] [] pos) (.bi .list a'):=by
 refine kS mJ hg hm (by decide +kernel) ha hn (by decide) (by decide) fun σD σ H H1 y d v Q e s1 r1 k=>?_
 obtain⟨ds,e1,e2⟩:=map_some (show(RL.items y).map RL.D.lst=some d from e)
 subst e2
 obtain⟨q,xs,rfl,hp,rs⟩:=eC e1 r1
 refine⟨q,xs,rfl,?_,fun l hl=>k _ _ (d5 s1 hl rs fun _=>rfl)⟩
 rcases hp with⟨z,_⟩ | ⟨z,_⟩
 ·exact .inl (SqL.of z)
 ·exact .inr (SqT.of z)
theorem sN(hg:Gl X "tuple")(hm:X.mg "tuple" = none)(ha:SE X cl a a')(hn:noStar a=true):SE X cl (.Call (.Name "tuple" p) [a] [] pos) (.bi .tuple a'):=by
 refine kS lj hg hm (by decide +kernel) ha hn (by decide) (by decide) fun σD σ H H1 y d v Q e s1 r1 k=>?_
 obtain⟨ds,e1,e2⟩:=map_some (show(RL.items y).map RL.D.tup=some d from e)
 subst e2
 obtain⟨q,xs,rfl,hp,rs⟩:=eC e1 r1
 rcases hp with⟨z,_⟩ | ⟨z,_⟩
 ·exact⟨q,xs,rfl,.inl ⟨SqL.of z,fun l hl=>k _ _ (eS s1 hl rs fun _=>rfl)⟩⟩
 ·refine⟨q,xs,rfl,.inr ⟨SqT.of z,k _ _ ⟨s1,?_,fun _ m=>(by cases m),fun M z=>nomatch (show false=true from z)⟩⟩⟩
  rw[Rep]
  exact⟨q,xs,rfl,z,rs⟩
theorem oZ{prog:Program}{w:World}{K:Type} [DecidableEq K]{knd:HeapKind prog w K}{d:Addr}(hd:(d == sysModules)=false) :
  MeetsIn prog w (Builtin.«dict.__len__» ⟨[.ref d],[]⟩) (fun _ R s=>∃ xs,s.heap.DictOfH knd d xs/\R (.ok (.ret (.int xs.length s.toks))) { s with toks:=s.toks+1 }) :=
 .of_wp fun A R s ⟨xs,hm,h⟩=>by
  obtain⟨o,es,ep,ho,hc,hdat,hk,_,_⟩:=hm
  show wpAny _ _ (dictSize d >>= _) _ _ s
  unfold dictSize
  refine wpAny_bind (wpAny_bind (wpAny_dictEntries ho hdat (wpAny_pure ?_)))
  show wpAny _ _ (Builtin.Dict.pendingCount d >>= _) _ _ s
  refine wpAny_bind (wpAny_pendingCount_other hd ?_)
  refine wpAny_ret_mkInt ?_
  rw[Nat.add_zero,size_of_entries hk]
  exact h
theorem k8{prog:Program}{w:World}{K:Type} [DecidableEq K]{knd:HeapKind prog w K}{A:Around}{E:Value->Shared->Prop}{s:Shared}{d:Addr}{xs:List (K × Addr × Value)}{Q:Value->Shared->Prop}(hd:(d == sysModules)=false)(hm:s.heap.DictOfH knd d xs)(hfit:(xs.length:Int)<2 ^ 63)
 (h:Q (.int xs.length (s.toks+1)) { s with toks:=s.toks+1+1 }):wpAny (model prog w) A (call (.builtin "len") [.ref d]) Q E s:=by
 refine Calls.call_function_entry kind_len plain_len entry_len (args_len1 _) ?_
 unfold Builtin.«len»
 refine wpAny_bind (m:=oneArg "len" _) (wpAny_pure ?_)
 refine wpAny_bind (m:=callSpecial? (.ref d) (Str.ofString "__len__")) (wpAny_callSpecial?_slot (name:=Str.ofString "__len__") hm.typeIs F.slot_dict_len
  (call_meetsIn F.slot_dict_len hm.typeIs F.entry_dict_len (F.args_dict_len_1 _) (oZ hd) ⟨xs,hm,?_⟩))
 show wpAny _ _ _ _ _ { s with toks:=s.toks+1 }
 refine wpAny_bind (wpAny_holding (wpAny_pure ?_))
 refine wpAny_bind (wpAny_letGo ?_)
 show wpAny _ _ (if((xs.length:Nat):Int)<0 then _ else _) _ _ _
 rw[if_neg (by omega)]
 show wpAny _ _ (if((xs.length:Nat):Int)≥2 ^ 63 then _ else _) _ _ _
 rw[if_neg (by omega)]
 exact wpAny_bind (wpAny_mkInt (wpAny_pure ⟨_,rfl,h⟩))
theorem ql:bu X (.builtin "len") (fun xs H Q=>∃ a kvs,xs=[V.ref a]/\H a=some (.dT kvs)/\Q (.int kvs.length) H):=by
 intro pins s σ H xs us Q I r h
 obtain⟨a,kvs,rfl,ha,q⟩:=h
 obtain⟨u,rfl,ru⟩:=vals1 r
 cases ru
 obtain⟨z,hd,xs,rel,dd⟩:=uF I.hok ha
 have hl:kvs.length=xs.length:=Paired.length rel
 refine k8 hd dd (by rw[<-hl];rw[sizeLine_eq]at z;omega) ?_
 rw[<-hl]
 exact⟨.int kvs.length,H,I.tok _,⟨_,rfl⟩,q⟩
theorem rf:bu X (.builtin "len") (fun xs H Q=>(∃ y n,xs=[y]/\yl X.K y H n/\Q (.int n) H)\/(∃ q kvs,xs=[V.ref q]/\H q=some (.dK kvs)/\Q (.int kvs.length) H)\/∃ q kvs,xs=[V.ref q]/\H q=some (.dT kvs)/\Q (.int kvs.length) H):=bu.or tB (bu.or rm ql)
theorem zb(hg:Gl X "len")(hm:X.mg "len" = none)(ha:SE X cl a a')(hn:noStar a=true):SE X cl (.Call (.Name "len" p) [a] [] pos) (.bi .len a'):=by
 refine gX rf hg hm PySem.boot_len ha hn (by decide) (by decide) fun σD σ H H1 y d v Q e s1 r1 k=>?_
 cases y<;>simp only[RL.biV,RL.items,Option.map_some,Option.map_none]at e<;>first | (cases e;done) | skip
 case str t =>
  split at e
  ·rename_i hz
   cases e
   rw[aE r1]
   exact .inl ⟨_,_,rfl,⟨Nat.le_trans hz bH,rfl⟩,k _ _ (cR s1 aN rfl)⟩
  ·cases e
 case tup t =>
  cases e
  obtain⟨q,xs,rfl,f2,f3⟩:=aR r1
  rw[f3.length]at k
  exact .inl ⟨_,_,rfl,.inr ⟨xs,SqT.of f2,rfl⟩,k _ _ (cR s1 aN rfl)⟩
 case lst t =>
  cases e
  obtain⟨q,xs,rfl,_,f2,f3⟩:=a6 r1
  rw[f3.length]at k
  exact .inl ⟨_,_,rfl,.inl ⟨xs,SqL.of f2,rfl⟩,k _ _ (cR s1 aN rfl)⟩
 case dK ks t =>
  cases e
  rw[Rep]at r1
  obtain⟨q,xs,rfl,_,f2,fl,f3⟩:=r1
  refine .inr (.inl ⟨q,_,rfl,f2,?_⟩)
  have:(ks.zip xs).length=ks.length:=by rw[List.length_zip,<-f3.length,fl,Nat.min_self]
  rw[this]
  exact k _ _ (cR s1 aN rfl)
 case dT ks t =>
  cases e
  rw[Rep]at r1
  obtain⟨q,xs,rfl,_,f2,fl,f3⟩:=r1
  refine .inr (.inr ⟨q,_,rfl,f2,?_⟩)
  have:(ks.zip xs).length=ks.length:=by rw[List.length_zip,<-f3.length,fl,Nat.min_self]
  rw[this]
  exact k _ _ (cR s1 aN rfl)
noncomputable def tyN:RL.Ty->String
 | .int => "int"
 | .bool => "bool"
 | .list => "list"
 | .tuple => "tuple"
 | .str => "str"
theorem sr:bu X (.builtin "isinstance") (fun xs H Q=>∃ y t T k,xs=[y,.ty T]/\cT X.K H y t/\PySem.W.kitOne X.K t (.type T)=some k/\Q (.bl k) H):=by
 intro pins s σ H xs us Q I r h
 obtain⟨y,t,T,k,rfl,ty,e,q⟩:=h
 obtain⟨u,w,rfl,r1,r2⟩:=vals2 r
 cases r2
 exact qi I r1 ty e fun tk=>⟨.bl k,H,I.tok tk,rfl,q⟩
theorem xQ{t:RL.Ty}{d:RL.D}{k:Bool}{v:V}{H:Hp}(h:RL.cb t d=some k)(r:Rep nP X.K H d v):∃ ty,cT X.K H v ty/\PySem.W.kitOne X.K ty (.type (tyN t))=some k:=by
 cases d with
 | non=>rw[Rep]at r;subst r;refine⟨_,.non,?_⟩;cases t<;>(simp only[RL.cb]at h;cases h;rfl)
 | bl i=>rw[aK r];refine⟨_,.bl i,?_⟩;cases t<;>(simp only[RL.cb]at h;cases h;rfl)
 | int i=>rw[af r];refine⟨_,.int i,?_⟩;cases t<;>(simp only[RL.cb]at h;cases h;rfl)
 | str i=>rw[aE r];refine⟨_,.str i,?_⟩;cases t<;>(simp only[RL.cb]at h;cases h;rfl)
 | tup i=>obtain⟨q,xs,rfl,f2,f3⟩:=aR r;refine⟨_,.tup f2,?_⟩;cases t<;>(simp only[RL.cb]at h;cases h;rfl)
 | lst i=>obtain⟨q,xs,rfl,_,f2,f3⟩:=a6 r;refine⟨_,.lst f2,?_⟩;cases t<;>(simp only[RL.cb]at h;cases h;rfl)
 | _=>cases t<;>(simp only[RL.cb]at h;cases h)
theorem zC{t:RL.Ty}{y:Str}(hg:Gl X "isinstance")(hm:X.mg "isinstance" = none)(hgy:Gl X y)(hmy:X.mg y=none)(hy:bootBuiltins y=some (.type (tyN t)))(hy1:y ≠ "__name__")(hy2:(y == ("__debug__" : Str))=false)(ha:SE X cl a a')(hn:noStar a=true) :
  SE X cl (.Call (.Name "isinstance" p) [a,.Name y p2] [] pos) (.isi a' t):=by
 have hty:PE X (.Name y p2) (tC (.ty (tyN t))):=vB hgy hmy hy rfl hy1 hy2
 refine PE.weak (iY sr hg hm (by decide +kernel) (bJ ha (bJ hty cU) (ay _ hn)) (by decide) (by decide) (ay _ hn) rfl) fun σ H Q h=>?_
 obtain⟨σD,d,rv,e,k⟩:=h
 rw[RL.ev]at e
 obtain⟨u,ea,e⟩:=bind_some e
 obtain⟨t',e1,e2⟩:=map_some e
 subst e2
 refine⟨σD,u,rv,ea,fun v H1 r1=>?_⟩
 obtain⟨ty,h1,h2⟩:=xQ e1 r1.rep
 exact⟨v,ty,_,t',rfl,h1,h2,k _ _ (d6 r1.same)⟩
end rules
end RS
namespace L2
open PySem PySem.Spec PyProof.Rows
structure i8(prog:Program)(w:World):Prop where
 draws:∀ {A:Around},A.handled=none->∀ (ti tp:Addr),tp≠ti->∀ its:Array Value,Draws prog w A ti [ti,tp] its.size (fun i v=>its[i]?=some v) (fun i h=>h.IsTupleIter ti tp i/\h.IsTuple tp its)
 call:∀ {A:Around} {E:Value->Shared->Prop} {z:Shared} {tp:Addr} {its:Array Value} {Q:Value->Shared->Prop},z.heap.IsTuple tp its ->
  (∀ g,IsEnum g (z.heap.objs.size+1) z.heap.objs.size 0 .none->g.IsTupleIter z.heap.objs.size tp 0->(∀ b o,z.heap.get? b=some o->g.get? b=some o)->Q (.ref (z.heap.objs.size+1)) { z with heap:=g })->wpAny (model prog w) A (call (.type "enumerate") [.ref tp]) Q E z
section
variable{X:Cx}{pins:List (Addr × Obj)}{σ:St}{H:Hp}{s:Shared}
theorem Inv.jT{h':Heap}{t':Nat}{fp:List Addr}(I:Inv X pins σ H s)(k:∀ b o,b∉fp->s.heap.get? b=some o->h'.get? b=some o)(hf:∀ b∈fp,H b=none/\(b∈X.ex\/X.s₀.heap.objs.size<=b)/\b≠X.env.locals/\(∀ x c,X.env.cells.lookup x=some c->c≠b)/\∀ p∈X.pn++pins,p.1≠b) :
  Inv X pins σ H { s with heap:=h',toks:=t' }:=by
 have nf:∀ b u,H b=some u->b∉fp:=fun b u e z=>by rw[(hf b z).1]at e;cases e
 refine I.uE (s':={ s with heap:=h',toks:=t' }) (ch:=fp) rfl ⟨fun b o e _ _ hx=>k b o hx e,fun b o e _ _ hx=>⟨o.slots,k b o hx e⟩,fun _ _ _ n _=>n,fun b o e hx=>⟨o,k b o hx e⟩,fun _ _ e=>e,fun _ _ _ e=>e,fun b ps e=>⟨#[],by rw[e];simp⟩⟩ (fun b u e=>?_) I.bare fun b hb=>(hf b hb).2
 refine(I.hok b u e).bE (fun c v hc q=>k c v ?_ q) (fun _ q=>q) fun _ _ q=>q
 rcases hc with z | z
 ·rw[z];exact nf b u e
 ·exact nf c _ z
end
noncomputable def Ite(cont:Hp->List V->Prop):It :=
 ⟨fun i H=>∃ xs x,cont H xs/\xs[i]?=some x,fun i H v H'=>∃ p x,H p=none/\v=.ref p/\H'=upd H p (.tup [.int i,x])/\∀ xs,cont H xs->xs[i]?=some x,fun i H=>∃ xs,cont H xs/\xs.length=i⟩
structure Src(P:Program)(w:World)(K:PySem.W.Frag)(e it:Addr)(cont:Hp->List V->Prop)(ia:Nat->Heap->Prop):Prop where
 obj:∀ i h,ia i h->∃ o,h.get? it=some o/\∀ v,o.data≠.cell v
 keep:∀ i h h',ia i h->(∀ o,h.get? it=some o->h'.get? it=some o)->ia i h'
 inj:∀ (H:Hp) xs ys,cont H xs->cont H ys->xs=ys
 dr:∀ (X:Cx),X.prog=P->X.w=w->X.K=K->X.calm=true->∀ (pins:List (Addr × Obj)) (s:Shared) (σ:St) (H:Hp) (xs:List V),Inv X pins σ H s->H e=none->H it=none->cont H xs ->
  ∃ (fp:List Addr) (Pv:Nat->Value->Prop) (St:Nat->Heap->Prop),Draws P w X.A.in1 it fp xs.length Pv St/\e∉fp/\(∀ i,ia i s.heap->St i s.heap)/\(∀ i h,St i h->ia i h)/\∀ i v,Pv i v->∃ x,xs[i]?=some x/\RelV x v
theorem qF{P:Program}{w:World}{K:PySem.W.Frag}{elts:List Expr}{kx:Nat}{tp:Pos}{e it:Addr}{cont:Hp->List V->Prop}{ia:Nat->Heap->Prop}(hei:e≠it)(S:Src P w K e it cont ia) :
  Turn P w K (.Tuple elts kx tp) (Ite cont) [e,it] e (fun i h=>(∃ old,IsEnum h e it i old)/\ia i h) where
 mem:=by simp
 obj:=fun i h st b hb=>by
  rcases List.mem_cons.mp hb with rfl | hb
  ·obtain⟨⟨old,he⟩,_⟩:=st
   exact⟨_,he,fun v z=>by cases z⟩
  ·rw[List.mem_singleton.mp hb]
   exact S.obj i h st.2
 keep:=fun i h h' st k=>by
  obtain⟨⟨old,he⟩,hi⟩:=st
  exact⟨⟨old,k e (by simp) _ he⟩,S.keep i h h' hi fun o q=>k it (by simp) o q⟩
 item:=by
  intro X hP hw hK hc i pins s σ H E I hf st hg
  subst hP hw hK
  obtain⟨⟨old,he⟩,hi⟩:=st
  obtain⟨xs,x,hq,hx⟩:=hg
  have fe:=hf e (by simp)
  have fi:=hf it (by simp)
  obtain⟨fp,Pv,St,D,hef,h1,h2,h3⟩:=S.dr X rfl rfl rfl hc pins s σ H xs I fe.1 fi.1 hq
  have hlt:i<xs.length:=(List.getElem?_eq_some_iff.mp hx).1
  refine wpAny_pyNext_enum_itemD D he (h1 i hi) hlt hei hef fun v h' tk hP ho hs' hT hsz hk=>?_
  obtain⟨x',hx',rx⟩:=h3 i v hP
  rw[hx]at hx'
  cases hx'
  refine⟨.ref s.heap.objs.size,rfl,wpAny_letOwnedTupleGo_enum ho fun h'' he' hs''=>?_⟩
  have hn:H s.heap.objs.size=none:=I.hok.fresh (Nat.le_refl _)
  have I1:Inv X pins σ (upd H s.heap.objs.size (.tup [.int i,x])) { s with heap:=s.heap.push { cls:=.type "tuple",data:=.seq #[.int i tk,v] },toks:=tk+1 } :=
   I.laid (t':=tk+1) (fun b u q=>Heap.get?_push_of_some _ q) (Nat.le_refl _) ⟨by show 2<=sizeLine;decide,[.int i tk,v],.cons ⟨tk,rfl⟩ (.cons rx .nil),⟨_,Heap.get?_push_size _ rfl,rfl,_,rfl⟩⟩
  have hes:e<s.heap.objs.size:=Heap.lt_size he
  have hit:it<s.heap.objs.size:=by obtain⟨o,q,_⟩:=S.obj i _ hi;exact Heap.lt_size q
  have stat:∀ b∈[e,it],upd H s.heap.objs.size (.tup [.int i,x]) b=none/\(b∈X.ex\/X.s₀.heap.objs.size<=b)/\b≠X.env.locals/\(∀ x c,X.env.cells.lookup x=some c->c≠b)/\∀ p∈X.pn++pins,p.1≠b:=fun b hb=>by
   obtain⟨f0,f1,f2,f3,f4,f5⟩:=hf b hb
   have hb':b≠s.heap.objs.size:=by
    rcases List.mem_cons.mp hb with rfl | hb
    ·exact Nat.ne_of_lt hes
    ·rw[List.mem_singleton.mp hb];exact Nat.ne_of_lt hit
   exact⟨by rw[aH hb'];exact f0,f3,f1,f4,f5⟩
  have I2:Inv X pins σ (upd H s.heap.objs.size (.tup [.int i,x])) { s with heap:=h'',toks:=tk+1 }:=by
   refine Inv.jT (s:={ s with heap:=s.heap.push { cls:=.type "tuple",data:=.seq #[.int i tk,v] },toks:=tk+1 }) (h':=h'') (t':=tk+1) (fp:=[e,it]) I1 (fun b o hb q=>?_) stat
   have b1:b≠e:=fun z=>hb (by simp[z])
   have b2:b≠it:=fun z=>hb (by simp[z])
   refine hs''.extBut b o b1 ?_
   by_cases hbT:b=s.heap.objs.size
   ·subst hbT
    have q':(s.heap.push { cls:=.type "tuple",data:=.seq #[.int i tk,v] }).get? s.heap.objs.size=some o:=q
    rw[Heap.get?_push_size _ rfl]at q'
    cases q'
    exact hT
   ·have q':s.heap.get? b=some o:=(Heap.get?_push_ne _ _ _ hbT).symm.trans q
    exact hk b o b1 b2 q'
  refine⟨.ref s.heap.objs.size,_,I2,rfl,⟨s.heap.objs.size,x,hn,rfl,rfl,fun ys hy=>by rw[S.inj H ys xs hy hq];exact hx⟩,⟨⟨v,by simpa using he'⟩,S.keep _ h' h'' (h2 _ _ hs') fun o q=>hs''.extBut _ _ (Ne.symm hei) q⟩,fun b hb=>(stat b hb).1⟩
 done:=by
  intro X hP hw hK hc i pins s σ H E I hf st hg
  subst hP hw hK
  obtain⟨⟨old,he⟩,hi⟩:=st
  obtain⟨xs,hq,hx⟩:=hg
  have fe:=hf e (by simp)
  have fi:=hf it (by simp)
  obtain⟨fp,Pv,St,D,hef,h1,h2,h3⟩:=S.dr X rfl rfl rfl hc pins s σ H xs I fe.1 fi.1 hq
  subst hx
  refine wpAny_pyNext_enum_endD D he (h1 _ hi) fun h' eb=>⟨rfl,?_⟩
  obtain⟨f0,f1,f2,f3,f4,f5⟩:=fi
  exact I.turned (it:=it) (h':=h') (t':=s.toks) (fun b o hb q=>eb b o hb q) f0 f1 f3 f4 f5
 self:=fun A i s Q E st h=>by
  obtain⟨⟨old,he⟩,hi⟩:=st
  exact wpAny_pyIter_enum he h
theorem src_list{P:Program}{w:World}{K:PySem.W.Frag}{e it l:Addr}(hei:e≠it):Src P w K e it (fun H xs=>H l=some (.lst xs)) (fun i h=>h.IsListIter it l i) where
 obj:=fun i h st=>let ⟨o,ho,_,hd⟩:=st;⟨o,ho,fun v q=>by rw[hd]at q;cases q⟩
 keep:=fun i h h' st k=>st.at fun o q=>k o q
 inj:=fun H xs ys h1 h2=>by rw[h1]at h2;cases h2;rfl
 dr:=by
  intro X hP hw hK hc pins s σ H xs I he hi hx
  subst hP hw hK
  obtain⟨its,rv,p,hz⟩:=I.list (SqL.of hx)
  have hl:its.toArray.size=xs.length:=by rw[List.size_toArray,rv.length]
  have hh:X.A.in1.handled=none:=I.ok.hd hc
  have D:=Draws.list (prog:=X.prog) (w:=X.w) (A:=X.A.in1) hh it l (aG hx hi) its.toArray
  rw[hl]at D
  refine⟨_,_,_,D,?_,fun i st=>⟨st,p.isList⟩,fun i h st=>st.1,fun i v hv=>?_⟩
  ·intro m
   rcases List.mem_cons.mp m with q | m
   ·exact hei q
   ·exact(aG hx he).symm (List.mem_singleton.mp m)
  ·have hv:its[i]?=some v:=by simpa using hv
   have hlt:i<xs.length:=by rw[rv.length];exact(List.getElem?_eq_some_iff.mp hv).1
   obtain⟨u,h1,h2⟩:=rv.get (i:=i) (x:=xs[i]) (by simp[hlt])
   rw[hv]at h1
   cases h1
   exact⟨xs[i],by simp[hlt],h2⟩
theorem wo{P:Program}{w:World}{K:PySem.W.Frag}{e it l:Addr}(TE:i8 P w)(hei:e≠it):Src P w K e it (fun H xs=>H l=some (.tup xs)) (fun i h=>h.IsTupleIter it l i) where
 obj:=fun i h st=>let ⟨o,ho,_,hd⟩:=st;⟨o,ho,fun v q=>by rw[hd]at q;cases q⟩
 keep:=fun i h h' st k=>let ⟨o,ho,r⟩:=st;⟨o,k o ho,r⟩
 inj:=fun H xs ys h1 h2=>by rw[h1]at h2;cases h2;rfl
 dr:=by
  intro X hP hw hK hc pins s σ H xs I he hi hx
  subst hP hw hK
  obtain⟨its,rv,p,hz⟩:=I.tuple (SqT.of hx)
  have hl:its.toArray.size=xs.length:=by rw[List.size_toArray,rv.length]
  have hh:X.A.in1.handled=none:=I.ok.hd hc
  have D:=TE.draws (A:=X.A.in1) hh it l (aG hx hi) its.toArray
  rw[hl]at D
  refine⟨_,_,_,D,?_,fun i st=>⟨st,p⟩,fun i h st=>st.1,fun i v hv=>?_⟩
  ·intro m
   rcases List.mem_cons.mp m with q | m
   ·exact hei q
   ·exact(aG hx he).symm (List.mem_singleton.mp m)
  ·have hv:its[i]?=some v:=by simpa using hv
   have hlt:i<xs.length:=by rw[rv.length];exact(List.getElem?_eq_some_iff.mp hv).1
   obtain⟨u,h1,h2⟩:=rv.get (i:=i) (x:=xs[i]) (by simp[hlt])
   rw[hv]at h1
   cases h1
   exact⟨xs[i],by simp[hlt],h2⟩
noncomputable def fw(x:Str):List V:=x.cps.toList.map fun c=>.str ⟨#[c]⟩
theorem uR{P:Program}{w:World}{K:PySem.W.Frag}{e it:Addr}{x:Str}{t:Tok}(hei:e≠it):Src P w K e it (fun _ xs=>xs=fw x) (fun i h=>h.IsStrIter it (strIterType x) x t i) where
 obj:=fun i h st=>let ⟨o,ho,_,hd⟩:=st;⟨o,ho,fun v q=>by rw[hd]at q;cases q⟩
 keep:=fun i h h' st k=>let ⟨o,ho,r⟩:=st;⟨o,k o ho,r⟩
 inj:=fun H xs ys h1 h2=>by rw[h1,h2]
 dr:=by
  intro X hP hw hK hc pins s σ H xs I he hi hx
  subst hP hw hK hx
  have hh:X.A.in1.handled=none:=I.ok.hd hc
  have hl:x.cps.size=(fw x).length:=by simp[fw]
  have pv:∀ (i:Nat) (v:Value),(∃ c u,x.cps[i]?=some c/\v=Value.str ⟨#[c]⟩ u)->∃ y,(fw x)[i]?=some y/\RelV y v:=fun i v hv=>by
   obtain⟨c,u,h1,h2⟩:=hv
   exact⟨.str ⟨#[c]⟩,by simp[fw,h1],u,h2⟩
  have ni:e∉[it]:=fun m=>hei (List.mem_singleton.mp m)
  cases ha:x.cps.all (·<128)with
  |true=>
   have ht:strIterType x = "str_ascii_iterator" := by simp[strIterType,ha]
   have D:=Draws.strAscii (prog:=X.prog) (w:=X.w) (A:=X.A.in1) hh it x t
   rw[hl]at D
   exact⟨_,_,_,D,ni,fun i st=>by rw[ht]at st;exact st,fun i h st=>by rw[ht];exact st,pv⟩
  |false=>
   have ht:strIterType x = "str_iterator" := by simp[strIterType,ha]
   have D:=Draws.strWide (prog:=X.prog) (w:=X.w) (A:=X.A.in1) hh it x t
   rw[hl]at D
   exact⟨_,_,_,D,ni,fun i st=>by rw[ht]at st;exact st,fun i h st=>by rw[ht];exact st,pv⟩
section
variable{X:Cx}{elts:List Expr}{kx:Nat}{tp p pos:Pos}{a:Expr}{ta:TA}
noncomputable def Af(ta:TA):TI:=fun σ H R=>ta σ H fun vs H1=>(∃ l xs,vs=[.ref l]/\H1 l=some (.lst xs)/\R (Ite fun H xs=>H l=some (.lst xs)) H1)\/(∃ l xs,vs=[.ref l]/\H1 l=some (.tup xs)/\R (Ite fun H xs=>H l=some (.tup xs)) H1) \/
 (∃ x,vs=[.str x]/\R (Ite fun _ xs=>xs=fw x) H1)
theorem iM{pins:List (Addr × Obj)}{σ:St}{H:Hp}{s:Shared}{g:Heap}{R:It->Hp->Prop}{E:Value->Shared->Prop}{cont:Hp->List V->Prop}{ia:Nat->Heap->Prop}(I:Inv X pins σ H s)(S:Src X.prog X.w X.K (s.heap.objs.size+1) s.heap.objs.size cont ia)
 (he:IsEnum g (s.heap.objs.size+1) s.heap.objs.size 0 .none)(hi:ia 0 g)(hk:∀ b o,s.heap.get? b=some o->g.get? b=some o)(q:R (Ite cont) H) :
  wpAny (model X.prog X.w) X.A (pyIter (.ref (s.heap.objs.size+1))) (PIE X pins σ (.Tuple elts kx tp) R) E { s with heap:=g }:=by
 refine wpAny_pyIter_enum he ⟨s.heap.objs.size+1,[s.heap.objs.size+1,s.heap.objs.size],_,_,H,rfl,I.kept (t':=s.toks) hk,qF (Nat.succ_ne_self _) S,⟨⟨.none,he⟩,hi⟩,fun b hb=>?_,q⟩
 have hb':s.heap.objs.size<=b:=by
  rcases List.mem_cons.mp hb with z | z
  ·rw[z];exact Nat.le_succ _
  ·rw[List.mem_singleton.mp z];exact Nat.le_refl _
 exact I.ko hb' (I.hok.fresh hb')
theorem vE(TE:i8 X.prog X.w)(hg:Gl X "enumerate")(hm:X.mg "enumerate" = none)(ha:PA X [a] ta)(hs:starEach [a] X.env=[(false,eval a X.env)]):PI X (.Tuple elts kx tp) (.Call (.Name "enumerate" p) [a] [] pos) (Af ta):=by
 intro pins s σ H R I h
 refine Call_ (eA I hg hm boot_enumerate (PyProof.Rows.callWith_type1 (thn (ha pos pins s σ H _ I h) fun us s1 ⟨vs,H1,I1,r1,q1⟩=>?_) hs rfl))
 rcases q1 with⟨l,xs,rfl,hx,q⟩ | ⟨l,xs,rfl,hx,q⟩ | ⟨x,rfl,q⟩
 ·obtain⟨u,rfl,ru⟩:=vals1 r1
  cases ru
  obtain⟨its,rv,pl,hz⟩:=I1.list (SqL.of hx)
  exact call_enumerate_list pl.isList fun g he hi hsz hk=>iM I1 (src_list (Nat.succ_ne_self _)) he hi hk q
 ·obtain⟨u,rfl,ru⟩:=vals1 r1
  cases ru
  obtain⟨its,rv,pl,hz⟩:=I1.tuple (SqT.of hx)
  exact TE.call pl fun g he hi hk=>iM I1 (wo TE (Nat.succ_ne_self _)) he hi hk q
 ·obtain⟨u,rfl,ru⟩:=vals1 r1
  obtain⟨t,rfl⟩:=ru
  exact call_enumerate_str fun g he hi hsz hk=>iM I1 (uR (Nat.succ_ne_self _)) he hi hk q
end
end L2
namespace RS
open PySem PySem.Spec PyProof.Rows L2
theorem gL:∀ (ds:List RL.D) (k:Int),(RL.cx k ds).length=ds.length
 | [],_=>rfl
 | d::r,k=>by rw[RL.cx,List.length_cons,List.length_cons,gL r]
theorem kY:∀ (ds:List RL.D) (k:Int) (i:Nat) (d:RL.D),(RL.cx k ds)[i]?=some d->∃ e,ds[i]?=some e/\d=.tup [.int (k+i),e]
 | [],k,i,d,h=>by simp[RL.cx]at h
 | e::r,k,0,d,h=>by simp[RL.cx]at h;exact⟨e,rfl,by simp[h]⟩
 | e::r,k,i+1,d,h=>by
  rw[RL.cx,List.getElem?_cons_succ]at h
  obtain⟨e',h1,h2⟩:=kY r (k+1) i d h
  refine⟨e',by simpa using h1,?_⟩
  rw[h2]
  congr 3
  lia
theorem et{K:PySem.W.Frag}{H:Hp}{ds:List RL.D}{xs:List V}{P:Addr->Prop}{cont:Hp->List V->Prop}(hc:∀ H',Off P H H'->cont H' xs)(hj:∀ H' ys,cont H' xs->cont H' ys->ys=xs)(r:ab nP K H ds xs)(hm:∀ b o,P b->H b=some o->bW o):gn K (Ite cont) (RL.cx 0 ds) P H where
 go:=fun H' i k hi=>by
  rw[gL]at hi
  obtain⟨x,e,_⟩:=r.get (i:=i) (d:=ds[i]) (by simp[hi])
  exact⟨xs,x,hc H' k,e⟩
 stop:=fun H' k=>⟨xs,hc H' k,by rw[gL,r.length]⟩
 yld:=fun H' i d v H2 k e y=>by
  obtain⟨p,x,hp,rfl,rfl,hx⟩:=y
  obtain⟨e',h1,rfl⟩:=kY ds 0 i d e
  obtain⟨x',h2,h3⟩:=r.get h1
  rw[hx xs (hc H' k)]at h2
  cases h2
  refine⟨ax.bI hp,fun q=>?_⟩
  have re:Rep nP K H' e' x:=by
   rcases q with q | q
   ·have q:(true&&(e'.imm&&true))=true:=q
    simp only[Bool.true_and,Bool.and_true]at q
    exact eF hm k h3 q
   ·exact h3.same q
  rw[Rep]
  refine⟨p,[.int i,x],rfl,bb,ab.cons ?_ (ab.cons (re.same (ax.bI hp)) ab.nil)⟩
  simpa using(aN (P:=nP) (K:=K) (H:=upd H' p (.tup [.int i,x])) (i:=(i:Int)))
theorem rX{P:Addr->Prop}{K:PySem.W.Frag}{H:Hp}{d:RL.D}{ds:List RL.D}{v:V}(h:RL.eK d=some ds)(r:Rep P K H d v):(∃ p xs,v=.ref p/\H p=some (.lst xs)/\d=.lst ds/\ab P K H ds xs)\/(∃ p xs,v=.ref p/\H p=some (.tup xs)/\d=.tup ds/\ab P K H ds xs) \/
  (∃ x,v=.str x/\d=.str x/\ds=x.cps.toList.map fun c=>.str ⟨#[c]⟩):=by
 cases d<;>simp only[RL.eK]at h<;>first | (cases h;done) | skip
 case lst ys=>cases h;obtain⟨p,xs,e1,_,e2,e3⟩:=a6 r;exact .inl ⟨p,xs,e1,e2,rfl,e3⟩
 case tup ys=>cases h;obtain⟨p,xs,e1,e2,e3⟩:=aR r;exact .inr (.inl ⟨p,xs,e1,e2,rfl,e3⟩)
 case str x=>cases h;exact .inr (.inr ⟨x,aE r,rfl,rfl⟩)
theorem gw{P:Addr->Prop}{K:PySem.W.Frag}{H:Hp}:∀ (cs:List Nat),ab P K H (cs.map fun c=>RL.D.str ⟨#[c]⟩) (cs.map fun c=>V.str ⟨#[c]⟩)
 | []=>ab.nil
 | c::r=>ab.cons fq (gw r)
section rules
variable{X:Cx}{cl:RL.Cl}{elts:List Expr}{kx:Nat}{tp p pos:Pos}{a:Expr}{a':RL.E}
theorem yP(TE:i8 X.prog X.w)(hg:Gl X "enumerate")(hm:X.mg "enumerate" = none)(ha:SE X cl a a')(hn:noStar a=true):SI X cl (.Tuple elts kx tp) (.Call (.Name "enumerate" p) [a] [] pos) (.enm a'):=by
 intro pins s σ H R I h
 obtain⟨σD,ds,rv,e,k⟩:=h
 rw[RL.aZ]at e
 obtain⟨d,e1,e2⟩:=bind_some e
 obtain⟨es,e3,e4⟩:=map_some e2
 subst e4
 have hpa:PA X [a] (jz (tE X.K cl a') oY):=bJ ha cU (ay [] hn)
 refine vE TE hg hm hpa (ay [] hn) pins s σ H R I ⟨σD,d,rv,e1,fun v H1 r1=>?_⟩
 rcases rX e3 r1.rep with⟨l,xs,rfl,hx,rfl,rs⟩ | ⟨l,xs,rfl,hx,rfl,rs⟩ | ⟨x,rfl,rfl,rfl⟩
 ·refine .inl ⟨l,xs,rfl,hx,k _ _ r1.same ⟨et (fun H' o=>o _ _ (fun z=>z) hx) (fun H' ys h1 h2=>by rw[h1]at h2;cases h2;rfl) rs eI,fun M P z hP av=>?_⟩⟩
  exact et (fun H' o=>o _ _ (jw r1 z hP av _ _ rfl rfl) hx) (fun H' ys h1 h2=>by rw[h1]at h2;cases h2;rfl) rs (cN r1.same hP)
 ·have np:∀ P:Addr->Prop,(∀ b o,P b->H1 b=some o->bW o)->¬ P l:=fun P hP q=>by rcases hP l _ q hx with⟨z,q⟩ | ⟨z,q⟩ | ⟨z,q⟩<;>cases q
  exact .inr (.inl ⟨l,xs,rfl,hx,k _ _ r1.same ⟨et (fun H' o=>o _ _ (np _ eI) hx) (fun H' ys h1 h2=>by rw[h1]at h2;cases h2;rfl) rs eI,fun M P z hP av=>et (fun H' o=>o _ _ (np P (cN r1.same hP)) hx) (fun H' ys h1 h2=>by rw[h1]at h2;cases h2;rfl) rs (cN r1.same hP)⟩⟩)
 ·exact .inr (.inr ⟨x,rfl,k _ _ r1.same ⟨et (fun H' o=>rfl) (fun H' ys h1 h2=>h2) (gw _) eI,fun M P z hP av=>et (fun H' o=>rfl) (fun H' ys h1 h2=>h2) (gw _) (cN r1.same hP)⟩⟩)
end rules
section rules
variable{X:Cx}{cl:RL.Cl}{a b:Expr}{a' b':RL.E}{pos p p2:Pos}{M:List Nat}{st:Stmt}{i:Nat}{e' k':RL.E}
theorem vF{P:Addr->Prop}{K:PySem.W.Frag}{H:Hp}{ds:List RL.D}{v:V}(h:Rep P K H (.scr ds) v):∃ a xs,v=.ref a/\hJ K H a xs/\ab P K H ds xs:=by rw[Rep]at h;exact h
theorem r0(n:Nat)(k:Int):HT.sIx n n (some k)=RL.cutAt n k:=by
 have h:=HT.i5 k n n
 unfold RL.cutAt
 split at h
 ·rw[if_neg (by lia)];lia
 ·rw[if_pos (by lia)];lia
theorem xy(ha:SE X cl a a')(hb:SE X cl b b'):SE X cl (.Subscript a (.Slice none (some b) none p2) pos) (.slT a' b'):=by
 refine PE.weak (sG (SlR.or vJ x6) ha vS (vf hb)) fun σ H Q h=>?_
 obtain⟨σD,d,rv,e,k⟩:=h
 rw[RL.ev]at e
 obtain⟨x,ea,e⟩:=bind_some e
 obtain⟨y,eb,e⟩:=bind_some e
 refine⟨σD,x,rv,ea,fun v H1 r1=>⟨σD,y,rv.same r1.same,eb,fun u H2 r2=>?_⟩⟩
 have rx:=r1.rep.same r2.same
 have sm:=r1.same.trans r2.same
 cases y with
 |int n=>
  refine⟨n,af r2.rep,?_⟩
  cases x with
  |lst xs=>
   cases e
   obtain⟨q,ys,rfl,_,f2,f3⟩:=a6 rx
   refine .inl ⟨q,ys,rfl,SqL.of f2,fun l hl=>?_⟩
   unfold fS
   rw[jd,<-f3.length]
   exact k _ _ (d5 sm hl (f3.take _) fun _=>rfl)
  |scr xs=>
   cases e
   obtain⟨q,ys,rfl,f2,f3⟩:=vF rx
   refine .inl ⟨q,ys,rfl,f2.seq,fun l hl=>?_⟩
   unfold fS
   rw[jd,<-f3.length]
   exact k _ _ (d5 sm hl (f3.take _) fun _=>rfl)
  |tup xs=>
   simp only[RL.mS]at e
   split at e
   ·rename_i hz
    cases e
    obtain⟨q,ys,rfl,f2,f3⟩:=aR rx
    refine .inr ⟨q,ys,rfl,SqT.of f2,fun z=>?_,fun l hl=>?_⟩
    ·rw[r0,<-f3.length]at z
     lia
    ·unfold fS
     rw[jd,<-f3.length]
     exact k _ _ (eS sm hl (f3.take _) fun _=>rfl)
   ·cases e
  | _=>cases e
 | _=>cases x<;>cases e
noncomputable def t6:RL.D->RL.D->Option (Option RL.D)
 | .dK ks vs,k=>(RL.keyOf k).map (RL.aQ ks vs)
 | .dT ks vs,.tup k=>(RL.keysOf k).map (RL.aQ ks vs)
 | _,_=>none
noncomputable def Ans(P:Addr->Prop)(K:PySem.W.Frag)(H:Hp):Option RL.D->Option V->Prop
 | some d,r=>∃ w,r=some w/\Rep P K H d w
 | none,r=>r=none
theorem jW{κ:Type} [DecidableEq κ]{P:Addr->Prop}{K:PySem.W.Frag}{H:Hp}{x:κ}:∀ {ks:List κ} {ds:List RL.D} {xs:List V},ks.length=ds.length->ab P K H ds xs ->
  Ans P K H (RL.aQ ks ds x) (cV (ks.zip xs) x)
 | [],ds,xs,hl,r=>by simp[RL.aQ,cV,Ans]
 | k::ks,[],xs,hl,r=>by simp at hl
 | k::ks,d::ds,xs,hl,r=>by
  rw[ab]at r
  obtain⟨v,t,rfl,r1,r2⟩:=r
  by_cases hk:k=x
  ·have h1:RL.aQ (k::ks) (d::ds) x=some d:=by rw[RL.aQ,if_pos hk]
   rw[h1]
   exact⟨v,by rw[List.zip_cons_cons];exact gr hk,r1⟩
  ·have ih:=jW (x:=x) (ks:=ks) (ds:=ds) (xs:=t) (by simpa using hl) r2
   have h1:RL.aQ (k::ks) (d::ds) x=RL.aQ ks ds x:=by rw[RL.aQ,if_neg hk]
   rw[h1,List.zip_cons_cons,fT hk]
   exact ih
theorem iT{P:Addr->Prop}{K:PySem.W.Frag}{H:Hp}{d:RL.D}{k:RL.Ky}{v:V}(h:RL.keyOf d=some k)(r:Rep P K H d v):v=kV k:=by
 cases d<;>simp only[RL.keyOf]at h<;>first | (cases h;done) | skip
 case int i=>cases h;exact af r
 case str i=>cases h;exact aE r
theorem gE{P:Addr->Prop}{K:PySem.W.Frag}{H:Hp}:∀ {ds:List RL.D} {k:List RL.Ky} {xs:List V},RL.keysOf ds=some k->ab P K H ds xs->xs=k.map kV
 | [],k,xs,h,r=>by cases h;rw[ab]at r;exact r
 | d::ds,k,xs,h,r=>by
  rw[RL.keysOf]at h
  obtain⟨k1,h1,h⟩:=bind_some h
  obtain⟨k2,h2,h3⟩:=map_some h
  subst h3
  rw[ab]at r
  obtain⟨v,t,rfl,r1,r2⟩:=r
  rw[iT h1 r1,gE h2 r2]
  rfl
theorem vN{H:Hp}{y kx:RL.D}{v u:V}{o:Option RL.D}(ry:Rep nP X.K H y v)(rk:Rep nP X.K H kx u)(h:t6 y kx=some o) :
  ∃ q r,v=.ref q/\fP H q u r/\Ans nP X.K H o r:=by
 cases y with
 |dK ks vs=>
  obtain⟨k,h1,h2⟩:=map_some h
  rw[Rep]at ry
  obtain⟨q,xs,rfl,_,f2,fl,f3⟩:=ry
  have lk:=jW (x:=k) fl f3
  rw[h2]at lk
  refine⟨q,_,rfl,by rw[iT h1 rk];exact fP.k f2,lk⟩
 |dT ks vs=>
  cases kx with
  |tup kk=>
   obtain⟨k,h1,h2⟩:=map_some h
   rw[Rep]at ry
   obtain⟨q,xs,rfl,_,f2,fl,f3⟩:=ry
   obtain⟨q',ys,rfl,g2,g3⟩:=aR rk
   rw[gE h1 g3]at g2
   have lk:=jW (x:=k) fl f3
   rw[h2]at lk
   exact⟨q,_,rfl,fP.t f2 g2,lk⟩
  | _=>cases h
 | _=>cases kx<;>cases h
theorem yp:SE X cl (.Dict [] [] pos) .dt0:=by
 refine PE.weak t5 fun σ H Q h=>?_
 obtain⟨σD,d,rv,e,k⟩:=h
 rw[RL.ev]at e
 cases e
 intro q hq
 refine k _ _ ⟨ax.bI hq,?_,fun _ _ a z=>(by cases z;exact hq),fun M z=>nomatch (show false=true from z)⟩
 rw[Rep]
 exact⟨q,[],rfl,fun z=>z,bb,rfl,ab.nil⟩
end rules
section rules
variable{X:Cx}{cl:RL.Cl}{a b:Expr}{a' b':RL.E}{pos p p2:Pos}{M:List Nat}{st:Stmt}{i:Nat}{e' k':RL.E}
theorem oO{κ:Type} [DecidableEq κ]{x:κ}{d:RL.D}{v:V}{P:Addr->Prop}{K:PySem.W.Frag}{H:Hp}{ks:List κ}{ds:List RL.D}{xs:List V}(hl:ks.length=ds.length)(r:ab P K H ds xs)(rv:Rep P K H d v) :
  ∃ ys,putK (ks.zip xs) x v=(RL.putD ks ds x d).1.zip ys/\(RL.putD ks ds x d).1.length=(RL.putD ks ds x d).2.length/\ab P K H (RL.putD ks ds x d).2 ys:=by
 have hx:ks.length=xs.length:=hl.trans r.length
 have any:∀ (ks:List κ) (xs:List V),ks.length=xs.length->((ks.zip xs).any fun kv=>decide (kv.1=x))=decide (x∈ks):=by
  intro ks
  induction ks with
  | nil=>intro xs _;simp
  |cons k r ih=>
   intro xs h
   cases xs with
   | nil=>simp at h
   |cons y t=>
    rw[List.zip_cons_cons,List.any_cons,ih t (by simpa using h)]
    by_cases hk:k=x
    ·simp[hk]
    ·simp[hk,Ne.symm hk]
 unfold putK RL.putD
 rw[any ks xs hx]
 by_cases hm:x∈ks
 ·rw[if_pos (by simpa using hm),if_pos hm]
  refine⟨List.zipWith (fun k w=>if k=x then v else w) ks xs,?_,?_,?_⟩
  ·clear any hm hl r
   induction ks generalizing xs with
   | nil=>simp
   |cons k t ih=>
    cases xs with
    | nil=>simp at hx
    |cons y t'=>
     rw[List.zip_cons_cons,List.map_cons,List.zipWith_cons_cons,List.zip_cons_cons,ih (by simpa using hx)]
     by_cases hk:k=x<;>simp[hk]
  ·rw[List.length_zipWith,hl,Nat.min_self]
  ·clear any hm hx
   induction ks generalizing ds xs with
   | nil=>simpa using ab.nil
   |cons k t ih=>
    cases ds with
    | nil=>simp at hl
    |cons d0 ds=>
     rw[ab]at r
     obtain⟨y,t',rfl,r1,r2⟩:=r
     rw[List.zipWith_cons_cons,List.zipWith_cons_cons]
     refine ab.cons ?_ (ih (by simpa using hl) r2)
     by_cases hk:k=x
     ·rw[if_pos hk,if_pos hk];exact rv
     ·rw[if_neg hk,if_neg hk];exact r1
 ·rw[if_neg (by simpa using hm),if_neg hm]
  refine⟨xs++[v],?_,by simp[hl],ab.append r (ab.cons rv ab.nil)⟩
  rw[List.zip_append hx]
  rfl
theorem qu{κ:Type} [DecidableEq κ]{x:κ}{d:RL.D}(hd:d.imm=true):∀ {ks:List κ} {ds:List RL.D},RL.au ds=true->RL.au (RL.putD ks ds x d).2=true:=by
 have app:∀ l:List RL.D,RL.au l=true->RL.au (l++[d])=true:=fun l=>by
  induction l with
  | nil=>intro _;simp[RL.au,hd]
  | cons z r ih=>intro h;rw[RL.au,Bool.and_eq_true]at h;rw[List.cons_append,RL.au,h.1,ih h.2];rfl
 have zw:∀ (ks:List κ) (ds:List RL.D),RL.au ds=true->RL.au (List.zipWith (fun k w=>if k=x then d else w) ks ds)=true:=fun ks=>by
  induction ks with
  | nil=>intro ds _;simp[RL.au]
  |cons k r ih=>
   intro ds h
   cases ds with
   | nil=>simp[RL.au]
   |cons y t=>
    rw[RL.au,Bool.and_eq_true]at h
    rw[List.zipWith_cons_cons,RL.au,ih t h.2,Bool.and_true]
    by_cases hk:k=x
    ·rw[if_pos hk];exact hd
    ·rw[if_neg hk];exact h.1
 intro ks ds h
 unfold RL.putD
 split
 ·exact zw ks ds h
 ·exact app ds h
theorem vU(h:PS X st (pf (gQ i) (tE X.K cl k') (tE X.K cl e')))(hi:M.contains i=true):PS X st (tS X.K M fun σD=>(RL.ev cl σD e').bind fun d=>(RL.ev cl σD k').bind fun kk=>((σD[i]?).bind id).bind fun l=>match l with
  | .lst _=>none
  | _=>if d.imm then(RL.eY l kk d).map fun l'=>(.nx,σD.set i (some l'))else none):=by
 refine PS.weak h fun D σ H h=>?_
 obtain⟨σD,o,σD',rv,e,k⟩:=h
 obtain⟨d,e1,e⟩:=bind_some e
 obtain⟨kk,e2,e⟩:=bind_some e
 obtain⟨l,e3,e⟩:=bind_some e
 obtain⟨v,h1,h2⟩:=rv.val i _ (slot_get e3)
 rw[if_pos hi]at h2
 obtain⟨q1,q2,q3⟩:=h2
 cases l with
 |dK ks ds=>
  dsimp only at e
  split at e
  ·rename_i him
   obtain⟨l',e4,e5⟩:=map_some e
   cases e5
   obtain⟨kx,e6,e7⟩:=bind_some (show(RL.keyOf kk).bind _=some l' from e4)
   split at e7
   ·rename_i hz
    cases e7
    rw[Rep]at q3
    obtain⟨q,xs,rfl,_,f2,fl,f3⟩:=q3
    refine⟨σD,d,rv.rv0,e1,fun y H1 r1=>⟨.ref q,h1,σD,kk,rv.rv0.same r1.same,e2,fun u H2 r2=>?_⟩⟩
    have sm:=r1.same.trans r2.same
    obtain⟨ys,p1,p2,p3⟩:=oO (x:=kx) fl (f3.same sm) (r1.rep.same r2.same)
    have hlen:(ks.zip xs).length<sizeLine:=by
     rw[List.length_zip,<-f3.length,fl,Nat.min_self,<-fl]
     exact Nat.lt_of_lt_of_le hz bH
    refine⟨q,_,rfl,by rw[iT e6 r2.rep];exact gJ.k (sm _ _ f2) hlen,?_⟩
    have im:=qu (x:=kx) him (ks:=ks) q2
    obtain⟨g1,g2⟩:=(rv.same sm).gP (d':=.dK (RL.putD ks ds kx d).1 (RL.putD ks ds kx d).2) (o':=.dK (putK (ks.zip xs) kx y)) hi h1 (sm _ _ f2) (.inr (.inl ⟨_,rfl⟩)) ⟨rfl,im,by
     rw[Rep]
     exact⟨q,ys,rfl,fun z=>z,by rw[bb,p1],p2,(ab.upd (P:=fun p=>p=q) (sm _ _ f2) (.inr (.inl ⟨_,rfl⟩)) rfl (p3.imm im)).imm im⟩⟩
    exact k _ _ g1 ((Fr'.same sm).trans g2)
   ·cases e7
  ·cases e
 |dT ks ds=>
  dsimp only at e
  split at e
  ·rename_i him
   obtain⟨l',e4,e5⟩:=map_some e
   cases e5
   cases kk with
   |tup kt=>
    obtain⟨kx,e6,e7⟩:=bind_some (show(RL.keysOf kt).bind _=some l' from e4)
    split at e7
    ·rename_i hz
     cases e7
     rw[Rep]at q3
     obtain⟨q,xs,rfl,_,f2,fl,f3⟩:=q3
     refine⟨σD,d,rv.rv0,e1,fun y H1 r1=>⟨.ref q,h1,σD,.tup kt,rv.rv0.same r1.same,e2,fun u H2 r2=>?_⟩⟩
     have sm:=r1.same.trans r2.same
     obtain⟨ys,p1,p2,p3⟩:=oO (x:=kx) fl (f3.same sm) (r1.rep.same r2.same)
     have hlen:(ks.zip xs).length<sizeLine:=by
      rw[List.length_zip,<-f3.length,fl,Nat.min_self,<-fl]
      exact Nat.lt_of_lt_of_le hz bH
     obtain⟨b,ws,rfl,g2,g3⟩:=aR r2.rep
     rw[gE e6 g3]at g2
     refine⟨q,_,rfl,gJ.t (sm _ _ f2) g2 hlen,?_⟩
     have im:=qu (x:=kx) him (ks:=ks) q2
     obtain⟨g1,g2⟩:=(rv.same sm).gP (d':=.dT (RL.putD ks ds kx d).1 (RL.putD ks ds kx d).2) (o':=.dT (putK (ks.zip xs) kx y)) hi h1 (sm _ _ f2) (.inr (.inr ⟨_,rfl⟩)) ⟨rfl,im,by
      rw[Rep]
      exact⟨q,ys,rfl,fun z=>z,by rw[bb,p1],p2,(ab.upd (P:=fun p=>p=q) (sm _ _ f2) (.inr (.inr ⟨_,rfl⟩)) rfl (p3.imm im)).imm im⟩⟩
     exact k _ _ g1 ((Fr'.same sm).trans g2)
    ·cases e7
   | _=>cases e4
  ·cases e
 | lst _=>cases e
 | _=>cases q1
end rules
end RS
namespace L2
open PySem PySem.Spec PyProof.Rows
noncomputable def Its(c lo:Int)(n:Nat):It:=⟨fun i _=>i<n,fun i H x H'=>H'=H/\x=.int (lo+i*c),fun i _=>n<=i⟩
theorem qo{P:Program}{w:World}{K:PySem.W.Frag}{tg:Expr}(it:Addr)(c lo:Int)(n:Nat):Turn P w K tg (Its c lo n) [it] it (fun i h=>IsRangeIter h it (lo+(i:Nat)*c) ((n:Int)-(i:Nat)) c) where
 mem:=by simp
 obj:=fun i h st b hb=>by
  rw[show b=it by simpa using hb]
  exact⟨_,st,fun v z=>by cases(show Data.fields _=Data.cell v from z)⟩
 keep:=fun i h h' st k=>k it (by simp) _ st
 item:=by
  intro X hP hw hK hc i pins s σ H E I hf st hg
  subst hP hw hK
  obtain⟨f0,f1,f2,f3,f4,f5⟩:=hf it (by simp)
  have W:=Walks.range (prog:=X.prog) (w:=X.w) (I.ok.hd hc) it lo c n
  refine W.item i s _ _ hg st fun v h' tk hv st' kk=>?_
  obtain⟨t,rfl⟩:=hv
  have I1:Inv X pins σ H { s with heap:=h',toks:=tk }:=I.turned (fun b o hb e=>kk b o (by simpa using hb) e) f0 f1 f3 f4 f5
  exact⟨_,rfl,lE (s:={ s with heap:=h',toks:=tk }) (n := "range_iterator") st' rfl rfl (by decide) ⟨.int (lo+i*c),H,I1,⟨t,rfl⟩,⟨rfl,rfl⟩,st',fun b hb=>(hf b hb).1⟩⟩
 done:=by
  intro X hP hw hK hc i pins s σ H E I hf st hg
  subst hP hw hK
  obtain⟨f0,f1,f2,f3,f4,f5⟩:=hf it (by simp)
  exact wpAny_pyNext_range_end (I.ok.hd hc) st (by have:n<=i:=hg;lia) fun h' eb=>⟨rfl,I.turned (t':=s.toks) (fun b o hb e=>eb b o hb e) f0 f1 f3 f4 f5⟩
 self:=fun _ _ _ _ _ st h=>wpAny_pyIter_rangeiter st h
end L2
namespace RS
open PySem PySem.Spec PyProof.Rows L2
theorem j9(c:Int):∀ (n:Nat) (lo:Int) (i:Nat) (d:RL.D),(RL.bB c lo n)[i]?=some d->d=.int (lo+i*c)
 | 0,lo,i,d,h=>by simp[RL.bB]at h
 | n+1,lo,0,d,h=>by simp[RL.bB]at h;simp[h]
 | n+1,lo,i+1,d,h=>by
  rw[RL.bB,List.getElem?_cons_succ]at h
  rw[j9 c n (lo+c) i d h]
  congr 1
  rw[show((i+1:Nat):Int)=(i:Int)+1 by lia,Int.add_mul]
  lia
theorem fV(c:Int):∀ (n:Nat) (lo:Int),(RL.bB c lo n).length=n
 | 0,_=>rfl
 | n+1,lo=>by rw[RL.bB,List.length_cons,fV c n]
theorem nS{K:PySem.W.Frag}{H:Hp}{c lo:Int}{n:Nat}{P:Addr->Prop}:gn K (Its c lo n) (RL.bB c lo n) P H where
 go:=fun H' i k hi=>by rw[fV]at hi;exact hi
 stop:=fun H' k=>by rw[fV];exact Nat.le_refl _
 yld:=fun H' i d x H2 k e y=>by
  obtain⟨z,y⟩:=y
  subst z
  refine⟨ax.refl _,fun _=>?_⟩
  rw[j9 c n lo i d e,y]
  exact aN
section rules
variable{X:Cx}{cl:RL.Cl}{M:List Nat}{st:Stmt}{i:Nat}{e':RL.E}
theorem qZ{o:RL.Bop}{f:Int->Int->Int}(hf:∀ a b,RL.a8 o (.int a) (.int b)=some (.int (f a b)))(h:PS X st (yF i (tE X.K cl e') (ipI f)))(hi:M.contains i=false):SS X cl M st (.aug i o e'):=by
 refine PS.weak h fun D σ H h=>?_
 obtain⟨σD,ou,σD',rv,e,k⟩:=h
 rw[RL.evS]at e
 obtain⟨x,e1,e⟩:=bind_some e
 obtain⟨y,e2,e⟩:=bind_some e
 cases x with
 |int a=>
  cases y with
  |int b=>
   dsimp only at e
   rw[hf]at e
   cases e
   obtain⟨v,h1,h2⟩:=rv.val i _ (slot_get e1)
   rw[if_neg (by rw[hi];decide)]at h2
   refine⟨v,h1,σD,.int b,rv.rv0,e2,fun u H1 r1=>⟨a,b,af h2,af r1.rep,?_⟩⟩
   exact k _ _ ((rv.same r1.same).bind hi aN) (Fr'.bind hi r1.same)
  | _=>cases e
 | _=>cases e
end rules
noncomputable def kj(p:Addr)(a b c:Int):HO:=.ext fun h=>∃ t u v,IsRange h p a b c t u v
theorem lH(a b c:Int):0<=Builtin.Range.rangeSize a b c:=by
 unfold Builtin.Range.rangeSize
 split
 ·split
  ·have:=Int.ediv_nonneg (a:=b-a-1) (b:=c) (by lia) (by lia)
   omega
  ·lia
 ·split
  ·by_cases h0:c=0
   ·subst h0
    simp
   ·have:=Int.ediv_nonneg (a:=a-b-1) (b:=-c) (by lia) (by lia)
    omega
  ·lia
theorem sV(a b c:Int):Builtin.Range.rangeSize a b c<=(if a<b then b-a else a-b)+1:=by
 unfold Builtin.Range.rangeSize
 split
 ·split
  ·have:=Int.ediv_le_self (a:=b-a-1) c (by lia)
   lia
  ·lia
 ·split
  ·have:=Int.ediv_le_self (a:=a-b-1) (-c) (by lia)
   split<;>omega
  ·split<;>lia
theorem gG(a b c:Int):(RL.bc c a b:Int)=Builtin.Range.rangeSize a b c:=Int.toNat_of_nonneg (lH a b c)
theorem gZ{a b c:Int}(ha:-(2 ^ 60)<=a)(ha':a<2 ^ 60)(hb:-(2 ^ 60)<=b)(hb':b<2 ^ 60)(hc:-(2 ^ 60)<=c)(hc':c<2 ^ 60):Builtin.Range.small a b c=true:=by
 have h1:=lH a b c
 have h2:=sV a b c
 unfold Builtin.Range.small
 simp only[Builtin.Range.rangeFitsLong,Bool.and_eq_true,Bool.or_eq_true,decide_eq_true_eq,beq_iff_eq]
 refine⟨⟨⟨⟨?_,?_⟩,?_⟩,?_⟩,.inr ?_⟩
 ·lia
 ·lia
 ·lia
 ·split at h2<;>lia
 ·split<;>(rw[Bool.and_eq_true,decide_eq_true_eq,decide_eq_true_eq];lia)
section
variable{X:Cx}{cl:RL.Cl}{tg a b l:Expr}{a' b' e':RL.E}{pos p q:Pos}
noncomputable def m8(xs:List V)(a b c:Int):Prop:=(xs=[.int b]/\a=0/\c=1)\/(xs=[.int a,.int b]/\c=1)\/(xs=[.int a,.int b,.int c]/\c≠0/\c.natAbs<2 ^ 60)
theorem iQ{pins:List (Addr × Obj)}{σ:L2.St}{H:Hp}{s:Shared}{a b c:Int}{t u v:Tok}{tk:Nat}(I:Inv X pins σ H s):Inv X pins σ (upd H s.heap.objs.size (kj s.heap.objs.size a b c)) { s with heap:=s.heap.push { cls:=.type "range",data:=.fields #[.int a t,.int b u,.int c v] },toks:=tk } :=
 I.laid (fun b u e=>Heap.get?_push_of_some _ e) (Nat.le_refl _) ⟨⟨t,u,v,IsRange.new _ a b c t u v⟩,⟨_,Heap.get?_push_size _ rfl⟩,fun h1 h2 ⟨t,u,v,e⟩ k=>⟨t,u,v,k _ e⟩⟩
theorem gm:bu X (.type "range") (fun xs H Q=>∃ a b c,m8 xs a b c/\∀ p,H p=none->Q (.ref p) (upd H p (kj p a b c))):=by
 intro pins s σ H xs us Q I r h
 obtain⟨a,b,c,ha,q⟩:=h
 have hf:H s.heap.objs.size=none:=I.hok.fresh (Nat.le_refl _)
 rcases ha with⟨rfl,rfl,rfl⟩ | ⟨rfl,rfl⟩ | ⟨rfl,hc,hc2⟩
 ·cases r with
  |cons r rr=>
   cases rr
   obtain⟨t,rfl⟩:=r
   exact call_range_1 ⟨.ref _,_,iQ I,rfl,q _ hf⟩
 ·cases r with
  |cons r rr=>
   cases rr with
   |cons r2 rr=>
    cases rr
    obtain⟨t,rfl⟩:=r
    obtain⟨t2,rfl⟩:=r2
    exact call_range_2 ⟨.ref _,_,iQ I,rfl,q _ hf⟩
 ·cases r with
  |cons r rr=>
   cases rr with
   |cons r2 rr=>
    cases rr with
    |cons r3 rr=>
     cases rr
     obtain⟨t,rfl⟩:=r
     obtain⟨t2,rfl⟩:=r2
     obtain⟨t3,rfl⟩:=r3
     refine call_range_3 hc ⟨.ref _,_,iQ I,rfl,q _ hf⟩ (.inl (PyProof.noPylong_of_log2 ?_))
     have:c.natAbs.log2<60:=(Nat.log2_lt (by lia)).mpr hc2
     lia
noncomputable def c9(a c:Int)(n:Nat):List V:=(List.range n).map fun(i:Nat)=>V.int (a+(i:Int)*c)
theorem dR(hc:X.calm=true):bu X (.type "list") (fun xs H Q=>∃ p a b c,xs=[.ref p]/\H p=some (kj p a b c)/\Builtin.Range.small a b c=true/\RL.bc c a b<=RL.most /\
  ∀ l,H l=none->Q (.ref l) (upd H l (.lst (c9 a c (RL.bc c a b))))):=by
 intro pins s σ H xs us Q I r h
 obtain⟨p,a,b,c,rfl,hp,hs,hn,q⟩:=h
 cases r with
 |cons r rr=>
  cases rr
  cases r
  obtain⟨⟨t,u,v,hR⟩,_,_⟩:=I.hok p _ hp
  refine call_list_range (I.ok.hd hc) hR hs (gG a b c).symm (Nat.le_trans hn (by decide)) fun h' tk acc c' hk hS hI=>?_
  have hf:H s.heap.objs.size=none:=I.hok.fresh (Nat.le_refl _)
  refine⟨.ref s.heap.objs.size,upd H s.heap.objs.size (.lst (c9 a c (RL.bc c a b))),I.laid hk (Nat.le_refl _) (show _/\_ from⟨?_,acc.toList,c',?_,?_⟩),rfl,q _ hf⟩
  ·simp only[c9,List.length_map,List.length_range]
   exact Nat.le_trans hn bH
  ·have len:(c9 a c (RL.bc c a b)).length=acc.toList.length:=by
    simp only[c9,List.length_map,List.length_range,Array.length_toList,hI.1]
   have gen:∀ (xs:List V) (us:List Value),xs.length=us.length->(∀ (i:Nat) u,us[i]?=some u->∃ x,xs[i]?=some x/\RelV x u)->Vals xs us:=by
    intro xs
    induction xs with
    | nil=>intro us h _;cases us with
     | nil=>exact .nil
     | cons _ _=>cases h
    | cons x r ih=>intro us h g;cases us with
     | nil=>cases h
     |cons u us=>
      obtain⟨x',e1,e2⟩:=g 0 u rfl
      cases e1
      exact .cons e2 (ih us (by simpa using h) fun i u hu=>by
       obtain⟨y,e3,e4⟩:=g (i+1) u (by simpa using hu)
       exact⟨y,by simpa using e3,e4⟩)
   refine gen _ _ len fun i u hu=>?_
   have hu':acc[i]?=some u:=by simpa using hu
   obtain⟨tk,rfl⟩:=hI.2 i u hu'
   have hi:i<RL.bc c a b:=by
    have:=(Array.getElem?_eq_some_iff.mp hu').1
    rw[hI.1]at this
    exact this
   exact⟨.int (a+(i:Int)*c),by simp[c9,hi],tk,rfl⟩
  ·rw[Array.toArray_toList]
   exact hS
theorem kA{P:Addr->Prop}{K:PySem.W.Frag}{H:Hp}:∀ (n:Nat) (a c:Int),ab P K H (RL.bB c a n) (c9 a c n)
 | 0,a,c=>ab.nil
 | n+1,a,c=>by
  have e:c9 a c (n+1)=V.int a::c9 (a+c) c n:=by
   simp only[c9,List.range_succ_eq_map,List.map_cons,List.map_map]
   congr 1
   ·simp
   ·apply List.map_congr_left
    intro i _
    show V.int (a+((i+1:Nat):Int)*c)=V.int (a+c+(i:Int)*c)
    congr 1
    rw[show((i+1:Nat):Int)=(i:Int)+1 by lia,Int.add_mul]
    lia
  rw[RL.bB,e]
  exact ab.cons aN (kA n (a+c) c)
theorem iN:∀ (n:Nat) (a:Int),RL.bO a n=RL.bB 1 a n
 | 0,_=>rfl
 | n+1,a=>by rw[RL.bO,RL.bB,iN n]
theorem dW(a b:Int):RL.bc 1 a b=(b-a).toNat:=by
 have h:=gG a b 1
 rw[rangeSize_one]at h
 split at h<;>lia
theorem lK{σD:RL.St}{σ:L2.St}{H H1:Hp}{e:RL.E}{Q:VK}{vs:List V}{a b c:Int}{ds:List RL.D}(hv:m8 vs a b c)(hd:ds=RL.bB c a (RL.bc c a b))(hn:RL.bc c a b<=RL.most)(hs:Builtin.Range.small a b c=true)(sm:ax H H1)
 (hav:∀ M,RL.avE M e=false)(k:∀ v H',Res X.K σD σ H e (.lst ds) v H'->Q v H') :
  ∃ a b c,m8 vs a b c/\∀ p,H1 p=none->(fun xs H Q=>∃ p a b c,xs=[V.ref p]/\H p=some (kj p a b c)/\Builtin.Range.small a b c=true/\RL.bc c a b<=RL.most/\∀ l,H l=none->Q (.ref l) (upd H l (.lst (c9 a c (RL.bc c a b))))) [.ref p] (upd H1 p (kj p a b c)) Q:=by
 refine⟨a,b,c,hv,fun p hp=>⟨p,a,b,c,rfl,bb,hs,hn,fun l hl=>k _ _ ?_⟩⟩
 subst hd
 exact d5 (sm.trans (ax.bI hp)) hl (kA _ _ _) hav
theorem vy(hc:X.calm=true)(hgl:Gl X "list")(hml:X.mg "list" = none)(hg:Gl X "range")(hm:X.mg "range" = none)(ha:SE X cl a a')(hn:noStar a=true){p2 pos2:Pos}:SE X cl (.Call (.Name "list" p2) [.Call (.Name "range" p) [a] [] pos] [] pos2) (.rng1 a'):=by
 refine PE.weak (bX (dR hc) hgl hml (by decide +kernel) (bJ (bX gm hg hm boot_range (bo (cl:=cl) ha cv hn) (by decide) (by decide) (ay [] hn) rfl) cU) (by decide) (by decide) rfl rfl) fun σ H Q h=>?_
 obtain⟨σD,d,rv,e,k⟩:=h
 rw[RL.ev]at e
 obtain⟨x,ea,e⟩:=bind_some e
 obtain⟨ds,e1,e2⟩:=map_some e
 subst e2
 obtain⟨i,j,e3,rfl,hb,hm2,rfl⟩:=ju e1
 cases e3
 have hb2:-(2 ^ 60)<=j/\j<2 ^ 60:=by
  simp only[RL.cK]at e1
  split at e1
  ·lia
  ·cases e1
 refine one rv ea fun v H1 s1 r1=>?_
 exact lK (a:=0) (b:=j) (c:=1) (.inl ⟨by rw[af r1],rfl,rfl⟩) (by rw[iN,dW]) (by rw[dW];exact hm2) (gZ (by decide) (by decide) hb2.1 hb2.2 (by decide) (by decide)) s1 (fun _=>rfl) k
theorem vw(hc:X.calm=true)(hgl:Gl X "list")(hml:X.mg "list" = none)(hg:Gl X "range")(hm:X.mg "range" = none)(ha:SE X cl a a')(hb:SE X cl b b')(hn:noStar a=true)(hn2:noStar b=true){p2 pos2:Pos}:SE X cl (.Call (.Name "list" p2) [.Call (.Name "range" p) [a,b] [] pos] [] pos2) (.rng2 a' b'):=by
 refine PE.weak (bX (dR hc) hgl hml (by decide +kernel) (bJ (bX gm hg hm boot_range (bo (cl:=cl) ha (bo hb cv hn2) hn) (by decide) (by decide) (ay _ hn) (cP (by simp[hn2]))) cU) (by decide) (by decide) rfl rfl) fun σ H Q h=>?_
 obtain⟨σD,d,rv,e,k⟩:=h
 rw[RL.ev]at e
 obtain⟨x,ea,e⟩:=bind_some e
 obtain⟨y,eb,e⟩:=bind_some e
 obtain⟨ds,e1,e2⟩:=map_some e
 subst e2
 obtain⟨i,j,rfl,rfl,hb,hm2,rfl⟩:=ju e1
 have hb2:(-(2 ^ 60)<=i/\i<2 ^ 60)/\-(2 ^ 60)<=j/\j<2 ^ 60:=by
  simp only[RL.cK]at e1
  split at e1
  ·lia
  ·cases e1
 refine pair rv ea eb fun v u H1 s1 r1 r2=>?_
 exact lK (a:=i) (b:=j) (c:=1) (.inr (.inl ⟨by rw[af r1,af r2],rfl⟩)) (by rw[iN,dW]) (by rw[dW];exact hm2) (gZ hb2.1.1 hb2.1.2 hb2.2.1 hb2.2.2 (by decide) (by decide)) s1 (fun _=>rfl) k
noncomputable def gi(c:Int):Expr->Bool
 | .Constant (.int i) _ _=>i == c
 | .UnaryOp .USub (.Constant (.int i) _ _) _=>-i == c
 | _=>false
theorem ik{c:Int}{e:Expr}(h:gi c e=true):PE X e (tC (.int c))/\noStar e=true:=by
 unfold gi at h
 split at h
 ·rw[beq_iff_eq]at h
  subst h
  exact⟨lR,rfl⟩
 ·rw[beq_iff_eq]at h
  subst h
  exact⟨PE.weak (Au ye lR) fun σ H Q q=>⟨_,rfl,q⟩,rfl⟩
 ·cases h
theorem oH{c:Int}{x y:RL.D}{ds:List RL.D}(h:RL.eW c x y=some ds):∃ i j:Int,x=.int i/\y=.int j/\c≠0/\c.natAbs<2 ^ 60/\Builtin.Range.small i j c=true/\RL.bc c i j<=RL.most/\ds=RL.bB c i (RL.bc c i j):=by
 cases x<;>cases y<;>simp only[RL.eW]at h<;>first
  | (cases h;done)
  | (split at h
     ·rename_i i j hc
      cases h
      exact⟨i,j,rfl,rfl,hc.1,by omega,gZ hc.2.2.2.2.1 hc.2.2.2.2.2.1 hc.2.2.2.2.2.2.1 hc.2.2.2.2.2.2.2 (by omega) hc.2.2.1,hc.2.2.2.1,rfl⟩
     ·cases h)
theorem og{c:Int}{e3:Expr}(ha:SE X cl a a')(hb:SE X cl b b')(hn:noStar a=true)(hn2:noStar b=true)(h3:gi c e3=true):PA X [a,b,e3] (fun σ H R=>tE X.K cl a' σ H fun v H1=>tE X.K cl b' σ H1 fun u H2=>R [v,u,.int c] H2) :=
 bJ ha (bJ hb (bJ (ik h3).1 cU (ay [] (ik (X:=X) h3).2)) (ay _ hn2)) (ay _ hn)
theorem v8{c:Int}{e3:Expr}(hc:X.calm=true)(hgl:Gl X "list")(hml:X.mg "list" = none)(hg:Gl X "range")(hm:X.mg "range" = none)(ha:SE X cl a a')(hb:SE X cl b b')(hn:noStar a=true)(hn2:noStar b=true)(h3:gi c e3=true){p2 pos2:Pos} :
  SE X cl (.Call (.Name "list" p2) [.Call (.Name "range" p) [a,b,e3] [] pos] [] pos2) (.rng3 c a' b'):=by
 refine PE.weak (bX (dR hc) hgl hml (by decide +kernel) (bJ (bX gm hg hm boot_range (og (cl:=cl) ha hb hn hn2 h3) (by decide) (by decide) (ay _ hn) (cP (by simp[hn2,(ik (X:=X) h3).2]))) cU) (by decide) (by decide) rfl rfl) fun σ H Q h=>?_
 obtain⟨σD,d,rv,e,k⟩:=h
 rw[RL.ev]at e
 obtain⟨x,ea,e⟩:=bind_some e
 obtain⟨y,eb,e⟩:=bind_some e
 obtain⟨ds,e1,e2⟩:=map_some e
 subst e2
 obtain⟨i,j,rfl,rfl,h0,h1,h2,h3,rfl⟩:=oH e1
 refine two rv ea eb fun v u H1 H2 s1 s2 rx ry _ _=>?_
 exact lK (a:=i) (b:=j) (c:=c) (.inr (.inr ⟨by rw[af rx,af ry],h0,h1⟩)) rfl h3 h2 (s1.trans s2) (fun _=>rfl) k
theorem uQ{c:Int}{e3:Expr}(hg:Gl X "range")(hm:X.mg "range" = none)(ha:SE X cl a a')(hb:SE X cl b b')(hn:noStar a=true)(hn2:noStar b=true)(h3:gi c e3=true) :
  SI X cl tg (.Call (.Name "range" p) [a,b,e3] [] pos) (.rng3 c a' b'):=by
 intro pins s σ H R I h
 obtain⟨σD,ds,rv,e,k⟩:=h
 rw[RL.aZ]at e
 obtain⟨x,ea,e⟩:=bind_some e
 obtain⟨y,eb,e⟩:=bind_some e
 obtain⟨i,j,rfl,rfl,h0,h1,hs,hl,rfl⟩:=oH e
 refine thn (bX gm hg hm boot_range (og (cl:=cl) ha hb hn hn2 h3) (by decide) (by decide) (ay _ hn) (cP (by simp[hn2,(ik (X:=X) h3).2])) pins s σ H (fun x H2=>∃ p,x=.ref p/\H2 p=some (kj p i j c)/\ax H H2) I ?_) ?_
 ·exact two rv ea eb fun v u H1 H2 s1 s2 rx ry _ _=>⟨i,j,c,.inr (.inr ⟨by rw[af rx,af ry],h0,h1⟩),fun p hp=>⟨p,rfl,bb,(s1.trans s2).trans (ax.bI hp)⟩⟩
 ·rintro v s1 ⟨x,H1,I1,r1,q,rfl,hq,sm⟩
  cases r1
  obtain⟨⟨t,u,v,hR⟩,_,_⟩:=I1.hok q _ hq
  refine wpAny_pyIter_range hR hs ⟨s1.heap.objs.size,[s1.heap.objs.size],_,Its c i (RL.bc c i j),H1,rfl,I1.kept (t':=s1.toks) fun b o e=>Heap.get?_push_of_some _ e,qo _ c i _,?_,fun b hb=>?_,k _ _ sm ⟨nS,fun _ _ _ _ _=>nS⟩⟩
  ·have e1:i+((0:Nat):Int)*c=i:=by simp
   have e2:((RL.bc c i j:Nat):Int)-((0:Nat):Int)=Builtin.Range.rangeSize i j c:=by rw[gG];simp
   show IsRangeIter _ _ (i+((0:Nat):Int)*c) (((RL.bc c i j:Nat):Int)-((0:Nat):Int)) c
   rw[e1,e2]
   exact Heap.get?_push_size _ rfl
  ·rw[show b=s1.heap.objs.size by simpa using hb]
   exact I1.ko (Nat.le_refl _) (I1.hok.fresh (Nat.le_refl _))
theorem v7(hl:SE X cl l e'):SI X cl tg l (.seq e'):=by
 refine PI.weak (xU (cl:=cl) hl trivial) fun σ H R h=>?_
 obtain⟨σD,ds,rv,e,k⟩:=h
 rw[RL.aZ]at e
 obtain⟨d,e1,e2⟩:=bind_some e
 exact⟨σD,d,ds,rv,e1,e2,k⟩
theorem yR(hg:Gl X "divmod")(hm:X.mg "divmod" = none)(ha:SE X cl a a')(hb:SE X cl b b')(hn:noStar a=true)(hn2:noStar b=true):SE X cl (.Call (.Name "divmod" p) [a,b] [] pos) (.dvm a' b'):=by
 refine PE.weak (iY nJ hg hm (by decide +kernel) (bo (cl:=cl) ha (bo hb cv hn2) hn) (by decide) (by decide) (ay _ hn) (cP (by simp[hn2]))) fun σ H Q h=>?_
 obtain⟨σD,d,rv,e,k⟩:=h
 rw[RL.ev]at e
 obtain⟨u,ea,e⟩:=bind_some e
 obtain⟨v,eb,e⟩:=bind_some e
 cases u with
 |int i=>
  cases v with
  |int j=>
   dsimp only at e
   by_cases c:0<j/\j<1073741824
   ·rw[if_pos c]at e
    cases e
    exact pair rv ea eb fun v u H1 s1 r1 r2=>⟨i,j,by rw[af r1,af r2],c,fun q hq=>k _ _ (eS s1 hq (ab.cons aN (ab.cons aN ab.nil)) fun _=>rfl)⟩
   ·rw[if_neg c]at e
    cases e
  | _=>cases e
 | _=>cases e
end
noncomputable def mAt(mp:List Nat)(vs:List V):Addr->Prop:=fun a=>∃ p,p∈mp/\vs[p]?=some (.ref a)
structure yw(K:PySem.W.Frag)(mp:List Nat)(ds:List RL.D)(vs:List V)(H:Hp):Prop where
 jO:ab nP K H ds vs
 own:∀ p∈mp,∃ d a,ds[p]?=some d/\vs[p]?=some (.ref a)/\Own K H d (.ref a)
 sep:∀ p∈mp,∀ q∈mp,∀ a,vs[p]?=some (.ref a)->vs[q]?=some (.ref a)->p=q
 oth:∀ (q:Nat) d v,q∉mp->ds[q]?=some d->vs[q]?=some v->Rep (mAt mp vs) K H d v
structure AR(K:PySem.W.Frag)(mp:List Nat)(outs:List RL.D)(vs:List V)(H:Hp):Prop where
 len:outs.length=mp.length
 own:∀ (k p:Nat) o,mp[k]?=some p->outs[k]?=some o->∃ a,vs[p]?=some (.ref a)/\Own K H o (.ref a)
noncomputable def spM(K:PySem.W.Frag)(cl:RL.Cl)(mp:List Nat)(f:Nat):Sp:=fun vs H Q _=>∃ ds d outs,cl f ds=some (.tup (d::outs))/\yw K mp ds vs H/\∀ v H',Off (mAt mp vs) H H'->Rep nP K H' d v->d.imm=true->AR K mp outs vs H'->Q v H'
noncomputable def nB(K:PySem.W.Frag)(cl:RL.Cl):RL.E->TE
 | .var j=>gQ j
 | e=>tE K cl e
noncomputable def fX(K:PySem.W.Frag)(cl:RL.Cl):RL.Es->TA
 | .nil=>oY
 | .cons e es=>jz (nB K cl e) (fX K cl es)
noncomputable def bT(K:PySem.W.Frag)(M:List Nat)(σ:L2.St)(ps:List Nat)(H:Hp):Nat->RL.Es->List RL.D->List V->Prop
 | _,.nil,[],[]=>True
 | q,.cons e es,d::ds,v::vs=>Rep nP K H d v/\(if ps.contains q=true then ∃ j,e=.var j/\σ[j]?=some (some v)else Rep (aW M σ) K H d v)/\bT K M σ ps H (q+1) es ds vs
 | _,_,_,_=>False
section
variable{K:PySem.W.Frag}{M:List Nat}{cl:RL.Cl}{σD:RL.St}{σ:L2.St}{H H1:Hp}
theorem rT{j:Nat}{d:RL.D}(e:RL.ev cl σD (.var j)=some d):σD[j]?=some (some d):=by
 rw[RL.ev]at e
 exact slot_get e
theorem yH{e':RL.E}{d:RL.D}{v:V}(rv:RVm K M σD σ H)(r1:Res K σD σ H e' d v H1)(ok:RL.bz M e' d=true):Rep (aW M σ) K H1 d v:=by
 unfold RL.bz at ok
 rw[Bool.or_eq_true,Bool.or_eq_true,Bool.and_eq_true]at ok
 rcases ok with(q | ⟨q1,q2⟩) | q
 ·exact r1.rep.imm q
 ·have rp:=r1.rep
  have fr:iS d=true->∀ a,v=.ref a->¬ aW M σ a:=fun m a z p=>rv.mQ a p (r1.fresh q2 m a z)
  cases d with
  | lst ds=>obtain⟨a,xs,e1,e0,e2,e3⟩:=a6 rp;rw[Rep];exact⟨a,xs,e1,fr rfl a e1,e2,e3.imm q1⟩
  | dK ks ds=>rw[Rep]at rp ⊢;obtain⟨a,xs,e1,e0,e2,el,e3⟩:=rp;exact⟨a,xs,e1,fr rfl a e1,e2,el,e3.imm q1⟩
  | dT ks ds=>rw[Rep]at rp ⊢;obtain⟨a,xs,e1,e0,e2,el,e3⟩:=rp;exact⟨a,xs,e1,fr rfl a e1,e2,el,e3.imm q1⟩
  | _=>cases q1
 ·refine r1.av M q _ rv.mQ fun j dj vj hj h1 h2=>?_
  obtain⟨v',h3,h4⟩:=rv.val j dj h1
  rw[h2]at h3
  cases h3
  rw[if_neg (by rw[hj];decide)]at h4
  exact h4
theorem vO{e:RL.E}{d:RL.D}{ps:List Nat}{q:Nat}{R:V->Hp->Prop}(rv:RVm K M σD σ H)(he:RL.ev cl σD e=some d)(ok:(if ps.contains q=true then RL.isVar e else RL.bz M e d)=true)
 (k:∀ v H1,ax H H1->Rep nP K H1 d v->(if ps.contains q=true then ∃ j,e=.var j/\σ[j]?=some (some v)else Rep (aW M σ) K H1 d v)->R v H1):nB K cl e σ H R:=by
 have other:nB K cl e=tE K cl e->ps.contains q=false->nB K cl e σ H R:=fun z hq=>by
  rw[z]
  rw[if_neg (by rw[hq];decide)]at ok
  refine⟨σD,d,rv.rv0,he,fun v H1 r1=>k v H1 r1.same r1.rep ?_⟩
  rw[if_neg (by rw[hq];decide)]
  exact yH rv r1 ok
 cases e with
 |var j=>
  have hj:=rT he
  obtain⟨v,h1,h2⟩:=rv.val j d hj
  refine⟨v,h1,k v H (ax.refl H) ?_ ?_⟩
  ·obtain⟨v',h3,h4⟩:=rv.rv0.2 j d hj
   rw[h1]at h3
   cases h3
   exact h4
  ·by_cases hq:ps.contains q=true
   ·rw[if_pos hq]
    exact⟨j,rfl,h1⟩
   ·rw[if_neg hq]at ok ⊢
    by_cases hm:M.contains j=true
    ·rw[if_pos hm]at h2
     have im:d.imm=true:=by
      unfold RL.bz at ok
      rw[Bool.or_eq_true,Bool.or_eq_true,Bool.and_eq_true]at ok
      rcases ok with(z | ⟨_,z⟩) | z
      ·exact z
      ·cases z
      ·rw[RL.avE,hm]at z
       cases z
     exact h2.2.2.imm im
    ·rw[if_neg hm]at h2
     exact h2
 |_=>
  refine other rfl ?_
  cases hq:ps.contains q with
  | false=>rfl
  |true=>
   rw[if_pos hq]at ok
   cases ok
theorem my{ps:List Nat}:∀ {es:RL.Es} {q:Nat} {ds:List RL.D} {H:Hp} {R:List V->Hp->Prop},RVm K M σD σ H->RL.evs cl σD es=some ds->RL.eT M ps q es ds=true ->
  (∀ vs H1,ax H H1->bT K M σ ps H1 q es ds vs->R vs H1)->fX K cl es σ H R
 | .nil,q,ds,H,R,rv,he,ok,k=>by
  rw[RL.evs]at he
  cases he
  exact k [] H (ax.refl H) (by rw[bT];trivial)
 | .cons e es,q,ds,H,R,rv,he,ok,k=>by
  rw[RL.evs]at he
  obtain⟨d,e1,he⟩:=bind_some he
  obtain⟨ds',e2,e3⟩:=map_some he
  subst e3
  rw[RL.eT,Bool.and_eq_true]at ok
  refine vO rv e1 ok.1 fun v H1 s1 r1 x1=>?_
  refine my (rv.same s1) e2 ok.2 fun vs H2 s2 r2=>k (v::vs) H2 (s1.trans s2) ?_
  rw[bT]
  refine⟨r1.same s2,?_,r2⟩
  by_cases hq:ps.contains q=true
  ·rw[if_pos hq]at x1 ⊢
   exact x1
  ·rw[if_neg hq]at x1 ⊢
   exact x1.same s2
noncomputable def iy:RL.Es->Nat->Option RL.E
 | .nil,_=>none
 | .cons e _,0=>some e
 | .cons _ es,n+1=>iy es n
theorem bT.jO{ps:List Nat}:∀ {q:Nat} {es:RL.Es} {ds:List RL.D} {vs:List V},bT K M σ ps H q es ds vs->ab nP K H ds vs
 | _,.nil,[],[],h=>ab.nil
 | q,.cons e es,d::ds,v::vs,h=>by
  rw[bT]at h
  exact ab.cons h.1 (bT.jO h.2.2)
 | _,.nil,_::_,_,h=>by simp[bT]at h
 | _,.nil,[],_::_,h=>by simp[bT]at h
 | _,.cons _ _,[],_,h=>by simp[bT]at h
 | _,.cons _ _,_::_,[],h=>by simp[bT]at h
theorem bT.get{ps:List Nat}:∀ {q:Nat} {es:RL.Es} {ds:List RL.D} {vs:List V} (n:Nat) {d:RL.D} {v:V},bT K M σ ps H q es ds vs->ds[n]?=some d->vs[n]?=some v ->
  Rep nP K H d v/\(if ps.contains (q+n)=true then ∃ j,iy es n=some (.var j)/\σ[j]?=some (some v)else Rep (aW M σ) K H d v)
 | _,.nil,[],[],n,_,_,h,e,_=>by simp at e
 | q,.cons e es,d::ds,v::vs,0,_,_,h,e1,e2=>by
  simp at e1 e2
  subst e1 e2
  rw[bT]at h
  refine⟨h.1,?_⟩
  have h2:=h.2.1
  rw[Nat.add_zero]
  by_cases hq:ps.contains q=true
  ·rw[if_pos hq]at h2 ⊢
   obtain⟨j,z,y⟩:=h2
   subst z
   exact⟨j,rfl,y⟩
  ·rw[if_neg hq]at h2 ⊢
   exact h2
 | q,.cons e es,d::ds,v::vs,n+1,_,_,h,e1,e2=>by
  rw[bT]at h
  have:=bT.get n h.2.2 (by simpa using e1) (by simpa using e2)
  rw[show q+1+n=q+(n+1) by lia]at this
  exact this
 | _,.nil,_::_,_,_,_,_,h,_,_=>by simp[bT]at h
 | _,.nil,[],_::_,_,_,_,h,_,_=>by simp[bT]at h
 | _,.cons _ _,[],_,_,_,_,h,_,_=>by simp[bT]at h
 | _,.cons _ _,_::_,[],_,_,_,h,_,_=>by simp[bT]at h
theorem Own.off{P:Addr->Prop}{d:RL.D}{a:Addr}(h:Own K H d (.ref a))(hm:∀ b o,P b->H b=some o->bW o)(k:Off P H H1)(n:¬ P a):Own K H1 d (.ref a):=by
 obtain⟨q1,q2,q3⟩:=h
 refine⟨q1,q2,?_⟩
 have im:∀ {ds:List RL.D} {xs:List V},RL.au ds=true->ab nP K H ds xs->ab nP K H1 ds xs:=fun hi r=>((r.imm hi).off hm k).imm hi
 cases d with
 | lst ds=>obtain⟨b',xs,e1,e0,e2,e3⟩:=a6 q3;cases e1;rw[Rep];exact⟨a,xs,rfl,fun z=>z,k _ _ n e2,im q2 e3⟩
 | dK ks ds=>rw[Rep]at q3 ⊢;obtain⟨b',xs,e1,e0,e2,el,e3⟩:=q3;cases e1;exact⟨a,xs,rfl,fun z=>z,k _ _ n e2,el,im q2 e3⟩
 | dT ks ds=>rw[Rep]at q3 ⊢;obtain⟨b',xs,e1,e0,e2,el,e3⟩:=q3;cases e1;exact⟨a,xs,rfl,fun z=>z,k _ _ n e2,el,im q2 e3⟩
 | _=>cases q1
theorem jP:∀ {ms:List Nat} {outs:List RL.D} {σD:RL.St} {k i:Nat} {o:RL.D},ms.Nodup->ms[k]?=some i->outs[k]?=some o->i<σD.length->(cQ ms outs σD)[i]?=some (some o)
 | [],_,_,_,_,_,_,e,_,_=>by simp at e
 | m::ms,[],_,_,_,_,_,_,e,_=>by simp at e
 | m::ms,d::ds,σD,0,i,o,nd,e1,e2,hl=>by
  simp at e1 e2
  subst e1 e2
  rw[cQ,iq _ _ _ _ (by simpa using(List.nodup_cons.mp nd).1),List.getElem?_set_self hl]
 | m::ms,d::ds,σD,k+1,i,o,nd,e1,e2,hl=>by
  rw[cQ]
  exact jP (List.nodup_cons.mp nd).2 (by simpa using e1) (by simpa using e2) (by simpa using hl)
theorem RVm.changed{ms:List Nat}{outs:List RL.D}(h:RVm K M σD σ H)(hms:∀ i∈ms,M.contains i=true)(nd:ms.Nodup)(len:ms.length=outs.length)(k:Off (fun a=>∃ i∈ms,σ[i]?=some (some (.ref a))) H H1)
 (ow:∀ (k i:Nat) o,ms[k]?=some i->outs[k]?=some o->∃ a,σ[i]?=some (some (.ref a))/\Own K H1 o (.ref a)):RVm K M (cQ ms outs σD) σ H1/\Fr' M σ H σ H1:=by
 have sub:∀ a,(∃ i∈ms,σ[i]?=some (some (.ref a)))->aW M σ a:=fun a ⟨i,hi,e⟩=>⟨i,hms i hi,e⟩
 have offA:Off (aW M σ) H H1:=fun b o n e=>k b o (fun z=>n (sub b z)) e
 have hmA:∀ b o,aW M σ b->H b=some o->bW o:=fun b o p e=>by
  obtain⟨o',e',m⟩:=h.uj b p
  rw[e]at e'
  cases e'
  exact m
 have at_:∀ i,i∈ms->∃ (kk:Nat) (o:RL.D),ms[kk]?=some i/\outs[kk]?=some o:=fun i hi=>by
  obtain⟨kk,hk,e⟩:=List.getElem_of_mem hi
  exact⟨kk,outs[kk]'(by lia),by simp[hk,e],by simp⟩
 refine⟨⟨by rw[iZ];exact h.len,fun i d e=>?_,fun i v e=>?_,h.sep⟩,⟨fun b o e n=>⟨offA b o n e,n⟩,fun _ _=>rfl⟩⟩
 ·by_cases hi:i∈ms
  ·obtain⟨kk,o,e1,e2⟩:=at_ i hi
   have hl:i<σD.length:=by
    have:=(List.getElem?_eq_some_iff.mp e).1
    rw[iZ]at this
    exact this
   rw[jP nd e1 e2 hl]at e
   cases e
   obtain⟨a,q1,q2⟩:=ow kk i _ e1 e2
   exact⟨.ref a,q1,by rw[if_pos (hms i hi)];exact q2⟩
  ·rw[iq _ _ _ _ (by simpa using hi)]at e
   obtain⟨v,h1,h2⟩:=h.val i d e
   refine⟨v,h1,?_⟩
   by_cases hm:M.contains i=true
   ·rw[if_pos hm]at h2 ⊢
    obtain⟨a,o,rfl,_,_⟩:=h2.ref
    refine h2.off (fun b o p e=>hmA b o (sub b p) e) k fun⟨j,hj,ej⟩=>?_
    exact hi (h.sep i j a hm (hms j hj) h1 ej▸hj)
   ·rw[if_neg hm]at h2 ⊢
    exact h2.off hmA offA
 ·obtain⟨d,hd⟩:=h.non i v e
  by_cases hi:i∈ms
  ·obtain⟨kk,o,e1,e2⟩:=at_ i hi
   exact⟨o,jP nd e1 e2 (List.getElem?_eq_some_iff.mp hd).1⟩
  ·exact⟨d,by rw[iq _ _ _ _ (by simpa using hi)];exact hd⟩
end
section rules
variable{X:Cx}{cl:RL.Cl}{M:List Nat}{st:Stmt}{i f:Nat}{es:RL.Es}{ps ms:List Nat}
noncomputable def bK(es:RL.Es):List Nat->List Nat->Bool
 | [],[]=>true
 | p::ps,m::ms=>(match iy es p with | some (.var j)=>j == m | _=>false)&&bK es ps ms
 | _,_=>false
theorem iE:∀ {ps ms:List Nat} {k p:Nat},bK es ps ms=true->ps[k]?=some p->∃ m,ms[k]?=some m/\iy es p=some (.var m)
 | [],_,_,_,_,e=>by simp at e
 | _::_,[],_,_,h,_=>by simp[bK]at h
 | p::ps,m::ms,0,q,h,e=>by
  rw[bK,Bool.and_eq_true]at h
  simp at e
  subst e
  have h1:=h.1
  split at h1
  ·rename_i j hj
   rw[beq_iff_eq]at h1
   subst h1
   exact⟨j,rfl,hj⟩
  ·cases h1
 | p::ps,m::ms,k+1,q,h,e=>by
  rw[bK,Bool.and_eq_true]at h
  obtain⟨m',h1,h2⟩:=iE (k:=k) h.2 (by simpa using e)
  exact⟨m',by simpa using h1,h2⟩
theorem fg:∀ {ps ms:List Nat},bK es ps ms=true->ps.length=ms.length
 | [],[],_=>rfl
 | [],_::_,h=>by simp[bK]at h
 | _::_,[],h=>by simp[bK]at h
 | p::ps,m::ms,h=>by
  rw[bK,Bool.and_eq_true]at h
  rw[List.length_cons,List.length_cons,fg h.2]
theorem tQ{σD:RL.St}{σ:L2.St}{H:Hp}{ds outs:List RL.D}{d:RL.D}{σ1:RL.St}{Q:VK}(rv:RVm X.K M σD σ H)(he:RL.evs cl σD es=some ds)(ok:RL.eT M ps 0 es ds=true)(hc:cl f ds=some (.tup (d::outs)))
 (hs:bK es ps ms=true)(hms:∀ i∈ms,M.contains i=true)(nd:ms.Nodup)(ndp:ps.Nodup)(hset:RL.bg ms outs σD=some σ1)
 (k:∀ v H',Rep nP X.K H' d v->d.imm=true->RVm X.K M σ1 σ H'->Fr' M σ H σ H'->Q v H'):l9 (spM X.K cl ps f) [] E0 (fX X.K cl es) σ H Q:=by
 refine my rv he ok fun vs H1 s1 ar=>?_
 show spM X.K cl ps f (vs++[]) H1 Q E0
 rw[List.append_nil]
 have rv1:=rv.same s1
 have rps:=ar.jO
 obtain⟨hlen,hσ1⟩:=dN hset
 subst hσ1
 have adr:∀ (k p:Nat),ps[k]?=some p->∃ m a d',ms[k]?=some m/\σ[m]?=some (some (.ref a))/\vs[p]?=some (.ref a)/\ds[p]?=some d'/\Own X.K H1 d' (.ref a)/\iy es p=some (.var m):=by
  intro k p hk
  obtain⟨m,h1,h2⟩:=iE hs hk
  have evg:∀ (es:RL.Es) (ds:List RL.D) (n:Nat) (e:RL.E),RL.evs cl σD es=some ds->iy es n=some e->∃ d',ds[n]?=some d'/\RL.ev cl σD e=some d':=by
   intro es
   induction es using RL.Es.rec (motive_1:=fun _=>True) (motive_3:=fun _=>True)with
   | nil=>intro ds n e _ z;cases z
   |cons e0 es0 _ ih=>
    intro ds n e h z
    rw[RL.evs]at h
    obtain⟨d0,y1,h⟩:=bind_some h
    obtain⟨ds0,y2,y3⟩:=map_some h
    subst y3
    cases n with
    | zero=>cases z;exact⟨d0,rfl,y1⟩
    | succ n=>exact ih ds0 n e y2 z
   | _=>trivial
  obtain⟨d',g1,g2⟩:=evg es ds p _ he h2
  obtain⟨v,g3,g4⟩:=rps.get g1
  have hpc:ps.contains (0+p)=true:=by
   rw[Nat.zero_add]
   simpa using List.mem_of_getElem? hk
  have g5:=(ar.get p g1 g3).2
  rw[if_pos hpc]at g5
  obtain⟨j,z1,z2⟩:=g5
  rw[h2]at z1
  cases z1
  have hm:M.contains m=true:=hms m (List.mem_of_getElem? h1)
  obtain⟨v',z3,z4⟩:=rv1.val m d' (rT g2)
  rw[z2]at z3
  cases z3
  rw[if_pos hm]at z4
  obtain⟨a,o,rfl,_,_⟩:=z4.ref
  exact⟨m,a,d',h1,z2,g3,g1,z4,h2⟩
 have adr':∀ a,mAt ps vs a->∃ i∈ms,σ[i]?=some (some (.ref a)):=fun a ⟨p,hp,e⟩=>by
  obtain⟨k,hk,z⟩:=List.getElem_of_mem hp
  obtain⟨m,a',d',h1,h2,h3,_⟩:=adr k p (by simp[hk,z])
  rw[e]at h3
  cases h3
  exact⟨m,List.mem_of_getElem? h1,h2⟩
 refine⟨ds,d,outs,hc,⟨rps,fun p hp=>?_,fun p hp q hq a e1 e2=>?_,fun q dq v hq e1 e2=>?_⟩,fun v H' off rp im mo=>?_⟩
 ·obtain⟨k,hk,z⟩:=List.getElem_of_mem hp
  obtain⟨m,a',d',h1,h2,h3,h4,h5,_⟩:=adr k p (by simp[hk,z])
  exact⟨d',a',h4,h3,h5⟩
 ·obtain⟨k,hk,z⟩:=List.getElem_of_mem hp
  obtain⟨l,hl,y⟩:=List.getElem_of_mem hq
  have gk:ps[k]?=some p:=by simp[hk,z]
  have gl:ps[l]?=some q:=by simp[hl,y]
  obtain⟨m,a1,d1,h1,h2,h3,_⟩:=adr k p gk
  obtain⟨m',a2,d2,h1',h2',h3',_⟩:=adr l q gl
  rw[e1]at h3
  cases h3
  rw[e2]at h3'
  cases h3'
  have hmm:=rv1.sep m m' a (hms m (List.mem_of_getElem? h1)) (hms m' (List.mem_of_getElem? h1')) h2 h2'
  subst hmm
  have hkl:k=l:=(List.getElem?_inj (by rw[<-fg hs];exact hk) nd).mp (by rw[h1,h1'])
  subst hkl
  rw[gk]at gl
  exact Option.some.inj gl
 ·have hpc:ps.contains (0+q)=false:=by
   rw[Nat.zero_add]
   simpa using hq
  have g5:=(ar.get q e1 e2).2
  rw[if_neg (by rw[hpc];decide)]at g5
  exact g5.weak fun a ha=>by
   obtain⟨i,hi,e⟩:=adr' a ha
   exact⟨i,hms i hi,e⟩
 ·obtain⟨g1,g2⟩:=rv1.changed (outs:=outs) (H1:=H') hms nd hlen (fun b o n e=>off b o (fun z=>n (adr' b z)) e) fun k i o hk ho=>by
   have hkl:k<ps.length:=by
    rw[fg hs]
    exact(List.getElem?_eq_some_iff.mp hk).1
   obtain⟨m,a1,d1,h1,h2,h3,_⟩:=adr k ps[k] (by simp[hkl])
   rw[hk]at h1
   cases h1
   obtain⟨a,q1,q2⟩:=mo.own k ps[k] o (by simp[hkl]) ho
   rw[q1]at h3
   cases h3
   exact⟨_,h2,q2⟩
  exact k v H' rp im g1 ((Fr'.same s1).trans g2)
theorem vX(h:PS X st (l0 (l9 (spM X.K cl ps f) [] E0 (fX X.K cl es))))(hs:bK es ps ms=true)(hms:∀ i∈ms,M.contains i=true)(nd:ms.Nodup)(ndp:ps.Nodup):SS X cl M st (.mexc f es ps ms):=by
 refine PS.weak h fun D σ H h=>?_
 obtain⟨σD,o,σD',rv,e,k⟩:=h
 rw[RL.evS]at e
 obtain⟨ds,e1,e⟩:=bind_some e
 split at e
 ·rename_i ok
  obtain⟨r,e2,e⟩:=bind_some e
  split at e
  ·rename_i d outs
   obtain⟨σ1,e3,e4⟩:=map_some e
   cases e4
   exact tQ rv e1 ok e2 hs hms nd ndp e3 fun v H' _ _ rv' fr'=>k _ _ rv' fr'
  ·cases e
 ·cases e
end rules
end RS
namespace L2
open PySem PySem.Spec PyProof.Rows
section
variable{prog:Program}{w:World}{A:Around}{E:Value->Shared->Prop}
theorem nO{α:Type}{Q:α->Shared->Prop}{z:Shared}(hh:A.handled=none)(k:∀ g e,(∀ b o,z.heap.get? b=some o->g.get? b=some o)->(∃ o,g.get? e=some o/\o.cls=.type "StopIteration")->E (.ref e) { z with heap:=g }) :
  wpAny (model prog w) A (Builtin.SmallTypes.stopIteration:Sem α) Q E z:=by
 obtain⟨hp,g,d,tk,os⟩:=z
 unfold Builtin.SmallTypes.stopIteration
 simp only[newExc,newTuple,raiseNew]
 wp_walk
 exact k _ _ (fun b o e=>Heap.get?_push_of_some _ (Heap.get?_push_of_some _ e)) ⟨_,Heap.get?_push_size _ rfl,rfl⟩
theorem rZ{z:Shared}{ti tp:Addr}{i:Nat}{its:Array Value}{x:Value}{Q:Value->Shared->Prop}(hi:z.heap.IsTupleIter ti tp i)(ht:z.heap.IsTuple tp its)(hx:its[i]?=some x)
 (k:∀ g,g.IsTupleIter ti tp (i+1)->Heap.SameBut ti z.heap g->Q x { z with heap:=g }):wpAny (model prog w) A (Builtin.SmallTypes.nextOf (.ref ti)) Q E z:=by
 have hty:=hi.typeIs
 obtain⟨⟨c1,d1,f1,s1⟩,g1,c1',f1'⟩:=hi
 obtain⟨⟨c2,d2,f2,s2⟩,g2,c2',n2,f2'⟩:=ht
 dsimp only at c1' f1' c2' f2'
 subst c1' f1' c2' f2'
 obtain⟨hp,g,d,tk,os⟩:=z
 unfold Builtin.SmallTypes.nextOf
 refine wpAny_bind (wpAny_callSpecial?_slot (name:=Str.ofString "__next__") hty F.slot_tuple_iterator_next (wpAny_call_entry F.slot_tuple_iterator_next hty F.entry_tuple_iterator_next ?_ (F.args_tuple_iterator_next_1 _)))
 unfold Builtin.«tuple_iterator.__next__»
 wp_walk using AutoSeq1.wpAny_loadPart' g1,AutoSeq1.wpAny_loadPart' g2
 have e:its[((i:Nat):Int).toNat]?=some x:=hx
 rw[e]
 dsimp only
 apply wpAny_bind
 apply wpAny_setField g1 rfl (by simp)
 apply wpAny_pure
 refine⟨x,rfl,?_⟩
 apply wpAny_pure
 apply k
 ·exact⟨_,Heap.get?_update_self _ g1 rfl,rfl,by simp[Obj.mapFields,rawInt]⟩
 ·exact Heap.SameBut.update ..
theorem w6{z:Shared}{ti tp:Addr}{i:Nat}{its:Array Value}{Q:Value->Shared->Prop}(hh:A.handled=none)(hi:z.heap.IsTupleIter ti tp i)(ht:z.heap.IsTuple tp its)(hx:its[i]?=none)
 (k:∀ g e,Heap.ExtBut ti z.heap g->(∃ o,g.get? e=some o/\o.cls=.type "StopIteration")->E (.ref e) { z with heap:=g }):wpAny (model prog w) A (Builtin.SmallTypes.nextOf (.ref ti)) Q E z:=by
 have hty:=hi.typeIs
 obtain⟨⟨c1,d1,f1,s1⟩,g1,c1',f1'⟩:=hi
 obtain⟨⟨c2,d2,f2,s2⟩,g2,c2',n2,f2'⟩:=ht
 dsimp only at c1' f1' c2' f2'
 subst c1' f1' c2' f2'
 obtain⟨hp,g,d,tk,os⟩:=z
 unfold Builtin.SmallTypes.nextOf
 refine wpAny_bind (wpAny_callSpecial?_slot (name:=Str.ofString "__next__") hty F.slot_tuple_iterator_next (wpAny_call_entry F.slot_tuple_iterator_next hty F.entry_tuple_iterator_next ?_ (F.args_tuple_iterator_next_1 _)))
 unfold Builtin.«tuple_iterator.__next__»
 wp_walk using AutoSeq1.wpAny_loadPart' g1,AutoSeq1.wpAny_loadPart' g2
 have e:its[((i:Nat):Int).toNat]?=none:=hx
 rw[e]
 dsimp only
 apply wpAny_bind
 apply wpAny_rule
 apply wpAny_bind
 apply wpAny_setField g1 rfl (by simp)
 refine nO hh fun g e kp hc=>k g e (fun b o hb q=>kp b o ?_) hc
 exact(Heap.SameBut.update ..).extBut b o hb q
theorem lu{α:Type}{m:Sem α}{S Q:α->Shared->Prop}{E:Value->Shared->Prop}{z:Shared}(h:wpAny (model prog w) A m S (fun _ _=>False) z)(k:∀ a z1,S a z1->Q a z1):wpAny (model prog w) A m Q E z:=wpAny_mono h k fun _ _ f=>f.elim
theorem rW{b:Bool}{Q:Bool->Shared->Prop}{E:Value->Shared->Prop}{z:Shared}(h:∀ b,Q b z):wpAny (model prog w) A (pure b) Q E z:=wpAny_pure (h b)
theorem tu{x:Value}{S:Addr->Shared->Prop}{z:Shared}{Q:Value->Shared->Prop}(hx:∀ A:Around,wpAny (model prog w) A (pyIter x) (fun v z1=>∃ it,v=.ref it/\S it z1) (fun _ _=>False) z)
 (k:∀ it z1,S it z1->Q (.ref z1.heap.objs.size) { z1 with heap:=z1.heap.push { cls:=.type "enumerate",data:=.fields #[.none,.bool false,.ref it,rawInt 0,.none,.none] } }):wpAny (model prog w) A (call (.type "enumerate") [x]) Q E z:=by
 have body:MeetsIn prog w (Builtin.«enumerate.__new__» ⟨[.type "enumerate",x],[]⟩) (fun A R s=>s=z/\∀ it z1,S it z1->R (.ok (.ret (.ref z1.heap.objs.size))) { z1 with heap:=z1.heap.push { cls:=.type "enumerate",data:=.fields #[.none,.bool false,.ref it,rawInt 0,.none,.none] } }):=by
  rintro A R s ⟨rfl,hR⟩
  have hsub:=sub_enumerate
  have iter:=hx A.in1
  obtain⟨hp,g,d,tk,os⟩:=s
  wp_walk
  refine wpAny_stack_any fun st=>rW fun b=>?_
  have done:∀ it z1,S it z1->wpAny (model prog w) A.in1 (do let r <- Builtin.SmallTypes.newRecord (.type "enumerate") (Builtin.SmallTypes.ownedTupleFields++[.ref it,rawInt 0,.none,.none]);ret r)
    (fun fin s'=>match fin with | .done f=>R (.ok f) s' | .again c'=>c'.quiet=true/\codeAny (model prog w) A c' R s') (fun e s'=>R (.error e) s') z1:=by
   intro it z1 h1
   have:=hR it z1 h1
   obtain⟨hp1,gg1,dd1,tk1,os1⟩:=z1
   wp_walk
   exact this
  cases b
  ·wp_walk using lu iter
   rintro _ z1 ⟨it,rfl,h1⟩
   exact done it z1 h1
  ·wp_walk using lu iter
   rintro _ z1 ⟨it,rfl,h1⟩
   exact done it z1 h1
 refine callType_newIn F.called_enumerate (by decide) (F.typeCall_enumerate_1 _) (F.newCall_enumerate_1 _) (fun obj=>F.args_object_init_2 obj _) F.entry_enumerate_new body ⟨rfl,fun it z1 h=>?_⟩
 exact⟨⟨_,Heap.get?_push_size _ rfl,rfl⟩,k it z1 h⟩
theorem lU:i8 prog w where
 draws:=fun hh ti tp hne its=>{
  live:=fun i h st=>let ⟨o,e,_⟩:=st.1;⟨o,e⟩
  frame:=fun i h h' st kp=>by
   obtain⟨⟨o1,e1,r1⟩,⟨o2,e2,r2⟩⟩:=st
   exact⟨⟨o1,kp ti (by simp) _ e1,r1⟩,⟨o2,kp tp (by simp) _ e2,r2⟩⟩
  item:=fun i s Q E hi st k=>by
   refine rZ st.1 st.2 (x:=its[i]) (by simp[hi]) fun g h1 h2=>k its[i] g s.toks (by simp[hi]) ⟨h1,st.2.extBut h2.extBut hne⟩ h2
  done:=fun s Q E st k=>w6 hh st.1 st.2 (by simp) fun g e h1 h2=>k g e h1 h2 }
 call:=fun {A E z tp its Q} ht k=>by
  refine tu (S:=fun it z1=>it=z.heap.objs.size/\z1={ z with heap:=z.heap.push { cls:=.type "tuple_iterator",data:=.fields #[.ref tp,rawInt 0] } }) (fun A=>wpAny_pyIter_tuple ht ⟨_,rfl,rfl,rfl⟩) ?_
  rintro it z1 ⟨rfl,rfl⟩
  have hz:(z.heap.push { cls:=.type "tuple_iterator",data:=.fields #[.ref tp,rawInt 0] }).objs.size=z.heap.objs.size+1:=Heap.size_push ..
  dsimp only
  rw[hz]
  refine k _ ?_ ⟨_,Heap.get?_push_of_some _ (Heap.get?_push_size _ rfl),rfl,rfl⟩ fun b o e=>Heap.get?_push_of_some _ (Heap.get?_push_of_some _ e)
  have:=Heap.get?_push_size (z.heap.push { cls:=.type "tuple_iterator",data:=.fields #[.ref tp,rawInt 0] }) (o:={ cls:=.type "enumerate",data:=.fields #[.none,.bool false,.ref z.heap.objs.size,rawInt 0,.none,.none] }) rfl
  rw[hz]at this
  exact this
end
end L2
namespace RS
open PySem PySem.Spec PyProof.Rows L2
section
variable{X:Cx}{cl:RL.Cl}{a b:Expr}{a' b':RL.E}{pos p p2 pos2:Pos}{M:List Nat}
theorem oq:∀ {bs:List Bool} {us:List Value},Vals (bs.map V.bl) us->us=bs.map Value.bool
 | [],_,h=>by cases h;rfl
 | b::bs,_,h=>by
  cases h with
  |cons r t=>
   cases r
   rw[oq t]
   rfl
theorem ub{A:Around}{bs:List Bool}:TruthOf X.prog X.w A (fun i v=>(bs.map Value.bool).toArray[i]?=some v) (fun i=>bs.getD i false):=by
 intro i v s Q E hP q
 have hP':(bs.map Value.bool)[i]?=some v:=by simpa using hP
 rw[List.getElem?_map]at hP'
 obtain⟨b,h1,h2⟩:=map_some hP'
 subst h2
 have:bs.getD i false=b:=by rw[List.getD_eq_getElem?_getD,h1];rfl
 have q':Q b s:=this▸q
 exact wpAny_truthy_bool q'
theorem range_all(bs:List Bool):(List.range bs.length).all (fun i=>bs.getD i false)=bs.all id:=by
 have:bs=(List.range bs.length).map fun i=>bs.getD i false:=by
  apply List.ext_getElem
  ·simp
  ·intro i h1 h2
   simp[List.getD_eq_getElem?_getD,h1]
 conv=>rhs;rw[this]
 rw[List.all_map]
 rfl
noncomputable def yy(f:List Bool->Bool):List V->Hp->VK->Prop:=fun xs H Q=>∃ p bs,xs=[.ref p]/\H p=some (.lst (bs.map V.bl))/\Q (.bl (f bs)) H
theorem tY(hc:X.calm=true):bu X (.builtin "all") (yy fun bs=>bs.all id):=by
 intro pins s σ H xs us Q I r h
 obtain⟨p,bs,rfl,hp,q⟩:=h
 cases r with
 |cons r rr=>
  cases rr
  cases r
  obtain⟨its,rv,hl,hz⟩:=I.list (SqL.of hp)
  have hits:=oq rv
  subst hits
  have hlt:p<s.heap.objs.size:=by obtain⟨o,ho,_⟩:=hl.isList;exact Heap.lt_size ho
  refine call_all_walk (wpAny_pyIter_list hl.isList ?_)
  refine⟨s.heap.objs.size,_,[s.heap.objs.size],_,_,_,_,rfl,Walks.list (A:=X.A.in1) (I.ok.hd hc) s.heap.objs.size p (Nat.ne_of_lt hlt) (bs.map Value.bool).toArray,⟨⟨_,Heap.get?_push_size _ rfl,rfl,rfl⟩,hl.isList.push _⟩,ub,fun h' tk hk=>?_⟩
  refine⟨.bl (bs.all id),H,I.kept (t':=tk) (fun b o e=>hk b o (fun z=>?_) (Heap.get?_push_of_some _ e)),?_,q⟩
  ·rw[List.mem_singleton.mp z]at e
   exact absurd (Heap.lt_size e) (Nat.lt_irrefl _)
  ·have:=range_all bs
   show Value.bool _=Value.bool _
   rw[<-this]
   simp
theorem mR{P:Addr->Prop}{K:PySem.W.Frag}{H:Hp}:∀ {ds:List RL.D} {bs:List Bool} {xs:List V},RL.c7 ds=some bs->ab P K H ds xs->xs=bs.map V.bl
 | [],bs,xs,h,r=>by rw[RL.c7]at h;cases h;rw[ab]at r;exact r
 | d::ds,bs,xs,h,r=>by
  cases d<;>simp only[RL.c7]at h<;>first | (cases h;done) | skip
  rename_i b
  obtain⟨bs',h1,h2⟩:=map_some h
  subst h2
  rw[ab]at r
  obtain⟨x,t,rfl,r1,r2⟩:=r
  rw[aK r1,mR h1 r2]
  rfl
theorem za(hc:X.calm=true)(hg:Gl X "all")(hm:X.mg "all" = none)(ha:SE X cl a a')(hn:noStar a=true):SE X cl (.Call (.Name "all" p) [a] [] pos) (.bi .all a'):=by
 refine gX (tY hc) hg hm (by decide +kernel) ha hn (by decide) (by decide) fun σD σ H H1 y d v Q e s1 r1 k=>?_
 cases y<;>simp only[RL.biV]at e<;>first | (cases e;done) | skip
 case lst ds =>
  obtain⟨bs,e1,e2⟩:=map_some e
  subst e2
  obtain⟨q,xs,rfl,_,f2,f3⟩:=a6 r1
  rw[mR e1 f3]at f2
  exact⟨q,bs,rfl,f2,k _ _ (cR s1 lG rfl)⟩
theorem vL{elts:List Expr}{kx:Nat}{tp:Pos}(hg:Gl X "enumerate")(hm:X.mg "enumerate" = none)(ha:SE X cl a a')(hn:noStar a=true):SI X cl (.Tuple elts kx tp) (.Call (.Name "enumerate" p) [a] [] pos) (.enm a'):=yP lU hg hm ha hn
theorem oT{P:Addr->Prop}{K:PySem.W.Frag}{H:Hp}:∀ {ds:List RL.D} {is:List Int} {xs:List V},RL.cL ds=some is->ab P K H ds xs->xs=is.map V.int
 | [],is,xs,h,r=>by rw[RL.cL]at h;cases h;rw[ab]at r;exact r
 | d::ds,is,xs,h,r=>by
  cases d<;>simp only[RL.cL]at h<;>first | (cases h;done) | skip
  rename_i b
  obtain⟨bs',h1,h2⟩:=map_some h
  subst h2
  rw[ab]at r
  obtain⟨x,t,rfl,r1,r2⟩:=r
  rw[af r1,oT h1 r2]
  rfl
theorem y9{l e:Expr}{e':RL.E}{i:Nat}{A B:List Stmt}{A' B':RL.Ss}(hl:PE X l (yX X.K "list" zB (gQ i)))(he:SE X cl e e')(ha:SSs X cl M A A')(hb:SSs X cl M B B')(hi:M.contains i=true):SS X cl M (.If (.Compare l [.NotEq] [e] pos) A B pos2) (.ifp i e' A' B'):=by
 refine PS.weak (uJ (jZ zP hl he (m7 _)) ha hb) fun D σ H h=>?_
 obtain⟨σD,o,σD',rv,ev,k⟩:=h
 rw[RL.evS]at ev
 obtain⟨l,e3,ev⟩:=bind_some ev
 cases l with
 |lst ds=>
  obtain⟨d,e4,ev⟩:=bind_some ev
  obtain⟨y,e5,ev⟩:=bind_some ev
  obtain⟨v,h1,h2⟩:=rv.val i _ (slot_get e3)
  rw[if_pos hi]at h2
  obtain⟨q1,q2,q3⟩:=h2
  obtain⟨a,xs,rfl,_,f2,f3⟩:=a6 q3
  obtain⟨u,f4,f5⟩:=f3.get e4
  have im:=oI q2
  obtain⟨g1,g2⟩:=rv.gP (d':=.lst ds.dropLast) (o':=.lst xs.dropLast) hi h1 f2 (.inl ⟨_,rfl⟩) (oG (ds:=ds) f2 im f3.dropLast)
  cases d with
  |int m=>
   cases y with
   |int n=>
    refine⟨.ref a,h1,.inl ⟨rfl,xs,SqL.of f2⟩,a,xs,u,rfl,rfl,f2,by rw[<-f3.length];exact f4,?_⟩
    refine⟨_,_,g1.rv0,e5,fun w H1 r1=>?_⟩
    rw[af f5,af r1.rep]
    have k1:=k.from (g2.trans (Fr'.same (σ:=σ) r1.same))
    refine⟨rfl,_,rfl,?_⟩
    dsimp only at ev
    by_cases hmn:m=n
    ·rw[if_pos (by simpa using hmn)]at ev
     have hd:(!decide (V.int m=V.int n))=false:=by rw[hmn];simp
     rw[hd]
     exact dP ⟨_,o,σD',g1.same r1.same,ev,k1⟩
    ·rw[if_neg (by simpa using hmn)]at ev
     have hd:(!decide (V.int m=V.int n))=true:=by
      have:V.int m≠V.int n:=fun z=>hmn (by injection z)
      simp[this]
     rw[hd]
     exact dB ⟨_,o,σD',g1.same r1.same,ev,k1⟩
   | _=>cases ev
  | _=>cases ev
 | _=>cases ev
end
end RS
namespace L2
open PySem PySem.Spec PyProof.Rows
section
variable{prog:Program}{w:World}{A:Around}{E:Value->Shared->Prop}
theorem vi{x y:Value}{S1:Addr->Shared->Prop}{S2:Addr->Addr->Shared->Prop}{z:Shared}{Q:Value->Shared->Prop}(hx:∀ A:Around,wpAny (model prog w) A (pyIter x) (fun v z1=>∃ it,v=.ref it/\S1 it z1) (fun _ _=>False) z)
 (hy:∀ it z1,S1 it z1->∀ A:Around,wpAny (model prog w) A (pyIter y) (fun v z2=>∃ jt,v=.ref jt/\S2 it jt z2) (fun _ _=>False) z1)
 (k:∀ it jt z2,S2 it jt z2->Q (.ref (((z2.heap.push { cls:=.type "tuple",data:=.seq #[.ref it,.ref jt] }).push { cls:=.type "tuple",data:=.seq #[.none,.none] })).objs.size)
   { z2 with heap:=((z2.heap.push { cls:=.type "tuple",data:=.seq #[.ref it,.ref jt] }).push { cls:=.type "tuple",data:=.seq #[.none,.none] }).push { cls:=.type "zip",data:=.fields #[.none,.bool false,.bool false,.ref z2.heap.objs.size,.ref (z2.heap.push { cls:=.type "tuple",data:=.seq #[.ref it,.ref jt] }).objs.size] } }) :
  wpAny (model prog w) A (call (.type "zip") [x,y]) Q E z:=by
 have body:MeetsIn prog w (Builtin.«zip.__new__» ⟨[.type "zip",x,y],[]⟩) (fun A R s=>s=z/\∀ it jt z2,S2 it jt z2->R (.ok (.ret (.ref (((z2.heap.push { cls:=.type "tuple",data:=.seq #[.ref it,.ref jt] }).push { cls:=.type "tuple",data:=.seq #[.none,.none] })).objs.size)))
   { z2 with heap:=((z2.heap.push { cls:=.type "tuple",data:=.seq #[.ref it,.ref jt] }).push { cls:=.type "tuple",data:=.seq #[.none,.none] }).push { cls:=.type "zip",data:=.fields #[.none,.bool false,.bool false,.ref z2.heap.objs.size,.ref (z2.heap.push { cls:=.type "tuple",data:=.seq #[.ref it,.ref jt] }).objs.size] } }):=by
  rintro A R s ⟨rfl,hR⟩
  have hsub:=sub_zip
  have iter:=hx A.in1
  obtain⟨hp,g,d,tk,os⟩:=s
  wp_walk using lu iter
  rintro _ z1 ⟨it,rfl,h1⟩
  have iter2:=hy it z1 h1 A.in1
  obtain⟨hp1,gg1,dd1,tk1,os1⟩:=z1
  wp_walk using lu iter2
  rintro _ z2 ⟨jt,rfl,h2⟩
  have fin:=hR it jt z2 h2
  obtain⟨hp2,gg2,dd2,tk2,os2⟩:=z2
  wp_walk
  exact fin
 refine callType_newIn F.called_zip (by decide) (F.typeCall_zip_2 _ _) (F.newCall_zip_2 _ _) (fun obj=>F.args_object_init_3 obj _ _) F.entry_zip_new body ⟨rfl,fun it jt z2 h=>?_⟩
 exact⟨⟨_,Heap.get?_push_size _ rfl,rfl⟩,k it jt z2 h⟩
structure fD(z TI TO i1 i2:Addr)(fp1 fp2:List Addr):Prop where
 zTI:TI≠z
 zTO:TO≠z
 TT:TI≠TO
 i1z:i1≠z
 i2z:i2≠z
 AQ:i1≠TO
 AA:i2≠TO
 i12:i1≠i2
 z1:z∉fp1
 z2:z∉fp2
 TO1:TO∉fp1
 TO2:TO∉fp2
 i1f:i1∉fp2
 i2f:i2∉fp1
theorem tN{z TI TO i1 i2:Addr}{fp1 fp2:List Addr}{n1 n2 k:Nat}{P1 P2:Nat->Value->Prop}{S1 S2:Nat->Heap->Prop}{a b:Value}{s:Shared}{Q:Value->Shared->Prop}(Z:fD z TI TO i1 i2 fp1 fp2)
 (D1:Draws prog w A i1 fp1 n1 P1 S1)(D2:Draws prog w A i2 fp2 n2 P2 S2)(hz:IsZip s.heap z TI TO .none)(hTI:IsPair s.heap TI (.ref i1) (.ref i2))(hTO:IsPair s.heap TO a b)(s1:S1 k s.heap)(s2:S2 k s.heap)(k1:k<n1)(k2:k<n2)
 (hQ:∀ x y g tk,P1 k x->P2 k y->IsZip g z TI TO (rawInt s.heap.objs.size)->IsPair g TO x y->S1 (k+1) g->S2 (k+1) g->IsPair g s.heap.objs.size x y->g.objs.size=s.heap.objs.size+1->(∀ c o,c≠z->c≠TO->c≠i1->c≠i2->s.heap.get? c=some o->g.get? c=some o)->Q (.ref s.heap.objs.size) { s with heap:=g,toks:=tk }) :
  wpAny (model prog w) A (Builtin.«zip.__next__» ⟨[.ref z],[]⟩) (fun fin s'=>∃ v,fin=.done (.ret v)/\Q v s') E s:=by
 obtain⟨hp,g,d,tk,os⟩:=s
 have off:∀ (f:Obj->Obj) b o,b≠z->hp.get? b=some o->(hp.update z f).get? b=some o:=fun f b o hb e=>(Heap.SameBut.update ..).extBut b o hb e
 have st1:∀ f:Obj->Obj,S1 k (hp.update z f):=fun f=>D1.frame k _ _ s1 fun b hb o e=>off f b o (fun q=>Z.z1 (q▸hb)) e
 have st2:∀ f:Obj->Obj,S2 k (hp.update z f):=fun f=>D2.frame k _ _ s2 fun b hb o e=>off f b o (fun q=>Z.z2 (q▸hb)) e
 unfold Builtin.«zip.__next__»
 wp_walk using AutoSeq1.wpAny_loadPart' hz,AutoSeq1.wpAny_loadPart' hTI,wpAny_onRaise,(D1.item k _ _ _ k1 (st1 _))
 intro x h1 t1 px st1' sb1
 have q1:IsPair h1 TO a b:=sb1.extBut _ _ (Ne.symm Z.AQ) (off _ TO _ Z.zTO hTO)
 have z1:IsZip h1 z TI TO .ellipsis:=sb1.extBut _ _ (Ne.symm Z.i1z) (Heap.get?_update_self _ hz rfl)
 have u1:=sb1.1
 have c1:∀ c o,c≠z->c≠i1->hp.get? c=some o->h1.get? c=some o:=fun c o n1 n2 e=>sb1.extBut _ _ n2 (off _ c o n1 e)
 clear sb1 st1 st2
 wp_walk using AutoSeq1.wpAny_loadPart' q1,(wpAny_updateSeq_pair q1)
 intro h2 q2 sb2
 replace q2:IsPair h2 TO x b:=q2
 have z2:IsZip h2 z TI TO .ellipsis:=sb2.extBut _ _ (Ne.symm Z.zTO) z1
 have c2:∀ c o,c≠z->c≠TO->c≠i1->hp.get? c=some o->h2.get? c=some o:=fun c o n1 n2 n3 e=>sb2.extBut _ _ n2 (c1 c o n1 n3 e)
 have e1:S1 (k+1) h2:=D1.frame _ _ _ st1' fun b hb o e=>sb2.extBut _ _ (fun q=>Z.TO1 (q▸hb)) e
 have e2:S2 k h2:=D2.frame _ _ _ s2 fun b hb o e=>c2 b o (fun q=>Z.z2 (q▸hb)) (fun q=>Z.TO2 (q▸hb)) (fun q=>Z.i1f (q▸hb)) e
 have u2:=sb2.1.trans u1
 clear sb2 u1 c1 z1 q1
 wp_walk using wpAny_onRaise,(D2.item k _ _ _ k2 e2)
 intro y h3 t3 py f2 sb3
 have q3:IsPair h3 TO x b:=sb3.extBut _ _ (Ne.symm Z.AA) q2
 have z3:IsZip h3 z TI TO .ellipsis:=sb3.extBut _ _ (Ne.symm Z.i2z) z2
 have f1:S1 (k+1) h3:=D1.frame _ _ _ e1 fun b hb o e=>sb3.extBut _ _ (fun q=>Z.i2f (q▸hb)) e
 have c3:∀ c o,c≠z->c≠TO->c≠i1->c≠i2->hp.get? c=some o->h3.get? c=some o:=fun c o n1 n2 n3 n4 e=>sb3.extBut _ _ n4 (c2 c o n1 n2 n3 e)
 have u3:=sb3.1.trans u2
 clear sb3 u2 c2 z2 q2 e1 e2
 wp_walk using AutoSeq1.wpAny_loadPart' q3,(wpAny_updateSeq_pair q3)
 intro h4 q4 sb4
 replace q4:IsPair h4 TO x y:=q4
 have z4:IsZip h4 z TI TO .ellipsis:=sb4.extBut _ _ (Ne.symm Z.zTO) z3
 have g1:S1 (k+1) h4:=D1.frame _ _ _ f1 fun b hb o e=>sb4.extBut _ _ (fun q=>Z.TO1 (q▸hb)) e
 have g2:S2 (k+1) h4:=D2.frame _ _ _ f2 fun b hb o e=>sb4.extBut _ _ (fun q=>Z.TO2 (q▸hb)) e
 have c4:∀ c o,c≠z->c≠TO->c≠i1->c≠i2->hp.get? c=some o->h4.get? c=some o:=fun c o n1 n2 n3 n4 e=>sb4.extBut _ _ n2 (c3 c o n1 n2 n3 n4 e)
 have u4:=sb4.1.trans u3
 clear sb4 u3 c3 z3 q3 f1 f2
 wp_walk using AutoSeq1.wpAny_loadPart' q4
 have u0:h4.objs.size=hp.objs.size:=u4.trans (Heap.SameBut.update ..).1
 refine⟨_,rfl,?_⟩
 show Q (.ref h4.objs.size) _
 have zp:IsZip (h4.push { cls:=.type "tuple",data:=.seq #[x,y].toList.toArray }) z TI TO .ellipsis:=Heap.get?_push_of_some _ z4
 have zlt:z<h4.objs.size:=Heap.lt_size z4
 have up:∀ (f f':Obj->Obj) c o,c≠z->(h4.push { cls:=.type "tuple",data:=.seq #[x,y].toList.toArray }).get? c=some o->(((h4.push { cls:=.type "tuple",data:=.seq #[x,y].toList.toArray }).update z f).update z f').get? c=some o:=fun f f' c o hc e =>
  (Heap.SameBut.update ..).extBut c o hc ((Heap.SameBut.update ..).extBut c o hc e)
 have goal:=hQ x y (((h4.push { cls:=.type "tuple",data:=.seq #[x,y].toList.toArray }).update z (Obj.mapFields (·.setIfInBounds 0 (rawInt h4.objs.size)))).update z (Obj.mapFields (·.setIfInBounds 1 (.bool false)))) t3 px py ?_ ?_ ?_ ?_ ?_ ?_ ?_
 ·rw[u0]at goal ⊢
  exact goal
 ·rw[<-u0]
  exact Heap.get?_update_self _ (Heap.get?_update_self _ zp rfl) rfl
 ·exact up _ _ _ _ Z.zTO (Heap.get?_push_of_some _ q4)
 ·exact D1.frame _ _ _ g1 fun b hb o e=>up _ _ _ _ (fun q=>Z.z1 (q▸hb)) (Heap.get?_push_of_some _ e)
 ·exact D2.frame _ _ _ g2 fun b hb o e=>up _ _ _ _ (fun q=>Z.z2 (q▸hb)) (Heap.get?_push_of_some _ e)
 ·show IsPair _ hp.objs.size x y
  rw[<-u0]
  exact up _ _ _ _ (Nat.ne_of_gt zlt) (Heap.get?_push_size _ rfl)
 ·refine((Heap.SameBut.update ..).1.trans ((Heap.SameBut.update ..).1.trans ((Heap.size_push ..).trans ?_)))
  show h4.objs.size+1=hp.objs.size+1
  rw[u0]
 ·exact fun c o n1 n2 n3 n4 e=>up _ _ _ _ n1 (Heap.get?_push_of_some _ (c4 c o n1 n2 n3 n4 e))
theorem wc{z TI TO i1 i2:Addr}{fp1 fp2:List Addr}{n1:Nat}{P1:Nat->Value->Prop}{S1:Nat->Heap->Prop}{a b:Value}{s:Shared}{Q:Fin->Shared->Prop}(Z:fD z TI TO i1 i2 fp1 fp2)
 (D1:Draws prog w A i1 fp1 n1 P1 S1)(hz:IsZip s.heap z TI TO .none)(hTI:IsPair s.heap TI (.ref i1) (.ref i2))(hTO:IsPair s.heap TO a b)(s1:S1 n1 s.heap)
 (hE:∀ g e,(∀ c o,c≠z->c≠i1->s.heap.get? c=some o->g.get? c=some o)->(∃ o,g.get? e=some o/\o.cls=.type "StopIteration")->E (.ref e) { s with heap:=g }) :
  wpAny (model prog w) A (Builtin.«zip.__next__» ⟨[.ref z],[]⟩) Q E s:=by
 obtain⟨hp,g,d,tk,os⟩:=s
 have off:∀ (f:Obj->Obj) b o,b≠z->hp.get? b=some o->(hp.update z f).get? b=some o:=fun f b o hb e=>(Heap.SameBut.update ..).extBut b o hb e
 have st1:∀ f:Obj->Obj,S1 n1 (hp.update z f):=fun f=>D1.frame n1 _ _ s1 fun b hb o e=>off f b o (fun q=>Z.z1 (q▸hb)) e
 unfold Builtin.«zip.__next__»
 wp_walk using AutoSeq1.wpAny_loadPart' hz,AutoSeq1.wpAny_loadPart' hTI,wpAny_onRaise,(D1.done _ _ _ (st1 _))
 rintro h1 e eb ⟨oe,he,hce⟩
 have z1:IsZip h1 z TI TO .ellipsis:=eb _ _ (Ne.symm Z.i1z) (Heap.get?_update_self _ hz rfl)
 have ez:e≠z:=fun q=>by
  rw[q,z1]at he
  have:=Option.some.inj he
  rw[<-this]at hce
  simp at hce
 refine wpAny_setField_rec z1 (by simp) fun h2 _ sb2=>?_
 exact hE h2 e (fun c o n1 n2 q=>sb2.extBut _ _ n1 (eb _ _ n2 (off _ _ _ n1 q))) ⟨oe,sb2.extBut _ _ ez he,hce⟩
end
section
variable{prog:Program}{w:World}{A:Around}{E:Value->Shared->Prop}{z TI TO i1 i2:Addr}{fp1 fp2:List Addr}{n1 n2 k:Nat}{P1 P2:Nat->Value->Prop}{S1 S2:Nat->Heap->Prop}{a b:Value}{s:Shared}
theorem sZ{Q:Option Value->Shared->Prop}(Z:fD z TI TO i1 i2 fp1 fp2)(D1:Draws prog w A.in1 i1 fp1 n1 P1 S1)(D2:Draws prog w A.in1 i2 fp2 n2 P2 S2)(hz:IsZip s.heap z TI TO .none)(hTI:IsPair s.heap TI (.ref i1) (.ref i2))(hTO:IsPair s.heap TO a b)(s1:S1 k s.heap)(s2:S2 k s.heap)(k1:k<n1)(k2:k<n2)
 (hQ:∀ x y g tk,P1 k x->P2 k y->IsZip g z TI TO (rawInt s.heap.objs.size)->IsPair g TO x y->S1 (k+1) g->S2 (k+1) g->IsPair g s.heap.objs.size x y->g.objs.size=s.heap.objs.size+1->(∀ c o,c≠z->c≠TO->c≠i1->c≠i2->s.heap.get? c=some o->g.get? c=some o)->Q (some (.ref s.heap.objs.size)) { s with heap:=g,toks:=tk }) :
  wpAny (model prog w) A (pyNext (.ref z)) Q E s:=by
 have hT:s.TypeIs (.ref z) "zip" := ⟨_,hz,rfl⟩
 unfold pyNext
 apply wpAny_bind
 apply wpAny_attempt
 apply wpAny_callSpecial?_slot (name:=Str.ofString "__next__") hT F.slot_zip_next
 refine wpAny_call_entry F.slot_zip_next hT F.entry_zip_next ?_ (F.args_zip_next_1 _)
 refine tN Z D1 D2 hz hTI hTO s1 s2 k1 k2 fun x y g tk px py q1 q2 q3 q4 q5 q6 q7=>?_
 apply wpAny_pure
 exact hQ x y g tk px py q1 q2 q3 q4 q5 q6 q7
theorem ug{Q:Option Value->Shared->Prop}(Z:fD z TI TO i1 i2 fp1 fp2)(D1:Draws prog w A.in1 i1 fp1 n1 P1 S1)(hz:IsZip s.heap z TI TO .none)(hTI:IsPair s.heap TI (.ref i1) (.ref i2))(hTO:IsPair s.heap TO a b)(s1:S1 n1 s.heap)
 (hQ:∀ g,(∀ c o,c≠z->c≠i1->s.heap.get? c=some o->g.get? c=some o)->Q none { s with heap:=g }):wpAny (model prog w) A (pyNext (.ref z)) Q E s:=by
 have hT:s.TypeIs (.ref z) "zip" := ⟨_,hz,rfl⟩
 unfold pyNext
 apply wpAny_bind
 apply wpAny_attempt
 apply wpAny_callSpecial?_slot (name:=Str.ofString "__next__") hT F.slot_zip_next
 refine wpAny_call_entry F.slot_zip_next hT F.entry_zip_next ?_ (F.args_zip_next_1 _)
 refine wc Z D1 hz hTI hTO s1 fun g e hk ⟨o,he,hc⟩=>?_
 apply wpAny_bind
 refine wpAny_isInstance (T := "StopIteration") (b:=true) ⟨_,he,hc⟩ isSubtype_stop ?_
 apply wpAny_pure
 exact hQ g hk
end
noncomputable def cF(t:Bool)(xs:List V):HO:=if t then .tup xs else .lst xs
noncomputable def ff(t:Bool)(it l:Addr)(i:Nat)(h:Heap):Prop:=if t then h.IsTupleIter it l i else h.IsListIter it l i
theorem ff.obj{t:Bool}{it l:Addr}{i:Nat}{h:Heap}(st:ff t it l i h):∃ o,h.get? it=some o/\∀ v,o.data≠.cell v:=by
 cases t with
 | true=>exact let ⟨o,ho,_,hd⟩:=(show h.IsTupleIter it l i from st);⟨o,ho,fun v q=>by rw[hd]at q;cases q⟩
 | false=>exact let ⟨o,ho,_,hd⟩:=(show h.IsListIter it l i from st);⟨o,ho,fun v q=>by rw[hd]at q;cases q⟩
theorem ff.keep{t:Bool}{it l:Addr}{i:Nat}{h h':Heap}(st:ff t it l i h)(k:∀ o,h.get? it=some o->h'.get? it=some o):ff t it l i h':=by
 cases t with
 | true=>exact let ⟨o,ho,r⟩:=(show h.IsTupleIter it l i from st);⟨o,k o ho,r⟩
 | false=>exact(show h.IsListIter it l i from st).at fun o q=>k o q
theorem gR{X:Cx}{t:Bool}{it l:Addr}(hc:X.calm=true){pins:List (Addr × Obj)}{s:Shared}{σ:St}{H:Hp}{xs:List V}(I:Inv X pins σ H s)(hi:H it=none)(hx:H l=some (cF t xs)) :
  ∃ (Pv:Nat->Value->Prop) (St:Nat->Heap->Prop),Draws X.prog X.w X.A.in1 it [it,l] xs.length Pv St/\(∀ i,ff t it l i s.heap->St i s.heap)/\(∀ i h,St i h->ff t it l i h)/\∀ i v,Pv i v->∃ x,xs[i]?=some x/\RelV x v:=by
 have hh:X.A.in1.handled=none:=I.ok.hd hc
 have back:∀ {its:List Value},Vals xs its->∀ (i:Nat) (v:Value),its.toArray[i]?=some v->∃ x,xs[i]?=some x/\RelV x v:=fun {its} rv i v hv=>by
  have hv:its[i]?=some v:=by simpa using hv
  have hlt:i<xs.length:=by rw[rv.length];exact(List.getElem?_eq_some_iff.mp hv).1
  obtain⟨u,h1,h2⟩:=rv.get (i:=i) (x:=xs[i]) (by simp[hlt])
  rw[hv]at h1
  cases h1
  exact⟨xs[i],by simp[hlt],h2⟩
 cases t with
 |true=>
  have hx:H l=some (.tup xs):=hx
  obtain⟨its,rv,p,hz⟩:=I.tuple (SqT.of hx)
  have D:=lU.draws (prog:=X.prog) (w:=X.w) (A:=X.A.in1) hh it l (aG hx hi) its.toArray
  rw[show its.toArray.size=xs.length by rw[List.size_toArray,rv.length]]at D
  exact⟨_,_,D,fun i st=>⟨st,p⟩,fun i h st=>st.1,back rv⟩
 |false=>
  have hx:H l=some (.lst xs):=hx
  obtain⟨its,rv,p,hz⟩:=I.list (SqL.of hx)
  have D:=Draws.list (prog:=X.prog) (w:=X.w) (A:=X.A.in1) hh it l (aG hx hi) its.toArray
  rw[show its.toArray.size=xs.length by rw[List.size_toArray,rv.length]]at D
  exact⟨_,_,D,fun i st=>⟨st,p.isList⟩,fun i h st=>st.1,back rv⟩
noncomputable def Itz(t1 t2:Bool)(l1 l2:Addr):It :=
 ⟨fun i H=>∃ xs ys x y,H l1=some (cF t1 xs)/\H l2=some (cF t2 ys)/\xs[i]?=some x/\ys[i]?=some y,
   fun i H v H'=>∃ p x y,H p=none/\v=.ref p/\H'=upd H p (.tup [x,y])/\(∀ xs,H l1=some (cF t1 xs)->xs[i]?=some x)/\∀ ys,H l2=some (cF t2 ys)->ys[i]?=some y,
   fun i H=>∃ xs ys,H l1=some (cF t1 xs)/\H l2=some (cF t2 ys)/\xs.length=i/\ys.length=i⟩
theorem mU{t:Bool}{xs ys:List V}(h:cF t xs=cF t ys):xs=ys:=by
 cases t<;>(injection h)
theorem sH{P:Program}{w:World}{K:PySem.W.Frag}{elts:List Expr}{kx:Nat}{tp:Pos}{t1 t2:Bool}{z TI TO i1 i2 l1 l2:Addr}(n1:TI≠z)(n2:TO≠z)(n3:TI≠TO)(n4:i1≠z)(n5:i2≠z)(n6:i1≠TO)(n7:i2≠TO)(n8:i1≠i2)(n9:i1≠TI)(n10:i2≠TI) :
  Turn P w K (.Tuple elts kx tp) (Itz t1 t2 l1 l2) [z,TI,TO,i1,i2] z (fun i h=>IsZip h z TI TO .none/\IsPair h TI (.ref i1) (.ref i2)/\(∃ a b,IsPair h TO a b)/\ff t1 i1 l1 i h/\ff t2 i2 l2 i h) where
 mem:=by simp
 obj:=fun i h st b hb=>by
  obtain⟨h1,h2,⟨a,c,h3⟩,h4,h5⟩:=st
  simp only[List.mem_cons,List.mem_nil_iff,or_false]at hb
  rcases hb with rfl | rfl | rfl | rfl | rfl
  ·exact⟨_,h1,fun v q=>by cases q⟩
  ·exact⟨_,h2,fun v q=>by cases q⟩
  ·exact⟨_,h3,fun v q=>by cases q⟩
  ·exact h4.obj
  ·exact h5.obj
 keep:=fun i h h' st k=>by
  obtain⟨h1,h2,⟨a,c,h3⟩,h4,h5⟩:=st
  exact⟨k z (by simp) _ h1,k TI (by simp) _ h2,⟨a,c,k TO (by simp) _ h3⟩,h4.keep fun o q=>k i1 (by simp) o q,h5.keep fun o q=>k i2 (by simp) o q⟩
 item:=by
  intro X hP hw hK hc i pins s σ H E I hf st hg
  subst hP hw hK
  obtain⟨h1,h2,⟨a,c,h3⟩,h4,h5⟩:=st
  obtain⟨xs,ys,x,y,hx,hy,ex,ey⟩:=hg
  have f:∀ b∈[z,TI,TO,i1,i2],H b=none:=fun b hb=>(hf b hb).1
  obtain⟨Pv1,St1,D1,a1,a2,a3⟩:=gR hc I (f i1 (by simp)) hx
  obtain⟨Pv2,St2,D2,b1,b2,b3⟩:=gR hc I (f i2 (by simp)) hy
  have no1:∀ b∈[z,TI,TO,i1,i2],b≠l1:=fun b hb q=>by have:=f b hb;rw[q,hx]at this;cases this
  have no2:∀ b∈[z,TI,TO,i1,i2],b≠l2:=fun b hb q=>by have:=f b hb;rw[q,hy]at this;cases this
  have Z:fD z TI TO i1 i2 [i1,l1] [i2,l2]:=by
   refine⟨n1,n2,n3,n4,n5,n6,n7,n8,?_,?_,?_,?_,?_,?_⟩<;>(simp only[List.mem_cons,List.mem_nil_iff,or_false,not_or])
   ·exact⟨Ne.symm n4,no1 z (by simp)⟩
   ·exact⟨Ne.symm n5,no2 z (by simp)⟩
   ·exact⟨Ne.symm n6,no1 TO (by simp)⟩
   ·exact⟨Ne.symm n7,no2 TO (by simp)⟩
   ·exact⟨n8,no2 i1 (by simp)⟩
   ·exact⟨Ne.symm n8,no1 i2 (by simp)⟩
  refine sZ Z D1 D2 h1 h2 h3 (a1 i h4) (b1 i h5) (List.getElem?_eq_some_iff.mp ex).1 (List.getElem?_eq_some_iff.mp ey).1 fun u v g tk pu pv g1 g2 g3 g4 g5 g6 g7=>?_
  obtain⟨x',ex',rx⟩:=a3 i u pu
  obtain⟨y',ey',ry⟩:=b3 i v pv
  rw[ex]at ex'
  rw[ey]at ey'
  cases ex'
  cases ey'
  refine⟨.ref s.heap.objs.size,rfl,wpAny_letOwnedTupleGo_zip g1 fun g' gz' sb=>?_⟩
  have hn:H s.heap.objs.size=none:=I.hok.fresh (Nat.le_refl _)
  have I1:Inv X pins σ (upd H s.heap.objs.size (.tup [x,y])) { s with heap:=s.heap.push { cls:=.type "tuple",data:=.seq #[u,v] },toks:=tk } :=
   I.laid (t':=tk) (fun b o q=>Heap.get?_push_of_some _ q) (Nat.le_refl _) ⟨by show 2<=sizeLine;decide,[u,v],.cons rx (.cons ry .nil),⟨_,Heap.get?_push_size _ rfl,rfl,_,rfl⟩⟩
  have lt:∀ b∈[z,TI,TO,i1,i2],b≠s.heap.objs.size:=fun b hb=>by
   have:∃ o,s.heap.get? b=some o:=by
    simp only[List.mem_cons,List.mem_nil_iff,or_false]at hb
    rcases hb with rfl | rfl | rfl | rfl | rfl
    ·exact⟨_,h1⟩
    ·exact⟨_,h2⟩
    ·exact⟨_,h3⟩
    ·exact let ⟨o,q,_⟩:=h4.obj;⟨o,q⟩
    ·exact let ⟨o,q,_⟩:=h5.obj;⟨o,q⟩
   obtain⟨o,q⟩:=this
   exact Nat.ne_of_lt (Heap.lt_size q)
  have stat:∀ b∈[z,TI,TO,i1,i2],upd H s.heap.objs.size (.tup [x,y]) b=none/\(b∈X.ex\/X.s₀.heap.objs.size<=b)/\b≠X.env.locals/\(∀ x c,X.env.cells.lookup x=some c->c≠b)/\∀ p∈X.pn++pins,p.1≠b:=fun b hb=>by
   obtain⟨f0,f1,f2,f3,f4,f5⟩:=hf b hb
   exact⟨by rw[aH (lt b hb)];exact f0,f3,f1,f4,f5⟩
  have I2:Inv X pins σ (upd H s.heap.objs.size (.tup [x,y])) { s with heap:=g',toks:=tk }:=by
   refine Inv.jT (s:={ s with heap:=s.heap.push { cls:=.type "tuple",data:=.seq #[u,v] },toks:=tk }) (h':=g') (t':=tk) (fp:=[z,TI,TO,i1,i2]) I1 (fun b o hb q=>?_) stat
   simp only[List.mem_cons,List.mem_nil_iff,or_false,not_or]at hb
   refine sb.extBut b o hb.1 ?_
   by_cases hbT:b=s.heap.objs.size
   ·subst hbT
    have q':(s.heap.push { cls:=.type "tuple",data:=.seq #[u,v] }).get? s.heap.objs.size=some o:=q
    rw[Heap.get?_push_size _ rfl]at q'
    cases q'
    exact g5
   ·exact g7 b o hb.1 hb.2.2.1 hb.2.2.2.1 hb.2.2.2.2 ((Heap.get?_push_ne _ _ _ hbT).symm.trans q)
  have kp:∀ b∈[TI,TO,i1,i2],∀ o,g.get? b=some o->g'.get? b=some o:=fun b hb o q=>sb.extBut b o (fun e=>by
   subst e
   simp only[List.mem_cons,List.mem_nil_iff,or_false]at hb
   rcases hb with e | e | e | e
   ·exact n1 e.symm
   ·exact n2 e.symm
   ·exact n4 e.symm
   ·exact n5 e.symm) q
  refine⟨.ref s.heap.objs.size,_,I2,rfl,⟨s.heap.objs.size,x,y,hn,rfl,rfl,fun xs' hx'=>?_,fun ys' hy'=>?_⟩,⟨gz',kp TI (by simp) _ (g7 TI _ n1 n3 (Ne.symm n9) (Ne.symm n10) h2),⟨u,v,kp TO (by simp) _ g2⟩,(a2 _ _ g3).keep fun o q=>kp i1 (by simp) o q,(b2 _ _ g4).keep fun o q=>kp i2 (by simp) o q⟩,fun b hb=>(stat b hb).1⟩
  ·rw[hx]at hx'
   rw[<-mU (Option.some.inj hx')]
   exact ex
  ·rw[hy]at hy'
   rw[<-mU (Option.some.inj hy')]
   exact ey
 done:=by
  intro X hP hw hK hc i pins s σ H E I hf st hg
  subst hP hw hK
  obtain⟨h1,h2,⟨a,c,h3⟩,h4,h5⟩:=st
  obtain⟨xs,ys,hx,hy,ex,ey⟩:=hg
  have f:∀ b∈[z,TI,TO,i1,i2],H b=none:=fun b hb=>(hf b hb).1
  obtain⟨Pv1,St1,D1,a1,a2,a3⟩:=gR hc I (f i1 (by simp)) hx
  have no1:∀ b∈[z,TI,TO,i1,i2],b≠l1:=fun b hb q=>by have:=f b hb;rw[q,hx]at this;cases this
  have no2:∀ b∈[z,TI,TO,i1,i2],b≠l2:=fun b hb q=>by have:=f b hb;rw[q,hy]at this;cases this
  have Z:fD z TI TO i1 i2 [i1,l1] [i2,l2]:=by
   refine⟨n1,n2,n3,n4,n5,n6,n7,n8,?_,?_,?_,?_,?_,?_⟩<;>(simp only[List.mem_cons,List.mem_nil_iff,or_false,not_or])
   ·exact⟨Ne.symm n4,no1 z (by simp)⟩
   ·exact⟨Ne.symm n5,no2 z (by simp)⟩
   ·exact⟨Ne.symm n6,no1 TO (by simp)⟩
   ·exact⟨Ne.symm n7,no2 TO (by simp)⟩
   ·exact⟨n8,no2 i1 (by simp)⟩
   ·exact⟨Ne.symm n8,no1 i2 (by simp)⟩
  subst ex
  refine ug Z D1 h1 h2 h3 (a1 _ h4) fun g hk=>⟨rfl,?_⟩
  refine Inv.jT (h':=g) (t':=s.toks) (fp:=[z,i1]) I (fun b o hb q=>?_) fun b hb=>?_
  ·simp only[List.mem_cons,List.mem_nil_iff,or_false,not_or]at hb
   exact hk b o hb.1 hb.2 q
  ·have hb':b∈[z,TI,TO,i1,i2]:=by
    simp only[List.mem_cons,List.mem_nil_iff,or_false]at hb ⊢
    rcases hb with q | q
    ·exact .inl q
    ·exact .inr (.inr (.inr (.inl q)))
   obtain⟨f0,f1,f2,f3,f4,f5⟩:=hf b hb'
   exact⟨f0,f3,f1,f4,f5⟩
 self:=fun A i s Q E st h=>wpAny_pyIter_zip st.1 h
noncomputable def cj(t:Bool)(l:Addr):Obj:=if t then { cls:=.type "tuple_iterator",data:=.fields #[.ref l,rawInt 0] } else { cls:=.type "list_iterator",data:=.fields #[.ref l,.int 0 0] }
theorem mw{t:Bool}{l it:Addr}{h:Heap}(e:h.get? it=some (cj t l)):ff t it l 0 h:=by
 cases t with
 | true=>exact⟨_,e,rfl,rfl⟩
 | false=>exact⟨_,e,rfl,rfl⟩
theorem mf{X:Cx}{pins:List (Addr × Obj)}{s:Shared}{σ:St}{H:Hp}{t:Bool}{l:Addr}{xs:List V}{A:Around}{Q:Value->Shared->Prop}{E:Value->Shared->Prop}(I:Inv X pins σ H s)(hx:H l=some (cF t xs))(q:Q (.ref s.heap.objs.size) { s with heap:=s.heap.push (cj t l) }):wpAny (model X.prog X.w) A (pyIter (.ref l)) Q E s:=by
 cases t with
 |true=>
  obtain⟨its,rv,p,hz⟩:=I.tuple (SqT.of (show H l=some (.tup xs)from hx))
  exact wpAny_pyIter_tuple p q
 |false=>
  obtain⟨its,rv,p,hz⟩:=I.list (SqL.of (show H l=some (.lst xs)from hx))
  exact wpAny_pyIter_list p.isList q
section
variable{X:Cx}{elts:List Expr}{kx:Nat}{tp p pos:Pos}{a b:Expr}{ta:TA}
noncomputable def Bd(ta:TA):TI:=fun σ H R=>ta σ H fun vs H1=>∃ t1 t2 l1 l2 xs ys,vs=[.ref l1,.ref l2]/\H1 l1=some (cF t1 xs)/\H1 l2=some (cF t2 ys)/\R (Itz t1 t2 l1 l2) H1
theorem far(n a b:Nat)(h:a≠b):n+a≠n+b:=fun q=>h (Nat.add_left_cancel q)
theorem qv:bootBuiltins "zip" = some (.type "zip"):=by decide +kernel
theorem xF(hg:Gl X "zip")(hm:X.mg "zip" = none)(ha:PA X [a,b] ta)(hs:starEach [a,b] X.env=[(false,eval a X.env),(false,eval b X.env)])(hs2:starEach [b] X.env=[(false,eval b X.env)]):PI X (.Tuple elts kx tp) (.Call (.Name "zip" p) [a,b] [] pos) (Bd ta):=by
 intro pins s0 σ H0 R I0 h
 refine Call_ (eA I0 hg hm qv (PyProof.Rows.callWith_type1 (thn (ha pos pins s0 σ H0 _ I0 h) fun us s ⟨vs,H,I,r1,q1⟩=>?_) (by rw[hs,hs2]) (by rw[hs2];rfl)))
 obtain⟨t1,t2,l1,l2,xs,ys,rfl,hx,hy,q⟩:=q1
 cases r1 with
 |cons r rr=>
  cases rr with
  |cons r2 rr=>
   cases rr
   cases r
   cases r2
   have I1:Inv X pins σ H { s with heap:=s.heap.push (cj t1 l1) }:=I.kept (t':=s.toks) fun b o e=>Heap.get?_push_of_some _ e
   refine vi (S1:=fun it z1=>it=s.heap.objs.size/\z1={ s with heap:=s.heap.push (cj t1 l1) }) (S2:=fun it jt z2=>it=s.heap.objs.size/\jt=(s.heap.push (cj t1 l1)).objs.size/\z2={ s with heap:=(s.heap.push (cj t1 l1)).push (cj t2 l2) })
    (fun A=>mf I hx ⟨_,rfl,rfl,rfl⟩) (fun it z1 h1 A=>?_) fun it jt z2 h2=>?_
   ·obtain⟨rfl,rfl⟩:=h1
    exact mf I1 hy ⟨_,rfl,rfl,rfl,rfl⟩
   ·obtain⟨rfl,rfl,rfl⟩:=h2
    have z1:(s.heap.push (cj t1 l1)).objs.size=s.heap.objs.size+1:=Heap.size_push ..
    generalize e1:s.heap.push (cj t1 l1)=g1 at *
    have p1:g1.get? s.heap.objs.size=some (cj t1 l1):=by
     rw[<-e1]
     exact Heap.get?_push_size _ (by cases t1<;>rfl)
    have k1:∀ b o,s.heap.get? b=some o->g1.get? b=some o:=fun b o e=>by rw[<-e1];exact Heap.get?_push_of_some _ e
    have z2:(g1.push (cj t2 l2)).objs.size=s.heap.objs.size+2:=by rw[Heap.size_push,z1]
    have p2:(g1.push (cj t2 l2)).get? (s.heap.objs.size+1)=some (cj t2 l2):=by
     rw[<-z1]
     exact Heap.get?_push_size _ (by cases t2<;>rfl)
    have k2:∀ b o,g1.get? b=some o->(g1.push (cj t2 l2)).get? b=some o:=fun b o e=>Heap.get?_push_of_some _ e
    generalize e2:g1.push (cj t2 l2)=g2 at *
    dsimp only
    rw[z1]
    have z3:(g2.push { cls:=.type "tuple",data:=.seq #[.ref s.heap.objs.size,.ref (s.heap.objs.size+1)] }).objs.size=s.heap.objs.size+3:=by rw[Heap.size_push,z2]
    have p3:(g2.push { cls:=.type "tuple",data:=.seq #[.ref s.heap.objs.size,.ref (s.heap.objs.size+1)] }).get? (s.heap.objs.size+2)=some { cls:=.type "tuple",data:=.seq #[.ref s.heap.objs.size,.ref (s.heap.objs.size+1)] }:=by
     rw[<-z2]
     exact Heap.get?_push_size _ rfl
    have k3:∀ b o,g2.get? b=some o->(g2.push { cls:=.type "tuple",data:=.seq #[.ref s.heap.objs.size,.ref (s.heap.objs.size+1)] }).get? b=some o:=fun b o e=>Heap.get?_push_of_some _ e
    rw[z2]
    generalize e3:g2.push { cls:=.type "tuple",data:=.seq #[.ref s.heap.objs.size,.ref (s.heap.objs.size+1)] }=g3 at *
    rw[z3]
    have z4:(g3.push { cls:=.type "tuple",data:=.seq #[.none,.none] }).objs.size=s.heap.objs.size+4:=by rw[Heap.size_push,z3]
    have p4:(g3.push { cls:=.type "tuple",data:=.seq #[.none,.none] }).get? (s.heap.objs.size+3)=some { cls:=.type "tuple",data:=.seq #[.none,.none] }:=by
     rw[<-z3]
     exact Heap.get?_push_size _ rfl
    have k4:∀ b o,g3.get? b=some o->(g3.push { cls:=.type "tuple",data:=.seq #[.none,.none] }).get? b=some o:=fun b o e=>Heap.get?_push_of_some _ e
    generalize e4:g3.push { cls:=.type "tuple",data:=.seq #[.none,.none] }=g4 at *
    rw[z4]
    have p5:(g4.push { cls:=.type "zip",data:=.fields #[.none,.bool false,.bool false,.ref (s.heap.objs.size+2),.ref (s.heap.objs.size+3)] }).get? (s.heap.objs.size+4)=some { cls:=.type "zip",data:=.fields #[.none,.bool false,.bool false,.ref (s.heap.objs.size+2),.ref (s.heap.objs.size+3)] }:=by
     rw[<-z4]
     exact Heap.get?_push_size _ rfl
    have k5:∀ b o,g4.get? b=some o->(g4.push { cls:=.type "zip",data:=.fields #[.none,.bool false,.bool false,.ref (s.heap.objs.size+2),.ref (s.heap.objs.size+3)] }).get? b=some o:=fun b o e=>Heap.get?_push_of_some _ e
    generalize e5:g4.push { cls:=.type "zip",data:=.fields #[.none,.bool false,.bool false,.ref (s.heap.objs.size+2),.ref (s.heap.objs.size+3)] }=g5 at *
    refine wpAny_pyIter_zip (TI:=s.heap.objs.size+2) (TO:=s.heap.objs.size+3) (f0:=.none) p5 ⟨s.heap.objs.size+4,[s.heap.objs.size+4,s.heap.objs.size+2,s.heap.objs.size+3,s.heap.objs.size,s.heap.objs.size+1],_,Itz t1 t2 l1 l2,H,rfl,I.kept (t':=s.toks) fun b o e=>k5 _ _ (k4 _ _ (k3 _ _ (k2 _ _ (k1 _ _ e)))),sH (far _ 2 4 (by decide)) (far _ 3 4 (by decide)) (far _ 2 3 (by decide)) (far _ 0 4 (by decide)) (far _ 1 4 (by decide)) (far _ 0 3 (by decide)) (far _ 1 3 (by decide)) (far _ 0 1 (by decide)) (far _ 0 2 (by decide)) (far _ 1 2 (by decide)),
     ⟨p5,k5 _ _ (k4 _ _ p3),⟨_,_,k5 _ _ p4⟩,mw (k5 _ _ (k4 _ _ (k3 _ _ (k2 _ _ p1)))),mw (k5 _ _ (k4 _ _ (k3 _ _ p2)))⟩,fun b hb=>?_,q⟩
    have hb':s.heap.objs.size<=b:=by
     simp only[List.mem_cons,List.mem_nil_iff,or_false]at hb
     rcases hb with rfl | rfl | rfl | rfl | rfl<;>first | exact Nat.le_refl _ | exact Nat.le_add_right _ _
    exact I.ko hb' (I.hok.fresh hb')
end
end L2
namespace RS
open PySem PySem.Spec PyProof.Rows L2
theorem gg:∀ (ds es:List RL.D),ds.length=es.length->(RL.cG ds es).length=ds.length
 | [],[],_=>rfl
 | [],_::_,h=>by cases h
 | _::_,[],h=>by cases h
 | d::ds,e::es,h=>by rw[RL.cG,List.length_cons,List.length_cons,gg ds es (by simpa using h)]
theorem mM:∀ (ds es:List RL.D) (i:Nat) (d:RL.D),(RL.cG ds es)[i]?=some d->∃ x y,ds[i]?=some x/\es[i]?=some y/\d=.tup [x,y]
 | [],es,i,d,h=>by cases es<;>simp[RL.cG]at h
 | _::_,[],i,d,h=>by simp[RL.cG]at h
 | x::ds,y::es,0,d,h=>by simp[RL.cG]at h;exact⟨x,y,rfl,rfl,h.symm⟩
 | x::ds,y::es,i+1,d,h=>by
  rw[RL.cG,List.getElem?_cons_succ]at h
  obtain⟨x',y',h1,h2,h3⟩:=mM ds es i d h
  exact⟨x',y',by simpa using h1,by simpa using h2,h3⟩
theorem rG{K:PySem.W.Frag}{H:Hp}{ds es:List RL.D}{xs ys:List V}{P:Addr->Prop}{t1 t2:Bool}{l1 l2:Addr}(hl:ds.length=es.length)(h1:H l1=some (cF t1 xs))(h2:H l2=some (cF t2 ys))(n1:¬ P l1)(n2:¬ P l2)(r1:ab nP K H ds xs)(r2:ab nP K H es ys)(hm:∀ b o,P b->H b=some o->bW o) :
  gn K (Itz t1 t2 l1 l2) (RL.cG ds es) P H where
 go:=fun H' i k hi=>by
  rw[gg ds es hl]at hi
  obtain⟨x,e,_⟩:=r1.get (i:=i) (d:=ds[i]) (by simp[hi])
  obtain⟨y,e',_⟩:=r2.get (i:=i) (d:=es[i]'(by lia)) (by simp)
  exact⟨xs,ys,x,y,k _ _ n1 h1,k _ _ n2 h2,e,e'⟩
 stop:=fun H' k=>⟨xs,ys,k _ _ n1 h1,k _ _ n2 h2,by rw[gg ds es hl,r1.length],by rw[gg ds es hl,hl,r2.length]⟩
 yld:=fun H' i d v H2 k e y=>by
  obtain⟨p,x,w,hp,rfl,rfl,hx,hw⟩:=y
  obtain⟨dx,dw,g1,g2,rfl⟩:=mM ds es i d e
  obtain⟨x',g3,g4⟩:=r1.get g1
  obtain⟨w',g5,g6⟩:=r2.get g2
  rw[hx xs (k _ _ n1 h1)]at g3
  rw[hw ys (k _ _ n2 h2)]at g5
  cases g3
  cases g5
  refine⟨ax.bI hp,fun q=>?_⟩
  have re:Rep nP K H' dx x/\Rep nP K H' dw w:=by
   rcases q with q | q
   ·have q:(dx.imm&&(dw.imm&&true))=true:=q
    rw[Bool.and_true,Bool.and_eq_true]at q
    exact⟨eF hm k g4 q.1,eF hm k g6 q.2⟩
   ·exact⟨g4.same q,g6.same q⟩
  rw[Rep]
  exact⟨p,[x,w],rfl,bb,ab.cons (re.1.same (ax.bI hp)) (ab.cons (re.2.same (ax.bI hp)) ab.nil)⟩
theorem kK{P:Addr->Prop}{K:PySem.W.Frag}{H:Hp}{d:RL.D}{ds:List RL.D}{v:V}(h:RL.items d=some ds)(r:Rep P K H d v):∃ t l xs,v=.ref l/\H l=some (cF t xs)/\ab P K H ds xs/\(t=false->d=.lst ds):=by
 obtain⟨p,xs,rfl,hp,rs⟩:=eC h r
 rcases hp with⟨q,rfl⟩ | ⟨q,rfl⟩
 ·exact⟨false,p,xs,rfl,q,rs,fun _=>rfl⟩
 ·exact⟨true,p,xs,rfl,q,rs,fun z=>by cases z⟩
section rules
variable{X:Cx}{cl:RL.Cl}{elts:List Expr}{kx:Nat}{tp p pos:Pos}{a b:Expr}{a' b':RL.E}
theorem yM(hg:Gl X "zip")(hm:X.mg "zip" = none)(ha:SE X cl a a')(hb:SE X cl b b')(hn:noStar a=true)(hn2:noStar b=true):SI X cl (.Tuple elts kx tp) (.Call (.Name "zip" p) [a,b] [] pos) (.zip a' b'):=by
 intro pins s σ H R I h
 obtain⟨σD,ds,rv,e,k⟩:=h
 rw[RL.aZ]at e
 obtain⟨x,ea,e⟩:=bind_some e
 obtain⟨y,eb,e⟩:=bind_some e
 obtain⟨xs,e1,e⟩:=bind_some e
 obtain⟨ys,e2,e⟩:=bind_some e
 split at e
 ·rename_i hl
  cases e
  have hpa:PA X [a,b] (jz (tE X.K cl a') (jz (tE X.K cl b') oY)):=bJ ha (bJ hb cU (ay [] hn2)) (ay _ hn)
  refine xF hg hm hpa (by rw[ay _ hn,ay _ hn2];rfl) (ay [] hn2) pins s σ H R I ?_
  refine⟨σD,x,rv,ea,fun v H1 r1=>⟨σD,y,rv.same r1.same,eb,fun u H2 r2=>?_⟩⟩
  obtain⟨t1,l1,vs,rfl,h1,p1,c1⟩:=kK e1 (r1.rep.same r2.same)
  obtain⟨t2,l2,us,rfl,h2,p2,c2⟩:=kK e2 r2.rep
  refine⟨t1,t2,l1,l2,vs,us,rfl,h1,h2,k _ _ (r1.same.trans r2.same) ⟨rG hl h1 h2 (fun z=>z) (fun z=>z) p1 p2 eI,fun M P z hP av=>?_⟩⟩
  have hP2:=cN (r1.same.trans r2.same) hP
  unfold RL.pO at z
  rw[Bool.and_eq_true]at z
  have notT:∀ (t:Bool) l zs,H2 l=some (cF t zs)->t=true->¬ P l:=fun t l zs hl ht q=>by
   subst ht
   rcases hP2 l _ q hl with⟨_,q⟩ | ⟨_,q⟩ | ⟨_,q⟩<;>cases q
  refine rG hl h1 h2 ?_ ?_ p1 p2 hP2
  ·cases ht:t1 with
   | true=>exact notT t1 l1 vs h1 ht
   | false=>exact jw r1 z.1 hP av _ _ (c1 ht) rfl
  ·cases ht:t2 with
   | true=>exact notT t2 l2 us h2 ht
   |false=>
    refine jw r2 z.2 (fun b q=>?_) (fun j dj vj hj h3 h4=>(av j dj vj hj h3 h4).same r1.same) _ _ (c2 ht) rfl
    obtain⟨o,ho,hmu⟩:=hP b q
    exact⟨o,r1.same _ _ ho,hmu⟩
 ·cases e
end rules
end RS
namespace L2
open PySem PySem.Spec PyProof.Rows
section
variable{X:Cx}{e:Expr}{te:TE}{pos p2 p3 p4:Pos}{j:Nat}
end
end L2
namespace RS
open PySem PySem.Spec PyProof.Rows L2
section
variable{X:Cx}{cl:RL.Cl}{a b:Expr}{a' b' c':RL.E}{pos p p2:Pos}{M:List Nat}
theorem tW{c:Expr}{body:List Stmt}{b:RL.Ss}(hx:X.xe=fun _ _=>False)(hc:ST X cl c c')(hb:SSs X cl M body b):SS X cl M (.While c body [] pos) (.whil c' b):=by
 refine PS.weak (sS (by rw[hx];exact PassesOwn.never) hc hb) fun D σ H h=>?_
 obtain⟨σD,r,σD',rv,e,k⟩:=h
 rw[RL.evS]at e
 refine⟨fun m σ2 H2=>∃ σD2,RVm X.K M σD2 σ2 H2/\Fr' M σ H σ2 H2/\RL.whF (fun σ=>(RL.ev cl σ c').bind RL.truth) (RL.aj cl M b) m σD2=some (r,σD'),⟨_,σD,rv,Fr'.same (ax.refl _),e⟩,?_⟩
 rintro m σ2 H2 ⟨σD2,rv2,fr2,hl⟩
 cases m with
 | zero=>rw[RL.whF]at hl;cases hl
 |succ m=>
  rw[RL.whF]at hl
  obtain⟨t,e1,hl⟩:=bind_some hl
  refine⟨σD2,t,rv2.rv0,e1,fun H3 s3=>?_⟩
  have fr3:=fr2.trans (Fr'.same (M:=M) (σ:=σ2) s3)
  cases t with
  |true=>
   rw[if_pos rfl]at hl
   dsimp only
   rw[if_pos rfl]
   obtain⟨⟨o,σD3⟩,e2,hl⟩:=bind_some hl
   refine⟨fun σ' H'=>∃ m',m'<m+1/\∃ σDx,RVm X.K M σDx σ' H'/\Fr' M σ H σ' H'/\RL.whF (fun σ=>(RL.ev cl σ c').bind RL.truth) (RL.aj cl M b) m' σDx=some (r,σD'),fun _ _ h=>h,σD2,o,σD3,rv2.same s3,e2,?_⟩
   cases o with
   | nx=>exact fun σ' H' rv' fr'=>⟨m,by lia,σD3,rv',fr3.trans fr',hl⟩
   |rt d=>
    cases hl
    exact fun σ' H' v H4 rv' fr' sm rp=>k σ' H' v H4 rv' (fr3.trans fr') sm rp
  |false=>
   rw[if_neg (by decide)]at hl
   dsimp only
   rw[if_neg (by decide)]
   cases hl
   exact k σ2 H3 (rv2.same s3) fr3
end
end RS
namespace L2
open PySem PySem.Spec PyProof.Rows
section
variable{X:Cx}
theorem kQ:∀ {ns:List Int} {us:List Value},Vals (ns.map V.int) us->IntsAre us ns
 | [],_,.nil=>.nil
 | n::r,_,.cons ⟨t,e⟩ h=>by
  subst e
  exact .cons _ _ (kQ h)
theorem ud(hc:X.calm=true):bu X (.builtin "sum") (fun xs H Q=>∃ (p:Addr) (ns:List Int),xs=[.ref p]/\H p=some (.lst (ns.map V.int))/\Q (.int ns.sum) H):=by
 intro pins s σ H xs us Q I r h
 obtain⟨p,ns,rfl,hp,q⟩:=h
 cases r with
 |cons r rr=>
  cases rr
  cases r
  obtain⟨its,rv,hl,hz⟩:=I.list (SqL.of hp)
  have hi:=kQ rv
  obtain⟨xs,hx⟩:=hi.allInts.items
  have hn:=hi.numsOf
  have hx':its=(intItems xs).toList:=by rw[<-hx]
  have hl':s.heap.IsList p (intItems xs):=hx▸hl.isList
  refine sum_intListG (I.ok.hd hc) hl' fun h' tk t' hk=>?_
  refine⟨.int ns.sum,H,I.kept (t':=tk) (fun b o e=>hk b o e),⟨t',?_⟩,q⟩
  rw[<-hn,hx',nums_intItems,preSum_eq,List.take_of_length_le (by simp)]
end
section
variable{X:Cx}{pos:Pos}{a b c g:Expr}{ta tb tc tg:TE}
end
end L2
namespace RS
open PySem PySem.Spec PyProof.Rows L2
section
variable{X:Cx}{cl:RL.Cl}{a b c g:Expr}{a' b' c' g':RL.E}{pos p p2:Pos}{M:List Nat}
theorem x5(hc:X.calm=true)(hg:Gl X "sum")(hm:X.mg "sum" = none)(ha:SE X cl a a')(hn:noStar a=true):SE X cl (.Call (.Name "sum" p) [a] [] pos) (.bi .sum a'):=by
 refine gX (ud hc) hg hm (by decide +kernel) ha hn (by decide) (by decide) fun σD σ H H1 y d v Q e s1 r1 k=>?_
 cases y<;>simp only[RL.biV]at e<;>first | (cases e;done) | skip
 case lst ds =>
  obtain⟨is,e1,e2⟩:=map_some e
  subst e2
  obtain⟨q,xs,rfl,_,f2,f3⟩:=a6 r1
  rw[oT e1 f3]at f2
  exact⟨q,is,rfl,f2,k _ _ (cR s1 aN rfl)⟩
end
section
variable{X:Cx}{cl:RL.Cl}{M:List Nat}{st:Stmt}{i:Nat}{k' l' a' b':RL.E}
end
section
variable{X:Cx}{cl:RL.Cl}{a b c:Expr}{a' b' c':RL.E}{pos p:Pos}{M:List Nat}
theorem wz{y kx z d:RL.D}(h:RL.pW y kx z=some d):∃ o,t6 y kx=some o/\d=o.getD z:=by
 cases y with
 |dK ks vs=>
  obtain⟨q,h1,h2⟩:=map_some (show(RL.keyOf kx).map _=some d from h)
  exact⟨_,by show(RL.keyOf kx).map (RL.aQ ks vs)=_;rw[h1];rfl,h2.symm⟩
 |dT ks vs=>
  cases kx with
  |tup kk=>
   obtain⟨q,h1,h2⟩:=map_some (show(RL.keysOf kk).map _=some d from h)
   exact⟨_,by show(RL.keysOf kk).map (RL.aQ ks vs)=_;rw[h1];rfl,h2.symm⟩
  | _=>cases h
 | _=>cases kx<;>cases h
theorem wJ{H:Hp}{y:RL.D}{v:V}{kx:RL.D}{o:Option RL.D}(ry:Rep nP X.K H y v)(h:t6 y kx=some o):∃ q,v=.ref q/\IsD H q:=by
 cases y with
 |dK ks vs=>
  rw[Rep]at ry
  obtain⟨q,xs,rfl,_,f2,fl,f3⟩:=ry
  exact⟨q,rfl,.inl ⟨_,.inl f2⟩⟩
 |dT ks vs=>
  rw[Rep]at ry
  obtain⟨q,xs,rfl,_,f2,fl,f3⟩:=ry
  exact⟨q,rfl,.inr ⟨_,.inl f2⟩⟩
 | _=>cases kx<;>cases h
theorem yf{x:Str}{apos:Pos}(hu:X.A.units+100<cLine)(ha:SE X cl (.Name x p) a')(hb:SE X cl b b')(hc:SE X cl c c')(hn:noStar b=true)(hn2:noStar c=true)(hl:(apos.endLine == pos.line)=true):SE X cl (.Call (.Attribute (.Name x p) "get" apos) [b,c] [] pos) (.get a' b' c'):=by
 have st:starEach [b,c] X.env=[(false,eval b X.env),(false,eval c X.env)]:=by rw[ay _ hn,ay _ hn2];rfl
 refine PE.weak (tf (by lia) ha hb hc ⟨rfl,by rw[st];rfl,hl,by rw[st];rfl⟩) fun σ H Q h=>?_
 obtain⟨σD,d,rv,e,k⟩:=h
 rw[RL.ev]at e
 obtain⟨x,ea,e⟩:=bind_some e
 obtain⟨y,eb,e⟩:=bind_some e
 obtain⟨z,ec,e⟩:=bind_some e
 obtain⟨o,ho,rfl⟩:=wz e
 refine⟨σD,x,rv,ea,fun v H1 r1=>?_⟩
 obtain⟨q,rfl,isd⟩:=wJ r1.rep ho
 refine⟨q,rfl,isd,σD,y,rv.same r1.same,eb,fun u H2 r2=>⟨σD,z,rv.same (r1.same.trans r2.same),ec,fun w H3 r3=>?_⟩⟩
 obtain⟨q',r,e1,g,an⟩:=vN (r1.rep.same (r2.same.trans r3.same)) (r2.rep.same r3.same) ho
 cases e1
 refine⟨r,g,k _ _ ⟨r1.same.trans (r2.same.trans r3.same),?_,fun z=>(by cases z),fun M z=>nomatch (show false=true from z)⟩⟩
 cases o with
 |some d=>
  obtain⟨w',rfl,rr⟩:=an
  exact rr
 |none=>
  cases(show r=none from an)
  exact r3.rep
end
theorem nos{α:Type}{P:Prop}{x:α}(h:(none:Option α)=some x):P:=by cases h
theorem aq{α:Type}{o:Option α}{f:α->Bool}(h:o.any f=true):∃ x,o=some x/\f x=true:=by
 cases o with
 | none=>cases h
 | some x=>exact⟨x,rfl,h⟩
theorem ae{a b:Bool}(h:(a&&b)=true):a=true/\b=true:=by rw[Bool.and_eq_true]at h;exact h
noncomputable def dZ:Expr->Option Str
 | .Name x _=>some x
 | _=>none
theorem cA{e:Expr}{x:Str}(h:dZ e=some x):∃ p,e=.Name x p:=by
 cases e
 case Name=>cases h;exact⟨_,rfl⟩
 all_goals exact nos h
noncomputable def ui:Expr->Option Const
 | .Constant k _ _=>some k
 | _=>none
theorem oF{e:Expr}{k:Const}(h:ui e=some k):∃ j p,e=.Constant k j p:=by
 cases e
 case Constant=>cases h;exact⟨_,_,rfl⟩
 all_goals exact nos h
noncomputable def xN:Expr->Option (Expr × Operator × Expr)
 | .BinOp l o r _=>some (l,o,r)
 | _=>none
theorem wm{e:Expr}{l r:Expr}{o:Operator}(h:xN e=some (l,o,r)):∃ p,e=.BinOp l o r p:=by
 cases e
 case BinOp=>cases h;exact⟨_,rfl⟩
 all_goals exact nos h
noncomputable def vUn:Expr->Option (UnaryOp × Expr)
 | .UnaryOp o x _=>some (o,x)
 | _=>none
theorem rL{e x:Expr}{o:UnaryOp}(h:vUn e=some (o,x)):∃ p,e=.UnaryOp o x p:=by
 cases e
 case UnaryOp=>cases h;exact⟨_,rfl⟩
 all_goals exact nos h
noncomputable def mT:Expr->Option (Expr × List CmpOp × List Expr)
 | .Compare l o r _=>some (l,o,r)
 | _=>none
theorem ip{e l:Expr}{r:List Expr}{o:List CmpOp}(h:mT e=some (l,o,r)):∃ p,e=.Compare l o r p:=by
 cases e
 case Compare=>cases h;exact⟨_,rfl⟩
 all_goals exact nos h
noncomputable def vBool:Expr->Option (BoolOp × List Expr × Pos)
 | .BoolOp o es p=>some (o,es,p)
 | _=>none
theorem fW{e:Expr}{es:List Expr}{o:BoolOp}{p:Pos}(h:vBool e=some (o,es,p)):e=.BoolOp o es p:=by
 cases e
 case BoolOp=>cases h;exact rfl
 all_goals exact nos h
noncomputable def zy:Expr->Option (Expr × Expr × Expr)
 | .IfExp c a b _=>some (c,a,b)
 | _=>none
theorem vZ{e a b c:Expr}(h:zy e=some (c,a,b)):∃ p,e=.IfExp c a b p:=by
 cases e
 case IfExp=>cases h;exact⟨_,rfl⟩
 all_goals exact nos h
noncomputable def gU:Expr->Option (List Expr)
 | .Tuple es _ _=>some es
 | _=>none
theorem dz{e:Expr}{es:List Expr}(h:gU e=some es):∃ k p,e=.Tuple es k p:=by
 cases e
 case Tuple=>cases h;exact⟨_,_,rfl⟩
 all_goals exact nos h
noncomputable def xx:Expr->Option (List Expr)
 | .List es _=>some es
 | _=>none
theorem wx{e:Expr}{es:List Expr}(h:xx e=some es):∃ p,e=.List es p:=by
 cases e
 case List=>cases h;exact⟨_,rfl⟩
 all_goals exact nos h
noncomputable def p8:Expr->Option (Expr × Expr)
 | .Subscript a b _=>some (a,b)
 | _=>none
theorem kq{e a b:Expr}(h:p8 e=some (a,b)):∃ p,e=.Subscript a b p:=by
 cases e
 case Subscript=>cases h;exact⟨_,rfl⟩
 all_goals exact nos h
noncomputable def vSl:Expr->Option (Option Expr × Option Expr × Option Expr)
 | .Slice a b c _=>some (a,b,c)
 | _=>none
theorem zq{e:Expr}{a b c:Option Expr}(h:vSl e=some (a,b,c)):∃ p,e=.Slice a b c p:=by
 cases e
 case Slice=>cases h;exact⟨_,rfl⟩
 all_goals exact nos h
noncomputable def iw:Expr->Option (Expr × List Expr × List Keyword × Pos)
 | .Call f as ks p=>some (f,as,ks,p)
 | _=>none
theorem eP{e f:Expr}{as:List Expr}{ks:List Keyword}{p:Pos}(h:iw e=some (f,as,ks,p)):e=.Call f as ks p:=by
 cases e
 case Call=>cases h;exact rfl
 all_goals exact nos h
noncomputable def oX:Expr->Option (Expr × Str × Pos)
 | .Attribute o x p=>some (o,x,p)
 | _=>none
theorem mr{e o:Expr}{x:Str}{p:Pos}(h:oX e=some (o,x,p)):e=.Attribute o x p:=by
 cases e
 case Attribute=>cases h;exact rfl
 all_goals exact nos h
noncomputable def p6:Expr->Option (Expr × List Comprehension × Scope × Pos)
 | .ListComp e gs sc p=>some (e,gs,sc,p)
 | _=>none
theorem mD{e x:Expr}{gs:List Comprehension}{sc:Scope}{p:Pos}(h:p6 e=some (x,gs,sc,p)):e=.ListComp x gs sc p:=by
 cases e
 case ListComp=>cases h;exact rfl
 all_goals exact nos h
noncomputable def uB:Expr->Option (List (Option Expr) × List Expr)
 | .Dict ks vs _=>some (ks,vs)
 | _=>none
theorem tO{e:Expr}{ks:List (Option Expr)}{vs:List Expr}(h:uB e=some (ks,vs)):∃ p,e=.Dict ks vs p:=by
 cases e
 case Dict=>cases h;exact⟨_,rfl⟩
 all_goals exact nos h
noncomputable def of1{α:Type}(xs:List α)(f:α->Bool):Bool:=match xs with
 | [a]=>f a
 | _=>false
noncomputable def of2{α:Type}(xs:List α)(f:α->α->Bool):Bool:=match xs with
 | [a,b]=>f a b
 | _=>false
noncomputable def of3{α:Type}(xs:List α)(f:α->α->α->Bool):Bool:=match xs with
 | [a,b,c]=>f a b c
 | _=>false
theorem aL{α:Type}:∀ {xs:List α} {f:α->Bool},of1 xs f=true->∃ a,xs=[a]/\f a=true
 | [a],_,h=>⟨a,rfl,h⟩
theorem cJ{α:Type}:∀ {xs:List α} {f:α->α->Bool},of2 xs f=true->∃ a b,xs=[a,b]/\f a b=true
 | [a,b],_,h=>⟨a,b,rfl,h⟩
theorem qP{α:Type}:∀ {xs:List α} {f:α->α->α->Bool},of3 xs f=true->∃ a b c,xs=[a,b,c]/\f a b c=true
 | [a,b,c],_,h=>⟨a,b,c,rfl,h⟩
noncomputable def ofM{α:Type}(xs:List α)(f:α->α->List α->Bool):Bool:=match xs with
 | a::b::r=>f a b r
 | _=>false
theorem j6{α:Type}:∀ {xs:List α} {f:α->α->List α->Bool},ofM xs f=true->∃ a b r,xs=a::b::r/\f a b r=true
 | a::b::r,_,h=>⟨a,b,r,rfl,h⟩
noncomputable def jV:Stmt->Option (List Expr × Expr)
 | .Assign ts e _=>some (ts,e)
 | _=>none
theorem fC{st:Stmt}{ts:List Expr}{e:Expr}(h:jV st=some (ts,e)):∃ p,st=.Assign ts e p:=by
 cases st
 case Assign=>cases h;exact⟨_,rfl⟩
 all_goals exact nos h
noncomputable def xB:Stmt->Option (Expr × Operator × Expr)
 | .AugAssign t o e _=>some (t,o,e)
 | _=>none
theorem vd{st:Stmt}{t e:Expr}{o:Operator}(h:xB st=some (t,o,e)):∃ p,st=.AugAssign t o e p:=by
 cases st
 case AugAssign=>cases h;exact⟨_,rfl⟩
 all_goals exact nos h
noncomputable def pK:Stmt->Option Expr
 | .Expr e _=>some e
 | _=>none
theorem kc{st:Stmt}{e:Expr}(h:pK st=some e):∃ p,st=.Expr e p:=by
 cases st
 case Expr=>cases h;exact⟨_,rfl⟩
 all_goals exact nos h
noncomputable def wIf:Stmt->Option (Expr × List Stmt × List Stmt)
 | .If c a b _=>some (c,a,b)
 | _=>none
theorem qO{st:Stmt}{c:Expr}{a b:List Stmt}(h:wIf st=some (c,a,b)):∃ p,st=.If c a b p:=by
 cases st
 case If=>cases h;exact⟨_,rfl⟩
 all_goals exact nos h
noncomputable def ze:Stmt->Option (Expr × Expr × List Stmt × List Stmt)
 | .For t i b o _=>some (t,i,b,o)
 | _=>none
theorem wq{st:Stmt}{t i:Expr}{b o:List Stmt}(h:ze st=some (t,i,b,o)):∃ p,st=.For t i b o p:=by
 cases st
 case For=>cases h;exact⟨_,rfl⟩
 all_goals exact nos h
noncomputable def xP:Stmt->Option (Expr × List Stmt × List Stmt)
 | .While c b o _=>some (c,b,o)
 | _=>none
theorem uV{st:Stmt}{c:Expr}{b o:List Stmt}(h:xP st=some (c,b,o)):∃ p,st=.While c b o p:=by
 cases st
 case While=>cases h;exact⟨_,rfl⟩
 all_goals exact nos h
noncomputable def xT:Stmt->Option (Option Expr)
 | .Return e _=>some e
 | _=>none
theorem wu{st:Stmt}{e:Option Expr}(h:xT st=some e):∃ p,st=.Return e p:=by
 cases st
 case Return=>cases h;exact⟨_,rfl⟩
 all_goals exact nos h
structure CC where
 N:List Str
 sc:Scope
 B:List Str
 G:List (Str × Int)
 F:List (Str × List Nat)
noncomputable def xn(scope sc:Scope):Scope:={ scope with names:=scope.names.map fun(n,k)=>if(k == NameKind.free&&sc.kind == .function&&sc.names.lookup n == some .cell)then(n,NameKind.cell)else(n,k) }
noncomputable def CC.inner(C:CC)(scope:Scope):CC:={ C with sc:=xn scope C.sc }
noncomputable def f7(x:Str):Bool:=!(x == ("__debug__" : Str)) && !(x == ("__classdict__" : Str))
noncomputable def so(C:CC)(x:Str):Bool:=C.sc.names.lookup x == some .local || C.sc.names.lookup x == some .cell
noncomputable def tw(C:CC)(x:Str):Bool:=C.sc.names.lookup x == some .local || C.sc.names.lookup x == some .cell || C.sc.names.lookup x == some .free
noncomputable def glB(C:CC)(x:Str):Bool:=C.sc.names.lookup x == some .globalImplicit&&f7 x
noncomputable def pC(C:CC)(x:Str):Bool:=glB C x&&C.B.contains x
noncomputable def nmB(C:CC)(i:Nat)(x:Str):Bool:=C.N[i]? == some x&&f7 x
structure XOk(C:CC)(X:Cx)(cl:RL.Cl):Prop where
 scope:X.env.scope=C.sc
 names:X.N=C.N
 nd:C.N.Nodup
 calm:X.calm=true
 xe:X.xe=fun _ _=>False
 hu:X.A.units+100<cLine
 blt:∀ x∈C.B,X.mg x=none
 glb:∀ x i,C.G.lookup x=some i->∃ u,X.mg x=some u/\RelV (.int i) u
 fns:∀ (f:Nat) (x:Str) (mp:List Nat),C.F[f]?=some (x,mp)->∃ k fa fd ps,fh X.prog X.w X.K X.mg X.base CX0 k fa fd ps (if mp=[]then spF X.K cl f else spM X.K cl mp f)/\cO k X.A/\X.mg x=some (.ref fa)/\PySem.W.keepIn X.K (.ref fa)=true/\Binds X.K fd ps []
section
variable{C:CC}{X:Cx}{cl:RL.Cl}{e:Expr}
theorem XOk.vis(h:XOk C X cl){x:Str}(v:tw C x=true):Vis X.env.scope x:=by
 unfold tw at v
 rw[<-h.scope,Bool.or_eq_true,Bool.or_eq_true,beq_iff_eq,beq_iff_eq,beq_iff_eq]at v
 rcases v with(v | v) | v
 ·exact .inl v
 ·exact .inr (.inl v)
 ·exact .inr (.inr v)
theorem XOk.loc(h:XOk C X cl){x:Str}(v:so C x=true):Loc X.env.scope x:=by
 unfold so at v
 rw[<-h.scope,Bool.or_eq_true,beq_iff_eq,beq_iff_eq]at v
 exact v
theorem dh{x:Str}(h:f7 x=true):(x == ("__debug__" : Str))=false/\(x == ("__classdict__" : Str))=false:=by
 unfold f7 at h
 rw[Bool.and_eq_true,Bool.not_eq_true',Bool.not_eq_true']at h
 exact h
theorem XOk.gl(h:XOk C X cl){x:Str}(v:glB C x=true):Gl X x/\f7 x=true:=by
 unfold glB at v
 rw[<-h.scope,Bool.and_eq_true,beq_iff_eq]at v
 exact v
theorem XOk.bl(h:XOk C X cl){x:Str}(v:pC C x=true):Gl X x/\X.mg x=none:=by
 unfold pC at v
 rw[Bool.and_eq_true]at v
 exact⟨(h.gl v.1).1,h.blt x (by simpa using v.2)⟩
theorem XOk.nm(h:XOk C X cl){i:Nat}{x:Str}(v:nmB C i x=true):X.N[i]?=some x/\f7 x=true:=by
 unfold nmB at v
 rw[<-h.names,Bool.and_eq_true,beq_iff_eq]at v
 exact v
theorem XOk.ndX(h:XOk C X cl):X.N.Nodup:=by rw[h.names];exact h.nd
theorem XOk.blk(h:XOk C X cl){scope:Scope}(cls:List (Str × Addr))(Ca:Addr)(fp:List Addr)(s:Shared)(H:Hp):XOk (C.inner scope) (L2.blk X scope cls Ca fp s H) cl where
 scope:=by
  show relabel scope X.env=xn scope C.sc
  rw[<-h.scope]
  rfl
 names:=h.names
 nd:=h.nd
 calm:=h.calm
 xe:=rfl
 hu:=h.hu
 blt:=h.blt
 glb:=h.glb
 fns:=h.fns
noncomputable def iu:RL.D->Const->Bool
 | .int i,.int j=>i == j
 | .bl i,.bool j=>i == j
 | .non,.none=>true
 | .str x,.str y=>x == y
 | _,_=>false
noncomputable def plainT:Expr->Bool
 | .UnaryOp .Not _ _=>false
 | .BoolOp _ _ _=>false
 | .IfExp _ _ _ _=>false
 | .Compare _ _ _ _=>false
 | _=>true
noncomputable def nr:Expr->Bool
 | .BoolOp _ _ _=>true
 | _=>false
noncomputable def jK:Expr->Bool
 | .Set _ _ _=>false
 | _=>true
noncomputable def pB:RL.Bi->Option Str
 | .len=>some "len"
 | .list=>some "list"
 | .tuple=>some "tuple"
 | .all=>some "all"
 | .sum=>some "sum"
 | _=>none
noncomputable def pP:RL.Ty->Str
 | .int => "int"
 | .bool => "bool"
 | .list => "list"
 | .tuple => "tuple"
 | .str => "str"
noncomputable def AM(neg:Bool):CmpOp:=if neg then .IsNot else .Is
noncomputable def lp(C:CC)(i:Nat)(e:Expr):Bool:=(dZ e).any fun x=>nmB C i x&&tw C x
noncomputable def fK(C:CC)(i:Nat)(e:Expr):Bool:=(dZ e).any fun x=>nmB C i x&&so C x
noncomputable def iz(C:CC):List Nat->List Expr->Bool
 | [],es=>es.isEmpty
 | i::is,es=>match es with
  | e::es=>fK C i e&&iz C is es
  | []=>false
noncomputable def kg(C:CC)(tg:List Nat)(e:Expr):Bool :=
 match tg with
 | [i]=>fK C i e
 | tg=>(gU e).any fun es=>iz C tg es
noncomputable def jr(C:CC)(scope:Scope)(tg:List Nat):Bool:=tg.all fun i=>match C.N[i]? with
 | some x=>scope.names.lookup x == some .local || scope.names.lookup x == some .cell
 | none=>false
noncomputable def jI(C:CC)(scope:Scope)(tg:List Nat):Bool:=(List.range C.N.length).all fun i=>match C.N[i]? with
 | some x=>!(scope.names.lookup x == some .local || scope.names.lookup x == some .cell) || tg.contains i
 | none=>true
noncomputable def scB(scope sc:Scope):Bool:=scope.kind == .function&&scope.names.all (fun x=>(!(x.2 == .cell) || scope.names.lookup x.1 == some .cell)&&(!(x.2 == .local) || scope.names.lookup x.1 == some .local)&&(!(x.2 == .free) || sc.names.lookup x.1 == some .cell || sc.names.lookup x.1 == some .free))
noncomputable def bP(C:CC)(e:Expr)(nm:Str)(f:List Expr->Bool):Bool:=(iw e).any fun q=>(dZ q.1).any (fun x=>x == nm&&pC C x)&&q.2.2.1.isEmpty&&q.2.1.all noStar&&f q.2.1
theorem bp{nm:Str}{f:List Expr->Bool}(h:XOk C X cl)(z:bP C e nm f=true):∃ p as pos,e=.Call (.Name nm p) as [] pos/\Gl X nm/\X.mg nm=none/\as.all noStar=true/\f as=true:=by
 unfold bP at z
 obtain⟨⟨g,as,ks,pos⟩,z0,z⟩:=aq z
 have e0:=eP z0
 subst e0
 obtain⟨z,z4⟩:=ae z
 obtain⟨z,z3⟩:=ae z
 obtain⟨z1,z2⟩:=ae z
 obtain⟨x,y0,z1⟩:=aq z1
 obtain⟨p,rfl⟩:=cA y0
 obtain⟨y1,y2⟩:=ae z1
 rw[beq_iff_eq]at y1
 subst y1
 obtain⟨b1,b2⟩:=h.bl y2
 rw[List.isEmpty_iff]at z2
 subst z2
 exact⟨p,as,pos,rfl,b1,b2,z3,z4⟩
theorem all1{a:Expr}(h:[a].all noStar=true):noStar a=true:=by simpa using h
theorem all2{a b:Expr}(h:[a,b].all noStar=true):noStar a=true/\noStar b=true:=by simpa using h
theorem gx{a b c:Expr}(h:[a,b,c].all noStar=true):noStar a=true/\noStar b=true/\noStar c=true:=by simpa using h
end
mutual
noncomputable def chk(C:CC)(t:Bool):RL.E->Expr->Bool
 | .var i=>fun e=>lp C i e
 | .cst d=>fun e=>(ui e).any fun k=>iu d k
 | .glb y i=>fun e=>(dZ e).any fun x=>x == y&&glB C x&&C.G.lookup x == some i
 | .bin o a b=>fun e=>(xN e).any fun q=>q.2.1 == m6 o&&chk C false a q.1&&chk C false b q.2.2
 | .neg _=>fun _=>false
 | .cmp c a b=>fun e=>(mT e).any fun q=>of1 q.2.1 fun op=>of1 q.2.2 fun r=>op == cw c&&chk C false a q.1&&chk C false b r
 | .chain c c' a b d=>fun e=>(mT e).any fun q=>of2 q.2.1 fun op op'=>of2 q.2.2 fun r s=>op == cw c&&op' == cw c'&&chk C false a q.1&&chk C false b r&&chk C false d s
 | .isB _ _ _=>fun _=>false
 | .isN neg a=>fun e=>(mT e).any fun q=>of1 q.2.1 fun op=>of1 q.2.2 fun r=>op == AM neg&&(ui r).any (fun k=>iu .non k)&&chk C false a q.1
 | .inn _ _ _=>fun _=>false
 | .inD _ _ _=>fun _=>false
 | .and a b=>fun e=>(vBool e).any fun q=>ofM q.2.1 fun l r rest=>q.1 == .And&&chk C t a l&&(if rest.isEmpty then chk C t b r else chk C t b (.BoolOp .And (r::rest) q.2.2))
 | .or a b=>fun e=>(vBool e).any fun q=>ofM q.2.1 fun l r rest=>q.1 == .Or&&chk C t a l&&(if rest.isEmpty then chk C t b r else chk C t b (.BoolOp .Or (r::rest) q.2.2))
 | .not a=>fun e=>(vUn e).any fun q=>q.1 == .Not&&chk C t a q.2
 | .ifx c a b=>fun e=>(zy e).any fun q=>!t&&chk C true c q.1&&chk C false a q.2.1&&chk C false b q.2.2
 | .tup es=>fun e=>(gU e).any fun xs=>jM C es xs&&decide (de es<=1000)
 | .lst es=>fun e=>(xx e).any fun xs=>jM C es xs&&decide (de es<=1000)
 | .ix a b=>fun e=>(p8 e).any fun q=>mF q.2&&chk C false a q.1&&chk C false b q.2
 | .ixD _ _=>fun _=>false
 | .slT a b=>fun e=>(p8 e).any fun q=>chk C false a q.1&&(vSl q.2).any fun s=>s.1.isNone&&s.2.2.isNone&&s.2.1.any fun r=>chk C false b r
 | .slF _ _=>fun _=>false
 | .rev _=>fun _=>false
 | .call f es=>fun e=>(iw e).any fun q=>(dZ q.1).any (fun x=>glB C x&&C.F[f]? == some (x,[]))&&q.2.2.1.isEmpty && !q.2.1.isEmpty&&jM C es q.2.1
 | .bi b a=>fun e=>match b with
  | .lenSet=>false
  | b=>(pB b).any fun x=>bP C e x fun ys=>of1 ys fun y=>chk C false a y
 | .max _ _=>fun _=>false
 | .min _ _=>fun _=>false
 | .dvm a b=>fun e=>bP C e "divmod" fun ys=>of2 ys fun y z=>chk C false a y&&chk C false b z
 | .isi a ty=>fun e=>bP C e "isinstance" fun ys=>of2 ys fun y z=>(dZ z).any (fun x=>x == pP ty&&pC C x)&&chk C false a y
 | .rng1 a=>fun e=>bP C e "list" fun ys=>of1 ys fun y=>bP C y "range" fun zs=>of1 zs fun z=>chk C false a z
 | .rng2 a b=>fun e=>bP C e "list" fun ys=>of1 ys fun y=>bP C y "range" fun zs=>of2 zs fun z u=>chk C false a z&&chk C false b u
 | .rng3 c a b=>fun e=>bP C e "list" fun ys=>of1 ys fun y=>bP C y "range" fun zs=>of3 zs fun z u q=>gi c q&&chk C false a z&&chk C false b u
 | .comp d tg it c=>fun e=>(p6 e).any fun q=>of1 q.2.1 fun g=>of1 g.ifs fun w=>g.is_async == 0&&scB q.2.2.1 C.sc&&jI C q.2.2.1 tg&&jK g.iter&&kg (C.inner q.2.2.1) tg g.target&&jr C q.2.2.1 tg&&gu C it g.target g.iter&&chk (C.inner q.2.2.1) false d q.1&&chk (C.inner q.2.2.1) true c w
 | .compA d tg it=>fun e=>(p6 e).any fun q=>of1 q.2.1 fun g=>g.ifs.isEmpty&&g.is_async == 0&&scB q.2.2.1 C.sc&&jI C q.2.2.1 tg&&jK g.iter&&kg (C.inner q.2.2.1) tg g.target&&jr C q.2.2.1 tg&&gu C it g.target g.iter&&chk (C.inner q.2.2.1) false d q.1
 | .compL _ _ _=>fun _=>false
 | .dk0=>fun _=>false
 | .dt0=>fun e=>(uB e).any fun q=>q.1.isEmpty&&q.2.isEmpty
 | .chain3 _ _ _ _ _ _ _=>fun _=>false
 | .slB _ _ _=>fun _=>false
 | .get a b c=>fun e=>(iw e).any fun q=>(oX q.1).any (fun u=>u.2.1 == ("get" : Str)&&u.2.2.endLine == q.2.2.2.line&&(dZ u.1).isSome&&chk C false a u.1)&&q.2.2.1.isEmpty&&of2 q.2.1 fun y z=>noStar y&&noStar z&&chk C false b y&&chk C false c z
 | .index _ _=>fun _=>false
 | .join _=>fun _=>false
noncomputable def jM(C:CC):RL.Es->List Expr->Bool
 | .nil=>fun xs=>xs.isEmpty
 | .cons e es=>fun xs=>match xs with
  | x::xs=>noStar x&&chk C false e x&&jM C es xs
  | []=>false
noncomputable def gu(C:CC):RL.It->Expr->Expr->Bool
 | .seq a=>fun _ e=>chk C false a e
 | .rng1 a=>fun _ e=>bP C e "range" fun ys=>of1 ys fun y=>chk C false a y
 | .rng2 a b=>fun _ e=>bP C e "range" fun ys=>of2 ys fun y z=>chk C false a y&&chk C false b z
 | .rng3 c a b=>fun _ e=>bP C e "range" fun ys=>of3 ys fun y z q=>gi c q&&chk C false a y&&chk C false b z
 | .chr _=>fun _ _=>false
 | .enm a=>fun tg e=>(gU tg).isSome&&bP C e "enumerate" fun ys=>of1 ys fun y=>chk C false a y
 | .zip a b=>fun tg e=>(gU tg).isSome&&bP C e "zip" fun ys=>of2 ys fun y z=>chk C false a y&&chk C false b z
 | .nope=>fun _ _=>false
end
noncomputable def mP(X:Cx)(cl:RL.Cl)(e:Expr)(e':RL.E)(b b':Bool):Prop:=(b=true->SE X cl e e')/\(b'=true->ST X cl e e'/\(nr e=true->SW X cl e e'))
section
variable{C:CC}{X:Cx}{cl:RL.Cl}{e:Expr}{e':RL.E}{b:Bool}
theorem pS{env:Env}(h:plainT e=true)(whole:Sem Value):isTrue e env whole=(do let v <- whole;standAt e.pos;holding [v] (truthy v)):=by
 cases e<;>first
  | rfl
  | (cases h;done)
  | (rename_i op _ _;cases op<;>first | rfl | (cases h;done))
theorem aC(h:b=true->SE X cl e e'/\plainT e=true):mP X cl e e' b b :=
 ⟨fun z=>(h z).1,fun z=>⟨sO (h z).1 (pS (h z).2),fun q=>by
  have:=(h z).2
  cases e<;>first | (cases q;done) | (cases this;done)⟩⟩
theorem iR(h:b=true->SE X cl e e'/\ST X cl e e'/\nr e=false):mP X cl e e' b b :=
 ⟨fun z=>(h z).1,fun z=>⟨(h z).2.1,fun q=>by rw[(h z).2.2]at q;cases q⟩⟩
theorem bU(h:b=false){b':Bool}(h':b'=false):mP X cl e e' b b':=⟨fun z=>(by rw[h]at z;cases z),fun z=>(by rw[h']at z;cases z)⟩
theorem zu{d:RL.D}{k:Const}{j:Nat}{pos:Pos}(h:iu d k=true):SE X cl (.Constant k j pos) (.cst d):=by
 cases d<;>cases k<;>simp only[iu]at h<;>first | (cases h;done) | skip
 case non.none=>exact jf m4 (fun P H=>by rw[Rep]) rfl
 case bl.bool i j=>rw[beq_iff_eq]at h;subst h;exact jf Ao (fun P H=>lG) rfl
 case int.int i j=>rw[beq_iff_eq]at h;subst h;exact jf lR (fun P H=>aN) rfl
 case str.str i j=>rw[beq_iff_eq]at h;subst h;exact jf yC (fun P H=>fq) rfl
theorem wj{k:Const}(h:iu .non k=true):k=.none:=by
 cases k<;>simp only[iu]at h<;>first | (cases h;done) | rfl
theorem rO(t:RL.Ty):bootBuiltins (pP t)=some (.type (tyN t))/\pP t ≠ "__name__" /\ (pP t == ("__debug__" : Str))=false:=by
 cases t<;>exact⟨by decide +kernel,by decide +kernel,by decide +kernel⟩
theorem dJ(h:jK e=true)(env:Env)(x:Value):foldedSetIterable e env x=pure x:=by
 cases e<;>first | rfl | (cases h;done)
theorem A4(hcalm:X.calm=true){o:RL.Bi}{x:Str}{p pos:Pos}{y:Expr}{a':RL.E}(hx:pB o=some x)(hb:Gl X x)(hb2:X.mg x=none)(ha:SE X cl y a')(hn:noStar y=true):SE X cl (.Call (.Name x p) [y] [] pos) (.bi o a'):=by
 cases o<;>simp only[pB]at hx<;>first | (cases hx;done) | skip
 case len=>cases hx;exact zb hb hb2 ha hn
 case list=>cases hx;exact wb hb hb2 ha hn
 case tuple=>cases hx;exact sN hb hb2 ha hn
 case all=>cases hx;exact za hcalm hb hb2 ha hn
 case sum=>cases hx;exact x5 hcalm hb hb2 ha hn
theorem fy{i:Nat}(h:XOk C X cl)(z:lp C i e=true):∃ x p,e=.Name x p/\X.N[i]?=some x/\Vis X.env.scope x/\(x == ("__debug__" : Str))=false/\(x == ("__classdict__" : Str))=false:=by
 obtain⟨x,z0,z⟩:=aq z
 obtain⟨p,rfl⟩:=cA z0
 obtain⟨z1,z2⟩:=ae z
 obtain⟨g1,g2⟩:=h.nm z1
 exact⟨x,p,rfl,g1,h.vis z2,(dh g2).1,(dh g2).2⟩
theorem gp{i:Nat}(h:XOk C X cl)(z:fK C i e=true):∃ x p,e=.Name x p/\X.N[i]?=some x/\Loc X.env.scope x:=by
 obtain⟨x,z0,z⟩:=aq z
 obtain⟨p,rfl⟩:=cA z0
 obtain⟨z1,z2⟩:=ae z
 exact⟨x,p,rfl,(h.nm z1).1,h.loc z2⟩
theorem kf(h:XOk C X cl){T:List Nat}(hf:∀ i x,i∈T->X.N[i]?=some x->X.fn x=true\/X.env.scope.names.lookup x=some .local):∀ {is:List Nat} {es:List Expr},(∀ i∈is,i∈T)->iz C is es=true->PGs X es (gs is)/\(assignEach es X.env).length=is.length/\(assignEach es X.env).findIdx? (·.1)=none
 | [],es,_,z=>by
  rw[iz,List.isEmpty_iff]at z
  subst z
  exact⟨vQ,rfl,rfl⟩
 | i::is,[],_,z=>by cases z
 | i::is,e::es,hs,z=>by
  rw[iz]at z
  obtain⟨z1,z2⟩:=ae z
  obtain⟨x,p,rfl,g1,g2⟩:=gp h z1
  obtain⟨h1,h2,h3⟩:=kf h hf (fun j hj=>hs j (List.mem_cons_of_mem _ hj)) z2
  refine⟨uo (nT h.ndX g1 g2 (hf i x (hs i List.mem_cons_self) g1)) h1,?_,?_⟩
  ·show(assignEach es X.env).length+1=is.length+1
   rw[h2]
  ·show List.findIdx? (·.1) ((false,assign (.Name x p) X.env)::assignEach es X.env)=none
   rw[List.findIdx?_cons]
   simp only[Bool.false_eq_true,if_false,h3,Option.map_none]
theorem qW{tg:List Nat}{tgE:Expr}(h:XOk C X cl)(hf:∀ i x,i∈tg->X.N[i]?=some x->X.fn x=true\/X.env.scope.names.lookup x=some .local)(hc:kg C tg tgE=true):PG X tgE (gT X.K tg):=by
 unfold kg at hc
 split at hc
 ·obtain⟨x,p,rfl,g1,g2⟩:=gp h hc
  exact nT h.ndX g1 g2 (hf _ x (by simp) g1)
 ·rename_i hne
  obtain⟨es,z0,z⟩:=aq hc
  obtain⟨k,p,rfl⟩:=dz z0
  obtain⟨h1,h2,h3⟩:=kf h hf (fun i hi=>hi) z
  have e:gT X.K tg=fun v σ H Q=>kr X.K tg.length (gs tg) v σ H Q\/kn X.K tg.length (gs tg) v σ H Q:=by
   unfold gT
   split
   ·rename_i i
    exact absurd rfl (hne i)
   ·rfl
  rw[e]
  exact qq (qK h.calm h1 h2 h3) (qI h.calm h1 h2 h3)
theorem zt{x:Str}{i:Int}{pos:Pos}(h:XOk C X cl)(hg:glB C x=true)(hl:C.G.lookup x=some i):SE X cl (.Name x pos) (.glb x i):=by
 obtain⟨u,h1,h2⟩:=h.glb x i hl
 obtain⟨g1,g2⟩:=h.gl hg
 exact wX (u:=u) (wg g1 h1 h2 (dh g2).1)
theorem vP{x:Str}{f:Nat}{p pos:Pos}{y:Expr}{ys:List Expr}{es:RL.Es}(h:XOk C X cl)(hg:glB C x=true)(hf:C.F[f]?=some (x,[]))(he:SEs X cl (y::ys) es)(hl:de es=ys.length+1)(hn:noStar y=true)(hns:ys.all noStar=true) :
  SE X cl (.Call (.Name x p) (y::ys) [] pos) (.call f es):=by
 obtain⟨k,fa,fd,ps,F,hr,hm,hk,hb⟩:=h.fns f x [] hf
 obtain⟨g1,g2⟩:=h.gl hg
 rw[if_pos rfl]at F
 cases es with
 | nil=>simp[de]at hl
 | cons e' es'=>exact vn F hr g1 hm hk hb he (dh g2).1 hn hns
theorem l6{scope sc:Scope}(h:scB scope sc=true):jS scope sc:=by
 unfold scB at h
 obtain⟨h1,h2⟩:=ae h
 rw[List.all_eq_true]at h2
 refine⟨by simpa using h1,fun x hx z=>?_,fun x hx z=>?_,fun x hx z=>?_⟩
 ·have:=h2 x hx
  rw[z]at this
  simpa using this
 ·have:=h2 x hx
  rw[z]at this
  simpa using this
 ·have:=h2 x hx
  rw[z]at this
  simpa using this
theorem fO{scope:Scope}{tg:List Nat}(h:jI C scope tg=true)(i:Nat)(x:Str)(hx:C.N[i]?=some x)(hl:scope.names.lookup x=some .local\/scope.names.lookup x=some .cell):tg.contains i=true:=by
 unfold jI at h
 rw[List.all_eq_true]at h
 have:=h i (List.mem_range.mpr (List.getElem?_eq_some_iff.mp hx).1)
 rw[hx]at this
 rcases hl with hl | hl
 ·simp only[hl,beq_self_eq_true,Bool.true_or,Bool.not_true,Bool.false_or]at this
  exact this
 ·simp only[hl,beq_self_eq_true,Bool.or_true,Bool.not_true,Bool.false_or]at this
  exact this
theorem kF{X:Cx}{cls:List (Str × Addr)}{scope:Scope}{Ca:Addr}{fp:List Addr}{s:Shared}{H:Hp}{pins:List (Addr × Obj)}{s':Shared}{σ:L2.St}{H':Hp}{Q:Bool->Hp->Prop}(I:Inv (L2.blk X scope cls Ca fp s H) pins σ H' s')(q:jA σ H' Q) :
  wpAny (model X.prog X.w) X.A (eN [] (compEnvC scope cls Ca X.env)) (TP (L2.blk X scope cls Ca fp s H) pins σ Q) (fun _ _=>False) s':=by
 unfold eN
 exact wpAny_pure ⟨H',I,q⟩
theorem kP{X:Cx}{cls:List (Str × Addr)}{scope:Scope}{Ca:Addr}{fp:List Addr}{s:Shared}{H:Hp}{pins:List (Addr × Obj)}{s':Shared}{σ:L2.St}{H':Hp}{Q:Bool->Hp->Prop}{c:Expr}{t:TT}(hc:PT (L2.blk X scope cls Ca fp s H) c t)(I:Inv (L2.blk X scope cls Ca fp s H) pins σ H' s')(q:t σ H' Q) :
  wpAny (model X.prog X.w) X.A (eN [c] (compEnvC scope cls Ca X.env)) (TP (L2.blk X scope cls Ca fp s H) pins σ Q) (fun _ _=>False) s':=by
 have h:=hc pins s' σ H' Q I q
 unfold eN
 simp only[List.forIn_cons,List.forIn_nil,if_true]
 refine wpAny_bind (wpAny_bind (thn h fun b s1 hb=>wpAny_pure ?_))
 exact wpAny_pure hb
theorem jN(h:XOk C X cl){scope:Scope}{cls:List (Str × Addr)}{Ca:Addr}{fp:List Addr}{s:Shared}{H:Hp}{tg:List Nat}(ha:jr C scope tg=true){tgE:Expr}(hc:kg (C.inner scope) tg tgE=true):PG (L2.blk X scope cls Ca fp s H) tgE (gT X.K tg):=by
 have hb:=h.blk (scope:=scope) cls Ca fp s H
 unfold jr at ha
 rw[List.all_eq_true]at ha
 refine qW hb (fun i x hi hx=>?_) hc
 have:=ha i hi
 have hx:X.N[i]?=some x:=hx
 rw[h.names]at hx
 rw[hx]at this
 simp only[Bool.or_eq_true,beq_iff_eq]at this
 rcases this with z | z
 ·exact .inr (lookup_relabel_local z)
 ·exact .inl (by show(scope.names.lookup x == some .cell)=true;rw[z];rfl)
theorem oN{α:Type}{o:Option α}(h:o.isNone=true):o=none:=by
 cases o with
 | none=>rfl
 | some _=>cases h
end
mutual
theorem ak{cl:RL.Cl}:∀ (e':RL.E) {C:CC} {X:Cx} (h:XOk C X cl) (e:Expr),mP X cl e e' (chk C false e' e) (chk C true e' e)
 | .var i,C,X,h,e=>aC (b:=chk C false (.var i) e) fun z=>by
  obtain⟨x,p,rfl,g1,g2,g3,g4⟩:=fy h z
  exact⟨xj g1 g2 g3 g4,rfl⟩
 | .cst d,C,X,h,e=>aC (b:=chk C false (.cst d) e) fun z=>by
  obtain⟨k,z0,z⟩:=aq z
  obtain⟨j,p,rfl⟩:=oF z0
  exact⟨zu z,rfl⟩
 | .glb y i,C,X,h,e=>aC (b:=chk C false (.glb y i) e) fun z=>by
  obtain⟨x,z0,z⟩:=aq z
  obtain⟨p,rfl⟩:=cA z0
  obtain⟨z,z3⟩:=ae z
  obtain⟨z1,z2⟩:=ae z
  rw[beq_iff_eq]at z1 z3
  subst z1
  exact⟨zt h z2 z3,rfl⟩
 | .bin o a b,C,X,h,e=>aC (b:=chk C false (.bin o a b) e) fun z=>by
  obtain⟨⟨l,op,r⟩,z0,z⟩:=aq z
  obtain⟨p,rfl⟩:=wm z0
  obtain⟨z,z3⟩:=ae z
  obtain⟨z1,z2⟩:=ae z
  rw[beq_iff_eq]at z1
  have z1:op=m6 o:=z1
  subst z1
  exact⟨wC ((ak a h l).1 z2) ((ak b h r).1 z3),rfl⟩
 | .neg _,C,X,h,e=>bU rfl rfl
 | .cmp c a b,C,X,h,e=>iR (b:=chk C false (.cmp c a b) e) fun z=>by
  obtain⟨⟨l,os,rs⟩,z0,z⟩:=aq z
  obtain⟨p,rfl⟩:=ip z0
  obtain⟨op,y1,z⟩:=aL z
  obtain⟨r,y2,z⟩:=aL z
  have y1:os=[op]:=y1
  have y2:rs=[r]:=y2
  subst y1 y2
  obtain⟨z,z3⟩:=ae z
  obtain⟨z1,z2⟩:=ae z
  rw[beq_iff_eq]at z1
  subst z1
  exact⟨yK h.hu ((ak a h l).1 z2) ((ak b h r).1 z3),zh h.hu ((ak a h l).1 z2) ((ak b h r).1 z3),rfl⟩
 | .chain c c' a b d,C,X,h,e=>iR (b:=chk C false (.chain c c' a b d) e) fun z=>by
  obtain⟨⟨l,os,rs⟩,z0,z⟩:=aq z
  obtain⟨p,rfl⟩:=ip z0
  obtain⟨op,op',y1,z⟩:=cJ z
  obtain⟨r,s,y2,z⟩:=cJ z
  have y1:os=[op,op']:=y1
  have y2:rs=[r,s]:=y2
  subst y1 y2
  obtain⟨z,z5⟩:=ae z
  obtain⟨z,z4⟩:=ae z
  obtain⟨z,z3⟩:=ae z
  obtain⟨z1,z2⟩:=ae z
  rw[beq_iff_eq]at z1 z2
  subst z1 z2
  exact⟨uq h.hu ((ak a h l).1 z3) ((ak b h r).1 z4) ((ak d h s).1 z5),sM h.hu ((ak a h l).1 z3) ((ak b h r).1 z4) ((ak d h s).1 z5),rfl⟩
 | .isB _ _ _,C,X,h,e=>bU rfl rfl
 | .isN neg a,C,X,h,e=>iR (b:=chk C false (.isN neg a) e) fun z=>by
  obtain⟨⟨l,os,rs⟩,z0,z⟩:=aq z
  obtain⟨p,rfl⟩:=ip z0
  obtain⟨op,y1,z⟩:=aL z
  obtain⟨r,y2,z⟩:=aL z
  have y1:os=[op]:=y1
  have y2:rs=[r]:=y2
  subst y1 y2
  obtain⟨z,z3⟩:=ae z
  obtain⟨z1,z2⟩:=ae z
  rw[beq_iff_eq]at z1
  subst z1
  obtain⟨k,w0,w⟩:=aq z2
  obtain⟨j,q,rfl⟩:=oF w0
  have w:=wj w
  subst w
  exact⟨xc ((ak a h l).1 z3),yz ((ak a h l).1 z3),rfl⟩
 | .inn _ _ _,C,X,h,e=>bU rfl rfl
 | .inD _ _ _,C,X,h,e=>bU rfl rfl
 | .and a b,C,X,h,e=>⟨(fun z=>by
   obtain⟨⟨op,es,p⟩,z0,z⟩:=aq z
   obtain⟨l,r,rest,y1,z⟩:=j6 z
   have e0:=fW z0
   have y1:es=l::r::rest:=y1
   obtain⟨z,z3⟩:=ae z
   obtain⟨z1,z2⟩:=ae z
   rw[beq_iff_eq]at z1
   have z1:op=.And:=z1
   subst y1 z1 e0
   refine yN ((ak a h l).1 z2) ?_
   split at z3
   ·rename_i hr
    rw[List.isEmpty_iff]at hr
    subst hr
    exact rV ((ak b h r).1 z3)
   ·exact(ak b h _).1 z3),(fun z=>by
   obtain⟨⟨op,es,p⟩,z0,z⟩:=aq z
   obtain⟨l,r,rest,y1,z⟩:=j6 z
   have e0:=fW z0
   have y1:es=l::r::rest:=y1
   obtain⟨z,z3⟩:=ae z
   obtain⟨z1,z2⟩:=ae z
   rw[beq_iff_eq]at z1
   have z1:op=.And:=z1
   subst y1 z1 e0
   have w:SW X cl (.BoolOp .And (l::r::rest) p) (.and a b):=by
    refine x4 ((ak a h l).2 z2).1 ?_
    split at z3
    ·rename_i hr
     rw[List.isEmpty_iff]at hr
     subst hr
     exact qz ((ak b h r).2 z3).1
    ·exact((ak b h _).2 z3).2 rfl
   exact⟨w.pt,fun _=>w⟩)⟩
 | .or a b,C,X,h,e=>⟨(fun z=>by
   obtain⟨⟨op,es,p⟩,z0,z⟩:=aq z
   obtain⟨l,r,rest,y1,z⟩:=j6 z
   have e0:=fW z0
   have y1:es=l::r::rest:=y1
   obtain⟨z,z3⟩:=ae z
   obtain⟨z1,z2⟩:=ae z
   rw[beq_iff_eq]at z1
   have z1:op=.Or:=z1
   subst y1 z1 e0
   refine Am ((ak a h l).1 z2) ?_
   split at z3
   ·rename_i hr
    rw[List.isEmpty_iff]at hr
    subst hr
    exact rV ((ak b h r).1 z3)
   ·exact(ak b h _).1 z3),(fun z=>by
   obtain⟨⟨op,es,p⟩,z0,z⟩:=aq z
   obtain⟨l,r,rest,y1,z⟩:=j6 z
   have e0:=fW z0
   have y1:es=l::r::rest:=y1
   obtain⟨z,z3⟩:=ae z
   obtain⟨z1,z2⟩:=ae z
   rw[beq_iff_eq]at z1
   have z1:op=.Or:=z1
   subst y1 z1 e0
   have w:SW X cl (.BoolOp .Or (l::r::rest) p) (.or a b):=by
    refine zV ((ak a h l).2 z2).1 ?_
    split at z3
    ·rename_i hr
     rw[List.isEmpty_iff]at hr
     subst hr
     exact qz ((ak b h r).2 z3).1
    ·exact((ak b h _).2 z3).2 rfl
   exact⟨w.pt,fun _=>w⟩)⟩
 | .not a,C,X,h,e=>⟨(fun z=>by
   obtain⟨⟨op,x⟩,z0,z⟩:=aq z
   obtain⟨p,rfl⟩:=rL z0
   obtain⟨z1,z2⟩:=ae z
   rw[beq_iff_eq]at z1
   have z1:op=.Not:=z1
   subst z1
   exact zx ((ak a h x).1 z2)),(fun z=>by
   obtain⟨⟨op,x⟩,z0,z⟩:=aq z
   obtain⟨p,rfl⟩:=rL z0
   obtain⟨z1,z2⟩:=ae z
   rw[beq_iff_eq]at z1
   have z1:op=.Not:=z1
   subst z1
   exact⟨xr ((ak a h x).2 z2).1,fun q=>by cases q⟩)⟩
 | .ifx c a b,C,X,h,e=>⟨(fun z=>by
   obtain⟨⟨q,l,r⟩,z0,z⟩:=aq z
   obtain⟨p,rfl⟩:=vZ z0
   obtain⟨z,z4⟩:=ae z
   obtain⟨z,z3⟩:=ae z
   obtain⟨z1,z2⟩:=ae z
   exact x9 ((ak c h q).2 z2).1 ((ak a h l).1 z3) ((ak b h r).1 z4)),(fun z=>by
   obtain⟨⟨q,l,r⟩,z0,z⟩:=aq z
   obtain⟨z,z4⟩:=ae z
   obtain⟨z,z3⟩:=ae z
   obtain⟨z1,z2⟩:=ae z
   cases z1)⟩
 | .tup es,C,X,h,e=>aC (b:=chk C false (.tup es) e) fun z=>by
  obtain⟨xs,z0,z⟩:=aq z
  obtain⟨k,p,rfl⟩:=dz z0
  obtain⟨z1,z2⟩:=ae z
  exact⟨yr (fN es h _ z1).1 (by simpa using z2),rfl⟩
 | .lst es,C,X,h,e=>aC (b:=chk C false (.lst es) e) fun z=>by
  obtain⟨xs,z0,z⟩:=aq z
  obtain⟨p,rfl⟩:=wx z0
  obtain⟨z1,z2⟩:=ae z
  exact⟨zA (fN es h _ z1).1 (by simpa using z2),rfl⟩
 | .ix a b,C,X,h,e=>aC (b:=chk C false (.ix a b) e) fun z=>by
  obtain⟨⟨l,r⟩,z0,z⟩:=aq z
  obtain⟨p,rfl⟩:=kq z0
  obtain⟨z,z3⟩:=ae z
  obtain⟨z1,z2⟩:=ae z
  exact⟨Ai ((ak a h l).1 z2) ((ak b h r).1 z3) z1,rfl⟩
 | .ixD _ _,C,X,h,e=>bU rfl rfl
 | .slT a b,C,X,h,e=>aC (b:=chk C false (.slT a b) e) fun z=>by
  obtain⟨⟨l,s⟩,z0,z⟩:=aq z
  obtain⟨p,rfl⟩:=kq z0
  obtain⟨z1,z⟩:=ae z
  obtain⟨⟨s1,s2,s3⟩,z0,z⟩:=aq z
  obtain⟨q,e0⟩:=zq z0
  have e0:s=.Slice s1 s2 s3 q:=e0
  obtain⟨z,z4⟩:=ae z
  obtain⟨z2,z3⟩:=ae z
  have w2:s1=none:=oN z2
  have w3:s3=none:=oN z3
  obtain⟨r,y0,z4⟩:=aq z4
  have y1:s2=some r:=y0
  rw[w2,w3,y1]at e0
  subst e0
  exact⟨xy ((ak a h l).1 z1) ((ak b h r).1 z4),rfl⟩
 | .slF _ _,C,X,h,e=>bU rfl rfl
 | .rev _,C,X,h,e=>bU rfl rfl
 | .call f es,C,X,h,e=>aC (b:=chk C false (.call f es) e) fun z=>by
  obtain⟨⟨g,as,ks,p⟩,z0,z⟩:=aq z
  have z0:=eP z0
  subst z0
  obtain⟨z,z4⟩:=ae z
  obtain⟨z,z3⟩:=ae z
  obtain⟨z1,z2⟩:=ae z
  obtain⟨x,y0,z1⟩:=aq z1
  obtain⟨q,e0⟩:=cA y0
  have e0:g=.Name x q:=e0
  obtain⟨y1,y2⟩:=ae z1
  rw[beq_iff_eq]at y2
  have w2:ks=[]:=by rw[List.isEmpty_iff]at z2;exact z2
  subst e0 w2
  obtain⟨q1,q2,q3⟩:=fN es h _ z4
  dsimp only at z3 q1 q2 q3
  cases as with
  | nil=>cases z3
  |cons y ys=>
   rw[List.all_cons]at q3
   exact⟨vP h y1 y2 q1 q2 (ae q3).1 (ae q3).2,rfl⟩
 | .bi o a,C,X,h,e=>by
  have gen:(∀ t,chk C t (.bi o a) e=((pB o).any fun x=>bP C e x fun ys=>of1 ys fun y=>chk C false a y))->mP X cl e (.bi o a) (chk C false (.bi o a) e) (chk C true (.bi o a) e):=fun heq=>by
   rw[heq,heq]
   refine aC fun z=>?_
   obtain⟨x,y0,z⟩:=aq z
   obtain⟨p,as,pos,rfl,b1,b2,z3,z4⟩:=bp h z
   obtain⟨y,rfl,z4⟩:=aL z4
   exact⟨A4 h.calm y0 b1 b2 ((ak a h y).1 z4) (all1 z3),rfl⟩
  cases o
  case lenSet=>exact bU rfl rfl
  all_goals exact gen fun t=>rfl
 | .max _ _,C,X,h,e=>bU rfl rfl
 | .min _ _,C,X,h,e=>bU rfl rfl
 | .dvm a b,C,X,h,e=>aC (b:=chk C false (.dvm a b) e) fun z=>by
  rw[chk]at z
  obtain⟨p,as,pos,rfl,b1,b2,z3,z4⟩:=bp h z
  obtain⟨y,u,rfl,z4⟩:=cJ z4
  exact⟨yR b1 b2 ((ak a h y).1 (ae z4).1) ((ak b h u).1 (ae z4).2) (all2 z3).1 (all2 z3).2,rfl⟩
 | .isi a ty,C,X,h,e=>aC (b:=chk C false (.isi a ty) e) fun z=>by
  rw[chk]at z
  obtain⟨p,as,pos,rfl,b1,b2,z3,z4⟩:=bp h z
  obtain⟨y,u,rfl,z4⟩:=cJ z4
  obtain⟨z5,z6⟩:=ae z4
  obtain⟨x,w0,w⟩:=aq z5
  obtain⟨q,rfl⟩:=cA w0
  obtain⟨w1,w2⟩:=ae w
  rw[beq_iff_eq]at w1
  subst w1
  obtain⟨t1,t2,t3⟩:=rO ty
  exact⟨zC b1 b2 (h.bl w2).1 (h.bl w2).2 t1 t2 t3 ((ak a h y).1 z6) (all2 z3).1,rfl⟩
 | .rng1 a,C,X,h,e=>aC (b:=chk C false (.rng1 a) e) fun z=>by
  rw[chk]at z
  obtain⟨p,as,pos,rfl,b1,b2,z3,z4⟩:=bp h z
  obtain⟨y,rfl,z5⟩:=aL z4
  obtain⟨p',as',pos',rfl,b1',b2',z3',z6⟩:=bp h z5
  obtain⟨y,rfl,z7⟩:=aL z6
  exact⟨vy h.calm b1 b2 b1' b2' ((ak a h y).1 z7) (all1 z3'),rfl⟩
 | .rng2 a b,C,X,h,e=>aC (b:=chk C false (.rng2 a b) e) fun z=>by
  rw[chk]at z
  obtain⟨p,as,pos,rfl,b1,b2,z3,z4⟩:=bp h z
  obtain⟨y,rfl,z5⟩:=aL z4
  obtain⟨p',as',pos',rfl,b1',b2',z3',z6⟩:=bp h z5
  obtain⟨y,u,rfl,z7⟩:=cJ z6
  exact⟨vw h.calm b1 b2 b1' b2' ((ak a h y).1 (ae z7).1) ((ak b h u).1 (ae z7).2) (all2 z3').1 (all2 z3').2,rfl⟩
 | .rng3 c a b,C,X,h,e=>aC (b:=chk C false (.rng3 c a b) e) fun z=>by
  rw[chk]at z
  obtain⟨p,as,pos,rfl,b1,b2,z3,z4⟩:=bp h z
  obtain⟨y,rfl,z5⟩:=aL z4
  obtain⟨p',as',pos',rfl,b1',b2',z3',z6⟩:=bp h z5
  obtain⟨y,u,q,rfl,z7⟩:=qP z6
  obtain⟨z7,z9⟩:=ae z7
  obtain⟨z7,z8⟩:=ae z7
  exact⟨v8 h.calm b1 b2 b1' b2' ((ak a h y).1 z8) ((ak b h u).1 z9) (gx z3').1 (gx z3').2.1 z7,rfl⟩
 | .comp d tg it c,C,X,h,e=>aC (b:=chk C false (.comp d tg it c) e) fun z=>by
  obtain⟨⟨elt,gens,scope,p⟩,z0,z⟩:=aq z
  have z0:=mD z0
  subst z0
  obtain⟨⟨tgE,iter,ifs,asy⟩,y1,z⟩:=aL z
  have y1:gens=[⟨tgE,iter,ifs,asy⟩]:=y1
  obtain⟨w,y2,z⟩:=aL z
  have y2:ifs=[w]:=y2
  obtain⟨z,z8⟩:=ae z
  obtain⟨z,z7⟩:=ae z
  obtain⟨z,z6⟩:=ae z
  obtain⟨z,z5⟩:=ae z
  obtain⟨z,z4⟩:=ae z
  obtain⟨z,z3⟩:=ae z
  obtain⟨z,z2⟩:=ae z
  obtain⟨z0,z1⟩:=ae z
  rw[beq_iff_eq]at z0
  have w0:asy=0:=z0
  subst y1 w0
  subst y2
  refine⟨tH h.calm (by rw[h.scope];exact l6 z1) (fE it h _ _ z6) ?_ (dJ z3 _),rfl⟩
  exact⟨fun cls Ca fp s H=>jN h z5 z4,fun cls Ca fp s H pins s' σ H' Q I q=>kP ((ak c (h.blk cls Ca fp s H) _).2 z8).1 I q,fun cls Ca fp s H=>(ak d (h.blk cls Ca fp s H) _).1 z7,fun i x hx hl=>fO z2 i x (by rw[<-h.names];exact hx) hl⟩
 | .compA d tg it,C,X,h,e=>aC (b:=chk C false (.compA d tg it) e) fun z=>by
  obtain⟨⟨elt,gens,scope,p⟩,z0,z⟩:=aq z
  have z0:=mD z0
  subst z0
  obtain⟨⟨tgE,iter,ifs,asy⟩,y1,z⟩:=aL z
  have y1:gens=[⟨tgE,iter,ifs,asy⟩]:=y1
  obtain⟨z,z7⟩:=ae z
  obtain⟨z,z6⟩:=ae z
  obtain⟨z,z5⟩:=ae z
  obtain⟨z,z4⟩:=ae z
  obtain⟨z,z3⟩:=ae z
  obtain⟨z,z2⟩:=ae z
  obtain⟨z,z1⟩:=ae z
  obtain⟨y2,z0⟩:=ae z
  rw[beq_iff_eq]at z0
  have w0:asy=0:=z0
  have w2:ifs=[]:=by rw[List.isEmpty_iff]at y2;exact y2
  subst y1 w0
  subst w2
  refine⟨sD h.calm (by rw[h.scope];exact l6 z1) (fE it h _ _ z6) ?_ (dJ z3 _),rfl⟩
  exact⟨fun cls Ca fp s H=>jN h z5 z4,fun cls Ca fp s H pins s' σ H' Q I q=>kF I q,fun cls Ca fp s H=>(ak d (h.blk cls Ca fp s H) _).1 z7,fun i x hx hl=>fO z2 i x (by rw[<-h.names];exact hx) hl⟩
 | .compL _ _ _,C,X,h,e=>bU rfl rfl
 | .dk0,C,X,h,e=>bU rfl rfl
 | .dt0,C,X,h,e=>aC (b:=chk C false .dt0 e) fun z=>by
  obtain⟨⟨ks,vs⟩,z0,z⟩:=aq z
  obtain⟨p,rfl⟩:=tO z0
  obtain⟨z1,z2⟩:=ae z
  rw[List.isEmpty_iff]at z1 z2
  have z1:ks=[]:=z1
  have z2:vs=[]:=z2
  subst z1 z2
  exact⟨yp,rfl⟩
 | .chain3 _ _ _ _ _ _ _,C,X,h,e=>bU rfl rfl
 | .slB _ _ _,C,X,h,e=>bU rfl rfl
 | .get a b c,C,X,h,e=>aC (b:=chk C false (.get a b c) e) fun z=>by
  obtain⟨⟨g,as,ks,p⟩,z0,z⟩:=aq z
  have z0:=eP z0
  obtain⟨z,z3⟩:=ae z
  obtain⟨z1,z2⟩:=ae z
  obtain⟨⟨o,nm,apos⟩,y0,z1⟩:=aq z1
  have e1:=mr y0
  have e1:g=.Attribute o nm apos:=e1
  obtain⟨z1,y4⟩:=ae z1
  obtain⟨z1,y3⟩:=ae z1
  obtain⟨y1,y2⟩:=ae z1
  rw[beq_iff_eq]at y1
  have y1:nm = "get" := y1
  obtain⟨x,hx⟩:=Option.isSome_iff_exists.mp y3
  obtain⟨xp,e2⟩:=cA hx
  have e2:o=.Name x xp:=e2
  have w2:ks=[]:=by rw[List.isEmpty_iff]at z2;exact z2
  obtain⟨y,u,e3,z3⟩:=cJ z3
  have e3:as=[y,u]:=e3
  obtain⟨z3,z6⟩:=ae z3
  obtain⟨z3,z5⟩:=ae z3
  obtain⟨z3,z4⟩:=ae z3
  rw[e1,y1,e2,w2,e3]at z0
  subst z0
  have y4:chk C false a o=true:=y4
  rw[e2]at y4
  exact⟨yf h.hu ((ak a h _).1 y4) ((ak b h y).1 z5) ((ak c h u).1 z6) z3 z4 y2,rfl⟩
 | .index _ _,C,X,h,e=>bU rfl rfl
 | .join _,C,X,h,e=>bU rfl rfl
theorem fN{cl:RL.Cl}:∀ (es':RL.Es) {C:CC} {X:Cx} (h:XOk C X cl) (es:List Expr),jM C es' es=true->SEs X cl es es'/\de es'=es.length/\es.all noStar=true
 | .nil,C,X,h,es,z=>by
  have z:es=[]:=List.isEmpty_iff.mp z
  subst z
  exact⟨cv,rfl,rfl⟩
 | .cons e' es',C,X,h,es,z=>by
  cases es with
  | nil=>cases z
  |cons e es=>
   obtain⟨z,z3⟩:=ae z
   obtain⟨z1,z2⟩:=ae z
   obtain⟨q1,q2,q3⟩:=fN es' h es z3
   exact⟨bo ((ak e' h e).1 z2) q1 z1,by rw[de,q2,List.length_cons],by rw[List.all_cons,z1,q3];rfl⟩
theorem fE{cl:RL.Cl}:∀ (it:RL.It) {C:CC} {X:Cx} (h:XOk C X cl) (tg e:Expr),gu C it tg e=true->SI X cl tg e it
 | .seq a,C,X,h,tg,e,z=>v7 ((ak a h e).1 z)
 | .rng1 a,C,X,h,tg,e,z=>by
  rw[gu]at z
  obtain⟨p,as,pos,rfl,b1,b2,z3,z4⟩:=bp h z
  obtain⟨y,rfl,z4⟩:=aL z4
  exact uS b1 b2 ((ak a h y).1 z4) (all1 z3)
 | .rng2 a b,C,X,h,tg,e,z=>by
  rw[gu]at z
  obtain⟨p,as,pos,rfl,b1,b2,z3,z4⟩:=bp h z
  obtain⟨y,u,rfl,z4⟩:=cJ z4
  exact w4 b1 b2 ((ak a h y).1 (ae z4).1) ((ak b h u).1 (ae z4).2) (all2 z3).1 (all2 z3).2
 | .rng3 c a b,C,X,h,tg,e,z=>by
  rw[gu]at z
  obtain⟨p,as,pos,rfl,b1,b2,z3,z4⟩:=bp h z
  obtain⟨y,u,q,rfl,z4⟩:=qP z4
  obtain⟨z4,z6⟩:=ae z4
  obtain⟨z4,z5⟩:=ae z4
  exact uQ b1 b2 ((ak a h y).1 z5) ((ak b h u).1 z6) (gx z3).1 (gx z3).2.1 z4
 | .chr _,C,X,h,tg,e,z=>by cases z
 | .enm a,C,X,h,tg,e,z=>by
  rw[gu]at z
  obtain⟨z0,zz⟩:=ae z
  obtain⟨ts,z0⟩:=Option.isSome_iff_exists.mp z0
  obtain⟨k,tp,rfl⟩:=dz z0
  obtain⟨p,as,pos,rfl,b1,b2,z3,z4⟩:=bp h zz
  obtain⟨y,rfl,z4⟩:=aL z4
  exact vL b1 b2 ((ak a h y).1 z4) (all1 z3)
 | .zip a b,C,X,h,tg,e,z=>by
  rw[gu]at z
  obtain⟨z0,zz⟩:=ae z
  obtain⟨ts,z0⟩:=Option.isSome_iff_exists.mp z0
  obtain⟨k,tp,rfl⟩:=dz z0
  obtain⟨p,as,pos,rfl,b1,b2,z3,z4⟩:=bp h zz
  obtain⟨y,u,rfl,z4⟩:=cJ z4
  exact yM b1 b2 ((ak a h y).1 (ae z4).1) ((ak b h u).1 (ae z4).2) (all2 z3).1 (all2 z3).2
 | .nope,C,X,h,tg,e,z=>by cases z
end
noncomputable def fF:Expr->Bool
 | .ListComp _ _ _ _=>false
 | .SetComp _ _ _ _=>false
 | .DictComp _ _ _ _ _=>false
 | _=>true
noncomputable def rA:Expr->Bool
 | .Tuple _ _ _=>false
 | _=>true
noncomputable def tR(e:Expr):Bool:=match e with
 | .SetComp _ _ _ _=>false
 | .DictComp _ _ _ _ _=>false
 | _=>true
noncomputable def uf(C:CC)(x y:Str)(px py:Pos)(a b:Expr):Bool :=
 C.sc.kind == .function&&C.sc.names.lookup x == some .local&&C.sc.names.lookup y == some .local&&px.line == py.line && !(x == y)&&noStar a&&noStar b && !(foldedForSure 8 a&&foldedForSure 8 b) && !(constantsAlone 8 a&&constantsAlone 8 b)
noncomputable def oU(M:List Nat):RL.E->Bool
 | .var i=>M.contains i
 | _=>false
noncomputable def pM(C:CC):RL.Es->List Expr->Bool
 | .nil=>fun xs=>xs.isEmpty
 | .cons e es=>fun xs=>match xs with
  | x::xs=>noStar x&&chk C false e x&&pM C es xs
  | []=>false
noncomputable def ux:RL.Bop->Operator->Bool
 | .add,.Add=>true
 | .sub,.Sub=>true
 | _,_=>false
noncomputable def mz:Expr->Option (Str × Pos)
 | .Name x p=>some (x,p)
 | _=>none
theorem kM{e:Expr}{x:Str}{p:Pos}(h:mz e=some (x,p)):e=.Name x p:=by
 cases e
 case Name=>cases h;rfl
 all_goals exact nos h
noncomputable def ly(C:CC)(i:Nat)(nm:Str)(e:Expr)(f:List Expr->Bool):Bool:=(iw e).any fun q=>(oX q.1).any (fun a=>lp C i a.1&&a.2.1 == nm&&a.2.2.endLine == q.2.2.2.line)&&q.2.2.1.isEmpty&&f q.2.1
noncomputable def lX(C:CC)(M:List Nat)(f:Nat)(es:RL.Es)(ps ms:List Nat)(e:Expr):Bool:=(iw e).any fun q=>(dZ q.1).any (fun x=>glB C x&&C.F[f]? == some (x,ps))&&q.2.2.1.isEmpty && !q.2.1.isEmpty && !ps.isEmpty&&pM C es q.2.1&&bK es ps ms&&ms.all (fun i=>M.contains i)&&decide ms.Nodup&&decide ps.Nodup
mutual
noncomputable def zD(C:CC)(M:List Nat):RL.S->Stmt->Bool
 | .asg i e'=>fun st=>(jV st).any fun q=>of1 q.1 fun t=>fK C i t && !M.contains i&&tR q.2&&chk C false e' q.2
 | .own i e'=>fun st=>(jV st).any fun q=>of1 q.1 fun t=>fK C i t&&M.contains i&&decide (M.count i<2)&&tR q.2&&chk C false e' q.2
 | .unp is e'=>fun st=>(jV st).any fun q=>of1 q.1 fun t=>(gU t).any fun ts=>iz C is ts&&is.all (fun i=>!M.contains i)&&rA q.2&&chk C false e' q.2
 | .par i j a' b'=>fun st=>(jV st).any fun q=>of1 q.1 fun t=>(gU t).any fun ts=>of2 ts fun s u=>(mz s).any fun x=>(mz u).any fun y=>(gU q.2).any fun vs=>of2 vs fun a b=>nmB C i x.1&&nmB C j y.1 && !(i == j) && !M.contains i && !M.contains j&&uf C x.1 y.1 x.2 y.2 a b&&chk C false a' a&&chk C false b' b
 | .parO _ _ _ _=>fun _=>false
 | .app i e'=>fun st=>(pK st).any fun e=>ly C i "append" e fun as=>of1 as fun y=>M.contains i&&noStar y&&chk C false e' y
 | .put i k' e'=>fun st=>(jV st).any fun q=>of1 q.1 fun t=>(p8 t).any fun u=>lp C i u.1&&M.contains i&&mF u.2&&fF q.2&&chk C false k' u.2&&chk C false e' q.2
 | .pop _ _=>fun _=>false
 | .clr _=>fun _=>false
 | .aug i o e'=>fun st=>(xB st).any fun q=>fK C i q.1 && !M.contains i&&ux o q.2.1&&chk C false e' q.2.2
 | .ife c' a' b'=>fun st=>(wIf st).any fun q=>chk C true c' q.1&&dY C M a' q.2.1&&dY C M b' q.2.2
 | .forr tg it b'=>fun st=>(ze st).any fun q=>q.2.2.2.isEmpty&&gu C it q.1 q.2.1&&kg C tg q.1&&jK q.2.1&&RL.pO M it&&tg.all (fun i=>!M.contains i)&&dY C M b' q.2.2.1
 | .mexc f es ps ms=>fun st=>(pK st).any fun e=>lX C M f es ps ms e
 | .maug _ _ _ _ _=>fun _=>false
 | .ret e'=>fun st=>(xT st).any fun o=>o.any fun e=>chk C false e' e
 | .exc e'=>fun st=>(pK st).any fun e=>fF e&&chk C false e' e
 | .never=>fun _=>true
 | .put2 _ _ _ _ _=>fun _=>false
 | .ifp i e' a' b'=>fun st=>(wIf st).any fun q=>(mT q.1).any fun u=>of1 u.2.1 fun op=>of1 u.2.2 fun e=>op == .NotEq&&M.contains i&&chk C false e' e&&dY C M a' q.2.1&&dY C M b' q.2.2&&ly C i "pop" u.1 fun as=>as.isEmpty
 | .whil c' b'=>fun st=>(xP st).any fun q=>q.2.2.isEmpty&&chk C true c' q.1&&dY C M b' q.2.1
noncomputable def dY(C:CC)(M:List Nat):RL.Ss->List Stmt->Bool
 | .nil=>fun xs=>xs.isEmpty
 | .cons s r=>fun xs=>match xs with
  | x::xs=>zD C M s x&&dY C M r xs
  | []=>false
end
structure YOk(C:CC)(X:Cx)(cl:RL.Cl):Prop extends XOk C X cl where
 fn:∀ x,X.fn x=true
section
variable{C:CC}{X:Cx}{cl:RL.Cl}{M:List Nat}{st:Stmt}{e:Expr}{e' k':RL.E}{i:Nat}
theorem eE{t:Option Expr}{l:Nat}{env:Env}(h:fF e=true):swapsWith e t l env=pure false:=by
 cases e<;>first | rfl | (cases h;done)
theorem uN{t:Expr}{spos:Pos}(h:YOk C X cl)(hn:fK C i t=true)(ha:tR e=true)(hc:chk C false e' e=true):SA X cl (.Assign [t] e spos) i e':=by
 obtain⟨y,py,rfl,hN,hl⟩:=gp h.toXOk hn
 have plain:swapsWith e (some (.Name y py)) spos.line X.env=pure false->SA X cl (.Assign [.Name y py] e spos) i e':=fun z =>
  sL h.ndX hN hl ((ak e' h.toXOk e).1 hc) (.inl (h.fn y)) z trivial
 by_cases hcomp:fF e=true
 ·exact plain (eE hcomp)
 ·have:∃ elt gens scope p,e=.ListComp elt gens scope p:=by
   cases e<;>first | exact absurd rfl hcomp | exact Bool.noConfusion ha | exact⟨_,_,_,_,rfl⟩
  obtain⟨elt,gens,scope,p,rfl⟩:=this
  have hsw:swapsWith (.ListComp elt gens scope p) (some (.Name y py)) spos.line X.env=pure (X.env.blockKind == .function&&X.env.kindOf y == some .local&&py.line == p.line && !(scope.names.any fun(n,k)=>n == y&&(k == .local || k == .cell))):=rfl
  by_cases hb:(X.env.blockKind == .function&&X.env.kindOf y == some .local&&py.line == p.line && !(scope.names.any fun(n,k)=>n == y&&(k == .local || k == .cell)))=true
  ·have hy:X.env.scope.names.lookup y=some .local:=by
    obtain⟨q,_⟩:=ae (ae hb).1
    have q2:=(ae q).2
    rw[beq_iff_eq]at q2
    exact q2
   rw[hb]at hsw
   by_cases hk:∃ d tg it c,e'=.comp d tg it c
   ·obtain⟨d,tg,it,c,rfl⟩:=hk
    obtain⟨⟨tgE,iter,ifs,asy⟩,y1,z⟩:=aL hc
    have y1:gens=[⟨tgE,iter,ifs,asy⟩]:=y1
    obtain⟨w,y2,z⟩:=aL z
    have y2:ifs=[w]:=y2
    obtain⟨z,z8⟩:=ae z
    obtain⟨z,z7⟩:=ae z
    obtain⟨z,z6⟩:=ae z
    obtain⟨z,z5⟩:=ae z
    obtain⟨z,z4⟩:=ae z
    obtain⟨z,z3⟩:=ae z
    obtain⟨z,z2⟩:=ae z
    obtain⟨z0,z1⟩:=ae z
    rw[beq_iff_eq]at z0
    have w0:asy=0:=z0
    subst y1 w0
    subst y2
    refine sf h.calm h.ndX hN hy (by rw[h.scope];exact l6 z1) (fE it h.toXOk _ _ z6) ?_ (dJ z3 _) hsw
    exact⟨fun cls Ca fp s H=>jN h.toXOk z5 z4,fun cls Ca fp s H pins s' σ H' Q I q=>kP ((ak c (h.toXOk.blk cls Ca fp s H) _).2 z8).1 I q,fun cls Ca fp s H=>(ak d (h.toXOk.blk cls Ca fp s H) _).1 z7,fun i x hx hl=>fO z2 i x (by rw[<-h.names];exact hx) hl⟩
   ·by_cases hk2:∃ d tg it,e'=.compA d tg it
    ·obtain⟨d,tg,it,rfl⟩:=hk2
     obtain⟨⟨tgE,iter,ifs,asy⟩,y1,z⟩:=aL hc
     have y1:gens=[⟨tgE,iter,ifs,asy⟩]:=y1
     obtain⟨z,z7⟩:=ae z
     obtain⟨z,z6⟩:=ae z
     obtain⟨z,z5⟩:=ae z
     obtain⟨z,z4⟩:=ae z
     obtain⟨z,z3⟩:=ae z
     obtain⟨z,z2⟩:=ae z
     obtain⟨z,z1⟩:=ae z
     obtain⟨y2,z0⟩:=ae z
     rw[beq_iff_eq]at z0
     have w0:asy=0:=z0
     have w2:ifs=[]:=by rw[List.isEmpty_iff]at y2;exact y2
     subst y1 w0
     subst w2
     refine tD h.calm h.ndX hN hy (by rw[h.scope];exact l6 z1) (fE it h.toXOk _ _ z6) ?_ (dJ z3 _) hsw
     exact⟨fun cls Ca fp s H=>jN h.toXOk z5 z4,fun cls Ca fp s H pins s' σ H' Q I q=>kF I q,fun cls Ca fp s H=>(ak d (h.toXOk.blk cls Ca fp s H) _).1 z7,fun i x hx hl=>fO z2 i x (by rw[<-h.names];exact hx) hl⟩
    ·cases e'<;>first | exact Bool.noConfusion hc | exact absurd ⟨_,_,_,_,rfl⟩ hk | exact absurd ⟨_,_,_,rfl⟩ hk2 | (rename_i b a;cases b<;>exact Bool.noConfusion hc)
  ·have hb':=Bool.not_eq_true _▸hb
   rw[hb']at hsw
   exact plain hsw
theorem mj(h:XOk C X cl):∀ {es':RL.Es} {es:List Expr},pM C es' es=true->PA X es (fX X.K cl es')/\es.all noStar=true
 | .nil,es,z=>by
  have z:es=[]:=List.isEmpty_iff.mp z
  subst z
  exact⟨cU,rfl⟩
 | .cons _ _,[],z=>by cases z
 | .cons e' es',e::es,z=>by
  obtain⟨z,z3⟩:=ae z
  obtain⟨z1,z2⟩:=ae z
  obtain⟨q1,q2⟩:=mj h z3
  refine⟨?_,by rw[List.all_cons,z1,q2];rfl⟩
  rw[fX]
  refine bJ ?_ q1 (ay es z1)
  by_cases hv:∃ j,e'=.var j
  ·obtain⟨j,rfl⟩:=hv
   obtain⟨x,p,rfl,g1,g2,g3,g4⟩:=fy h z2
   exact fG g1 g2 g3 g4
  ·have ht:nB X.K cl e'=tE X.K cl e':=by
    cases e'<;>first | rfl | exact absurd ⟨_,rfl⟩ hv
   rw[ht]
   exact(ak _ h e).1 z2
theorem oa{is:List Nat}(h:is.all (fun i=>!M.contains i)=true):∀ i∈is,M.contains i=false:=fun i hi=>by
 rw[List.all_eq_true]at h
 simpa using h i hi
theorem yc{is:List Nat}(h:is.all (fun i=>M.contains i)=true):∀ i∈is,M.contains i=true:=fun i hi=>by
 rw[List.all_eq_true]at h
 exact h i hi
theorem gS{b:Bool}(h:(!b)=true):b=false:=by simpa using h
theorem uh{f:Nat}{ps ms:List Nat}{es:RL.Es}(h:XOk C X cl)(z:lX C M f es ps ms e=true):PE X e (l9 (spM X.K cl ps f) [] E0 (fX X.K cl es))/\bK es ps ms=true/\(∀ i∈ms,M.contains i=true)/\ms.Nodup/\ps.Nodup/\fF e=true:=by
 unfold lX at z
 obtain⟨⟨g,as,ks,pos⟩,z0,z⟩:=aq z
 have e0:=eP z0
 obtain⟨z,z9⟩:=ae z
 obtain⟨z,z8⟩:=ae z
 obtain⟨z,z7⟩:=ae z
 obtain⟨z,z6⟩:=ae z
 obtain⟨z,z5⟩:=ae z
 obtain⟨z,z4⟩:=ae z
 obtain⟨z,z3⟩:=ae z
 obtain⟨z1,z2⟩:=ae z
 obtain⟨x,y0,z1⟩:=aq z1
 obtain⟨p,e1⟩:=cA y0
 have e1:g=.Name x p:=e1
 obtain⟨y1,y2⟩:=ae z1
 rw[beq_iff_eq]at y2
 have w2:ks=[]:=by rw[List.isEmpty_iff]at z2;exact z2
 rw[e1,w2]at e0
 subst e0
 refine⟨?_,z6,yc z7,by simpa using z8,by simpa using z9,rfl⟩
 obtain⟨k,fa,fd,pn,F,hr,hm,hk,hb⟩:=h.fns f x ps y2
 rw[if_neg (fun z=>by subst z;cases z4)]at F
 obtain⟨q1,q2⟩:=mj h z5
 obtain⟨g1,g2⟩:=h.gl y1
 cases as with
 | nil=>cases z3
 |cons y ys=>
  rw[List.all_cons]at q2
  exact oW F hr g1 hm hk hb .nil uv q1 (dh g2).1 (ay ys (ae q2).1) (cP (ae q2).2)
theorem nQ{nm:Str}{f:List Expr->Bool}(h:XOk C X cl)(z:ly C i nm e f=true):∃ x p apos as pos,e=.Call (.Attribute (.Name x p) nm apos) as [] pos/\X.N[i]?=some x/\Vis X.env.scope x/\(x == ("__debug__" : Str))=false/\(x == ("__classdict__" : Str))=false/\(apos.endLine == pos.line)=true/\f as=true:=by
 unfold ly at z
 obtain⟨⟨g,as,ks,pos⟩,z0,z⟩:=aq z
 have e0:=eP z0
 obtain⟨z,z3⟩:=ae z
 obtain⟨z1,z2⟩:=ae z
 obtain⟨⟨o,a,apos⟩,y0,z1⟩:=aq z1
 have e1:=mr y0
 have e1:g=.Attribute o a apos:=e1
 obtain⟨z1,y3⟩:=ae z1
 obtain⟨y1,y2⟩:=ae z1
 rw[beq_iff_eq]at y2
 have y2:a=nm:=y2
 have w2:ks=[]:=by rw[List.isEmpty_iff]at z2;exact z2
 obtain⟨x,p,e2,g1,g2,g3,g4⟩:=fy h y1
 have e2:o=.Name x p:=e2
 rw[e1,w2,y2,e2]at e0
 exact⟨x,p,apos,as,pos,e0,g1,g2,g3,g4,y3,z3⟩
theorem vH(h1:PS X st (mh (tE X.K cl e') (sU (gQ i) (tE X.K cl k') pL)))(h2:PS X st (pf (gQ i) (tE X.K cl k') (tE X.K cl e')))(hi:M.contains i=true):SS X cl M st (.put i k' e'):=by
 have a1:=wA h1 hi trivial
 have a2:=vU h2 hi
 intro pins s σ H D I h
 obtain⟨σD,o,σD',rv,e,k⟩:=h
 rw[RL.evS]at e
 obtain⟨d,e1,e⟩:=bind_some e
 obtain⟨kk,e2,e⟩:=bind_some e
 obtain⟨l,e3,e⟩:=bind_some e
 cases l with
 | lst ds=>exact a1 pins s σ H D I ⟨σD,o,σD',rv,by dsimp only;rw[e1];dsimp only[Option.bind_some];rw[e2];dsimp only[Option.bind_some];rw[e3];exact e,k⟩
 | _=>exact a2 pins s σ H D I ⟨σD,o,σD',rv,by dsimp only;rw[e1];dsimp only[Option.bind_some];rw[e2];dsimp only[Option.bind_some];rw[e3];exact e,k⟩
theorem pZ{o k:Expr}{pos:Pos}{env:Env}(h:mF k=true)(v:Value):assign (.Subscript o k pos) env v=(do
   let ov <- holding [v] (eval o env)
   let iv <- holding [v,ov] (eval k env)
   standAt pos
   holding [v,ov,iv] (setItem ov iv v)
   release [v,ov,iv] []):=by
 cases k<;>first | rfl | (cases h;done)
theorem rQ{us:List Expr}{kk:Nat}{tp:Pos}{env:Env}(h:rA e=true):swappedStores [.Tuple us kk tp] e env=pure none:=by
 cases e<;>first | rfl | (cases h;done)
theorem yd{x y:Str}{px py pt pt2:Pos}{kt k2:Nat}{a b:Expr}(h:XOk C X cl)(hp:uf C x y px py a b=true):swappedStores [.Tuple [.Name x px,.Name y py] kt pt] (.Tuple [a,b] k2 pt2) X.env=pure (some [x,y]) /\
  X.env.scope.names.lookup x=some .local/\X.env.scope.names.lookup y=some .local/\noStar a=true/\noStar b=true:=by
 unfold uf at hp
 obtain⟨hp,h9⟩:=ae hp
 obtain⟨hp,h8⟩:=ae hp
 obtain⟨hp,h7⟩:=ae hp
 obtain⟨hp,h6⟩:=ae hp
 obtain⟨hp,h5⟩:=ae hp
 obtain⟨hp,h4⟩:=ae hp
 obtain⟨hp,h3⟩:=ae hp
 obtain⟨h1,h2⟩:=ae hp
 rw[beq_iff_eq]at h1 h2 h3 h4
 rw[<-h.scope]at h1 h2 h3
 refine⟨?_,h2,h3,h6,h7⟩
 have bk:X.env.blockKind=.function:=by
  unfold Env.blockKind
  rw[h1]
  rfl
 have k1:X.env.kindOf x=some .local:=h2
 have k2:X.env.kindOf y=some .local:=h3
 have hxy:x≠y:=by simpa using h5
 have fs':foldedForSure 8 a=true->foldedForSure 8 b=false:=fun z=>by simpa[z]using h8
 have ca':constantsAlone 8 a=true->constantsAlone 8 b=false:=fun z=>by simpa[z]using h9
 have ed:[x,y].eraseDups=[x,y]:=by
  rw[List.eraseDups_cons]
  simp[Ne.symm hxy]
  rfl
 unfold swappedStores
 simp only[bk]
 simp[show ∀ (x:Str) (p:Pos),(Expr.Name x p).pos=p from fun _ _=>rfl,k1,k2,h4,ed]
 refine(if_neg ?_).trans ((if_neg ?_).trans (if_neg ?_))
 ·intro hh
  rcases hh with hh | hh
  ·cases a<;>first | exact Bool.noConfusion (show false=true from hh) | exact Bool.noConfusion (show false=true from h6)
  ·cases b<;>first | exact Bool.noConfusion (show false=true from hh) | exact Bool.noConfusion (show false=true from h7)
 ·intro hh
  have:=fs' hh.1
  rw[hh.2]at this
  cases this
 ·intro hh
  have:=ca' hh.1
  rw[hh.2]at this
  cases this
end
section
variable{X:Cx}{cl:RL.Cl}
mutual
theorem wa:∀ (s:RL.S) {C:CC} {M:List Nat} (h:YOk C X cl) (st:Stmt),zD C M s st=true->SS X cl M st s
 | .asg i e',C,M,h,st,z=>by
  obtain⟨⟨ts,e⟩,z0,z⟩:=aq z
  obtain⟨p,rfl⟩:=fC z0
  obtain⟨t,y1,z⟩:=aL z
  have y1:ts=[t]:=y1
  obtain⟨z,z4⟩:=ae z
  obtain⟨z,z3⟩:=ae z
  obtain⟨z1,z2⟩:=ae z
  subst y1
  exact wD (uN h z1 z3 z4) (gS z2)
 | .own i e',C,M,h,st,z=>by
  obtain⟨⟨ts,e⟩,z0,z⟩:=aq z
  obtain⟨p,rfl⟩:=fC z0
  obtain⟨t,y1,z⟩:=aL z
  have y1:ts=[t]:=y1
  obtain⟨z,z5⟩:=ae z
  obtain⟨z,z4⟩:=ae z
  obtain⟨z,z3⟩:=ae z
  obtain⟨z1,z2⟩:=ae z
  subst y1
  exact wI (uN h z1 z4 z5) z2 (by simpa using z3)
 | .unp is e',C,M,h,st,z=>by
  obtain⟨⟨ts,e⟩,z0,z⟩:=aq z
  obtain⟨p,rfl⟩:=fC z0
  obtain⟨t,y1,z⟩:=aL z
  have y1:ts=[t]:=y1
  obtain⟨us,y2,z⟩:=aq z
  obtain⟨k,tp,rfl⟩:=dz y2
  obtain⟨z,z4⟩:=ae z
  obtain⟨z,z3⟩:=ae z
  obtain⟨z1,z2⟩:=ae z
  subst y1
  obtain⟨g1,g2,g3⟩:=kf h.toXOk (T:=is) (fun i x _ _=>.inl (h.fn x)) (fun _ h=>h) z1
  refine vk (rM ((ak e' h.toXOk e).1 z4) (qq (qK h.calm g1 g2 g3) (qI h.calm g1 g2 g3)) ?_ (rQ z3)) (oa z2)
  cases e<;>rfl
 | .par i j a' b',C,M,h,st,z=>by
  obtain⟨⟨ts,e⟩,z0,z⟩:=aq z
  obtain⟨p,rfl⟩:=fC z0
  obtain⟨t,y1,z⟩:=aL z
  have y1:ts=[t]:=y1
  obtain⟨us,y2,z⟩:=aq z
  obtain⟨k,tp,e2⟩:=dz y2
  obtain⟨s1,s2,y3,z⟩:=cJ z
  obtain⟨⟨x,px⟩,y4,z⟩:=aq z
  obtain⟨⟨y,py⟩,y5,z⟩:=aq z
  obtain⟨vs,y6,z⟩:=aq z
  obtain⟨k',tp',e6⟩:=dz y6
  have e6:e=.Tuple vs k' tp':=e6
  obtain⟨a,b,y7,w⟩:=cJ z
  rw[kM y4,kM y5]at y3
  rw[y3]at e2
  have e7:e=.Tuple [a,b] k' tp':=by rw[<-y7];exact e6
  rw[e2]at y1
  subst y1 e7
  obtain⟨w,z8⟩:=ae w
  obtain⟨w,z7⟩:=ae w
  obtain⟨w,z6⟩:=ae w
  obtain⟨w,z5⟩:=ae w
  obtain⟨w,z4⟩:=ae w
  obtain⟨w,z3⟩:=ae w
  obtain⟨z1,z2⟩:=ae w
  obtain⟨g1,g2,g3,g4,g5⟩:=yd h.toXOk z6
  exact yZ (xJ h.calm h.ndX (h.nm z1).1 (h.nm z2).1 (by simpa using z3) g2 g3 (bo (cl:=cl) ((ak a' h.toXOk a).1 z7) (bo ((ak b' h.toXOk b).1 z8) cv g5) g4) g1) (gS z4) (gS z5)
 | .parO _ _ _ _,C,M,h,st,z=>by cases z
 | .app i e',C,M,h,st,z=>by
  obtain⟨e,z0,z8⟩:=aq z
  obtain⟨p0,rfl⟩:=kc z0
  obtain⟨x,p,apos,as,pos,rfl,g1,g2,g3,g4,z6,z7⟩:=nQ h.toXOk z8
  obtain⟨y,rfl,z9⟩:=aL z7
  obtain⟨z9,z7⟩:=ae z9
  obtain⟨z4,z5⟩:=ae z9
  refine yI (ku (A2 PySem.F.plainAttrs_list PySem.F.slot_list_append PySem.F.type_list_append kD (fG g1 g2 g3 g4) (bo (cl:=cl) ((ak e' h.toXOk y).1 z7) cv z5) rfl ?_ z6 (ay [] z5) rfl)) z4
  rw[ay [] z5]
  rfl
 | .put i k' e',C,M,h,st,z=>by
  obtain⟨⟨ts,e⟩,z0,z⟩:=aq z
  obtain⟨p,rfl⟩:=fC z0
  obtain⟨t,y1,z⟩:=aL z
  have y1:ts=[t]:=y1
  obtain⟨⟨o,k⟩,y2,z⟩:=aq z
  obtain⟨sp,e2⟩:=kq y2
  obtain⟨z,z7⟩:=ae z
  obtain⟨z,z6⟩:=ae z
  obtain⟨z,z5⟩:=ae z
  obtain⟨z,z4⟩:=ae z
  obtain⟨z1,z3⟩:=ae z
  obtain⟨x,px,e3,g1,g2,g3,g4⟩:=fy h.toXOk z1
  have e3:o=.Name x px:=e3
  rw[e3]at e2
  rw[e2]at y1
  subst y1
  have pv:=fun pos=>fG (X:=X) (pos:=pos) g1 g2 g3 g4
  refine vH (rM ((ak e' h.toXOk e).1 z7) (xV (pv _) ((ak k' h.toXOk k).1 z6) set_list (pZ z4)) ?_ ?_) (uX (Nat.lt_of_le_of_lt (by lia) h.hu) (pv _) ((ak k' h.toXOk k).1 z6) ((ak e' h.toXOk e).1 z7) (eE z5)) z3
  ·unfold swapsWithSole
   exact eE z5
  ·rfl
 | .pop _ _,C,M,h,st,z=>by cases z
 | .clr _,C,M,h,st,z=>by cases z
 | .aug i o e',C,M,h,st,z=>by
  obtain⟨⟨t,op,e⟩,z0,z⟩:=aq z
  obtain⟨p,rfl⟩:=vd z0
  obtain⟨z,z4⟩:=ae z
  obtain⟨z,z3⟩:=ae z
  obtain⟨z1,z2⟩:=ae z
  obtain⟨x,px,e1,l1,l2⟩:=gp h.toXOk z1
  have e1:t=.Name x px:=e1
  subst e1
  have z3:ux o op=true:=z3
  have z4:chk C false e' e=true:=z4
  clear z0 z1 z
  cases o<;>cases op<;>first | (cases z3;done) | skip
  ·exact qZ (f:=fun a b=>a+b) (fun a b=>rfl) (rq h.ndX l1 l2 ((ak e' h.toXOk e).1 z4) wO (.inl (h.fn x))) (gS z2)
  ·exact qZ (f:=fun a b=>a-b) (fun a b=>rfl) (rq h.ndX l1 l2 ((ak e' h.toXOk e).1 z4) zE (.inl (h.fn x))) (gS z2)
 | .ife c' a' b',C,M,h,st,z=>by
  obtain⟨⟨c,a,b⟩,z0,z⟩:=aq z
  obtain⟨p,rfl⟩:=qO z0
  obtain⟨z,z3⟩:=ae z
  obtain⟨z1,z2⟩:=ae z
  exact zN ((ak c' h.toXOk c).2 z1).1 (c8 a' h a z2) (c8 b' h b z3)
 | .forr tg it b',C,M,h,st,z=>by
  obtain⟨⟨t,it',b,o⟩,z0,z⟩:=aq z
  obtain⟨p,rfl⟩:=wq z0
  obtain⟨z,z7⟩:=ae z
  obtain⟨z,z6⟩:=ae z
  obtain⟨z,z5⟩:=ae z
  obtain⟨z,z4⟩:=ae z
  obtain⟨z,z3⟩:=ae z
  obtain⟨z1,z2⟩:=ae z
  have z1:o=[]:=List.isEmpty_iff.mp z1
  subst z1
  exact wW h.xe h.calm (fE it h.toXOk t it' z2) (qW h.toXOk (fun i x _ _=>.inl (h.fn x)) z3) (c8 b' h b z7) (dJ z4 _) z5 (oa z6)
 | .mexc f es ps ms,C,M,h,st,z=>by
  obtain⟨e,z0,z⟩:=aq z
  obtain⟨p0,rfl⟩:=kc z0
  obtain⟨g1,g2,g3,g4,g5,g6⟩:=uh h.toXOk z
  exact vX (ku g1 (eE g6)) g2 g3 g4 g5
 | .maug _ _ _ _ _,C,M,h,st,z=>by cases z
 | .ret e',C,M,h,st,z=>by
  obtain⟨o,z0,z⟩:=aq z
  obtain⟨p,rfl⟩:=wu z0
  obtain⟨e,rfl,zz⟩:=aq z
  by_cases hv:oU M e'=true
  ·have:∃ i,e'=.var i:=by
    cases e'<;>first | exact⟨_,rfl⟩ | exact Bool.noConfusion hv
   obtain⟨i,rfl⟩:=this
   obtain⟨x,q,rfl,g1,g2,g3,g4⟩:=fy h.toXOk zz
   exact vo g1 g2 g3 g4 hv
  ·exact wG ((ak e' h.toXOk e).1 zz) fun i hi=>by
    subst hi
    simpa[oU]using hv
 | .exc e',C,M,h,st,z=>by
  obtain⟨e,z0,z⟩:=aq z
  obtain⟨p0,rfl⟩:=kc z0
  obtain⟨z1,z2⟩:=ae z
  exact x8 (ku ((ak e' h.toXOk e).1 z2) (eE z1))
 | .never,C,M,h,st,z=>sR
 | .put2 _ _ _ _ _,C,M,h,st,z=>by cases z
 | .ifp i e' a' b',C,M,h,st,z=>by
  obtain⟨⟨c,a,b⟩,z0,z⟩:=aq z
  obtain⟨p,rfl⟩:=qO z0
  obtain⟨⟨l,os,rs⟩,z0,z⟩:=aq z
  obtain⟨cp,ec⟩:=ip z0
  have ec:c=.Compare l os rs cp:=ec
  obtain⟨op,y1,z⟩:=aL z
  obtain⟨e,y2,z⟩:=aL z
  have y1:os=[op]:=y1
  have y2:rs=[e]:=y2
  obtain⟨z,z6⟩:=ae z
  obtain⟨z,z5⟩:=ae z
  obtain⟨z,z4⟩:=ae z
  obtain⟨z,z3⟩:=ae z
  obtain⟨z1,z2⟩:=ae z
  rw[beq_iff_eq]at z1
  obtain⟨x,px,apos,as,pos,e2,g1,g2,g3,g4,z7,z8⟩:=nQ h.toXOk z6
  have e2:l=.Call (.Attribute (.Name x px) "pop" apos) as [] pos:=e2
  have z8:as=[]:=List.isEmpty_iff.mp z8
  rw[z8]at e2
  rw[y1,y2,z1,e2]at ec
  subst ec
  exact y9 (wV PySem.F.plainAttrs_list PySem.F.slot_list_pop PySem.F.type_list_pop xE (fG g1 g2 g3 g4) rfl z7) ((ak e' h.toXOk e).1 z3) (c8 a' h a z4) (c8 b' h b z5) z2
 | .whil c' b',C,M,h,st,z=>by
  obtain⟨⟨c,b,o⟩,z0,z⟩:=aq z
  obtain⟨p,rfl⟩:=uV z0
  obtain⟨z,z3⟩:=ae z
  obtain⟨z1,z2⟩:=ae z
  have z1:o=[]:=List.isEmpty_iff.mp z1
  subst z1
  exact tW h.xe ((ak c' h.toXOk c).2 z2).1 (c8 b' h b z3)
theorem c8:∀ (s:RL.Ss) {C:CC} {M:List Nat} (h:YOk C X cl) (st:List Stmt),dY C M s st=true->SSs X cl M st s
 | .nil,C,M,h,st,z=>by
  have z:st=[]:=List.isEmpty_iff.mp z
  subst z
  exact vb
 | .cons s r,C,M,h,st,z=>by
  cases st with
  | nil=>cases z
  |cons x xs=>
   obtain⟨z1,z2⟩:=ae z
   exact tX (wa s h x z1) (c8 r h xs z2)
end
end
structure kh where
 name:Str
 st:Stmt
 ps:List Str
 N:List Str
structure PT' where
 B:List Str
 G:List (Str × Int)
 Ds:List kh
 T:List RL.Fn
noncomputable def PT'.F(p:PT'):List (Str × List Nat):=(p.Ds.zip p.T).map fun q=>(q.1.name,q.2.mp)
noncomputable def PT'.cc(p:PT')(d:kh):CC:=⟨d.N,bL d.st,p.B,p.G,p.F⟩
noncomputable def m9(N ps:List Str)(sc:Scope):Bool :=
 sc.kind == .function && !sc.isCoroutine && !sc.isGenerator&&decide N.Nodup&&N.take ps.length == ps&&ps.all (fun x=>sc.names.lookup x == some .local || sc.names.lookup x == some .cell)&&sc.names.all (fun y=>!(y.2 == .free))
noncomputable def fnB(p:PT')(d:kh)(fn:RL.Fn):Bool :=
 m9 d.N d.ps (bL d.st)&&fn.ps == d.ps.length&&fn.nn == d.N.length&&decide (d.ps.length<=d.N.length)&&(List.range fn.ps).all (fun i=>!fn.M.contains i || fn.mp.contains i)&&fn.mp.all (fun i=>decide (i<fn.ps)&&decide (2<=fn.M.count i))&&dY (p.cc d) fn.M fn.body (dA d.st)
noncomputable def PT'.ok(p:PT'):Bool:=p.Ds.length == p.T.length&&(p.Ds.zip p.T).all fun q=>fnB p q.1 q.2
theorem tU{N ps:List Str}{sc:Scope}(h:m9 N ps sc=true):i0 N ps sc:=by
 unfold m9 at h
 obtain⟨h,h7⟩:=ae h
 obtain⟨h,h6⟩:=ae h
 obtain⟨h,h5⟩:=ae h
 obtain⟨h,h4⟩:=ae h
 obtain⟨h,h3⟩:=ae h
 obtain⟨h1,h2⟩:=ae h
 refine⟨by simpa using h1,by simpa using h2,by simpa using h3,by simpa using h4,by simpa using h5,fun x hx=>?_,fun y hy=>?_⟩
 ·rw[List.all_eq_true]at h6
  have:=h6 x hx
  rw[Bool.or_eq_true,beq_iff_eq,beq_iff_eq]at this
  exact this
 ·rw[List.all_eq_true]at h7
  have:=h7 y hy
  intro z
  rw[z]at this
  simp at this
structure ur(p:PT')(K:PySem.W.Frag)(mg:Str->Option Value):Prop where
 defs:∀ (f:Nat) (d:kh),p.Ds[f]?=some d->∃ fa fd,mg d.name=some (.ref fa)/\Fun K d.name d.name d.st fa fd/\PySem.W.keepIn K (.ref fa)=true/\Binds K fd d.ps []
 blt:∀ x∈p.B,mg x=none
 glb:∀ x i,p.G.lookup x=some i->∃ u,mg x=some u/\RelV (.int i) u
section
variable{p:PT'}{K:PySem.W.Frag}{mg:Str->Option Value}{base:Heap}{P:Program}{w:World}
noncomputable def lI(K:PySem.W.Frag)(cl:RL.Cl)(mp:List Nat)(f:Nat):Sp:=if mp=[]then spF K cl f else spM K cl mp f
theorem aM{α:Type}(vs:List α)(k:Nat)(i:Nat)(v:α):(vs.map some++List.replicate k none)[i]?=some (some v)↔vs[i]?=some v:=by
 by_cases h:i<vs.length
 ·rw[List.getElem?_append_left (by simpa using h)]
  simp[h]
 ·rw[List.getElem?_append_right (by simpa using h)]
  constructor
  ·intro e
   rw[List.getElem?_replicate]at e
   split at e<;>cases e
  ·intro e
   have:=(List.getElem?_eq_some_iff.mp e).1
   lia
theorem vm{ds:List RL.D}{vs:List V}{H:Hp}{M:List Nat}{k n:Nat}(r:ab nP K H ds vs)(hM:∀ i,i<n->M.contains i=false)(hn:ds.length=n):RVm K M (ds.map some++List.replicate k none) (vs.map some++List.replicate k none) H:=by
 have nA:∀ a,¬ aW M (vs.map some++List.replicate k none) a:=fun a ⟨i,hi,e⟩=>by
  rw[aM]at e
  have:=(List.getElem?_eq_some_iff.mp e).1
  rw[hM i (by rw[<-hn,r.length];exact this)]at hi
  cases hi
 refine⟨by simp[r.length],fun i d e=>?_,fun i v e=>?_,fun i j a hi hj e1 e2=>(nA a ⟨i,hi,e1⟩).elim⟩
 ·rw[aM]at e
  obtain⟨v,h1,h2⟩:=r.get e
  have hl:=(List.getElem?_eq_some_iff.mp e).1
  refine⟨v,(aM _ _ _ _).mpr h1,?_⟩
  rw[if_neg (by rw[hM i (by lia)];decide)]
  exact h2.weak fun a ha=>nA a ha
 ·rw[aM]at e
  have hl:=(List.getElem?_eq_some_iff.mp e).1
  exact⟨ds[i]'(by rw[r.length];exact hl),(aM _ _ _ _).mpr (by simp)⟩
theorem vg{ds:List RL.D}{vs:List V}{H:Hp}{M mp:List Nat}{k n:Nat}(a:yw K mp ds vs H)(hM:∀ i,i<n->M.contains i=true->i∈mp)(hp:∀ i∈mp,M.contains i=true)(hn:ds.length=n):RVm K M (ds.map some++List.replicate k none) (vs.map some++List.replicate k none) H:=by
 have r:=a.jO
 have inM:∀ i v,(vs.map some++List.replicate k none)[i]?=some (some v)->M.contains i=true->i∈mp/\vs[i]?=some v:=fun i v e hi=>by
  rw[aM]at e
  have:=(List.getElem?_eq_some_iff.mp e).1
  exact⟨hM i (by rw[<-hn,r.length];exact this) hi,e⟩
 refine⟨by simp[r.length],fun i d e=>?_,fun i v e=>?_,fun i j b hi hj e1 e2=>?_⟩
 ·rw[aM]at e
  obtain⟨v,h1,h2⟩:=r.get e
  have hl:=(List.getElem?_eq_some_iff.mp e).1
  refine⟨v,(aM _ _ _ _).mpr h1,?_⟩
  by_cases hm:M.contains i=true
  ·rw[if_pos hm]
   obtain⟨d',b,g1,g2,g3⟩:=a.own i (hM i (by lia) hm)
   rw[e]at g1
   cases g1
   rw[h1]at g2
   cases g2
   exact g3
  ·rw[if_neg hm]
   refine(a.oth i d v (fun z=>hm (hp i z)) e h1).weak fun b ⟨j,hj,ej⟩=>?_
   obtain⟨q1,q2⟩:=inM j _ ej hj
   exact⟨j,q1,q2⟩
 ·rw[aM]at e
  have hl:=(List.getElem?_eq_some_iff.mp e).1
  exact⟨ds[i]'(by rw[r.length];exact hl),(aM _ _ _ _).mpr (by simp)⟩
 ·obtain⟨q1,q2⟩:=inM i _ e1 hi
  obtain⟨q3,q4⟩:=inM j _ e2 hj
  exact a.sep i q1 j q3 b q2 q4
theorem lS{σ:RL.St}:∀ {mp:List Nat} {outs:List RL.D},RL.eB σ mp=some outs->outs.length=mp.length/\∀ (k i:Nat) o,mp[k]?=some i->outs[k]?=some o->σ[i]?=some (some o)
 | [],outs,h=>by
  rw[RL.eB]at h
  cases h
  exact⟨rfl,fun k i o e=>by simp at e⟩
 | m::mp,outs,h=>by
  rw[RL.eB]at h
  obtain⟨d,h1,h⟩:=bind_some h
  obtain⟨os,h2,h3⟩:=map_some h
  subst h3
  obtain⟨g1,g2⟩:=lS h2
  refine⟨by simp[g1],fun k i o e1 e2=>?_⟩
  cases k with
  |zero=>
   simp at e1 e2
   subst e1 e2
   exact slot_get h1
  | succ k=>exact g2 k i o (by simpa using e1) (by simpa using e2)
theorem r9{fn:RL.Fn}{d r:RL.D}{σ:RL.St}(h:RL.aS fn d σ=some r)(hm:fn.mp=[]):r=d:=by
 unfold RL.aS at h
 rw[hm]at h
 simpa using h.symm
theorem xS{fn:RL.Fn}{d r:RL.D}{σ:RL.St}(h:RL.aS fn d σ=some r)(hm:fn.mp≠[]):d.imm=true/\∃ outs,RL.eB σ fn.mp=some outs/\r=.tup (d::outs):=by
 unfold RL.aS at h
 rw[if_neg (by simpa using hm)]at h
 split at h
 ·rename_i im
  obtain⟨os,h1,h2⟩:=map_some h
  exact⟨im,os,h1,h2.symm⟩
 ·cases h
theorem qV(hok:p.ok=true)(tp:ur p K mg):∀ (n f:Nat) (d:kh) (fn:RL.Fn),p.Ds[f]?=some d->p.T[f]?=some fn->∀ fa fd,Fun K d.name d.name d.st fa fd->fh P w K mg base CX0 n fa fd d.ps (lI K (RL.ao p.T n) fn.mp f)
 | 0,f,d,fn,hd,hf,fa,fd,F=>by
  have no:∀ vs H Q E,¬ lI K (RL.ao p.T 0) fn.mp f vs H Q E:=fun vs H Q E h=>by
   unfold lI at h
   split at h
   ·obtain⟨ds,r,_,e,_⟩:=h
    cases e
   ·obtain⟨ds,r,o,e,_⟩:=h
    cases e
  exact⟨fun vs H Q E h=>(no vs H Q E h).elim,fun A outer s H args us vs Q E _ _ _ _ h=>(no vs H Q E h).elim⟩
 | n+1,f,d,fn,hd,hf,fa,fd,F=>by
  have hok':=hok
  unfold PT'.ok at hok'
  obtain⟨hl,hall⟩:=ae hok'
  rw[beq_iff_eq]at hl
  rw[List.all_eq_true]at hall
  have hz:(p.Ds.zip p.T)[f]?=some (d,fn):=by
   rw[List.getElem?_zip_eq_some]
   exact⟨hd,hf⟩
  have hB:=hall (d,fn) (List.mem_of_getElem? hz)
  unfold fnB at hB
  dsimp only at hB
  obtain⟨hB,b7⟩:=ae hB
  obtain⟨hB,b6⟩:=ae hB
  obtain⟨hB,b5⟩:=ae hB
  obtain⟨hB,b4⟩:=ae hB
  obtain⟨hB,b3⟩:=ae hB
  obtain⟨b1,b2⟩:=ae hB
  rw[beq_iff_eq]at b2 b3
  rw[decide_eq_true_eq]at b4
  rw[List.all_eq_true]at b5 b6
  have S:=tU b1
  have hM:∀ i,i<fn.ps->fn.M.contains i=true->i∈fn.mp:=fun i hi hm=>by
   have:=b5 i (List.mem_range.mpr hi)
   rw[hm]at this
   simpa using this
  have hp2:∀ i∈fn.mp,i<fn.ps/\2<=fn.M.count i:=fun i hi=>by simpa using b6 i hi
  have unf:∀ ds r,RL.ao p.T (n+1) f ds=some r->ds.length=fn.ps/\∃ o σ',RL.aj (RL.ao p.T n) fn.M fn.body (ds.map some++List.replicate (fn.nn-fn.ps) none)=some (o,σ')/\(match o with | .nx=>RL.aS fn .non σ' | .rt d=>RL.aS fn d σ')=some r:=by
   intro ds r h
   rw[RL.ao,hf]at h
   dsimp only[Option.bind_some]at h
   split at h
   ·rename_i hlen
    obtain⟨⟨o,σ'⟩,h1,h2⟩:=bind_some h
    exact⟨hlen,o,σ',h1,h2⟩
   ·cases h
  refine Fun.ok F S (fun vs H Q E h=>?_) fun cdv A outer s H vs Q E hr h=>?_
  ·unfold lI at h
   split at h
   ·obtain⟨ds,r,r1,e,_⟩:=h
    rw[<-r1.length,(unf ds r e).1,b2]
   ·obtain⟨ds,r,o,e,a,_⟩:=h
    rw[<-a.jO.length,(unf ds _ e).1,b2]
  ·-- the body's context
   have Y:YOk (p.cc d) (iX CX0 P w K mg base d.N d.name (bL d.st) fa cdv A outer s H E).nox (RL.ao p.T n):={
    scope:=rfl
    names:=rfl
    nd:=S.nd
    calm:=rfl
    xe:=rfl
    hu:=by
     have:=hr.un
     show(A.deeper _).units+100<cLine
     lia
    blt:=tp.blt
    glb:=tp.glb
    fns:=fun g x mp hg=>by
     have hg':p.F[g]?=some (x,mp):=hg
     unfold PT'.F at hg'
     rw[List.getElem?_map]at hg'
     obtain⟨⟨d',fn'⟩,q1,q2⟩:=map_some hg'
     cases q2
     rw[List.getElem?_zip_eq_some]at q1
     obtain⟨fa',fd',t1,t2,t3,t4⟩:=tp.defs g d' q1.1
     exact⟨n,fa',fd',d'.ps,qV hok tp n g d' fn' q1.1 q1.2 fa' fd' t2,hr,t1,t3,t4⟩
    fn:=fun _=>rfl }
   have body:=c8 fn.body Y (M:=fn.M) _ b7
   refine⟨_,body,?_⟩
   have hst:start d.N vs=vs.map some++List.replicate (d.N.length-vs.length) none:=rfl
   unfold lI at h
   split at h
   ·rename_i hmp
    obtain⟨ds,r,r1,e,k⟩:=h
    obtain⟨hlen,o,σ',e1,e2⟩:=unf ds r e
    have hvl:vs.length=fn.ps:=by rw[<-r1.length];exact hlen
    refine⟨_,o,σ',?_,e1,?_⟩
    ·rw[hst,hvl,<-b3]
     exact vm r1 (fun i hi=>by
      cases hc:fn.M.contains i with
      | false=>rfl
      |true=>
       have:=hM i hi hc
       rw[hmp]at this
       cases this) hlen
    ·have noA:∀ a,¬ aW fn.M (start d.N vs) a:=fun a ⟨i,hi,ei⟩=>by
      rw[hst,aM]at ei
      have h3:=(List.getElem?_eq_some_iff.mp ei).1
      have:=hM i (by lia) hi
      rw[hmp]at this
      cases this
     cases o with
     |nx=>
      have hr':=r9 (d:=.non) e2 hmp
      subst hr'
      intro σ1 H1 rv1 fr1
      refine k .non H1 (fun b u eb=>(fr1.1 b u eb (noA b)).1) (by rw[Rep])
     |rt d0=>
      have hr':=r9 (d:=d0) e2 hmp
      subst hr'
      intro σ1 H1 v H' rv1 fr1 sm rp
      refine k v H' (fun b u eb=>sm _ _ (fr1.1 b u eb (noA b)).1) (rp _ fun q hq=>?_)
      obtain⟨u,hu⟩:=Option.ne_none_iff_exists'.mp hq
      have:=fr1.1 q u hu (noA q)
      exact⟨(by rw[this.1];exact fun z=>nomatch z),this.2⟩
   ·rename_i hmp
    obtain⟨ds,r,outs,e,a,k⟩:=h
    obtain⟨hlen,o,σ',e1,e2⟩:=unf ds _ e
    have hvl:vs.length=fn.ps:=by rw[<-a.jO.length];exact hlen
    refine⟨_,o,σ',?_,e1,?_⟩
    ·rw[hst,hvl,<-b3]
     exact vg a hM (fun i hi=>i9 (hp2 i hi).2) hlen
    ·-- the lists behind it
     have fin:∀ (d0:RL.D) (σ1:L2.St) (H1 H':Hp) (v:V),RL.aS fn d0 σ'=some (.tup (r::outs))->RVm K fn.M σ' σ1 H1->Fr' fn.M (start d.N vs) H σ1 H1->ax H1 H'->(d0.imm=true->Rep nP K H' d0 v)->Q v H':=by
      intro d0 σ1 H1 H' v ht rv1 fr1 sm rp
      obtain⟨im,os,g1,g2⟩:=xS ht hmp
      cases g2
      obtain⟨l1,l2⟩:=lS g1
      refine k v H' (fun b u nb eb=>sm _ _ (fr1.1 b u eb fun⟨i,hi,ei⟩=>?_).1) (rp im) im ⟨l1,fun kk pp oo hk ho=>?_⟩
      ·rw[hst,aM]at ei
       have h3:=(List.getElem?_eq_some_iff.mp ei).1
       exact nb ⟨i,hM i (by lia) hi,ei⟩
      ·have hpm:=List.mem_of_getElem? hk
       obtain⟨dp,ap,g3,g4,g5⟩:=a.own pp hpm
       have g6:=fr1.2 pp (hp2 pp hpm).2
       have g7:(start d.N vs)[pp]?=some (some (.ref ap)):=by rw[hst,aM];exact g4
       rw[g7]at g6
       obtain⟨v',g8,g9⟩:=rv1.val pp oo (l2 kk pp oo hk ho)
       rw[g6]at g8
       cases g8
       rw[if_pos (i9 (hp2 pp hpm).2)]at g9
       exact⟨ap,g4,g9.same sm⟩
     cases o with
     |nx=>
      intro σ1 H1 rv1 fr1
      exact fin .non σ1 H1 H1 .non e2 rv1 fr1 (ax.refl _) fun _=>by rw[Rep]
     |rt d0=>
      intro σ1 H1 v H' rv1 fr1 sm rp
      exact fin d0 σ1 H1 H' v e2 rv1 fr1 sm fun im=>rp nP fun _ z=>z.elim
end
noncomputable def spL(n:Nat)(p:PT')(f:Nat)(K:PySem.W.Frag):Sp:=spF K (RL.ao p.T n) f
theorem xa{n:Nat}{p:PT'}{f:Nat}{K:PySem.W.Frag}{H:Hp}{a:Addr}{ns:List Int}(hO:mK H)(hS:SqL K H a (ns.map V.int))(h:RL.ao p.T n f [.scr (ns.map RL.D.int)]=some (.bl true)):spL n p f K [.ref a] H (fun v _=>v=.bl true) fun _ _ _=>False:=by
 refine⟨_,_,?_,h,fun v H' _ r=>aK r⟩
 refine ab.cons ?_ ab.nil
 rw[Rep]
 refine⟨a,ns.map V.int,rfl,?_,?_⟩
 ·rcases hS with(z | ⟨o,z⟩) | z
  ·rcases hO a with q | ⟨o,xs,q⟩
   ·rw[q]at z
    cases z
   ·rw[q]at z
    cases z
  ·exact .inl ⟨o,z⟩
  ·exact .inr (.inr z)
 ·clear hS h
  induction ns with
  | nil=>exact ab.nil
  | cons i r ih=>exact ab.cons aN ih
end RS
namespace K20
open PySem PySem.Spec PyProof.Rows L2
noncomputable def top(i:Nat):Stmt:=PySem.Challenge.pw_ribbonloft_k20_whole_two_halves_make_a_f.main.body.getD i (.Pass ⟨0,0,0,0⟩)
noncomputable def Ds:List RS.kh:=[
 ⟨"is_number",top 8,["value"],["value"]⟩,
 ⟨"is_peg_count",top 9,["value"],["value"]⟩,
 ⟨"check_pegs",top 10,["pegs"],["pegs"]⟩,
 ⟨"is_pairing",top 12,["row"],["row", "place"]⟩,
 ⟨"names_back",top 13,["row", "place"],["row", "place", "other"]⟩,
 ⟨"is_uncrossed",top 14,["row"],["row", "waiting", "place", "other"]⟩,
 ⟨"tie",top 15,["row", "one", "other"],["row", "one", "other"]⟩,
 ⟨"is_frame",top 17,["frame"],["frame", "pegs", "alone", "peg", "other"]⟩,
 ⟨"check_frame",top 18,["frame"],["frame"]⟩,
 ⟨"pegs_of",top 19,["frame"],["frame"]⟩,
 ⟨"plain",top 20,["pegs"],["pegs"]⟩,
 ⟨"over",top 21,["frame"],["frame"]⟩,
 ⟨"round_place",top 22,["pegs", "peg"],["pegs", "peg"]⟩,
 ⟨"in_round",top 23,["frame"],["frame", "pegs", "peg"]⟩,
 ⟨"moved",top 24,["frame", "to"],["frame", "to", "ends", "peg", "other"]⟩,
 ⟨"is_half",top 26,["half"],["half"]⟩,
 ⟨"check_half",top 27,["half"],["half"]⟩,
 ⟨"check_two_halves",top 28,["one", "other"],["one", "other"]⟩,
 ⟨"upper",top 29,["frame"],["frame", "pegs", "peg", "other"]⟩,
 ⟨"lower",top 30,["frame"],["frame"]⟩,
 ⟨"through_of",top 31,["half"],["half"]⟩,
 ⟨"joined",top 32,["one", "other"],["one", "other", "leaving", "coming", "pegs", "frame", "above", "beneath", "peg"]⟩,
 ⟨"going",top 33,["half"],["half", "peg", "other"]⟩,
 ⟨"how_many",top 35,["pegs"],["pegs"]⟩,
 ⟨"how_many_halves",top 36,["pegs", "going"],["pegs", "going"]⟩,
 ⟨"half_of",top 37,["pegs", "going", "number"],["pegs", "going", "number"]⟩,
 ⟨"half_number",top 38,["half"],["half"]⟩,
 ⟨"half_from",top 39,["first", "many", "going", "number"],["first", "many", "going", "number", "ahead", "width", "other", "behind", "within", "inner", "outer"]⟩,
 ⟨"number_from",top 40,["half", "first", "end", "going"],["half", "first", "end", "going", "other", "many", "ahead", "width"]⟩,
 ⟨"tied_around",top 41,["many", "going", "width"],["many", "going", "width"]⟩,
 ⟨"ways",top 42,["steps", "height"],["steps", "height", "downward"]⟩,
 ⟨"choices",top 43,["many", "chosen"],["many", "chosen", "found", "at"]⟩,
 ⟨"check_number",top 44,["number", "many"],["number", "many"]⟩,
 ⟨"family",top 46,["frame"],["frame"]⟩,
 ⟨"_law_mix",top 48,["_law_seed"],["_law_seed", "_law_one", "_law_two"]⟩,
 ⟨"_law_raw",top 49,["_law_script", "_law_k"],["_law_script", "_law_k", "_law_cell", "_law_found", "_law_turn"]⟩,
 ⟨"_law_digits",top 50,["_law_script", "_law_k", "_law_sizes"],["_law_script", "_law_k", "_law_sizes", "_law_rest", "_law_found", "_law_size"]⟩,
 ⟨"_law_same",top 51,["_law_told", "_law_due"],["_law_told", "_law_due", "_law_one", "_law_other"]⟩,
 ⟨"law",top 52,["_law_script"],["_law_script", "_law_pegs", "_law_sizes", "_law_made_ones", "_law_k", "_law_few", "_law_seen", "_law_gone", "_law_frame", "_law_halves_now", "_law_one", "_law_other", "_law_number", "_law_size"]⟩]
noncomputable def p:RS.PT':=⟨["all", "bool", "divmod", "enumerate", "int", "isinstance", "len", "list", "range", "str", "sum", "tuple", "zip"],[("MOST_PEGS",10)],Ds,T⟩
theorem AV:p.ok=true:=by decide +kernel
theorem all1{P:List Value->Prop}(h:∀ a0,P [a0]):∀ us:List Value,us.length=1->P us
 | [a0],_=>h a0
theorem all2{P:List Value->Prop}(h:∀ a0 a1,P [a0,a1]):∀ us:List Value,us.length=2->P us
 | [a0,a1],_=>h a0 a1
theorem gx{P:List Value->Prop}(h:∀ a0 a1 a2,P [a0,a1,a2]):∀ us:List Value,us.length=3->P us
 | [a0,a1,a2],_=>h a0 a1 a2
theorem xm{P:List Value->Prop}(h:∀ a0 a1 a2 a3,P [a0,a1,a2,a3]):∀ us:List Value,us.length=4->P us
 | [a0,a1,a2,a3],_=>h a0 a1 a2 a3
structure aA(K:PySem.W.Frag)(mg:Str->Option Value)(x:Str)(st:Stmt):Prop where
 ex:∃ f fd,mg x=some (.ref f)/\Fun K x x st f fd/\PySem.W.keepIn K (.ref f)=true
theorem yn{K:PySem.W.Frag}{h:Heap}{mg:Str->Option Value}{x:Str}{st:Stmt}{f:Addr}{oc kV dc pm cd ct:Value}{od an:Option Addr}{sl:Array (Option Value)}(X:K.In h)(G:h.Ns mainGlobals mg)(a:PySem.W.nsIn K mainGlobals x=some (some (.ref f)))
 (l:K.lookup f=some ⟨oc,od,.func (PySem.W.fnOf x x (fz st) (dA st) (bL st) .none kV dc pm an cd ct),sl⟩)(c:PySem.W.codeIn K cd x=true)(k:PySem.W.keepIn K (.ref f)=true):aA K mg x st :=
 ⟨f,_,PySem.W.mg_of X G a,yQ (st:=st) l c k,k⟩
structure nY(K:PySem.W.Frag)(mg:Str->Option Value):Prop where
 d8:aA K mg "is_number" (top 8)
 d9:aA K mg "is_peg_count" (top 9)
 d10:aA K mg "check_pegs" (top 10)
 d12:aA K mg "is_pairing" (top 12)
 d13:aA K mg "names_back" (top 13)
 d14:aA K mg "is_uncrossed" (top 14)
 d15:aA K mg "tie" (top 15)
 d17:aA K mg "is_frame" (top 17)
 d18:aA K mg "check_frame" (top 18)
 d19:aA K mg "pegs_of" (top 19)
 d20:aA K mg "plain" (top 20)
 d21:aA K mg "over" (top 21)
 d22:aA K mg "round_place" (top 22)
 d23:aA K mg "in_round" (top 23)
 d24:aA K mg "moved" (top 24)
 d26:aA K mg "is_half" (top 26)
 d27:aA K mg "check_half" (top 27)
 d28:aA K mg "check_two_halves" (top 28)
 d29:aA K mg "upper" (top 29)
 d30:aA K mg "lower" (top 30)
 d31:aA K mg "through_of" (top 31)
 d32:aA K mg "joined" (top 32)
 d33:aA K mg "going" (top 33)
 d35:aA K mg "how_many" (top 35)
 d36:aA K mg "how_many_halves" (top 36)
 d37:aA K mg "half_of" (top 37)
 d38:aA K mg "half_number" (top 38)
 d39:aA K mg "half_from" (top 39)
 d40:aA K mg "number_from" (top 40)
 d41:aA K mg "tied_around" (top 41)
 d42:aA K mg "ways" (top 42)
 d43:aA K mg "choices" (top 43)
 d44:aA K mg "check_number" (top 44)
 d46:aA K mg "family" (top 46)
 d48:aA K mg "_law_mix" (top 48)
 d49:aA K mg "_law_raw" (top 49)
 d50:aA K mg "_law_digits" (top 50)
 d51:aA K mg "_law_same" (top 51)
 d52:aA K mg "law" (top 52)
 Aw:PySem.W.nsIn K mainGlobals "all" = some none
 ya:PySem.W.nsIn K mainGlobals "bool" = some none
 tK:PySem.W.nsIn K mainGlobals "divmod" = some none
 nH:PySem.W.nsIn K mainGlobals "enumerate" = some none
 zT:PySem.W.nsIn K mainGlobals "int" = some none
 mH:PySem.W.nsIn K mainGlobals "isinstance" = some none
 zI:PySem.W.nsIn K mainGlobals "len" = some none
 yx:PySem.W.nsIn K mainGlobals "list" = some none
 vA:PySem.W.nsIn K mainGlobals "range" = some none
 zU:PySem.W.nsIn K mainGlobals "str" = some none
 Az:PySem.W.nsIn K mainGlobals "sum" = some none
 wd:PySem.W.nsIn K mainGlobals "tuple" = some none
 zQ:PySem.W.nsIn K mainGlobals "zip" = some none
 nM:∃ t,PySem.W.nsIn K mainGlobals "MOST_PEGS" = some (some (.int 10 t))
theorem zo{K:PySem.W.Frag}{h:Heap}{mg:Str->Option Value}(X:K.In h)(G:h.Ns mainGlobals mg)(A:nY K mg):RS.ur p K mg where
 defs:=by
  intro f d hf
  match f,hf with
  | 0,hf=>cases hf;obtain⟨fa,fd,h1,h2,h3⟩:=A.d8.ex;exact⟨fa,fd,h1,h2,h3,h2.binds (ps:=["value"]) (fun _ _ _ _ _ _=>all1 (fun _=>rfl))⟩
  | 1,hf=>cases hf;obtain⟨fa,fd,h1,h2,h3⟩:=A.d9.ex;exact⟨fa,fd,h1,h2,h3,h2.binds (ps:=["value"]) (fun _ _ _ _ _ _=>all1 (fun _=>rfl))⟩
  | 2,hf=>cases hf;obtain⟨fa,fd,h1,h2,h3⟩:=A.d10.ex;exact⟨fa,fd,h1,h2,h3,h2.binds (ps:=["pegs"]) (fun _ _ _ _ _ _=>all1 (fun _=>rfl))⟩
  | 3,hf=>cases hf;obtain⟨fa,fd,h1,h2,h3⟩:=A.d12.ex;exact⟨fa,fd,h1,h2,h3,h2.binds (ps:=["row"]) (fun _ _ _ _ _ _=>all1 (fun _=>rfl))⟩
  | 4,hf=>cases hf;obtain⟨fa,fd,h1,h2,h3⟩:=A.d13.ex;exact⟨fa,fd,h1,h2,h3,h2.binds (ps:=["row", "place"]) (fun _ _ _ _ _ _=>all2 (fun _ _=>rfl))⟩
  | 5,hf=>cases hf;obtain⟨fa,fd,h1,h2,h3⟩:=A.d14.ex;exact⟨fa,fd,h1,h2,h3,h2.binds (ps:=["row"]) (fun _ _ _ _ _ _=>all1 (fun _=>rfl))⟩
  | 6,hf=>cases hf;obtain⟨fa,fd,h1,h2,h3⟩:=A.d15.ex;exact⟨fa,fd,h1,h2,h3,h2.binds (ps:=["row", "one", "other"]) (fun _ _ _ _ _ _=>gx (fun _ _ _=>rfl))⟩
  | 7,hf=>cases hf;obtain⟨fa,fd,h1,h2,h3⟩:=A.d17.ex;exact⟨fa,fd,h1,h2,h3,h2.binds (ps:=["frame"]) (fun _ _ _ _ _ _=>all1 (fun _=>rfl))⟩
  | 8,hf=>cases hf;obtain⟨fa,fd,h1,h2,h3⟩:=A.d18.ex;exact⟨fa,fd,h1,h2,h3,h2.binds (ps:=["frame"]) (fun _ _ _ _ _ _=>all1 (fun _=>rfl))⟩
  | 9,hf=>cases hf;obtain⟨fa,fd,h1,h2,h3⟩:=A.d19.ex;exact⟨fa,fd,h1,h2,h3,h2.binds (ps:=["frame"]) (fun _ _ _ _ _ _=>all1 (fun _=>rfl))⟩
  | 10,hf=>cases hf;obtain⟨fa,fd,h1,h2,h3⟩:=A.d20.ex;exact⟨fa,fd,h1,h2,h3,h2.binds (ps:=["pegs"]) (fun _ _ _ _ _ _=>all1 (fun _=>rfl))⟩
  | 11,hf=>cases hf;obtain⟨fa,fd,h1,h2,h3⟩:=A.d21.ex;exact⟨fa,fd,h1,h2,h3,h2.binds (ps:=["frame"]) (fun _ _ _ _ _ _=>all1 (fun _=>rfl))⟩
  | 12,hf=>cases hf;obtain⟨fa,fd,h1,h2,h3⟩:=A.d22.ex;exact⟨fa,fd,h1,h2,h3,h2.binds (ps:=["pegs", "peg"]) (fun _ _ _ _ _ _=>all2 (fun _ _=>rfl))⟩
  | 13,hf=>cases hf;obtain⟨fa,fd,h1,h2,h3⟩:=A.d23.ex;exact⟨fa,fd,h1,h2,h3,h2.binds (ps:=["frame"]) (fun _ _ _ _ _ _=>all1 (fun _=>rfl))⟩
  | 14,hf=>cases hf;obtain⟨fa,fd,h1,h2,h3⟩:=A.d24.ex;exact⟨fa,fd,h1,h2,h3,h2.binds (ps:=["frame", "to"]) (fun _ _ _ _ _ _=>all2 (fun _ _=>rfl))⟩
  | 15,hf=>cases hf;obtain⟨fa,fd,h1,h2,h3⟩:=A.d26.ex;exact⟨fa,fd,h1,h2,h3,h2.binds (ps:=["half"]) (fun _ _ _ _ _ _=>all1 (fun _=>rfl))⟩
  | 16,hf=>cases hf;obtain⟨fa,fd,h1,h2,h3⟩:=A.d27.ex;exact⟨fa,fd,h1,h2,h3,h2.binds (ps:=["half"]) (fun _ _ _ _ _ _=>all1 (fun _=>rfl))⟩
  | 17,hf=>cases hf;obtain⟨fa,fd,h1,h2,h3⟩:=A.d28.ex;exact⟨fa,fd,h1,h2,h3,h2.binds (ps:=["one", "other"]) (fun _ _ _ _ _ _=>all2 (fun _ _=>rfl))⟩
  | 18,hf=>cases hf;obtain⟨fa,fd,h1,h2,h3⟩:=A.d29.ex;exact⟨fa,fd,h1,h2,h3,h2.binds (ps:=["frame"]) (fun _ _ _ _ _ _=>all1 (fun _=>rfl))⟩
  | 19,hf=>cases hf;obtain⟨fa,fd,h1,h2,h3⟩:=A.d30.ex;exact⟨fa,fd,h1,h2,h3,h2.binds (ps:=["frame"]) (fun _ _ _ _ _ _=>all1 (fun _=>rfl))⟩
  | 20,hf=>cases hf;obtain⟨fa,fd,h1,h2,h3⟩:=A.d31.ex;exact⟨fa,fd,h1,h2,h3,h2.binds (ps:=["half"]) (fun _ _ _ _ _ _=>all1 (fun _=>rfl))⟩
  | 21,hf=>cases hf;obtain⟨fa,fd,h1,h2,h3⟩:=A.d32.ex;exact⟨fa,fd,h1,h2,h3,h2.binds (ps:=["one", "other"]) (fun _ _ _ _ _ _=>all2 (fun _ _=>rfl))⟩
  | 22,hf=>cases hf;obtain⟨fa,fd,h1,h2,h3⟩:=A.d33.ex;exact⟨fa,fd,h1,h2,h3,h2.binds (ps:=["half"]) (fun _ _ _ _ _ _=>all1 (fun _=>rfl))⟩
  | 23,hf=>cases hf;obtain⟨fa,fd,h1,h2,h3⟩:=A.d35.ex;exact⟨fa,fd,h1,h2,h3,h2.binds (ps:=["pegs"]) (fun _ _ _ _ _ _=>all1 (fun _=>rfl))⟩
  | 24,hf=>cases hf;obtain⟨fa,fd,h1,h2,h3⟩:=A.d36.ex;exact⟨fa,fd,h1,h2,h3,h2.binds (ps:=["pegs", "going"]) (fun _ _ _ _ _ _=>all2 (fun _ _=>rfl))⟩
  | 25,hf=>cases hf;obtain⟨fa,fd,h1,h2,h3⟩:=A.d37.ex;exact⟨fa,fd,h1,h2,h3,h2.binds (ps:=["pegs", "going", "number"]) (fun _ _ _ _ _ _=>gx (fun _ _ _=>rfl))⟩
  | 26,hf=>cases hf;obtain⟨fa,fd,h1,h2,h3⟩:=A.d38.ex;exact⟨fa,fd,h1,h2,h3,h2.binds (ps:=["half"]) (fun _ _ _ _ _ _=>all1 (fun _=>rfl))⟩
  | 27,hf=>cases hf;obtain⟨fa,fd,h1,h2,h3⟩:=A.d39.ex;exact⟨fa,fd,h1,h2,h3,h2.binds (ps:=["first", "many", "going", "number"]) (fun _ _ _ _ _ _=>xm (fun _ _ _ _=>rfl))⟩
  | 28,hf=>cases hf;obtain⟨fa,fd,h1,h2,h3⟩:=A.d40.ex;exact⟨fa,fd,h1,h2,h3,h2.binds (ps:=["half", "first", "end", "going"]) (fun _ _ _ _ _ _=>xm (fun _ _ _ _=>rfl))⟩
  | 29,hf=>cases hf;obtain⟨fa,fd,h1,h2,h3⟩:=A.d41.ex;exact⟨fa,fd,h1,h2,h3,h2.binds (ps:=["many", "going", "width"]) (fun _ _ _ _ _ _=>gx (fun _ _ _=>rfl))⟩
  | 30,hf=>cases hf;obtain⟨fa,fd,h1,h2,h3⟩:=A.d42.ex;exact⟨fa,fd,h1,h2,h3,h2.binds (ps:=["steps", "height"]) (fun _ _ _ _ _ _=>all2 (fun _ _=>rfl))⟩
  | 31,hf=>cases hf;obtain⟨fa,fd,h1,h2,h3⟩:=A.d43.ex;exact⟨fa,fd,h1,h2,h3,h2.binds (ps:=["many", "chosen"]) (fun _ _ _ _ _ _=>all2 (fun _ _=>rfl))⟩
  | 32,hf=>cases hf;obtain⟨fa,fd,h1,h2,h3⟩:=A.d44.ex;exact⟨fa,fd,h1,h2,h3,h2.binds (ps:=["number", "many"]) (fun _ _ _ _ _ _=>all2 (fun _ _=>rfl))⟩
  | 33,hf=>cases hf;obtain⟨fa,fd,h1,h2,h3⟩:=A.d46.ex;exact⟨fa,fd,h1,h2,h3,h2.binds (ps:=["frame"]) (fun _ _ _ _ _ _=>all1 (fun _=>rfl))⟩
  | 34,hf=>cases hf;obtain⟨fa,fd,h1,h2,h3⟩:=A.d48.ex;exact⟨fa,fd,h1,h2,h3,h2.binds (ps:=["_law_seed"]) (fun _ _ _ _ _ _=>all1 (fun _=>rfl))⟩
  | 35,hf=>cases hf;obtain⟨fa,fd,h1,h2,h3⟩:=A.d49.ex;exact⟨fa,fd,h1,h2,h3,h2.binds (ps:=["_law_script", "_law_k"]) (fun _ _ _ _ _ _=>all2 (fun _ _=>rfl))⟩
  | 36,hf=>cases hf;obtain⟨fa,fd,h1,h2,h3⟩:=A.d50.ex;exact⟨fa,fd,h1,h2,h3,h2.binds (ps:=["_law_script", "_law_k", "_law_sizes"]) (fun _ _ _ _ _ _=>gx (fun _ _ _=>rfl))⟩
  | 37,hf=>cases hf;obtain⟨fa,fd,h1,h2,h3⟩:=A.d51.ex;exact⟨fa,fd,h1,h2,h3,h2.binds (ps:=["_law_told", "_law_due"]) (fun _ _ _ _ _ _=>all2 (fun _ _=>rfl))⟩
  | 38,hf=>cases hf;obtain⟨fa,fd,h1,h2,h3⟩:=A.d52.ex;exact⟨fa,fd,h1,h2,h3,h2.binds (ps:=["_law_script"]) (fun _ _ _ _ _ _=>all1 (fun _=>rfl))⟩
  | f+39,hf=>cases hf
 blt:=by
  intro x hx
  simp only[p,List.mem_cons,List.mem_nil_iff,or_false]at hx
  rcases hx with rfl | rfl | rfl | rfl | rfl | rfl | rfl | rfl | rfl | rfl | rfl | rfl | rfl
  ·exact PySem.W.mg_none_of X G A.Aw
  ·exact PySem.W.mg_none_of X G A.ya
  ·exact PySem.W.mg_none_of X G A.tK
  ·exact PySem.W.mg_none_of X G A.nH
  ·exact PySem.W.mg_none_of X G A.zT
  ·exact PySem.W.mg_none_of X G A.mH
  ·exact PySem.W.mg_none_of X G A.zI
  ·exact PySem.W.mg_none_of X G A.yx
  ·exact PySem.W.mg_none_of X G A.vA
  ·exact PySem.W.mg_none_of X G A.zU
  ·exact PySem.W.mg_none_of X G A.Az
  ·exact PySem.W.mg_none_of X G A.wd
  ·exact PySem.W.mg_none_of X G A.zQ
 glb:=by
  intro x i hx
  obtain⟨t,ht⟩:=A.nM
  have e:x = "MOST_PEGS" /\ i=10:=by
   simp only[p,List.lookup]at hx
   split at hx
   ·rename_i he
    cases hx
    exact⟨by simpa using he,rfl⟩
   ·cases hx
  obtain⟨rfl,rfl⟩:=e
  exact⟨_,PySem.W.mg_of X G ht,t,rfl⟩
end K20
namespace PySem.W.Fast
theorem tw8927139438271718464:True:=trivial
theorem tw18151456725283521632:True:=trivial
theorem tw11906393578583631008:True:=trivial
theorem tw12901974377130061056:True:=trivial
theorem tw7812698110191794432:True:=trivial
theorem tw10047654651814229344:True:=trivial
theorem tw860866605610076544:True:=trivial
theorem tw18200202068838114720:True:=trivial
theorem tw15097872715638401504:True:=trivial
theorem tw16459373208232778240:True:=trivial
theorem tw5958055549874092768:True:=trivial
theorem tw7496740371097229184:True:=trivial
theorem tw7388299583597165472:True:=trivial
theorem tw7431637844435047392:True:=trivial
theorem tw9041949300534789088:True:=trivial
theorem tw4034461439341116417:True:=trivial
theorem tw10014287165924627489:True:=trivial
theorem tw3642604882470325313:True:=trivial
theorem tw13747576950060519585:True:=trivial
theorem tw4700433576546379105:True:=trivial
theorem tw13468910515889421761:True:=trivial
theorem tw8759611801209896385:True:=trivial
theorem tw8959584634610117121:True:=trivial
theorem tw13128689657923549793:True:=trivial
theorem tw5684210355665471105:True:=trivial
theorem tw1422209738382413473:True:=trivial
theorem tw1865023840892669729:True:=trivial
theorem tw1738610576701425601:True:=trivial
theorem tw16704544078229527714:True:=trivial
theorem tw17863013030805995746:True:=trivial
theorem tw11527924375463505186:True:=trivial
theorem tw1107793798920852866:True:=trivial
theorem tw11502791398777006658:True:=trivial
theorem tw10835247481832218338:True:=trivial
theorem tw3359243246490526466:True:=trivial
theorem tw1378257490452964355:True:=trivial
theorem tw13170576363997067267:True:=trivial
theorem tw7202446442430900451:True:=trivial
theorem tw17902060530005548355:True:=trivial
theorem tw18035558006958580131:True:=trivial
theorem tw6527402437958005155:True:=trivial
theorem tw10183980399825954339:True:=trivial
theorem tw13683614339253246531:True:=trivial
theorem tw12855181603716974211:True:=trivial
theorem tw14771787732843547395:True:=trivial
theorem tw17744255445264207779:True:=trivial
theorem tw5571192339613930435:True:=trivial
theorem tw17101400267348498468:True:=trivial
theorem tw18253765221080013988:True:=trivial
theorem tw3240428402732050628:True:=trivial
theorem tw16555688526654932292:True:=trivial
theorem tw18334357563883009444:True:=trivial
theorem tw13478971995832538628:True:=trivial
theorem tw11879210951921733220:True:=trivial
theorem tw8527602322216749892:True:=trivial
theorem tw9902754002093150020:True:=trivial
theorem tw12983420207485902660:True:=trivial
theorem tw8647504785592666980:True:=trivial
theorem tw7929592873768914820:True:=trivial
theorem tw1366670706821134212:True:=trivial
theorem tw6794145254908430244:True:=trivial
theorem tw13255974038218935397:True:=trivial
theorem tw17307827101296567397:True:=trivial
theorem tw2184934838820114597:True:=trivial
theorem tw1025295483744493317:True:=trivial
theorem tw10631221067099836261:True:=trivial
theorem tw14990977132947793861:True:=trivial
theorem tw2258363138263304165:True:=trivial
theorem tw8075580365172584582:True:=trivial
theorem tw4136156257139800454:True:=trivial
theorem tw15706230931142048134:True:=trivial
theorem tw15421047508647094758:True:=trivial
theorem tw13042162485016983046:True:=trivial
theorem tw5131182172633528294:True:=trivial
theorem tw16269041742710161447:True:=trivial
theorem tw4211236709488725159:True:=trivial
theorem tw7115995407453935335:True:=trivial
theorem tw6768658754706284327:True:=trivial
theorem tw14875872424562001735:True:=trivial
theorem tw11848874578801282983:True:=trivial
theorem tw15130099354058427335:True:=trivial
theorem tw1729330502521016392:True:=trivial
theorem tw923259174460714088:True:=trivial
theorem tw14777552788493481096:True:=trivial
theorem tw7543161135986665672:True:=trivial
theorem tw14971618232243733736:True:=trivial
theorem tw9852812703493233960:True:=trivial
theorem tw4311540381279868296:True:=trivial
theorem tw3504902584358474216:True:=trivial
theorem tw2219011742692849160:True:=trivial
theorem tw11300781962636001832:True:=trivial
theorem tw12098719567472162344:True:=trivial
theorem tw15231779894003670696:True:=trivial
theorem tw7716604617395015400:True:=trivial
theorem tw8685152522964600648:True:=trivial
theorem tw422540544685659048:True:=trivial
theorem tw12123506547268294632:True:=trivial
theorem tw4424191979738826761:True:=trivial
theorem tw3326197857432430601:True:=trivial
theorem tw10952671211116150857:True:=trivial
theorem tw12299538712932248681:True:=trivial
theorem tw1673064066637110473:True:=trivial
theorem tw15673878497105614057:True:=trivial
theorem tw13297891722126141673:True:=trivial
theorem tw11425028905863611721:True:=trivial
theorem tw15946787092573014345:True:=trivial
theorem tw15465957534366888265:True:=trivial
theorem tw7244147337842404713:True:=trivial
theorem tw10691880570532051305:True:=trivial
theorem tw2077686033454322057:True:=trivial
theorem tw2890813553405255049:True:=trivial
theorem tw17878505237234218409:True:=trivial
theorem tw7999743516959916649:True:=trivial
theorem tw1743206467900557929:True:=trivial
theorem tw11331744877724666633:True:=trivial
theorem tw190597996918475593:True:=trivial
theorem tw8272258244186147721:True:=trivial
theorem tw18178013653622395050:True:=trivial
theorem tw6805776051322357962:True:=trivial
theorem tw2691373866947801354:True:=trivial
theorem tw11508294494873891178:True:=trivial
theorem tw13049718808259318154:True:=trivial
theorem tw7972988348634284490:True:=trivial
theorem tw16081070000545803754:True:=trivial
theorem tw18339204723795256906:True:=trivial
theorem tw13922431905068751530:True:=trivial
theorem tw15944462247176024810:True:=trivial
theorem tw13986064165616508682:True:=trivial
theorem tw17492204342302676778:True:=trivial
theorem tw5763812895470913386:True:=trivial
theorem tw6244779639610003306:True:=trivial
theorem tw8906003293706614666:True:=trivial
theorem tw6870746859846060010:True:=trivial
theorem tw8578851439935229963:True:=trivial
theorem tw3847430708217317451:True:=trivial
theorem tw17190649017546054763:True:=trivial
theorem tw1650906181258005675:True:=trivial
theorem tw15915872677610836139:True:=trivial
theorem tw10722870149986128075:True:=trivial
theorem tw7684748403006218443:True:=trivial
theorem tw4741000091066696939:True:=trivial
theorem tw5778760304585099499:True:=trivial
theorem tw8818900082439767435:True:=trivial
theorem tw13050790190997769835:True:=trivial
theorem tw11488832163452889835:True:=trivial
theorem tw10000994788515429195:True:=trivial
theorem tw17896158600001252299:True:=trivial
theorem tw10382926152207464524:True:=trivial
theorem tw3677266457019927884:True:=trivial
theorem tw1980856289015365004:True:=trivial
theorem tw12301239393648945644:True:=trivial
theorem tw17560795675923004140:True:=trivial
theorem tw13637129789194353420:True:=trivial
theorem tw9985300642498008908:True:=trivial
theorem tw13840546593940767628:True:=trivial
theorem tw7411030411080496044:True:=trivial
theorem tw10042378703480743053:True:=trivial
theorem tw11448836713060669613:True:=trivial
theorem tw3627387107573818701:True:=trivial
theorem tw6442450468392245709:True:=trivial
theorem tw4691402658121826765:True:=trivial
theorem tw6210985478743473709:True:=trivial
theorem tw18228999958402598605:True:=trivial
theorem tw10280463895758167821:True:=trivial
theorem tw3972180293449453325:True:=trivial
theorem tw12755706985942479950:True:=trivial
theorem tw14898708487415908750:True:=trivial
theorem tw1621307509438401998:True:=trivial
theorem tw10298377313498382926:True:=trivial
theorem tw4022359463187272366:True:=trivial
theorem tw12289759347273916142:True:=trivial
theorem tw13627209124114198286:True:=trivial
theorem tw16112533695105931118:True:=trivial
theorem tw3067862470330271598:True:=trivial
theorem tw2416612267078634414:True:=trivial
theorem tw16275766744785784847:True:=trivial
theorem tw12733300850504053903:True:=trivial
theorem tw14653082454047197391:True:=trivial
theorem tw3059417443305609423:True:=trivial
theorem tw3868123830772870383:True:=trivial
theorem tw15656204856232505615:True:=trivial
theorem tw14339227324455849295:True:=trivial
theorem tw5401881473796030863:True:=trivial
theorem tw12855468046195375535:True:=trivial
theorem tw3935437287383858639:True:=trivial
theorem tw4976476322030387791:True:=trivial
theorem tw32693236522672751:True:=trivial
theorem tw10287572540298688143:True:=trivial
theorem tw2365564884164029135:True:=trivial
theorem tw6516927521276650255:True:=trivial
theorem tw10603303887028854607:True:=trivial
theorem tw13674978813966500719:True:=trivial
theorem tw10664155312140667887:True:=trivial
theorem tw2503612021594039376:True:=trivial
theorem tw9617920759351078992:True:=trivial
theorem tw1547334161777986800:True:=trivial
theorem tw16108837536347478288:True:=trivial
theorem tw13584659844620636496:True:=trivial
theorem tw6690704045780690288:True:=trivial
theorem tw13451338675451803056:True:=trivial
theorem tw11427600031400838608:True:=trivial
theorem tw4170933654910942736:True:=trivial
theorem tw2723479882444891888:True:=trivial
theorem tw8524618848028145488:True:=trivial
theorem tw14768429784337995664:True:=trivial
theorem tw8445607870307400785:True:=trivial
theorem tw560815635553508497:True:=trivial
theorem tw10592772806483830929:True:=trivial
theorem tw631203517462772145:True:=trivial
theorem tw18121471198712085073:True:=trivial
theorem tw475782909080574577:True:=trivial
theorem tw10291991091383058161:True:=trivial
theorem tw8503366182091545361:True:=trivial
theorem tw4594089191390087025:True:=trivial
theorem tw4269056641866140625:True:=trivial
theorem tw16448392915020676049:True:=trivial
theorem tw1642981153710388209:True:=trivial
theorem tw16875888934008910898:True:=trivial
theorem tw14424079848271815762:True:=trivial
theorem tw18135564203848238290:True:=trivial
theorem tw12769264079363787346:True:=trivial
theorem tw5178597390303304338:True:=trivial
theorem tw3386289838454809330:True:=trivial
theorem tw16705278590287935250:True:=trivial
theorem tw7738438965160691570:True:=trivial
theorem tw6512719408894915442:True:=trivial
theorem tw15563832351458599826:True:=trivial
theorem tw16278636449648440210:True:=trivial
theorem tw13964713099420388274:True:=trivial
theorem tw5332028573618051411:True:=trivial
theorem tw12526715692253435251:True:=trivial
theorem tw15360510878961852787:True:=trivial
theorem tw15766829937306601107:True:=trivial
theorem tw11238570440350131987:True:=trivial
theorem tw514281498909794227:True:=trivial
theorem tw4157485044919265235:True:=trivial
theorem tw14147979712951587860:True:=trivial
theorem tw5681510032601739380:True:=trivial
theorem tw3533637692292013204:True:=trivial
theorem tw14711700872329605460:True:=trivial
theorem tw6632606500863779188:True:=trivial
theorem tw10568954579305300436:True:=trivial
theorem tw6384506174908883444:True:=trivial
theorem tw9291153696911457876:True:=trivial
theorem tw17873898036689281844:True:=trivial
theorem tw17206885034067141460:True:=trivial
theorem tw2441959506235999124:True:=trivial
theorem tw12054006617440079828:True:=trivial
theorem tw11638268093109892117:True:=trivial
theorem tw2463365119350160405:True:=trivial
theorem tw2626896044330805333:True:=trivial
theorem tw9492285556743657589:True:=trivial
theorem tw5029719625884372117:True:=trivial
theorem tw15323417613763895477:True:=trivial
theorem tw9665800969851206837:True:=trivial
theorem tw3252552193629725909:True:=trivial
theorem tw7439268400575101141:True:=trivial
theorem tw3935182672173974869:True:=trivial
theorem tw11051738958522991989:True:=trivial
theorem tw6441986621044836949:True:=trivial
theorem tw15778199857635006133:True:=trivial
theorem tw2248385201863179093:True:=trivial
theorem tw8875508738901497685:True:=trivial
theorem tw3654366287123440469:True:=trivial
theorem tw7356074397129761653:True:=trivial
theorem tw4184500113820909590:True:=trivial
theorem tw10538282651057205334:True:=trivial
theorem tw6454492790078767254:True:=trivial
theorem tw9482419238341156214:True:=trivial
theorem tw6999325622069671478:True:=trivial
theorem tw10552753278660068950:True:=trivial
theorem tw1322122622155090518:True:=trivial
theorem tw1011327067143891606:True:=trivial
theorem tw11457842192593153686:True:=trivial
theorem tw3767726815203507094:True:=trivial
theorem tw5076540294761396279:True:=trivial
theorem tw12988509715901379671:True:=trivial
theorem tw14082958625554854231:True:=trivial
theorem tw2422320418121473399:True:=trivial
theorem tw12367171345729328567:True:=trivial
theorem tw14170278050564997687:True:=trivial
theorem tw4064216034791289399:True:=trivial
theorem tw16731612477714502231:True:=trivial
theorem tw17223574437395173239:True:=trivial
theorem tw5313372193275243383:True:=trivial
theorem tw4848549284429570999:True:=trivial
theorem tw16501994081973869527:True:=trivial
theorem tw4961587254534114552:True:=trivial
theorem tw7536142380660028696:True:=trivial
theorem tw16156450982938485144:True:=trivial
theorem tw15155768440222875032:True:=trivial
theorem tw13821632692489404920:True:=trivial
theorem tw3547139407809435160:True:=trivial
theorem tw1354764960741806744:True:=trivial
theorem tw4930566673492669208:True:=trivial
theorem tw259222526563895096:True:=trivial
theorem tw15960425898913024888:True:=trivial
theorem tw5106747955464379288:True:=trivial
theorem tw5456341980916659096:True:=trivial
theorem tw3265245375578563480:True:=trivial
theorem tw11132088933553149880:True:=trivial
theorem tw16498570191024432056:True:=trivial
theorem tw12889055304462117848:True:=trivial
theorem tw2027746988612327513:True:=trivial
theorem tw10749080964187733081:True:=trivial
theorem tw1124933678347605177:True:=trivial
theorem tw2545454642973749529:True:=trivial
theorem tw2232849312122819929:True:=trivial
theorem tw1968951813396142457:True:=trivial
theorem tw16627036359778555321:True:=trivial
theorem tw5799569598877899289:True:=trivial
theorem tw4191645115702417977:True:=trivial
theorem tw8794270709864707673:True:=trivial
theorem tw5902166866934890682:True:=trivial
theorem tw11134092982543427866:True:=trivial
theorem tw18395328835766248890:True:=trivial
theorem tw14134532898232441402:True:=trivial
theorem tw7100065694059805274:True:=trivial
theorem tw9963450143884956282:True:=trivial
theorem tw10527672954930990938:True:=trivial
theorem tw13108254496772050874:True:=trivial
theorem tw9101672884647985179:True:=trivial
theorem tw12215881771630131739:True:=trivial
theorem tw73895671846702651:True:=trivial
theorem tw8155002571709471291:True:=trivial
theorem tw9080937176078182971:True:=trivial
theorem tw9269442224263011995:True:=trivial
theorem tw11837563856781953691:True:=trivial
theorem tw13514588065126426331:True:=trivial
theorem tw17178001301342163771:True:=trivial
theorem tw12748362045377825723:True:=trivial
theorem tw2780622931147623484:True:=trivial
theorem tw12411818850578849852:True:=trivial
theorem tw9817310600788679836:True:=trivial
theorem tw10286578264413452476:True:=trivial
theorem tw5183121057885136156:True:=trivial
theorem tw7193058340298495676:True:=trivial
theorem tw17679845565267091164:True:=trivial
theorem tw2034880068295187228:True:=trivial
theorem tw9790606121288203036:True:=trivial
theorem tw14500595855964954460:True:=trivial
theorem tw17887073945539306364:True:=trivial
theorem tw10017858577804164060:True:=trivial
theorem tw6815261382097921213:True:=trivial
theorem tw4995178568140971613:True:=trivial
theorem tw7460667961046334077:True:=trivial
theorem tw13192073855607810877:True:=trivial
theorem tw4014684826497056798:True:=trivial
theorem tw11461636730484365374:True:=trivial
theorem tw16799773019789213982:True:=trivial
theorem tw11472286817506487614:True:=trivial
theorem tw4445284664295022014:True:=trivial
theorem tw17129045809411292766:True:=trivial
theorem tw12250461709288831678:True:=trivial
theorem tw10590439885692933183:True:=trivial
theorem tw7323854455110644831:True:=trivial
theorem tw8505991110455109855:True:=trivial
theorem tw15575174606105254175:True:=trivial
theorem tw15957278214603575743:True:=trivial
theorem tw7998381986679445023:True:=trivial
theorem tw9771304561803673215:True:=trivial
theorem tw2085030865624636095:True:=trivial
theorem tw17572132310527992799:True:=trivial
theorem tw743165946072786911:True:=trivial
theorem tw570273809014074154:True:=trivial
end PySem.W.Fast
open PySem PySem.W PyProof.Rows
set_option maxRecDepth 100000 in
set_option maxHeartbeats 0 in
theorem PySem.Challenge.cw_ribbonloft_k20_whole_two_halves_make_a_f_holds : PySem.Challenge.rw_ribbonloft_k20_whole_two_halves_make_a_f.Holds := by
 w_on;o_law;k_head;(case hw=>w_witness2)
 k_fill
 refine L2.sF (l:=PySem.Challenge.rw_ribbonloft_k20_whole_two_halves_make_a_f) (n:=63) (k:=30) (x := "_law_script") (CX:=L2.CX0) (sp:=RS.spL 30 K20.p 38) rfl (by decide) rfl ⟨rfl,by decide,by decide⟩ (fun w h Y=>PySem.W.kIn_of Y) ?F ?S ?C
 case F =>
  intro w mg fa h KX G hmg
  have T:K20.nY (L2.KOf KX) mg:=by
   dsimp only[L2.KOf]
   constructor
   iterate 39 (refine' K20.yn KX G ?a ?l ?c ?k;(case a=>k_is);(case l=>k_is);(case c=>k_is);(case k=>k_is))
   iterate 13 k_is
   exact⟨_,by k_is⟩
  have tp:=K20.zo KX G T
  obtain⟨fa',fd,h1,h2,h3,h4⟩:=tp.defs 38 _ rfl
  have e0:=hmg.symm.trans h1
  cases e0
  refine⟨fd,fun s u=>?_,fun base kb nb=>RS.qV K20.AV tp 30 38 _ _ rfl rfl _ _ h2⟩
  obtain⟨oc,od,kV,doc,pm,an,cdv,ct,osl,e9,_,_⟩:=h2.ex
  subst e9
  exact .of_eq rfl
 case S=>exact fun K H a ns hl hO hS=>RS.xa hO hS (K20.main ns hl)
 case C=>exact fun _ _ _ _ h=>h
