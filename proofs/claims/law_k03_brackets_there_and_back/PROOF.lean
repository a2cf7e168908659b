import PyProof.Rows.All
import Wide.All
import OpenK.AllK
import Wide.FinOn
import PyProof.EqAt
import PyProof.EqKinds
import PyProof.TupleCall
import PySem.Str
import PyProof.NeKinds
import PyProof.CompMap
import PyProof.CompFree
import PyProof.EnumMake
import PyProof.Draws
import PyProof.ListRange
import PyProof.ConsumeWalk
import PyProof.Rows.SetFrom
import PyProof.SetRoads
import PyProof.ZipIter
import PyProof.Rows.SumAny
import PyProof.Rows.SortWalk
import PyProof.Rows.SeqMore2
import PyProof.Rows.SeqMore
import PyProof.StrWalks
import PyProof.SliceStr2
import PyProof.StrBlockI
import PyProof.StrOps2
import PyProof.ExcAttrAll.ValueError
import PyProof.ExcBaseAll.ValueError
import PyProof.Rows.FStr
import PyProof.Rows.StrJoin2
import PySem.Challenge.RW_ribbonloft_k03_brackets_there_and_back
set_option Elab.async false
set_option linter.all false
set_option maxRecDepth 100000
set_option maxHeartbeats 4000000
set_option autoImplicit true
set_option relaxedAutoImplicit true
set_option genSizeOf false
set_option genSizeOfSpec false
section
local macro_rules
|`(def $d $s:optDeclSig $v:declVal)=>`(theorem $d $(Lean.TSyntax.mk (Lean.mkNode ``Lean.Parser.Command.declSig #[s.raw[0],s.raw[1][0]])):declSig $v:declVal)
|`(abbrev $d $s:optDeclSig $v:declVal)=>`(noncomputable def $d $s:optDeclSig $v:declVal)
namespace RL
open PySem (Str)
@[reducible]noncomputable def Ky:=Sum Int Str
inductive D where
 | non
 | bl (b:Bool)
 | int (i:Int)
 | str (x:Str)
 | tup (xs:List D)
 | lst (xs:List D)
 | dK (ks:List Ky) (vs:List D)
 | dT (ks:List (List Ky)) (vs:List D)
 | scr (xs:List D)
 | exc (c:Str)
 deriving Inhabited
mutual
noncomputable def D.imm:D->Bool
 | .tup xs=>ax xs
 | .lst _=>false
 | .dK _ _=>false
 | .dT _ _=>false
 | .scr xs=>ax xs
 | _=>true
noncomputable def ax:List D->Bool
 | []=>true
 | d::r=>d.imm&&ax r
end
inductive Bop where | add | sub | mul | fdiv | mod | pow
 deriving DecidableEq
inductive Cop where | lt | le | gt | ge | eq | ne
 deriving DecidableEq
inductive Bi where | len | list | tuple | int | all | any | lenSet | sorted | sortedSet | abs | sum
 deriving DecidableEq
inductive Ty where | int | bool | list | tuple | str
 deriving DecidableEq
mutual
inductive E where
 | var (i:Nat)
 | cst (d:D)
 | glb (x:Str) (i:Int)
 | bin (o:Bop) (a b:E)
 | cmp (c:Cop) (a b:E)
 | chain (c c':Cop) (a b e:E)
 | isN (neg:Bool) (a:E)
 | inn (neg:Bool) (a b:E)
 | inD (neg:Bool) (a b:E)
 | and (a b:E)
 | or (a b:E)
 | not (a:E)
 | ifx (t a b:E)
 | tup (es:Es)
 | lst (es:Es)
 | ix (a b:E)
 | ixD (a b:E)
 | slT (a b:E)
 | call (f:Nat) (es:Es)
 | bi (b:Bi) (a:E)
 | max (a b:E)
 | isi (a:E) (t:Ty)
 | rng1 (a:E)
 | rng3 (c:Int) (a b:E)
 | neg (a:E)
 | comp (e:E) (tg:List Nat) (it:It) (c:E)
 | compA (e:E) (tg:List Nat) (it:It)
 | sxT (a b:E)
 | sxF (a b:E)
 | mulS (a b:E)
 | join (a:E)
 | isx (a:E) (c:Str)
 | dd2 (a b c d:E)
 | getE (a b c:E)
 | dk0
 | dt0
inductive Es where
 | nil
 | cons (e:E) (es:Es)
inductive It where
 | seq (e:E)
 | rng1 (a:E)
 | rng3 (c:Int) (a b:E)
 | chr (e:E)
 | enm (e:E)
 | zip (a b:E)
end
mutual
inductive S where
 | asg (i:Nat) (e:E)
 | own (i:Nat) (e:E)
 | unp (is:List Nat) (e:E)
 | par (i j:Nat) (a b:E)
 | app (i:Nat) (e:E)
 | put (i:Nat) (k e:E)
 | pop (i j:Nat)
 | aug (i:Nat) (o:Bop) (e:E)
 | ife (t:E) (a b:Ss)
 | ifp (i:Nat) (e:E) (a b:Ss)
 | forr (tg:List Nat) (it:It) (b:Ss)
 | tie3 (f r p w:Nat)
 | ret (e:E)
 | exc (e:E)
 | rais (c:Str) (ps:Es)
 | tryc (b:Ss) (c:Str) (i:Nat) (h:Ss)
inductive Ss where
 | nil
 | cons (s:S) (r:Ss)
end
@[reducible]noncomputable def St:=List (Option D)
@[reducible]noncomputable def Cl:=Nat->List D->Option D
abbrev most:Nat:=100000
abbrev cQ{α:Type}(xs:List α)(i:Int):Option α :=
 if 0<=i then xs[i.toNat]? else if -(xs.length:Int)<=i then xs[(i+xs.length).toNat]? else none
abbrev m7(n:Nat)(i:Int):Option Nat :=
 if 0<=i then(if i<n then some i.toNat else none)else if -(n:Int)<=i then some (i+n).toNat else none
abbrev cutAt(n:Nat)(i:Int):Nat:=if 0<=i then min i.toNat n else(i+n).toNat
abbrev aB:Bop->D->D->Option D
 | .add,.int a,.int b=>some (.int (a+b))
 | .add,.str a,.str b=>if a.length+b.length<=most then some (.str (a++b))else none
 | .add,.lst a,.lst b=>if a.length+b.length<=most then some (.lst (a++b))else none
 | .add,.tup a,.tup b=>if a.length+b.length<=most/\0<a.length then some (.tup (a++b))else none
 | .sub,.int a,.int b=>some (.int (a-b))
 | .mul,.int a,.int b=>if(-(2 ^ 64)<a/\a<2 ^ 64)\/(-(2 ^ 64)<b/\b<2 ^ 64)then some (.int (a*b))else none
 | .mul,.lst a,.int b=>if 0<=b/\b<=most/\a.length*b.toNat<=most then some (.lst (List.replicate b.toNat a).flatten)else none
 | .fdiv,.int a,.int b=>if 0<b/\b<2 ^ 200 then some (.int (a / b))else none
 | .mod,.int a,.int b=>if 0<b then some (.int (a%b))else none
 | .pow,.int a,.int b=>if 0<=b/\b<=1000/\a.natAbs<2 ^ 64 then some (.int (a ^ b.toNat))else none
 | _,_,_=>none
abbrev eqs(f:D->D->Option Bool):List D->List D->Option Bool
 | a::r,b::s=>(f a b).bind fun e=>(eqs f r s).map fun k=>e&&k
 | _,_=>some true
abbrev eqD:Nat->D->D->Option Bool
 | _,.int a,.int b=>some (a == b)
 | _,.str a,.str b=>some (a == b)
 | _,.bl a,.bl b=>some (a == b)
 | n+1,.tup a,.tup b=>(eqs (eqD n) a b).map fun k=>k&&a.length == b.length
 | n+1,.lst a,.lst b=>(eqs (eqD n) a b).map fun k=>k&&a.length == b.length
 | _,_,_=>none
abbrev bw:Cop->D->D->Option Bool
 | .lt,.int a,.int b=>some (decide (a<b))
 | .le,.int a,.int b=>some (decide (a<=b))
 | .gt,.int a,.int b=>some (decide (b<a))
 | .ge,.int a,.int b=>some (decide (b<=a))
 | .eq,a,b=>eqD 8 a b
 | .ne,a,b=>(eqD 8 a b).map not
 | _,_,_=>none
abbrev truth:D->Option Bool
 | .bl b=>some b
 | .lst xs=>some (!xs.isEmpty)
 | .tup xs=>some (!xs.isEmpty)
 | .int i=>some (i != 0)
 | _=>none
abbrev fD:List D->Option (List Int)
 | []=>some []
 | .int i::r=>(fD r).map (i :: ·)
 | _=>none
abbrev d7:List D->Option (List Bool)
 | []=>some []
 | .bl i::r=>(d7 r).map (i :: ·)
 | _=>none
abbrev strs?:List D->Option (List Str)
 | []=>some []
 | .str i::r=>(strs? r).map (i :: ·)
 | _=>none
abbrev sR(a:Int):List Int->List Int
 | []=>[a]
 | b::r=>if a<=b then a::b::r else b::sR a r
abbrev sortI:List Int->List Int
 | []=>[]
 | a::r=>sR a (sortI r)
abbrev iF(xs:List Int):List Int:=xs.foldl (fun m k=>if m.any (· == k)then m else m++[k]) []
abbrev items:D->Option (List D)
 | .lst xs=>some xs
 | .tup xs=>some xs
 | _=>none
abbrev d6:D->Option (List D)
 | .lst xs=>some xs
 | .tup xs=>some xs
 | .str x=>some (x.cps.toList.map fun c=>.str ⟨#[c]⟩)
 | _=>none
abbrev biV:Bi->D->Option D
 | .len,.str x=>if x.length<=most then some (.int x.length)else none
 | .len,.dK ks _=>some (.int ks.length)
 | .len,.dT ks _=>some (.int ks.length)
 | .len,d=>(items d).map fun xs=>.int xs.length
 | .list,d=>(items d).map .lst
 | .tuple,d=>(items d).map .tup
 | .int,.bl b=>some (.int (if b then 1 else 0))
 | .int,.int i=>some (.int i)
 | .int,_=>none
 | .all,.lst xs=>(d7 xs).map fun bs=>.bl (bs.all id)
 | .any,.lst xs=>(d7 xs).map fun bs=>.bl (bs.any id)
 | .all,_=>none
 | .any,_=>none
 | .lenSet,.lst xs=>if xs.length<=1000 then(fD xs).map fun is=>.int (iF is).length else none
 | .lenSet,_=>none
 | .sorted,.lst xs=>if xs.length<64 then(fD xs).map fun is=>.lst ((sortI is).map .int)else none
 | .sorted,_=>none
 | .sortedSet,.lst xs=>(fD xs).map fun is=>.lst ((sortI (iF is)).map .int)
 | .sortedSet,_=>none
 | .abs,.int i=>some (.int (if i<0 then -i else i))
 | .abs,_=>none
 | .sum,.lst xs=>(fD xs).map fun is=>.int is.sum
 | .sum,_=>none
abbrev fO:Ty->D->Option Bool
 | .int,.int _=>some true
 | .int,.bl _=>some true
 | .bool,.bl _=>some true
 | .list,.lst _=>some true
 | .tuple,.tup _=>some true
 | .str,.str _=>some true
 | _,.non=>some false
 | _,.bl _=>some false
 | _,.int _=>some false
 | _,.str _=>some false
 | _,.tup _=>some false
 | _,.lst _=>some false
 | _,_=>none
abbrev keyOf:D->Option Ky
 | .int i=>some (.inl i)
 | .str x=>some (.inr x)
 | _=>none
abbrev keysOf:List D->Option (List Ky)
 | []=>some []
 | d::r=>(keyOf d).bind fun k=>(keysOf r).map (k :: ·)
abbrev aG{κ:Type} [DecidableEq κ]:List κ->List D->κ->Option D
 | k::ks,v::vs,x=>if k=x then some v else aG ks vs x
 | _,_,_=>none
abbrev putD{κ:Type} [DecidableEq κ](ks:List κ)(vs:List D)(x:κ)(d:D):List κ × List D :=
 if x∈ks then(ks,List.zipWith (fun k v=>if k=x then d else v) ks vs)else(ks++[x],vs++[d])
abbrev ixV:D->D->Option D
 | .lst xs,.int i=>cQ xs i
 | .tup xs,.int i=>cQ xs i
 | .str x,.int i=>if x.length<=most then(cQ x.cps.toList i).map fun c=>.str ⟨#[c]⟩else none
 | _,_=>none
abbrev ql:D->D->Option D
 | .dK ks vs,k=>(keyOf k).bind (aG ks vs)
 | .dT ks vs,.tup k=>(keysOf k).bind (aG ks vs)
 | _,_=>none
abbrev tP:D->D->D->Option D
 | .dK ks vs,k,z=>(keyOf k).map fun q=>(aG ks vs q).getD z
 | .dT ks vs,.tup k,z=>(keysOf k).map fun q=>(aG ks vs q).getD z
 | _,_,_=>none
abbrev yr:D->D->Option Bool
 | .dK ks vs,k=>(keyOf k).map fun k=>(aG ks vs k).isSome
 | .dT ks vs,.tup k=>(keysOf k).map fun k=>(aG ks vs k).isSome
 | _,_=>none
abbrev flat:D->Bool
 | .int _=>true
 | .str _=>true
 | _=>false
abbrev eqF:D->D->Bool
 | .int a,.int b=>a == b
 | .str a,.str b=>a == b
 | _,_=>false
abbrev inV(a b:D):Option Bool :=
 (items b).bind fun xs=>if flat a&&xs.all flat then some (xs.any fun x=>eqF x a)else none
abbrev tV:D->D->Option D
 | .scr xs,.int k=>some (.lst (xs.take (cutAt xs.length k)))
 | .lst xs,.int k=>some (.lst (xs.take (cutAt xs.length k)))
 | .tup xs,.int k=>if cutAt xs.length k<xs.length then some (.tup (xs.take (cutAt xs.length k)))else none
 | _,_=>none
abbrev cw(lo:Int):Nat->List D
 | 0=>[]
 | n+1=>.int lo::cw (lo+1) n
abbrev bU(c lo:Int):Nat->List D
 | 0=>[]
 | n+1=>.int lo::bU c (lo+c) n
abbrev bC(c a b:Int):Nat:=(if c > 0 then(if a<b then(b-a-1) / c+1 else 0)else(if a > b then(a-b-1) / (-c)+1 else 0)).toNat
abbrev fE:D->D->Option (List D)
 | .int a,.int b=>if(b-a).toNat<=most/\-(2 ^ 60)<=a/\a<2 ^ 60/\-(2 ^ 60)<=b/\b<2 ^ 60 then some (cw a (b-a).toNat)else none
 | _,_=>none
abbrev gg(c:Int):D->D->Option (List D)
 | .int a,.int b=>if c≠0/\-(2 ^ 60)<c/\c<2 ^ 60/\bC c a b<=most/\-(2 ^ 60)<=a/\a<2 ^ 60/\-(2 ^ 60)<=b/\b<2 ^ 60 then some (bU c a (bC c a b))else none
 | _,_=>none
abbrev cT(i:Int):List D->List D
 | []=>[]
 | d::r=>.tup [.int i,d]::cT (i+1) r
abbrev eL:List D->List D->List D
 | a::r,b::s=>.tup [a,b]::eL r s
 | _,_=>[]
abbrev bV:List Nat->List D->St->Option St
 | [],[],σ=>some σ
 | i::is,d::ds,σ=>bV is ds (σ.set i (some d))
 | _,_,_=>none
abbrev aF(tg:List Nat)(d:D)(σ:St):Option St :=
 match tg with
 | [i]=>some (σ.set i (some d))
 | tg=>match d with
  | .tup ds=>bV tg ds σ
  | .lst ds=>bV tg ds σ
  | _=>none
abbrev j7(y:Option D)(ys:List D):Option (List D) :=
 match y with
 | some e=>if e.imm then some (e::ys)else none
 | none=>some ys
abbrev cJ(f:St->Option (Option D))(tg:List Nat)(σ:St):List D->Option (List D)
 | []=>some []
 | d::r=>(aF tg d σ).bind fun σ1=>(f σ1).bind fun y=>(cJ f tg σ r).bind (j7 y)
abbrev aV:D->Bool
 | .lst xs=>ax xs
 | .dK _ vs=>ax vs
 | .dT _ vs=>ax vs
 | _=>false
abbrev G0(f:St->Option D)(fr:Bool)(tg:List Nat)(σ:St):List D->Option (List D)
 | []=>some []
 | d::r=>(aF tg d σ).bind fun σ1=>(f σ1).bind fun y=>if aV y&&fr then(G0 f fr tg σ r).map (y :: ·)else none
abbrev fits(xs:List D):Option (List D):=if xs.length<=most then some xs else none
abbrev aS:E->Bool
 | .lst _=>true
 | .tup _=>true
 | .comp _ _ _ _=>true
 | .compA _ _ _=>true
 | .bin _ _ _=>true
 | .slT _ _=>true
 | .call _ _=>true
 | .bi _ _=>true
 | .rng1 _=>true
 | .rng3 _ _ _=>true
 | .dk0=>true
 | .dt0=>true
 | _=>false
abbrev cD(n c:Str):Bool:=n == c || c == "RibbonError" || c == "ValueError"
abbrev Gm(neg:Bool):D->Option D
 | .non=>some (.bl (!neg))
 | .dK _ _=>none
 | .dT _ _=>none
 | _=>some (.bl neg)
abbrev yw(y:Option D):D->Option D
 | .bl true=>y
 | .bl false=>some (.bl false)
 | _=>none
abbrev orV(y:Option D):D->Option D
 | .bl false=>y
 | .bl true=>some (.bl true)
 | _=>none
abbrev CK:D->Option D
 | .int i=>some (.int (-i))
 | _=>none
abbrev DM:D->D->Option D
 | .int i,.int j=>some (.int (if j > i then j else i))
 | _,_=>none
abbrev Gx:D->D->Option D
 | .str x,.int k=>if 0<=k/\x.length<=most then some (.str ⟨(x.cps.toList.take k.toNat).toArray⟩)else none
 | _,_=>none
abbrev FL:D->D->Option D
 | .str x,.int k=>if 0<=k/\x.length<=most then some (.str ⟨(x.cps.toList.drop k.toNat).toArray⟩)else none
 | _,_=>none
abbrev x6:D->D->D->D->Option D
 | .str x,y,.str z,w=>if x≠z/\y.imm=true/\w.imm=true then some (.dK [.inr x,.inr z] [y,w])else none
 | _,_,_,_=>none
abbrev jR:D->D->Option D
 | .str x,.int n=>if 1<n/\n<=1000/\0<x.length/\x.length<=100 then some (.str ⟨(List.replicate n.toNat x.cps.toList).flatten.toArray⟩)else none
 | _,_=>none
abbrev oD:D->Option D
 | .lst xs=>(strs? xs).bind fun ss=>if ss.length<=most/\ss.all (fun s=>s.length<=100)then some (.str ⟨(ss.flatMap fun s=>s.cps.toList).toArray⟩)else none
 | _=>none
abbrev G8(c:Str):D->Option D
 | .exc n=>some (.bl (cD n c))
 | _=>none
abbrev E2:D->Option (List D)
 | .str x=>d6 (.str x)
 | _=>none
@[simp] theorem sv_andt {y:Option D}:yw y (.bl true)=y:=rfl
@[simp] theorem sv_andf {y:Option D}:yw y (.bl false)=some (.bl false):=rfl
@[simp] theorem sv_ort {y:Option D}:orV y (.bl true)=some (.bl true):=rfl
@[simp] theorem sv_orf {y:Option D}:orV y (.bl false)=y:=rfl
@[simp] theorem sv_max {i j:Int}:DM (.int i) (.int j)=some (.int (if j > i then j else i)):=rfl
@[simp] theorem sv_neg {i:Int}:CK (.int i)=some (.int (-i)):=rfl
mutual
noncomputable def ev(cl:Cl)(σ:St):E->Option D
 | .var i=>(σ[i]?).bind id
 | .cst d=>some d
 | .glb _ i=>some (.int i)
 | .bin o a b=>(ev cl σ a).bind fun x=>(ev cl σ b).bind fun y=>aB o x y
 | .cmp c a b=>(ev cl σ a).bind fun x=>(ev cl σ b).bind fun y=>(bw c x y).map .bl
 | .chain c c' a b e=>(ev cl σ a).bind fun x=>(ev cl σ b).bind fun y=>(bw c x y).bind fun k=>if k then(ev cl σ e).bind fun z=>(bw c' y z).map .bl else some (.bl false)
 | .isN neg a=>(ev cl σ a).bind (Gm neg)
 | .inn neg a b=>(ev cl σ a).bind fun x=>(ev cl σ b).bind fun y=>(inV x y).map fun k=>.bl (if neg then !k else k)
 | .inD neg a b=>(ev cl σ a).bind fun x=>(ev cl σ b).bind fun y=>(yr y x).map fun k=>.bl (if neg then !k else k)
 | .and a b=>(ev cl σ a).bind (yw (ev cl σ b))
 | .or a b=>(ev cl σ a).bind (orV (ev cl σ b))
 | .not a=>((ev cl σ a).bind truth).map fun k=>.bl (!k)
 | .ifx t a b=>((ev cl σ t).bind truth).bind fun k=>if k then ev cl σ a else ev cl σ b
 | .tup es=>(evs cl σ es).map .tup
 | .lst es=>(evs cl σ es).map .lst
 | .ix a b=>(ev cl σ a).bind fun x=>(ev cl σ b).bind fun y=>ixV x y
 | .ixD a b=>(ev cl σ a).bind fun x=>(ev cl σ b).bind fun y=>ql x y
 | .slT a b=>(ev cl σ a).bind fun x=>(ev cl σ b).bind fun y=>tV x y
 | .call f es=>(evs cl σ es).bind fun ds=>cl f ds
 | .bi b a=>(ev cl σ a).bind fun x=>biV b x
 | .max a b=>(ev cl σ a).bind fun x=>(ev cl σ b).bind fun y=>DM x y
 | .isi a t=>(ev cl σ a).bind fun x=>(fO t x).map .bl
 | .rng1 a=>(ev cl σ a).bind fun x=>(fE (.int 0) x).map .lst
 | .rng3 c a b=>(ev cl σ a).bind fun x=>(ev cl σ b).bind fun y=>(gg c x y).map .lst
 | .neg a=>(ev cl σ a).bind CK
 | .comp e tg it c=>(bp cl σ it).bind fun ds=>(fits ds).bind fun ds=>(cJ (fun σ1=>((ev cl σ1 c).bind truth).bind fun k=>if k then(ev cl σ1 e).map some else some none) tg σ ds).map .lst
 | .compA e tg it=>(bp cl σ it).bind fun ds=>(fits ds).bind fun ds=>(cJ (fun σ1=>(ev cl σ1 e).map some) tg σ ds).map .lst
 | .sxT a b=>(ev cl σ a).bind fun x=>(ev cl σ b).bind fun y=>Gx x y
 | .sxF a b=>(ev cl σ a).bind fun x=>(ev cl σ b).bind fun y=>FL x y
 | .mulS a b=>(ev cl σ a).bind fun x=>(ev cl σ b).bind fun y=>jR x y
 | .join a=>(ev cl σ a).bind oD
 | .isx a c=>(ev cl σ a).bind (G8 c)
 | .dd2 a b c d=>(ev cl σ a).bind fun x=>(ev cl σ b).bind fun y=>(ev cl σ c).bind fun z=>(ev cl σ d).bind fun w=>x6 x y z w
 | .getE a b c=>(ev cl σ a).bind fun x=>(ev cl σ b).bind fun y=>(ev cl σ c).bind fun z=>tP x y z
 | .dk0=>some (.dK [] [])
 | .dt0=>some (.dT [] [])
noncomputable def evs(cl:Cl)(σ:St):Es->Option (List D)
 | .nil=>some []
 | .cons e es=>(ev cl σ e).bind fun d=>(evs cl σ es).map (d :: ·)
noncomputable def bp(cl:Cl)(σ:St):It->Option (List D)
 | .seq e=>(ev cl σ e).bind items
 | .rng1 a=>(ev cl σ a).bind fun x=>fE (.int 0) x
 | .rng3 c a b=>(ev cl σ a).bind fun x=>(ev cl σ b).bind fun y=>gg c x y
 | .chr e=>(ev cl σ e).bind E2
 | .enm e=>(ev cl σ e).bind fun x=>(d6 x).map (cT 0)
 | .zip a b=>(ev cl σ a).bind fun x=>(ev cl σ b).bind fun y=>(items x).bind fun xs=>(items y).bind fun ys=>if xs.length=ys.length then some (eL xs ys)else none
end
abbrev clX(cl:Cl)(f:Nat)(ds:List D):Option Str:=(cl (f+1000) ds).bind fun d=>match d with
 | .str x=>some x
 | _=>none
mutual
noncomputable def evX(cl:Cl)(σ:St):E->Option Str
 | .call f es=>match evs cl σ es with
  | some ds=>clX cl f ds
  | none=>mB cl σ es
 | .ix a _=>evX cl σ a
 | _=>none
noncomputable def mB(cl:Cl)(σ:St):Es->Option Str
 | .nil=>none
 | .cons e es=>match ev cl σ e with
  | some _=>mB cl σ es
  | none=>evX cl σ e
end
abbrev written:D->Bool
 | .int i=>decide (i.natAbs<2 ^ 1900)
 | _=>false
inductive Out where
 | nx
 | rt (d:D)
abbrev avE(M:List Nat):E->Bool
 | .var j=>!M.contains j
 | .ix a _=>avE M a
 | .call _ _=>true
 | .ifx _ a b=>avE M a&&avE M b
 | _=>false
abbrev qv(M:List Nat):It->Bool
 | .seq e=>avE M e || aS e
 | .enm e=>avE M e || aS e
 | .zip a b=>(avE M a || aS a)&&(avE M b || aS b)
 | _=>true
abbrev bz(M:List Nat)(e:E)(d:D):Bool :=
 d.imm || (aV d&&(aS e || match e with | .var i=>M.contains i | _=>false))
abbrev bN(M:List Nat)(e:E)(d:D):Bool:=d.imm || (aV d&&aS e) || avE M e
abbrev isVar:E->Bool
 | .var _=>true
 | _=>false
abbrev BF(M ps:List Nat):Nat->Es->List D->Bool
 | _,.nil,[]=>true
 | q,.cons e es,d::ds=>(if ps.contains q then isVar e else bN M e d)&&BF M ps (q+1) es ds
 | _,_,_=>false
abbrev dD:D->D->D->Option D
 | .lst xs,.int k,d=>(m7 xs.length k).map fun j=>.lst (xs.set j d)
 | .dK ks vs,k,d=>(keyOf k).bind fun k=>if ks.length<most then some (.dK (putD ks vs k d).1 (putD ks vs k d).2)else none
 | .dT ks vs,.tup k,d=>(keysOf k).bind fun k=>if ks.length<most then some (.dT (putD ks vs k d).1 (putD ks vs k d).2)else none
 | _,_,_=>none
abbrev bo(f:St->Option (Out × St))(tg:List Nat):List D->St->Option (Out × St)
 | [],σ=>some (.nx,σ)
 | d::r,σ=>if d.imm then(aF tg d σ).bind fun σ1=>(f σ1).bind fun p=>match p.1 with
   | .nx=>bo f tg r p.2
   | .rt d=>some (.rt d,p.2)
  else none
abbrev whF(t:St->Option Bool)(f:St->Option (Out × St)):Nat->St->Option (Out × St)
 | 0,_=>none
 | n+1,σ=>(t σ).bind fun k=>if k then(f σ).bind fun p=>match p.1 with
   | .nx=>whF t f n p.2
   | .rt d=>some (.rt d,p.2)
  else some (.nx,σ)
abbrev hG(f:St->Option (Out × St))(fx:St->Option (Str × St))(tg:List Nat):List D->St->Option (Str × St)
 | [],_=>none
 | d::r,σ=>if d.imm then(aF tg d σ).bind fun σ1=>match f σ1 with
   | some p=>match p.1 with
    | .nx=>hG f fx tg r p.2
    | .rt _=>none
   | none=>fx σ1
  else none
abbrev x3:D->Option (D × D)
 | .lst xs=>(xs[xs.length-1]?).map fun d=>(d,.lst xs.dropLast)
 | _=>none
abbrev ER(σ:St)(r w:Nat)(l:D):D->Option (Out × St)
 | .tup [_,R]=>some (.nx,(σ.set w (some l)).set r (some R))
 | _=>none
abbrev GL:D->D->Option D
 | .str a,.str b=>if a.length+b.length<=most then some (.str (a++b))else none
 | _,_=>none
mutual
noncomputable def evS(cl:Cl)(M:List Nat):S->St->Option (Out × St)
 | .asg i e,σ=>(ev cl σ e).bind fun d=>if bN M e d then some (.nx,σ.set i (some d))else none
 | .own i e,σ=>(ev cl σ e).bind fun d=>if aV d&&aS e then some (.nx,σ.set i (some d))else none
 | .unp is e,σ=>(ev cl σ e).bind fun d=>(items d).bind fun ds=>if ax ds then(bV is ds σ).map fun σ1=>(.nx,σ1)else none
 | .par i j a b,σ=>(ev cl σ a).bind fun x=>(ev cl σ b).bind fun y=>if x.imm&&y.imm then some (.nx,(σ.set i (some x)).set j (some y))else none
 | .app i e,σ=>(ev cl σ e).bind fun d=>((σ[i]?).bind id).bind fun l=>match l with
  | .lst xs=>if d.imm&&decide (xs.length<most)then some (.nx,σ.set i (some (.lst (xs++[d]))))else none
  | _=>none
 | .put i k e,σ=>(ev cl σ e).bind fun d=>(ev cl σ k).bind fun kk=>((σ[i]?).bind id).bind fun l=>if d.imm then(dD l kk d).map fun l'=>(.nx,σ.set i (some l'))else none
 | .pop i j,σ=>((σ[i]?).bind id).bind fun l=>match l with
  | .lst xs=>(xs[xs.length-1]?).map fun d=>(.nx,(σ.set i (some (.lst xs.dropLast))).set j (some d))
  | _=>none
 | .aug i o e,σ=>((σ[i]?).bind id).bind fun x=>(ev cl σ e).bind fun y=>match x,y with
  | .int a,.int b=>(aB o (.int a) (.int b)).map fun z=>(.nx,σ.set i (some z))
  | _,_=>none
 | .ife t a b,σ=>((ev cl σ t).bind truth).bind fun k=>if k then aj cl M a σ else aj cl M b σ
 | .ifp i e a b,σ=>((σ[i]?).bind id).bind fun l=>match l with
  | .lst xs=>(xs[xs.length-1]?).bind fun d=>(ev cl (σ.set i (some (.lst xs.dropLast))) e).bind fun y=>match d,y with
   | .int p,.int q=>if decide (p=q)then aj cl M b (σ.set i (some (.lst xs.dropLast)))else aj cl M a (σ.set i (some (.lst xs.dropLast)))
   | _,_=>none
  | _=>none
 | .forr tg it b,σ=>(bp cl σ it).bind fun ds=>bo (aj cl M b) tg ds σ
 | .tie3 f r p w,σ=>((σ[r]?).bind id).bind fun R=>((σ[p]?).bind id).bind fun x=>((σ[w]?).bind id).bind fun l=>(x3 l).bind fun q=>if x.imm then(cl f [R,x,q.1]).bind (ER σ r w q.2)else none
 | .ret e,σ=>(ev cl σ e).bind fun d=>if bz M e d then some (.rt d,σ)else none
 | .exc e,σ=>(ev cl σ e).map fun _=>(.nx,σ)
 | .rais _ _,_=>none
 | .tryc b c i h,σ=>match aj cl M b σ with
  | some p=>some p
  | none=>(cn cl M b σ).bind fun q=>if cD q.1 c then(aj cl M h (q.2.set i (some (.exc q.1)))).map fun r=>(r.1,r.2.set i none)else none
noncomputable def aj(cl:Cl)(M:List Nat):Ss->St->Option (Out × St)
 | .nil,σ=>some (.nx,σ)
 | .cons s r,σ=>(evS cl M s σ).bind fun p=>match p.1 with
  | .nx=>aj cl M r p.2
  | .rt d=>some (.rt d,p.2)
noncomputable def ju(cl:Cl)(M:List Nat):S->St->Option (Str × St)
 | .asg _ e,σ=>(evX cl σ e).map fun x=>(x,σ)
 | .own _ e,σ=>(evX cl σ e).map fun x=>(x,σ)
 | .unp _ e,σ=>(evX cl σ e).map fun x=>(x,σ)
 | .exc e,σ=>(evX cl σ e).map fun x=>(x,σ)
 | .ret e,σ=>(evX cl σ e).map fun x=>(x,σ)
 | .ife t a b,σ=>((ev cl σ t).bind truth).bind fun k=>if k then cn cl M a σ else cn cl M b σ
 | .forr tg it b,σ=>(bp cl σ it).bind fun ds=>hG (aj cl M b) (cn cl M b) tg ds σ
 | .rais c ps,σ=>(evs cl σ ps).bind fun ds=>if ds.all written then some (c,σ)else none
 | _,_=>none
noncomputable def cn(cl:Cl)(M:List Nat):Ss->St->Option (Str × St)
 | .nil,_=>none
 | .cons s r,σ=>match evS cl M s σ with
  | some p=>match p.1 with
   | .nx=>cn cl M r p.2
   | .rt _=>none
  | none=>ju cl M s σ
end
structure Fn where
 ps:Nat
 nn:Nat
 M:List Nat
 mp:List Nat
 body:Ss
abbrev gS(σ:St):List Nat->Option (List D)
 | []=>some []
 | i::is=>((σ[i]?).bind id).bind fun d=>(gS σ is).map (d :: ·)
abbrev bg(fn:Fn)(d:D)(σ:St):Option D :=
 if fn.mp.isEmpty then some d else if d.imm then(gS σ fn.mp).map fun os=>.tup (d::os)else none
abbrev ar(T:List Fn):Nat->Cl
 | 0,_,_=>none
 | n+1,f,ds=>match T[f]? with
  | some fn=>if ds.length=fn.ps then(aj (ar T n) fn.M fn.body (ds.map some++List.replicate (fn.nn-fn.ps) none)).bind fun p=>match p.1 with
   | .nx=>bg fn .non p.2
   | .rt d=>bg fn d p.2
   else none
  | none=>(T[f-1000]?).bind fun fn=>if ds.length=fn.ps/\fn.mp=[]then(cn (ar T n) fn.M fn.body (ds.map some++List.replicate (fn.nn-fn.ps) none)).map fun p=>.str p.1 else none
end RL
namespace RT
open RL
abbrev iu:Fn :=
 ⟨1,1,[],[],(.cons (.ret (.and (.isi (.var 0) .int) (.not (.isi (.var 0) .bool)))) .nil)⟩
abbrev dF(f_is_number:Nat):Fn :=
 ⟨1,1,[],[],(.cons (.ret (.and (.call f_is_number (.cons (.var 0) .nil)) (.chain .le .le (.cst (.int 1)) (.var 0) (.glb "MOST_PEGS" 10)))) .nil)⟩
abbrev oN:Fn :=
 ⟨3,3,[0,0],[0],(.cons (.put 0 (.var 1) (.var 2)) (.cons (.put 0 (.var 2) (.var 1)) .nil))⟩
abbrev hJ:Fn :=
 ⟨1,1,[],[],(.cons (.ret (.bin .fdiv (.bi .len (.var 0)) (.cst (.int 2)))) .nil)⟩
abbrev jH:Fn :=
 ⟨1,3,[],[],(.cons (.asg 1 (.bin .mod (.bin .add (.bin .mul (.var 0) (.cst (.int 48271))) (.cst (.int 11))) (.cst (.int 2147483647)))) (.cons (.asg 2 (.bin .mod (.bin .add (.bin .add (.bin .mul (.var 1) (.var 1)) (.bin .mul (.cst (.int 40692)) (.var 1))) (.var 0)) (.cst (.int 2147483399)))) (.cons (.ret (.bin .mod (.bin .add (.bin .add (.bin .mul (.var 2) (.var 2)) (.bin .mul (.cst (.int 69621)) (.var 2))) (.var 1)) (.cst (.int 2147483563)))) .nil)))⟩
abbrev js(f_law_mix:Nat):Ss :=
 (.cons (.asg 3 (.bin .add (.bin .mul (.var 3) (.cst (.int 2147483563))) (.call f_law_mix (.cons (.bin .add (.bin .add (.var 2) (.bin .mul (.cst (.int 1009)) (.var 1))) (.bin .mul (.cst (.int 7919)) (.var 4))) .nil)))) .nil)
abbrev j8(f_law_mix:Nat):Fn :=
 ⟨2,5,[],[],(.cons (.asg 2 (.bin .add (.bin .mul (.cst (.int 7)) (.var 1)) (.cst (.int 3)))) (.cons (.ife (.cmp .gt (.bi .len (.var 0)) (.cst (.int 0))) (.cons (.asg 2 (.bin .add (.ix (.var 0) (.bin .mod (.var 1) (.bi .len (.var 0)))) (.bin .mul (.cst (.int 9973)) (.bin .fdiv (.var 1) (.bi .len (.var 0)))))) .nil) .nil) (.cons (.ife (.and (.cmp .lt (.var 1) (.bi .len (.var 0))) (.cmp .ge (.var 2) (.bin .pow (.cst (.int 10)) (.cst (.int 18))))) (.cons (.ret (.bin .sub (.var 2) (.bin .pow (.cst (.int 10)) (.cst (.int 18))))) .nil) .nil) (.cons (.asg 3 (.cst (.int 0))) (.cons (.forr [4] (.rng1 (.cst (.int 40))) (js f_law_mix)) (.cons (.ret (.var 3)) .nil))))))⟩
abbrev fR(f_law_raw:Nat):Ss :=
 (.cons (.app 4 (.bin .mod (.var 3) (.var 5))) (.cons (.asg 3 (.bin .fdiv (.var 3) (.var 5))) .nil))
abbrev eW(f_law_raw:Nat):Fn :=
 ⟨3,6,[4],[],(.cons (.asg 3 (.call f_law_raw (.cons (.var 0) (.cons (.var 1) .nil)))) (.cons (.own 4 (.lst .nil)) (.cons (.forr [5] (.seq (.var 2)) (fR f_law_raw)) (.cons (.ret (.var 4)) .nil))))⟩
abbrev gB(f_names_back:Nat):Fn :=
 ⟨1,2,[],[],(.cons (.ret (.and (.isi (.var 0) .tuple) (.bi .all (.compA (.call f_names_back (.cons (.var 0) (.cons (.var 1) .nil))) [1] (.rng1 (.bi .len (.var 0))))))) .nil)⟩
abbrev gW(f_is_number:Nat):Fn :=
 ⟨2,3,[],[],(.cons (.asg 2 (.ix (.var 0) (.var 1))) (.cons (.ret (.and (.call f_is_number (.cons (.var 2) .nil)) (.and (.chain .le .lt (.cst (.int 0)) (.var 2) (.bi .len (.var 0))) (.cmp .eq (.ix (.var 0) (.var 2)) (.var 1))))) .nil))⟩
abbrev bG:Ss :=
 (.cons (.ife (.cmp .gt (.var 3) (.var 2)) (.cons (.app 1 (.var 2)) .nil) (.cons (.ife (.cmp .eq (.var 3) (.var 2)) (.cons (.ife (.var 1) (.cons (.ret (.cst (.bl false))) .nil) .nil) .nil) (.cons (.ifp 1 (.var 3) (.cons (.ret (.cst (.bl false))) .nil) .nil) .nil)) .nil)) .nil)
abbrev fw:Fn :=
 ⟨1,4,[1],[],(.cons (.own 1 (.lst .nil)) (.cons (.forr [2,3] (.enm (.var 0)) (bG)) (.cons (.ret (.cst (.bl true))) .nil)))⟩
abbrev fX(f_is_uncrossed f_in_round f_is_pairing f_is_peg_count f_pegs_of:Nat):Fn :=
 ⟨1,5,[],[],(.cons (.asg 1 (.call f_pegs_of (.cons (.var 0) .nil))) (.cons (.ife (.or (.cmp .ne (.bi .len (.var 0)) (.bin .mul (.cst (.int 2)) (.var 1))) (.or (.not (.call f_is_peg_count (.cons (.var 1) .nil))) (.not (.call f_is_pairing (.cons (.var 0) .nil))))) (.cons (.ret (.cst (.bl false))) .nil) .nil) (.cons (.asg 2 (.comp (.var 3) [3,4] (.enm (.var 0)) (.cmp .eq (.var 3) (.var 4)))) (.cons (.ret (.and (.not (.var 2)) (.call f_is_uncrossed (.cons (.call f_in_round (.cons (.var 0) .nil)) .nil)))) .nil))))⟩
abbrev dZ(f_is_frame:Nat):Fn :=
 ⟨1,1,[],[],(.cons (.ife (.not (.call f_is_frame (.cons (.var 0) .nil))) (.cons (.rais "BadFrame" .nil) .nil) .nil) .nil)⟩
abbrev cZ:Fn :=
 ⟨2,2,[],[],(.cons (.ret (.ifx (.cmp .lt (.var 1) (.var 0)) (.var 1) (.bin .sub (.bin .sub (.bin .mul (.cst (.int 3)) (.var 0)) (.cst (.int 1))) (.var 1)))) .nil)⟩
abbrev eK(f_moved f_round_place f_pegs_of:Nat):Fn :=
 ⟨1,3,[],[],(.cons (.asg 1 (.call f_pegs_of (.cons (.var 0) .nil))) (.cons (.ret (.call f_moved (.cons (.var 0) (.cons (.compA (.call f_round_place (.cons (.var 1) (.cons (.var 2) .nil))) [2] (.rng1 (.bin .mul (.cst (.int 2)) (.var 1)))) .nil)))) .nil))⟩
abbrev kY:Ss :=
 (.cons (.put 2 (.ix (.var 1) (.var 3)) (.ix (.var 1) (.var 4))) .nil)
abbrev i9:Fn :=
 ⟨2,5,[2],[],(.cons (.own 2 (.bin .mul (.lst (.cons (.cst (.int 0)) .nil)) (.bi .len (.var 0)))) (.cons (.forr [3,4] (.enm (.var 0)) (kY)) (.cons (.ret (.bi .tuple (.var 2))) .nil)))⟩
abbrev dX:Fn :=
 ⟨1,2,[],[],(.cons (.ret (.bi .tuple (.bin .add (.compA (.bin .add (.var 0) (.var 1)) [1] (.rng1 (.var 0))) (.rng1 (.var 0))))) .nil)⟩
abbrev k8(f_law_plain:Nat):Ss :=
 (.cons (.put 2 (.var 3) (.bin .add (.var 3) (.cst (.int 1)))) (.cons (.put 2 (.bin .add (.var 3) (.cst (.int 1))) (.var 3)) .nil))
abbrev fY(f_law_plain:Nat):Fn :=
 ⟨2,4,[2],[],(.cons (.own 2 (.bi .list (.call f_law_plain (.cons (.var 0) .nil)))) (.cons (.forr [3] (.seq (.tup (.cons (.var 1) (.cons (.bin .add (.var 0) (.var 1)) .nil)))) (k8 f_law_plain)) (.cons (.ret (.bi .tuple (.var 2))) .nil)))⟩
abbrev eU:Fn :=
 ⟨1,1,[],[],(.cons (.ret (.bin .add (.rng1 (.var 0)) (.rng3 (-1) (.bin .sub (.bin .mul (.cst (.int 2)) (.var 0)) (.cst (.int 1))) (.bin .sub (.var 0) (.cst (.int 1)))))) .nil)⟩
abbrev cV(f_law_circle:Nat):Ss :=
 (.cons (.ife (.cmp .eq (.var 6) (.cst (.str "("))) (.cons (.app 4 (.ix (.var 2) (.var 5))) .nil) (.cons (.pop 4 8) (.cons (.put 3 (.var 8) (.ix (.var 2) (.var 5))) (.cons (.put 3 (.ix (.var 2) (.var 5)) (.var 8)) .nil)))) .nil)
abbrev c9(f_law_circle:Nat):Fn :=
 ⟨1,9,[3,4],[],(.cons (.asg 1 (.bin .fdiv (.bi .len (.var 0)) (.cst (.int 2)))) (.cons (.asg 2 (.call f_law_circle (.cons (.var 1) .nil))) (.cons (.own 3 (.compA (.cst (.int 0)) [7] (.seq (.var 2)))) (.cons (.own 4 (.lst .nil)) (.cons (.forr [5,6] (.enm (.var 0)) (cV f_law_circle)) (.cons (.ret (.bi .tuple (.var 3))) .nil))))))⟩
abbrev f7:Ss :=
 (.cons (.par 0 6 (.bin .fdiv (.var 0) (.cst (.int 2))) (.bin .mod (.var 0) (.cst (.int 2)))) (.cons (.asg 5 (.or (.cmp .eq (.var 3) (.cst (.int 0))) (.and (.cmp .lt (.var 3) (.var 4)) (.cmp .eq (.var 6) (.cst (.int 1)))))) (.cons (.asg 2 (.bin .add (.var 2) (.ix (.lst (.cons (.cst (.str ")")) (.cons (.cst (.str "(")) .nil))) (.bi .int (.var 5))))) (.cons (.asg 3 (.bin .add (.var 3) (.ix (.lst (.cons (.neg (.cst (.int 1))) (.cons (.cst (.int 1)) .nil))) (.bi .int (.var 5))))) .nil))))
abbrev iV:Fn :=
 ⟨2,7,[],[],(.cons (.asg 2 (.cst (.str ""))) (.cons (.asg 3 (.cst (.int 0))) (.cons (.forr [4] (.rng3 (-1) (.bin .mul (.cst (.int 2)) (.var 1)) (.cst (.int 0))) (f7)) (.cons (.ret (.var 2)) .nil))))⟩
abbrev c7:Ss :=
 (.cons (.ife (.cmp .eq (.ixD (.var 4) (.var 7)) (.var 9)) (.cons (.put 4 (.var 7) (.var 8)) .nil) .nil) .nil)
abbrev d5:Ss :=
 (.cons (.par 8 9 (.ixD (.var 4) (.var 5)) (.ixD (.var 4) (.var 6))) (.cons (.forr [7] (.seq (.var 2)) (c7)) .nil))
abbrev eQ:Ss :=
 (.cons (.forr [6] (.seq (.tup (.cons (.ix (.var 1) (.var 5)) (.cons (.bin .sub (.ix (.var 0) (.bin .add (.var 3) (.var 5))) (.var 3)) .nil)))) (d5)) .nil)
abbrev eN:Ss :=
 (.cons (.put 4 (.var 5) (.var 5)) .nil)
abbrev dN:Fn :=
 ⟨3,10,[4],[],(.cons (.asg 3 (.bin .fdiv (.bi .len (.var 0)) (.cst (.int 2)))) (.cons (.own 4 .dk0) (.cons (.forr [5] (.seq (.var 2)) (eN)) (.cons (.forr [5] (.seq (.var 2)) (eQ)) (.cons (.ret (.bi .lenSet (.compA (.ixD (.var 4) (.var 5)) [5] (.seq (.var 2))))) .nil)))))⟩
abbrev dh(f_law_rings_by:Nat):Ss :=
 (.cons (.ife (.cmp .eq (.cmp .eq (.ix (.var 7) (.cst (.int 0))) (.cst (.str "high"))) (.cmp .ge (.ix (.var 7) (.cst (.int 1))) (.var 2))) (.cons (.put 6 (.bin .mod (.ix (.var 7) (.cst (.int 1))) (.var 2)) (.cst (.bl true))) (.cons (.asg 7 (.ixD (.var 3) (.tup (.cons (.ix (.lst (.cons (.cst (.str "high")) (.cons (.cst (.str "low")) .nil))) (.bi .int (.cmp .eq (.ix (.var 7) (.cst (.int 0))) (.cst (.str "high"))))) (.cons (.bin .mod (.bin .add (.ix (.var 7) (.cst (.int 1))) (.var 2)) (.bin .mul (.cst (.int 2)) (.var 2))) .nil))))) .nil)) .nil) .nil)
abbrev fC(f_law_rings_by:Nat):Ss :=
 (.cons (.asg 7 (.ixD (.var 3) (.tup (.cons (.ix (.lst (.cons (.cst (.str "high")) (.cons (.cst (.str "low")) .nil))) (.bi .int (.cmp .ge (.var 4) (.var 2)))) (.cons (.var 4) .nil))))) (.cons (.forr [8] (.rng1 (.bin .mul (.cst (.int 4)) (.var 2))) (dh f_law_rings_by)) (.cons (.app 5 (.ix (.var 7) (.cst (.int 1)))) .nil)))
abbrev fG(f_law_rings_by:Nat):Ss :=
 (.cons (.put 3 (.tup (.cons (.cst (.str "high")) (.cons (.var 4) .nil))) (.tup (.cons (.cst (.str "high")) (.cons (.ix (.var 0) (.var 4)) .nil)))) (.cons (.put 3 (.tup (.cons (.cst (.str "low")) (.cons (.var 4) .nil))) (.tup (.cons (.cst (.str "low")) (.cons (.ix (.var 1) (.var 4)) .nil)))) .nil))
abbrev eT(f_law_rings_by:Nat):Fn :=
 ⟨2,9,[3,5,6],[],(.cons (.asg 2 (.bin .fdiv (.bi .len (.var 0)) (.cst (.int 2)))) (.cons (.own 3 .dt0) (.cons (.forr [4] (.rng1 (.bin .mul (.cst (.int 2)) (.var 2))) (fG f_law_rings_by)) (.cons (.own 5 (.lst .nil)) (.cons (.own 6 .dk0) (.cons (.forr [4] (.rng1 (.bin .mul (.cst (.int 2)) (.var 2))) (fC f_law_rings_by)) (.cons (.ret (.tup (.cons (.bi .tuple (.var 5)) (.cons (.call f_law_rings_by (.cons (.var 0) (.cons (.var 1) (.cons (.comp (.var 4) [4] (.rng1 (.var 2)) (.inD true (.var 4) (.var 6))) .nil)))) .nil)))) .nil)))))))⟩
abbrev gh:Fn :=
 ⟨1,3,[],[],(.cons (.asg 1 (.bin .fdiv (.bi .len (.var 0)) (.cst (.int 2)))) (.cons (.ret (.bi .tuple (.compA (.bin .mod (.bin .add (.ix (.var 0) (.bin .mod (.bin .add (.var 2) (.var 1)) (.bin .mul (.cst (.int 2)) (.var 1)))) (.var 1)) (.bin .mul (.cst (.int 2)) (.var 1))) [2] (.rng1 (.bin .mul (.cst (.int 2)) (.var 1)))))) .nil))⟩
abbrev ij(f_law_hung f_law_over f_law_from_text f_law_text f_law_hook f_law_plain f_law_digits:Nat):Fn :=
 ⟨3,7,[],[],(.cons (.unp [4,5,6] (.call f_law_digits (.cons (.var 0) (.cons (.var 1) (.cons (.lst (.cons (.cst (.int 8)) (.cons (.bin .pow (.cst (.int 10)) (.cst (.int 12))) (.cons (.max (.cst (.int 1)) (.bin .sub (.var 2) (.cst (.int 1)))) .nil)))) .nil))))) (.cons (.ife (.cmp .eq (.var 4) (.cst (.int 0))) (.cons (.ret (.call f_law_plain (.cons (.var 2) .nil))) .nil) .nil) (.cons (.ife (.and (.cmp .eq (.var 4) (.cst (.int 1))) (.cmp .gt (.var 2) (.cst (.int 1)))) (.cons (.ret (.call f_law_hook (.cons (.var 2) (.cons (.var 6) .nil)))) .nil) .nil) (.cons (.asg 3 (.call f_law_from_text (.cons (.call f_law_text (.cons (.var 5) (.cons (.var 2) .nil))) .nil))) (.cons (.ife (.cmp .eq (.var 4) (.cst (.int 2))) (.cons (.ret (.ix (.call f_law_hung (.cons (.var 3) (.cons (.call f_law_over (.cons (.var 3) .nil)) .nil))) (.cst (.int 0)))) .nil) .nil) (.cons (.ret (.var 3)) .nil))))))⟩
abbrev cy(f_law_same:Nat):Fn :=
 ⟨2,4,[],[],(.cons (.ife (.isN false (.var 1)) (.cons (.ret (.isN false (.var 0))) .nil) .nil) (.cons (.ife (.or (.cmp .ne (.isi (.var 0) .bool) (.isi (.var 1) .bool)) (.cmp .ne (.isi (.var 0) .int) (.isi (.var 1) .int))) (.cons (.ret (.cst (.bl false))) .nil) .nil) (.cons (.ife (.or (.cmp .ne (.isi (.var 0) .list) (.isi (.var 1) .list)) (.cmp .ne (.isi (.var 0) .tuple) (.isi (.var 1) .tuple))) (.cons (.ret (.cst (.bl false))) .nil) .nil) (.cons (.ife (.and (.not (.isi (.var 1) .list)) (.not (.isi (.var 1) .tuple))) (.cons (.ret (.and (.cmp .eq (.isi (.var 0) .str) (.isi (.var 1) .str)) (.cmp .eq (.var 0) (.var 1)))) .nil) .nil) (.cons (.ret (.and (.cmp .eq (.bi .len (.var 0)) (.bi .len (.var 1))) (.bi .all (.compA (.call f_law_same (.cons (.var 2) (.cons (.var 3) .nil))) [2,3] (.zip (.var 0) (.var 1)))))) .nil)))))⟩
end RT
namespace M
abbrev hg(l r:Nat)(g:Nat->Nat):Nat->Nat:=fun x=>if g l=r then g x else if x=r then l else if x=l then r else if x=g r then g l else if x=g l then g r else g x
section
def C7(e:g l=r):hg l r g=g:=by funext x;unfold hg;rw[if_pos e]
def D9(hlr:l≠r)(h:∀ x,g (g x)=x)(n1:g l≠l)(n2:g r≠r)(x:Nat):hg l r g (hg l r g x)=x:=by
 by_cases e:g l=r
 ·rw[C7 e];exact h x
 ·have k:∀ y,hg l r g y=if y=r then l else if y=l then r else if y=g r then g l else if y=g l then g r else g y:=fun y=>by unfold hg;rw[if_neg e]
  rw[k x,k];grind
def xQ(hlr:l≠r)(h:∀ x,g (g x)=x)(n1:g l≠l)(n2:g r≠r)(nx:g x≠x):hg l r g x≠x:=by
 unfold hg;grind
end
end M
namespace RL
abbrev evF(cl:Cl)(fn:Fn)(ds:List D):Option D:=if ds.length=fn.ps then(aj cl fn.M fn.body (ds.map some++List.replicate (fn.nn-fn.ps) none)).bind fun p=>match p.1 with
  | .nx=>bg fn .non p.2
  | .rt d=>bg fn d p.2
  else none
def aw(h:T[f]?=some fn):ar T (n+1) f ds=evF (ar T n) fn ds:=by
 rw[ar,h];rfl
abbrev L(xs:List Nat):List D:=xs.map fun(i:Nat)=>.int (i:Int)
def sq(I:List D->St->Prop):∀ (ds done:List D) (σ:St),(∀ pre d post σ,done++ds=pre++d::post->I pre σ->d.imm=true/\∃ σ2,(aF tg d σ).bind f=some (.nx,σ2)/\I (pre++[d]) σ2)->I done σ->∃ σ',bo f tg ds σ=some (.nx,σ')/\I (done++ds) σ'
 | [],done,σ,_,h=>⟨σ,rfl,by simpa using h⟩
 | d::ds,done,σ,hs,h=>by
  obtain⟨im,σ2,h1,h3⟩:=hs done d ds σ rfl h;obtain⟨σ',h4,h5⟩:=sq I ds (done++[d]) σ2 (fun pre e post σ he=>hs pre e post σ (by simpa using he)) h3;refine⟨σ',?_,by simpa using h5⟩;rw[bo,if_pos im]
  cases hb:aF tg d σ with
  | none=>rw[hb]at h1;cases h1
  |some σ1=>
   rw[hb]at h1;simp only[Option.bind_some]at h1 ⊢;rw[h1];exact h4
def zT(I:List D->St->Prop)(h0:I [] σ)(hs:∀ pre d post σ,ds=pre++d::post->I pre σ->d.imm=true/\∃ σ2,(aF tg d σ).bind f=some (.nx,σ2)/\I (pre++[d]) σ2):∃ σ',bo f tg ds σ=some (.nx,σ')/\I ds σ' :=
 sq I ds [] σ (by simpa using hs) h0
@[simp] theorem tf_lst:aS (.lst a)=true:=rfl
@[simp] theorem tf_tup:aS (.tup a)=true:=rfl
@[simp] theorem tf_comp:aS (.comp a b c d)=true:=rfl
@[simp] theorem tf_compA:aS (.compA a b c)=true:=rfl
@[simp] theorem tf_bin:aS (.bin a b c)=true:=rfl
@[simp] theorem tf_slT:aS (.slT a b)=true:=rfl
@[simp] theorem tf_call:aS (.call a b)=true:=rfl
@[simp] theorem tf_bi:aS (.bi a b)=true:=rfl
@[simp] theorem tf_rng1:aS (.rng1 a)=true:=rfl
@[simp] theorem tf_rng3:aS (.rng3 a b c)=true:=rfl
@[simp] theorem tf_dk0:aS .dk0=true:=rfl
@[simp] theorem tf_dt0:aS .dt0=true:=rfl
end RL
namespace RM
open RL RT
section basics
def et:bw .lt (.int a) (.int b)=some (decide (a<b)):=rfl
def mD:bw .le (.int a) (.int b)=some (decide (a<=b)):=rfl
def mP:bw .gt (.int a) (.int b)=some (decide (b<a)):=rfl
def zf:bw .ge (.int a) (.int b)=some (decide (b<=a)):=rfl
def dQ:bw .eq (.int a) (.int b)=some (a == b):=rfl
def FP:bw .ne (.int a) (.int b)=some (!(a == b)):=rfl
def bW:aB .add (.int a) (.int b)=some (.int (a+b)):=rfl
def lW:aB .sub (.int a) (.int b)=some (.int (a-b)):=rfl
def fA(h:0<b):aB .mod (.int a) (.int b)=some (.int (a%b)):=by dsimp only[aB];rw[if_pos h]
def ka(h:0<b)(h':b<2 ^ 200):aB .fdiv (.int a) (.int b)=some (.int (a / b)):=by dsimp only[aB];rw[if_pos ⟨h,h'⟩]
def bR(h1:-(2 ^ 64)<a)(h2:a<2 ^ 64):aB .mul (.int a) (.int b)=some (.int (a*b)):=by dsimp only[aB];rw[if_pos (.inl ⟨h1,h2⟩)]
def vz(h1:-(2 ^ 64)<b)(h2:b<2 ^ 64):aB .mul (.int a) (.int b)=some (.int (a*b)):=by dsimp only[aB];rw[if_pos (.inr ⟨h1,h2⟩)]
def GN(k:Bool):truth (.bl k)=some k:=rfl
end basics
def AJ(h:L xs=pre++d::post):∃ p x q,xs=p++x::q/\pre=L p/\d=.int (x:Nat)/\post=L q:=by
 unfold L at h;obtain⟨p,r,rfl,h1,h2⟩:=List.map_eq_append_iff.mp h;obtain⟨x,q,rfl,h3,h4⟩:=List.map_eq_cons_iff.mp h2;exact⟨p,x,q,rfl,h1.symm,h3.symm,h4.symm⟩
def tj:∀ {a b:List Nat},L a=L b->a=b
 | [],[],_=>rfl
 | [],_::_,h=>by simp[L]at h
 | _::_,[],h=>by simp[L]at h
 | x::a,y::b,h=>by
  unfold L at h;rw[List.map_cons,List.map_cons,List.cons.injEq]at h
  have h1:(x:Int)=y:=by injection h.1
  rw[tj (a:=a) (b:=b) h.2,Int.ofNat_inj.mp h1]
def cH(I:List Nat->St->Prop)(h0:I [] σ)(hs:∀ p x q σ,xs=p++x::q->I p σ->∃ σ2,(aF tg (.int (x:Nat)) σ).bind f=some (.nx,σ2)/\I (p++[x]) σ2):∃ σ',bo f tg (L xs) σ=some (.nx,σ')/\I xs σ':=by
 obtain⟨σ',e,p,hp,hi⟩:=zT (f:=f) (tg:=tg) (ds:=L xs) (σ:=σ) (fun pre σ=>∃ p,pre=L p/\I p σ) ⟨[],rfl,h0⟩ (by
  rintro pre d post σ hd ⟨p',hp',hi⟩;obtain⟨p,x,q,rfl,rfl,rfl,rfl⟩:=AJ hd;have:=tj hp';subst this;obtain⟨σ2,h1,h2⟩:=hs p x q σ rfl hi
  exact⟨rfl,σ2,h1,p++[x],by simp[L],h2⟩)
 have:=tj hp;subst this;exact⟨σ',e,hi⟩
def bJ(xs:List Nat):(L xs).length=xs.length:=by simp[L]
def zm(xs:List Nat)(i:Nat):(L xs)[i]?=(xs[i]?).map fun(i:Nat)=>.int (i:Int):=by simp[L]
def zO(xs:List Nat)(i j:Nat):(L xs).set i (.int j)=L (xs.set i j):=by simp[L,List.map_set]
def bX:∀ xs:List Nat,ax (L xs)=true
 | []=>rfl
 | x::xs=>by
  show((D.int x).imm&&ax (L xs))=true;rw[bX xs];rfl
def gD(xs ys:List Nat):L (xs++ys)=L xs++L ys:=by simp[L]
def gz(xs:List α)(i:Nat):cQ xs (i:Int)=xs[i]?:=by
 unfold cQ;rw[if_pos (Int.natCast_nonneg i)];rfl
def xJ(h:i<n):m7 n (i:Int)=some i:=by
 unfold m7;rw[if_pos (Int.natCast_nonneg i),if_pos (by lia)];rfl
def kD(a:Nat):∀ n:Nat,cw (a:Int) n=L (List.range' a n)
 | 0=>rfl
 | n+1=>by
  rw[cw,List.range'_succ];have:=kD (a+1) n;rw[show((a+1:Nat):Int)=(a:Int)+1 by lia]at this;rw[this];rfl
def nK{a b:Nat}(h1:a<=1000)(h2:b<=1000):fE (.int a) (.int b)=some (L (List.range' a (b-a))):=by
 dsimp only[fE]
 have:((b:Int)-a).toNat=b-a:=by lia
 rw[if_pos ⟨by unfold most;lia,by lia,by lia,by lia,by lia⟩,this,kD]
section
def oj(i:Int):evF cl iu [.int i]=some (.bl true):=rfl
def kE(h:∀ i:Int,cl f [.int i]=some (.bl true))(i:Int):evF cl (dF f) [.int i]=some (.bl (decide (1<=i/\i<=10))):=by
 simp[evF,dF,aj,evS,ev,evs,h,bw,bz,D.imm,bg];by_cases h1:1<=i<;>simp[h1,bz,D.imm,bg]
def Bl(xs:List Nat)(hi:i<xs.length)(hj:j<xs.length):evF cl oN [.lst (L xs),.int i,.int j]=some (.tup [.non,.lst (L ((xs.set i j).set j i))]):=by
 simp[evF,oN,aj,evS,ev,evs,dD,m7,hi,hj,D.imm,bg,gS,bJ,zO]
def rK(xs:List D):evF cl hJ [.lst xs]=some (.int (xs.length / 2)):=rfl
def qL(xs:List D):evF cl hJ [.tup xs]=some (.int (xs.length / 2)):=rfl
abbrev br(n:Nat):List Nat:=List.range' n n++List.range' 0 n
abbrev at'(f:List Nat)(x:Nat):Nat:=(f[x]?).getD x
abbrev iL(f:List Nat)(l:Nat):List Nat:=if at' f l=l+1 then f else(((f.set (at' f l) (at' f (l+1))).set (at' f (l+1)) (at' f l)).set l (l+1)).set (l+1) l
structure Frm(n:Nat)(f:List Nat):Prop where
 len:f.length=2*n
 lt:∀ x,x<2*n->at' f x<2*n
 inv:∀ x,at' f (at' f x)=x
 no:∀ x,x<2*n->at' f x≠x
def iC(h:x<f.length):f[x]?=some (at' f x):=by simp[at',h]
def jF(h:f.length<=x):at' f x=x:=by simp[at',h]
def cI(h:i<f.length):at' (f.set i j) x=if x=i then j else at' f x:=by
 unfold at';rw[List.getElem?_set];by_cases e:i=x
 ·subst e;simp[h]
 ·simp[e,Ne.symm e]
def mw(F:Frm n f)(hl:l+1<2*n):at' (iL f l)=M.hg l (l+1) (at' f):=by
 funext x;unfold iL M.hg;have a1:=F.lt l (by lia);have a2:=F.lt (l+1) hl;have hlen:=F.len;by_cases e:at' f l=l+1
 ·rw[if_pos e,if_pos e]
 ·rw[if_neg e,if_neg e,cI (by simp;lia),cI (by simp;lia),cI (by simp;lia),cI (by lia)]
def yf:(iL f l).length=f.length:=by
 unfold iL;split
 ·rfl
 ·simp
def yX(F:Frm n f)(hl:l+1<2*n):Frm n (iL f l):=by
 have n1:=F.no l (by lia);have n2:=F.no (l+1) hl;refine⟨by rw[yf];exact F.len,fun x hx=>?_,fun x=>?_,fun x hx=>?_⟩
 ·rw[mw F hl];unfold M.hg;have a1:=F.lt l (by lia);have a2:=F.lt (l+1) hl;have a3:=F.lt x hx
  repeat' split
  all_goals lia
 ·rw[mw F hl];exact M.D9 (by lia) F.inv n1 n2 x
 ·rw[mw F hl];exact M.xQ (by lia) F.inv n1 n2 (F.no x hx)
def B2(F:f.length=2*n)(G:g.length=2*n)(h:at' f=at' g):f=g:=by
 apply List.ext_getElem?;intro i;by_cases hi:i<2*n
 ·rw[iC (by lia),iC (by lia),h]
 ·rw[List.getElem?_eq_none (by lia),List.getElem?_eq_none (by lia)]
end
section
def plain_at(n x:Nat):at' (br n) x=if x<n then n+x else if x<2*n then x-n else x:=by
 unfold at' br;by_cases h1:x<n
 ·rw[List.getElem?_append_left (by simpa using h1),if_pos h1];simp[h1]
 ·rw[List.getElem?_append_right (by simpa using h1),if_neg h1];by_cases h2:x<2*n
  ·rw[if_pos h2];simp[show x-n<n by lia]
  ·rw[if_neg h2];simp[show ¬ x-n<n by lia]
def jE(n:Nat):Frm n (br n):=by
 refine⟨by simp[br];lia,fun x hx=>?_,fun x=>?_,fun x hx=>?_⟩
 ·rw[plain_at];repeat' split
  all_goals lia
 ·rw[plain_at,plain_at];repeat' split
  all_goals lia
 ·rw[plain_at];repeat' split
  all_goals lia
end
end RM
namespace RL
section
def aR:aj cl M .nil σ=some (.nx,σ):=by rw[aj]
def cS(h:evS cl M s σ=some (.nx,σ'))(k:aj cl M r σ'=res):aj cl M (.cons s r) σ=res:=by
 rw[aj,h];exact k
def oK(h:evS cl M s σ=some (.rt d,σ')):aj cl M (.cons s r) σ=some (.rt d,σ'):=by
 rw[aj,h];rfl
def aI(h:ev cl σ e=some d)(ok:bN M e d=true)(k:aj cl M r (σ.set i (some d))=res):aj cl M (.cons (.asg i e) r) σ=res :=
 cS (by rw[evS,h];show(if bN M e d=true then _ else _)=_;rw[if_pos ok]) k
def gC(h:ev cl σ e=some d)(ok:(aV d&&aS e)=true)(k:aj cl M r (σ.set i (some d))=res):aj cl M (.cons (.own i e) r) σ=res :=
 cS (by rw[evS,h];show(if(aV d&&aS e)=true then _ else _)=_;rw[if_pos ok]) k
def DY(h:ev cl σ e=some d)(k:aj cl M r σ=res):aj cl M (.cons (.exc e) r) σ=res :=
 cS (by rw[evS,h];rfl) k
def aL(h:ev cl σ e=some d)(ok:bz M e d=true):aj cl M (.cons (.ret e) r) σ=some (.rt d,σ) :=
 oK (by rw[evS,h];show(if bz M e d=true then _ else _)=_;rw[if_pos ok])
def gJ(h:(ev cl σ t).bind truth=some true)(h1:aj cl M a σ=some (.nx,σ'))(k:aj cl M r σ'=res):aj cl M (.cons (.ife t a b) r) σ=res :=
 cS (by rw[evS,h];exact h1) k
def bD(h:(ev cl σ t).bind truth=some true)(h1:aj cl M a σ=some (.rt d,σ')):aj cl M (.cons (.ife t a b) r) σ=some (.rt d,σ') :=
 oK (by rw[evS,h];exact h1)
def i6(h:(ev cl σ t).bind truth=some false)(h1:aj cl M b σ=some (.nx,σ'))(k:aj cl M r σ'=res):aj cl M (.cons (.ife t a b) r) σ=res :=
 cS (by rw[evS,h];exact h1) k
def jO(h:(ev cl σ t).bind truth=some false)(h1:aj cl M b σ=some (.rt d,σ')):aj cl M (.cons (.ife t a b) r) σ=some (.rt d,σ') :=
 oK (by rw[evS,h];exact h1)
def aO(h:(ev cl σ t).bind truth=some false)(k:aj cl M r σ=res):aj cl M (.cons (.ife t a .nil) r) σ=res:=i6 h aR k
def xm(h:ev cl σ e=some d)(hd:items d=some ds)(im:ax ds=true)(hs:bV is ds σ=some σ')(k:aj cl M r σ'=res):aj cl M (.cons (.unp is e) r) σ=res :=
 cS (by rw[evS,h,Option.bind_some,hd];show(if ax ds=true then _ else _)=_;rw[if_pos im,hs];rfl) k
def uZ(h:ev cl σ e=some x)(h':ev cl σ e'=some y)(im:(x.imm&&y.imm)=true)(k:aj cl M r ((σ.set i (some x)).set j (some y))=res):aj cl M (.cons (.par i j e e') r) σ=res :=
 cS (by rw[evS,h,Option.bind_some,h'];show(if(x.imm&&y.imm)=true then _ else _)=_;rw[if_pos im]) k
def lL(h:ev cl σ e=some d)(hi:(σ[i]?).bind id=some (.lst xs))(im:d.imm=true)(hl:xs.length<most)(k:aj cl M r (σ.set i (some (.lst (xs++[d]))))=res):aj cl M (.cons (.app i e) r) σ=res :=
 cS (by rw[evS,h,Option.bind_some,hi];show(if(d.imm&&decide (xs.length<most))=true then _ else _)=_;rw[if_pos (by rw[im,decide_eq_true hl];rfl)]) k
def xg(h:ev cl σ e'=some x)(h':ev cl σ e=some kk)(hi:(σ[i]?).bind id=some l)(im:x.imm=true)(hp:dD l kk x=some l')(k:aj cl M r (σ.set i (some l'))=res):aj cl M (.cons (.put i e e') r) σ=res :=
 cS (by rw[evS,h,Option.bind_some,h',Option.bind_some,hi,Option.bind_some,if_pos im,hp];rfl) k
def vy(hi:(σ[i]?).bind id=some (.int x))(h:ev cl σ e=some (.int y))(hb:aB o (.int x) (.int y)=some (.int z))(k:aj cl M r (σ.set i (some (.int z)))=res):aj cl M (.cons (.aug i o e) r) σ=res :=
 cS (by rw[evS,hi,Option.bind_some,h];show Option.map _ (aB o (.int x) (.int y))=_;rw[hb];rfl) k
def EI(hi:(σ[i]?).bind id=some (.lst (xs++[d])))(k:aj cl M r ((σ.set i (some (.lst xs))).set j (some d))=res):aj cl M (.cons (.pop i j) r) σ=res :=
 cS (by rw[evS,hi];simp) k
def dW(h:bp cl σ it=some ds)(h1:bo (aj cl M b) tg ds σ=some (.nx,σ'))(k:aj cl M r σ'=res):aj cl M (.cons (.forr tg it b) r) σ=res :=
 cS (by rw[evS,h];exact h1) k
def lY(h:bp cl σ it=some ds)(h1:bo (aj cl M b) tg ds σ=some (.rt d,σ')):aj cl M (.cons (.forr tg it b) r) σ=some (.rt d,σ') :=
 oK (by rw[evS,h];exact h1)
def ae(h:(σ[i]?).bind id=some d):ev cl σ (.var i)=some d:=by rw[ev];exact h
def ai:ev cl σ (.cst d)=some d:=by rw[ev]
def x_call(h:evs cl σ es=some ds)(hc:cl f ds=some d):ev cl σ (.call f es)=some d:=by rw[ev,h];exact hc
def bF:evs cl σ .nil=some []:=by rw[evs]
def aQ(h:ev cl σ e=some d)(hr:evs cl σ es=some ds):evs cl σ (.cons e es)=some (d::ds):=by rw[evs,h,Option.bind_some,hr];rfl
def bT(h:ev cl σ e=some d)(hc:cl f [d]=some x):ev cl σ (.call f (.cons e .nil))=some x:=x_call (aQ h bF) hc
def iq(h:ev cl σ e=some d)(h':ev cl σ e'=some d')(hc:cl f [d,d']=some x):ev cl σ (.call f (.cons e (.cons e' .nil)))=some x:=x_call (aQ h (aQ h' bF)) hc
def qQ(h:ev cl σ e=some d)(h':ev cl σ e'=some d')(h'':ev cl σ e''=some d'')(hc:cl f [d,d',d'']=some x):ev cl σ (.call f (.cons e (.cons e' (.cons e'' .nil))))=some x:=x_call (aQ h (aQ h' (aQ h'' bF))) hc
def aA(h:ev cl σ e=some x)(h':ev cl σ e'=some y)(hb:aB o x y=some d):ev cl σ (.bin o e e')=some d:=by rw[ev,h,Option.bind_some,h'];exact hb
def az(h:ev cl σ e=some x)(h':ev cl σ e'=some y)(hb:bw o x y=some k):ev cl σ (.cmp o e e')=some (.bl k):=by rw[ev,h,Option.bind_some,h',Option.bind_some,hb];rfl
def eu(h:ev cl σ e=some x)(h':ev cl σ e'=some y)(hb:ixV x y=some d):ev cl σ (.ix e e')=some d:=by rw[ev,h,Option.bind_some,h'];exact hb
def bE(h:ev cl σ e=some x)(hb:biV o x=some d):ev cl σ (.bi o e)=some d:=by rw[ev,h];exact hb
def EK(h:ev cl σ e=some x)(h':ev cl σ e'=some y)(hb:tV x y=some d):ev cl σ (.slT e e')=some d:=by rw[ev,h,Option.bind_some,h'];exact hb
def uD(h:ev cl σ e=some x)(h':ev cl σ e'=some y)(hb:inV x y=some k):ev cl σ (.inn n e e')=some (.bl (if n then !k else k)):=by rw[ev,h,Option.bind_some,h',Option.bind_some,hb];rfl
def cG{t:Ty}(h:ev cl σ e=some x)(hb:fO t x=some k):ev cl σ (.isi e t)=some (.bl k):=by rw[ev,h,Option.bind_some,hb];rfl
def lE(h:ev cl σ e=some (.int k)):ev cl σ (.neg e)=some (.int (-k)):=by rw[ev,h];rfl
def F1(h:ev cl σ e=some (.int x))(h':ev cl σ e'=some (.int y)):ev cl σ (.max e e')=some (.int (if y > x then y else x)):=by rw[ev,h,Option.bind_some,h'];rfl
def mI(h:ev cl σ e=some x)(h':ev cl σ e'=some y)(h'':ev cl σ e''=some z)(b1:bw c x y=some true)(b2:bw c' y z=some k):ev cl σ (.chain c c' e e' e'')=some (.bl k):=by rw[ev,h,Option.bind_some,h',Option.bind_some,b1,Option.bind_some,if_pos rfl,h'',Option.bind_some,b2];rfl
def pD(h:ev cl σ e=some x)(h':ev cl σ e'=some y)(b1:bw c x y=some false):ev cl σ (.chain c c' e e' e'')=some (.bl false):=by rw[ev,h,Option.bind_some,h',Option.bind_some,b1];rfl
def cU(h:evs cl σ es=some ds):ev cl σ (.lst es)=some (.lst ds):=by rw[ev,h];rfl
def ug(h:evs cl σ es=some ds):ev cl σ (.tup es)=some (.tup ds):=by rw[ev,h];rfl
def cE(h:ev cl σ e=some (.bl true))(h':ev cl σ e'=some d):ev cl σ (.and e e')=some d:=by rw[ev,h];exact h'
def fJ(h:ev cl σ e=some (.bl false)):ev cl σ (.and e e')=some (.bl false):=by rw[ev,h];rfl
def qX(h:ev cl σ e=some (.bl false))(h':ev cl σ e'=some d):ev cl σ (.or e e')=some d:=by rw[ev,h];exact h'
def ES(h:ev cl σ e=some (.bl true)):ev cl σ (.or e e')=some (.bl true):=by rw[ev,h];rfl
def EV(h:(ev cl σ e).bind truth=some k):ev cl σ (.not e)=some (.bl (!k)):=by rw[ev,h];rfl
def cA(h:ev cl σ e=some (.bl k)):ev cl σ (.not e)=some (.bl (!k)):=EV (by rw[h];rfl)
def uf(h:(ev cl σ t).bind truth=some k)(h':ev cl σ (if k then e else e')=some d):ev cl σ (.ifx t e e')=some d:=by
 rw[ev,h];cases k<;>exact h'
def aE(h:ev cl σ e=some (.bl k)):(ev cl σ e).bind truth=some k:=by rw[h];rfl
def iD(h:bp cl σ it=some ds)(hf:ds.length<=most)(hm:cJ (fun σ1=>(ev cl σ1 e).map some) tg σ ds=some ys):ev cl σ (.compA e tg it)=some (.lst ys):=by
 rw[ev,h,Option.bind_some,fits,if_pos hf,Option.bind_some,hm];rfl
def lK(h:ev cl σ e=some x)(hr:fE (.int 0) x=some ds):bp cl σ (.rng1 e)=some ds:=by rw[bp,h];exact hr
def DN(h:ev cl σ e=some x)(h':ev cl σ e'=some y)(hr:gg c x y=some ds):bp cl σ (.rng3 c e e')=some ds:=by rw[bp,h,Option.bind_some,h'];exact hr
def uy(h:ev cl σ e=some x)(hr:items x=some ds):bp cl σ (.seq e)=some ds:=by rw[bp,h];exact hr
def EU(h:ev cl σ e=some x)(h':ev cl σ e'=some y)(hx:items x=some xs)(hy:items y=some ys)(hl:xs.length=ys.length):bp cl σ (.zip e e')=some (eL xs ys):=by rw[bp,h,Option.bind_some,h',Option.bind_some,hx,Option.bind_some,hy,Option.bind_some,if_pos hl]
def EJ(hk:(match x with | .non=>some (D.bl (!n)) | .dK _ _=>none | .dT _ _=>none | _=>some (.bl n))=some (D.bl k))(h:ev cl σ e=some x):ev cl σ (.isN n e)=some (.bl k):=by rw[ev,h];exact hk
def l9(h:ev cl σ e=some x)(hr:d6 x=some ds):bp cl σ (.enm e)=some (cT 0 ds):=by rw[bp,h,Option.bind_some,hr];rfl
end
def aU(hl:ds.length=fn.ps)(hm:fn.mp=[])(h:aj cl fn.M fn.body (ds.map some++List.replicate (fn.nn-fn.ps) none)=some (.rt d,σ')):evF cl fn ds=some d:=by
 unfold evF;rw[if_pos hl,h];show bg fn d σ'=_;unfold bg;rw[hm];rfl
end RL
namespace RM
open RL RT
abbrev LI(xs:List Int):List D:=xs.map D.int
def uO(xs:List Int):(LI xs).length=xs.length:=by simp[LI]
def wI:∀ xs:List Int,ax (LI xs)=true
 | []=>rfl
 | x::xs=>by
  show((D.int x).imm&&ax (LI xs))=true;rw[wI xs];rfl
section
def mod_lt{a b:Int}(h:0<b):0<=a%b/\a%b<b:=⟨Int.emod_nonneg _ (by lia),Int.emod_lt_of_pos _ h⟩
def Ab(s:Int):∃ m:Int,evF cl jH [.int s]=some (.int m):=by
 have a1:=mod_lt (a:=s*48271+11) (b:=2147483647) (by decide);generalize h1:(s*48271+11)%2147483647=one at a1;have a2:=mod_lt (a:=one*one+40692*one+s) (b:=2147483399) (by decide);generalize h2:(one*one+40692*one+s)%2147483399=two at a2
 exact⟨_,aU rfl rfl (aI (d:=.int one) (aA (aA (aA (ae rfl) ai (vz (by decide) (by decide))) ai bW) ai (by rw[fA (by decide),h1])) rfl
  (aI (d:=.int two) (aA (aA (aA (aA (ae rfl) (ae rfl) (bR (by lia) (by lia))) (aA ai (ae rfl) (bR (by decide) (by decide))) bW) (ae rfl) bW) ai (by rw[fA (by decide),h2])) rfl
  (aL (aA (aA (aA (aA (ae rfl) (ae rfl) (bR (by omega) (by omega))) (aA ai (ae rfl) (bR (by decide) (by decide))) bW) (ae rfl) bW) ai (fA (by decide))) rfl)))⟩
def zX{f:Nat}(h:∀ s:Int,∃ m:Int,cl f [.int s]=some (.int m)){ns:List Int}(hl:ns.length<=63){k:Nat}(hk:k<=1000):∃ r:Int,evF cl (j8 f) [.lst (LI ns),.int k]=some (.int r):=by
 have pw:aB .pow (.int 10) (.int 18)=some (.int 1000000000000000000):=rfl
 have rest:∀ c:Int,∃ r σ',aj cl [] (.cons (.asg 3 (.cst (.int 0))) (.cons (.forr [4] (.rng1 (.cst (.int 40))) (js f)) (.cons (.ret (.var 3)) .nil))) [some (.lst (LI ns)),some (.int k),some (.int c),none,none]=some (.rt (.int r),σ'):=by
  intro c;have hr:fE (.int 0) (.int 40)=some (L (List.range' 0 40)):=congrArg some (kD 0 40)
  obtain⟨σ',e,r,o,rfl⟩:=cH (f:=aj cl [] (js f)) (tg:=[4]) (xs:=List.range' 0 40) (σ:=[some (.lst (LI ns)),some (.int k),some (.int c),some (.int 0),none])
   (fun p σ=>∃ (r:Int) (o:Option D),σ=[some (.lst (LI ns)),some (.int k),some (.int c),some (.int r),o]) ⟨0,none,rfl⟩ (by
    rintro p x q σ hx ⟨r,o,rfl⟩;obtain⟨m,hm⟩:=h (c+1009*k+7919*x)
    exact⟨_,aI (aA (aA (ae rfl) ai (vz (by decide) (by decide))) (bT (aA (aA (ae rfl) (aA ai (ae rfl) (bR (by decide) (by decide))) bW) (aA ai (ae rfl) (bR (by decide) (by decide))) bW) hm) bW) rfl aR,_,_,rfl⟩)
  exact⟨r,_,aI ai rfl (dW (lK ai hr) e (aL (ae rfl) rfl))⟩
 have len:biV .len (.lst (LI ns))=some (.int ns.length):=congrArg (fun n:Nat=>some (D.int n)) (uO ns)
 have first:ev cl [some (.lst (LI ns)),some (.int k),none,none,none] (.bin .add (.bin .mul (.cst (.int 7)) (.var 1)) (.cst (.int 3)))=some (.int (7*k+3)):=aA (aA ai (ae rfl) (bR (by decide) (by decide))) ai bW
 by_cases h0:0<ns.length
 ·have hmod:=mod_lt (a:=(k:Int)) (b:=(ns.length:Int)) (by lia);obtain⟨j,hj⟩:=Int.eq_ofNat_of_zero_le hmod.1
  have hjl:j<ns.length:=by lia
  have ix:ixV (.lst (LI ns)) (.int ((k:Int)%ns.length))=some (.int ns[j]):=by
   show cQ (LI ns) _=_;rw[hj,gz];simp[LI,hjl]
  obtain⟨r,σ',hr⟩:=rest (ns[j]+9973*((k:Int) / ns.length));generalize hc:ns[j]+9973*((k:Int) / ns.length)=cell at hr
  have cel:∀ {r':Ss} {res:Option (Out × St)},aj cl [] r' [some (.lst (LI ns)),some (.int k),some (.int cell),none,none]=res->aj cl [] (.cons (.asg 2 (.bin .add (.bin .mul (.cst (.int 7)) (.var 1)) (.cst (.int 3)))) (.cons (.ife (.cmp .gt (.bi .len (.var 0)) (.cst (.int 0))) (.cons (.asg 2 (.bin .add (.ix (.var 0) (.bin .mod (.var 1) (.bi .len (.var 0)))) (.bin .mul (.cst (.int 9973)) (.bin .fdiv (.var 1) (.bi .len (.var 0)))))) .nil) .nil) r')) [some (.lst (LI ns)),some (.int k),none,none,none]=res:=fun z =>
   aI first rfl (gJ (aE (az (bE (ae rfl) len) ai (by rw[mP,decide_eq_true (by lia)]))) (aI (d:=.int cell) (aA (eu (ae rfl) (aA (ae rfl) (bE (ae rfl) len) (fA (by lia))) ix) (aA ai (aA (ae rfl) (bE (ae rfl) len) (ka (by lia) (by lia))) (bR (by decide) (by decide))) (by rw[bW,hc])) rfl aR) z)
  by_cases h1:k<ns.length
  ·have c1:bw .lt (.int (k:Nat)) (.int (ns.length:Nat))=some true:=by rw[et,decide_eq_true (by lia)]
   by_cases h2:(1000000000000000000:Int)<=cell
   ·exact⟨_,aU rfl rfl (cel (bD (aE (cE (az (ae rfl) (bE (ae rfl) len) c1) (az (ae rfl) (aA ai ai pw) (by rw[zf,decide_eq_true h2])))) (aL (aA (ae rfl) (aA ai ai pw) lW) rfl)))⟩
   ·exact⟨r,aU rfl rfl (cel (aO (aE (cE (az (ae rfl) (bE (ae rfl) len) c1) (az (ae rfl) (aA ai ai pw) (by rw[zf,decide_eq_false h2])))) hr))⟩
  ·exact⟨r,aU rfl rfl (cel (aO (aE (fJ (az (ae rfl) (bE (ae rfl) len) (by rw[et,decide_eq_false (by lia)])))) hr))⟩
 ·obtain⟨r,σ',hr⟩:=rest (7*k+3);exact⟨r,aU rfl rfl (aI first rfl (aO (aE (az (bE (ae rfl) len) ai (by rw[mP,decide_eq_false (by lia)]))) (aO (aE (fJ (az (ae rfl) (bE (ae rfl) len) (by rw[et,decide_eq_false (by lia)])))) hr)))⟩
end
section
abbrev il(ds sizes:List Nat):Prop:=ds.length=sizes.length/\∀ (i d s:Nat),ds[i]?=some d->sizes[i]?=some s->d<s
def il.snoc(h:il ds sizes)(hd:d<s):il (ds++[d]) (sizes++[s]):=by
 refine⟨by simp[h.1],fun i x y h1 h2=>?_⟩;by_cases hi:i<ds.length
 ·rw[List.getElem?_append_left hi]at h1;rw[List.getElem?_append_left (by rw[<-h.1];exact hi)]at h2;exact h.2 i x y h1 h2
 ·rw[List.getElem?_append_right (by lia)]at h1;rw[List.getElem?_append_right (by rw[<-h.1];lia)]at h2;rw[h.1]at h1
  cases hk:i-sizes.length with
  | zero=>rw[hk]at h1 h2;simp at h1 h2;lia
  | succ k=>rw[hk]at h1;simp at h1
def tw(h:cl f [scr,.int k]=some (.int r))(hp:∀ s∈sizes,0<s/\s<2 ^ 200)(hlen:sizes.length<=1000):∃ ds:List Nat,il ds sizes/\evF cl (eW f) [scr,.int k,.lst (L sizes)]=some (.lst (L ds)):=by
 obtain⟨σ',e,r',ds,o,hds,rfl⟩:=cH (f:=aj cl [4] (fR f)) (tg:=[5]) (xs:=sizes) (σ:=[some scr,some (.int k),some (.lst (L sizes)),some (.int r),some (.lst []),none])
  (fun p σ=>∃ (r:Int) (ds:List Nat) (o:Option D),il ds p/\σ=[some scr,some (.int k),some (.lst (L sizes)),some (.int r),some (.lst (L ds)),o]) ⟨r,[],none,⟨rfl,by simp⟩,rfl⟩ (by
   rintro p x q σ hx ⟨r,ds,o,hds,rfl⟩;have hx0:=hp x (by rw[hx];simp)
   have hpl:p.length<1000:=by
    have:=congrArg List.length hx;simp at this;lia
   have hx1:(0:Int)<x:=by lia
   have hx2:(x:Int)<2 ^ 200:=by
    have:=hx0.2;lia
   obtain⟨d,hd⟩:=Int.eq_ofNat_of_zero_le (Int.emod_nonneg r (show(x:Int)≠0 by lia))
   have hdx:d<x:=by
    have:=Int.emod_lt_of_pos r hx1;lia
   refine⟨[some scr,some (.int k),some (.lst (L sizes)),some (.int (r / x)),some (.lst (L (ds++[d]))),some (.int x)],?_,_,_,_,hds.snoc hdx,rfl⟩
   have hl:(L ds).length<most:=by
    rw[bJ,hds.1];unfold most;lia
   simp[aF,fR,aj,evS,ev,fA hx1,ka hx1 hx2,hd,D.imm,hl,bN,gD]
   rfl)
 refine⟨ds,hds,?_⟩;simp[evF,eW,aj,evS,ev,evs,bp,items,h,bN,D.imm,aV,ax];simp[e,ev,bz,aV,bX,bg]
end
section
end
section
end
abbrev dpf:Nat->List Bool->Option Nat
 | d,[]=>some d
 | d,true::r=>dpf (d+1) r
 | 0,false::_=>none
 | d+1,false::r=>dpf d r
def cR(b:Bool):∀ (w:List Bool) (d:Nat),dpf d (w++[b])=(dpf d w).bind fun e=>dpf e [b]
 | [],d=>rfl
 | true::r,d=>by simpa[dpf]using cR b r (d+1)
 | false::r,0=>rfl
 | false::r,d+1=>by simpa[dpf]using cR b r d
abbrev sg(b:Bool):Nat:=if b then 40 else 41
abbrev tx(w:List Bool):PySem.Str:=⟨(w.map sg).toArray⟩
def dU(w:List Bool):(tx w).length=w.length:=by simp[tx,PySem.Str.length]
def Cr(w v:List Bool):tx w++tx v=tx (w++v):=by
 show PySem.Str.mk _=_;simp[tx]
def wg:(PySem.Str.ofString "")=tx []:=by decide +kernel
def jh:(PySem.Str.ofString "(")=tx [true]:=by decide +kernel
def uF:(PySem.Str.ofString ")")=tx [false]:=by decide +kernel
def j3:∀ (k a:Nat),k<=a->bU (-1) (a:Int) k=L ((List.range k).map fun i=>a-i)
 | 0,_,_=>rfl
 | k+1,a,h=>by
  rw[bU,List.range_succ_eq_map];have:=j3 k (a-1) (by lia)
  have e:(a:Int)+-1=((a-1:Nat):Int):=by lia
  rw[e,this];simp[L];intro i hi;lia
def cB(h:(List.range k).map g=p++x::q):p.length<k/\x=g p.length:=by
 have l:((List.range k).map g).length=(p++x::q).length:=by rw[h]
 have e:((List.range k).map g)[p.length]?=(p++x::q)[p.length]?:=by rw[h]
 simp at l e;obtain⟨y,hy,e⟩:=e;refine⟨by lia,?_⟩;rw[List.getElem?_range (by lia)]at hy;cases hy;exact e.symm
def pF(h:w.length+v.length<=most):aB .add (.str (tx w)) (.str (tx v))=some (.str (tx (w++v))):=by
 dsimp only[aB];rw[dU,dU,if_pos h,Cr]
def yp(hn:n<=10):∃ w:List Bool,w.length=2*n/\dpf 0 w=some 0/\evF cl iV [.int r,.int n]=some (.str (tx w)):=by
 have e1:aB .mul (.int 2) (.int n)=some (.int (2*n)):=bR (by decide) (by decide)
 have e2:gg (-1) (.int (2*(n:Int))) (.int 0)=some (L ((List.range (2*n)).map fun i=>2*n-i)):=by
  have hN:bC (-1) (2*(n:Int)) 0=2*n:=by
   unfold bC;rw[show(- -1:Int)=1 from rfl,Int.ediv_one,if_neg (by decide)];split<;>lia
  dsimp only[gg];rw[hN];rw[if_pos ⟨by decide,by decide,by decide,by unfold most;lia,by lia,by lia,by lia,by lia⟩];have:=j3 (2*n) (2*n) (Nat.le_refl _);rw[<-this];rfl
 obtain⟨σ',e,I⟩:=cH (f:=aj cl [] f7) (tg:=[4]) (xs:=(List.range (2*n)).map fun i=>2*n-i) (σ:=[some (.int r),some (.int n),some (.str (tx [])),some (.int 0),none,none,none])
  (fun p σ=>∃ (r:Int) (w:List Bool) (d:Nat) (o4 o5 o6:Option D),σ=[some (.int r),some (.int n),some (.str (tx w)),some (.int d),o4,o5,o6]/\w.length=p.length/\dpf 0 w=some d/\d+p.length<=2*n/\(d+p.length)%2=0) ⟨r,[],0,none,none,none,rfl,rfl,rfl,by simp,rfl⟩ (by
   rintro p x q σ hx ⟨r,w,d,o4,o5,o6,rfl,hw,hd,hl,hp⟩;obtain⟨h1,h2⟩:=cB hx;have m1:aB .fdiv (.int r) (.int 2)=some (.int (r / 2)):=ka (by decide) (by decide);have m2:aB .mod (.int r) (.int 2)=some (.int (r%2)):=fA (by decide);generalize hr:r%2=st at m2
   have tx1:ixV (.lst [.str (PySem.Str.ofString ")"),.str (PySem.Str.ofString "(")]) (.int 1)=some (.str (tx [true])):=by rw[jh];rfl
   have tx0:ixV (.lst [.str (PySem.Str.ofString ")"),.str (PySem.Str.ofString "(")]) (.int 0)=some (.str (tx [false])):=by rw[uF];rfl
   by_cases up:d=0\/(d<x/\st=1)
   ·have ee:ev cl [some (.int (r / 2)),some (.int n),some (.str (tx w)),some (.int d),some (.int x),o5,some (.int st)] (.or (.cmp .eq (.var 3) (.cst (.int 0))) (.and (.cmp .lt (.var 3) (.var 4)) (.cmp .eq (.var 6) (.cst (.int 1)))))=some (.bl true):=by
     by_cases h0:d=0
     ·subst h0;exact ES (az (ae rfl) ai rfl)
     ·have g:d<x/\st=1:=by lia
      have hb:((d:Int) == 0)=false:=beq_eq_false_iff_ne.mpr (by lia);exact qX (az (ae rfl) ai (by rw[dQ,hb])) (cE (az (ae rfl) (ae rfl) (by rw[et,decide_eq_true (by lia)])) (az (ae rfl) ai (by rw[dQ,g.2];rfl)))
    exact⟨_,show aj cl [] f7 [some (.int r),some (.int n),some (.str (tx w)),some (.int d),some (.int x),o5,o6]=some (.nx,_)from uZ (aA (ae rfl) ai m1) (aA (ae rfl) ai m2) rfl (aI ee rfl (aI (aA (ae rfl) (eu (cU (aQ ai (aQ ai bF))) (bE (ae rfl) rfl) tx1) (pF (by simp[most];lia))) rfl (aI (d:=.int ((d+1:Nat):Int)) (aA (ae rfl) (eu (cU (aQ (lE ai) (aQ ai bF))) (bE (ae rfl) rfl) rfl) rfl) rfl aR))),
     r / 2,w++[true],d+1,_,_,_,rfl,by simp[hw],by rw[cR,hd];rfl,by simp;omega,by simp;lia⟩
   ·have hd0:0<d:=by lia
    have ee:ev cl [some (.int (r / 2)),some (.int n),some (.str (tx w)),some (.int d),some (.int x),o5,some (.int st)] (.or (.cmp .eq (.var 3) (.cst (.int 0))) (.and (.cmp .lt (.var 3) (.var 4)) (.cmp .eq (.var 6) (.cst (.int 1)))))=some (.bl false):=by
     have hb:((d:Int) == 0)=false:=beq_eq_false_iff_ne.mpr (by lia);refine qX (az (ae rfl) ai (by rw[dQ,hb])) ?_;by_cases hx:d<x
     ·have h1:(st == 1)=false:=beq_eq_false_iff_ne.mpr (by lia);exact cE (az (ae rfl) (ae rfl) (by rw[et,decide_eq_true (by lia)])) (az (ae rfl) ai (by rw[dQ,h1]))
     ·exact fJ (az (ae rfl) (ae rfl) (by rw[et,decide_eq_false (by lia)]))
    have es:aB .add (.int (d:Nat)) (.int (-1))=some (.int ((d-1:Nat):Int)):=by rw[bW];congr 2;lia
    exact⟨_,show aj cl [] f7 [some (.int r),some (.int n),some (.str (tx w)),some (.int d),some (.int x),o5,o6]=some (.nx,_)from uZ (aA (ae rfl) ai m1) (aA (ae rfl) ai m2) rfl (aI ee rfl (aI (aA (ae rfl) (eu (cU (aQ ai (aQ ai bF))) (bE (ae rfl) rfl) tx0) (pF (by simp[most];lia))) rfl (aI (aA (ae rfl) (eu (cU (aQ (lE ai) (aQ ai bF))) (bE (ae rfl) rfl) rfl) es) rfl aR))),
     r / 2,w++[false],d-1,_,_,_,rfl,by simp[hw],by rw[cR,hd];obtain⟨e,rfl⟩:∃ e,d=e+1:=⟨d-1,by lia⟩;rfl,by simp;lia,by simp;lia⟩)
 obtain⟨r',w,d,o4,o5,o6,rfl,hw,hd,hl,hp⟩:=I;simp at hw hl
 have:d=0:=by lia
 subst this;refine⟨w,hw,hd,?_⟩;rw[<-wg]at e;exact aU rfl rfl (aI ai rfl (aI ai rfl (dW (DN (aA ai (ae rfl) e1) ai e2) e (aL (ae rfl) rfl))))
abbrev rd(n q:Nat):Nat:=if q<n then q else 3*n-1-q
def aY(h:q<2*n):rd n q<2*n:=by unfold rd;split<;>omega
def bY(h:q<2*n):rd n (rd n q)=q:=by
 unfold rd;by_cases e:q<n
 ·rw[if_pos e,if_pos e]
 ·rw[if_neg e,if_neg (by omega)];lia
def i7(hp:p<2*n)(hq:q<2*n)(h:rd n p=rd n q):p=q:=by rw[<-bY hp,h,bY hq]
abbrev rnd(n:Nat)(f:List Nat)(q:Nat):Nat:=rd n (at' f (rd n q))
structure Val(n:Nat)(f:List Nat):Prop where
 frm:Frm n f
 nox:∀ q q',q<2*n->q'<2*n->¬ (q<q'/\q'<rnd n f q/\rnd n f q<rnd n f q')
structure Mt(n k:Nat)(f S:List Nat):Prop where
 len:f.length=2*n
 kn:k<=2*n
 up:S.Pairwise (·<·)
 lt:∀ s∈S,s<k
 ok:∀ q,q<k->q∉S->rnd n f q<k/\rnd n f q∉S/\rnd n f q≠q/\rnd n f (rnd n f q)=q
 bt:∀ q s,q<k->q∉S->s∈S->¬ (q<s/\s<rnd n f q)
 nox:∀ q q',q<k->q'<k->q∉S->q'∉S->¬ (q<q'/\q'<rnd n f q/\rnd n f q<rnd n f q')
def Mt.push{n k:Nat}{f S:List Nat}(m:Mt n k f S)(hk:k<2*n):Mt n (k+1) f (S++[k]):=by
 have nk:∀ q,q<k+1->q∉S++[k]->q<k/\q∉S:=by
  intro q h1 h2;simp at h2;exact⟨by lia,h2.1⟩
 refine⟨m.len,by lia,?_,?_,?_,?_,?_⟩
 ·rw[List.pairwise_append];exact⟨m.up,by simp,fun a ha b hb=>by simp at hb;have:=m.lt a ha;lia⟩
 ·intro s hs;simp at hs;rcases hs with h | h
  ·have:=m.lt s h;lia
  ·lia
 ·intro q h1 h2;obtain⟨a,b⟩:=nk q h1 h2;obtain⟨c1,c2,c3,c4⟩:=m.ok q a b;exact⟨by lia,by simp;exact⟨c2,by lia⟩,c3,c4⟩
 ·intro q s h1 h2 hs;obtain⟨a,b⟩:=nk q h1 h2;simp at hs;rcases hs with h | h
  ·exact m.bt q s a b h
  ·have:=(m.ok q a b).1;lia
 ·intro q q' h1 h2 h3 h4;obtain⟨a,b⟩:=nk q h1 h3;obtain⟨a',b'⟩:=nk q' h2 h4;exact m.nox q q' a a' b b'
def mH(hl:f.length=2*n)(hk:k<2*n)(hm:m<2*n)(hq:q<2*n):rnd n ((f.set (rd n m) (rd n k)).set (rd n k) (rd n m)) q=if q=k then m else if q=m then k else rnd n f q:=by
 have l1:=aY hk;have l2:=aY hm;unfold rnd;rw[cI (by simp;lia),cI (by lia)];by_cases h1:q=k
 ·subst h1;rw[if_pos rfl,if_pos rfl,bY hm]
 ·rw[if_neg (fun h=>h1 (i7 hq hk h)),if_neg h1];by_cases h2:q=m
  ·subst h2;rw[if_pos rfl,if_pos rfl,bY hk]
  ·rw[if_neg (fun h=>h2 (i7 hq hm h)),if_neg h2]
def Mt.pop{n k m:Nat}{f S:List Nat}(h:Mt n k f (S++[m]))(hk:k<2*n):Mt n (k+1) ((f.set (rd n m) (rd n k)).set (rd n k) (rd n m)) S:=by
 have hmk:m<k:=h.lt m (by simp)
 have hm:m<2*n:=by lia
 have P:=fun q hq=>mH (f:=f) h.len hk hm (q:=q) hq;have up:=List.pairwise_append.mp h.up;have hmS:∀ s∈S,s<m:=fun s hs=>up.2.2 s hs m (by simp)
 have kS:k∉S:=fun c=>by have:=hmS k c;lia
 have mS:m∉S:=fun c=>by have:=hmS m c;lia
 have cs:∀ q,q<k+1->q∉S->q=k\/q=m\/(q≠k/\q≠m/\q<k/\q∉S++[m]):=by
  intro q h1 h2;by_cases e1:q=k
  ·exact .inl e1
  ·by_cases e2:q=m
   ·exact .inr (.inl e2)
   ·exact .inr (.inr ⟨e1,e2,by lia,by simp;exact⟨h2,e2⟩⟩)
 have old:∀ q,q<k->q∉S++[m]->rnd n f q<k/\rnd n f q∉S/\rnd n f q≠m/\rnd n f q≠q/\rnd n f (rnd n f q)=q:=by
  intro q h1 h2;obtain⟨c1,c2,c3,c4⟩:=h.ok q h1 h2;simp at c2;exact⟨c1,c2.1,c2.2,c3,c4⟩
 refine⟨by simp[h.len],by lia,up.1,fun s hs=>by have:=hmS s hs;lia,?_,?_,?_⟩
 ·intro q h1 h2
  rcases cs q h1 h2 with rfl | rfl | ⟨e1,e2,e3,e4⟩
  ·rw[P q hk,if_pos rfl,P m hm,if_neg (by lia),if_pos rfl];exact⟨by lia,mS,by lia,rfl⟩
  ·rw[P q hm,if_neg (by lia),if_pos rfl,P k hk,if_pos rfl];exact⟨by lia,kS,by lia,rfl⟩
  ·obtain⟨c1,c2,c3,c4,c5⟩:=old q e3 e4;rw[P q (by lia),if_neg e1,if_neg e2,P _ (by lia),if_neg (by lia),if_neg c3];exact⟨by lia,c2,c4,c5⟩
 ·intro q s h1 h2 hs;have:=hmS s hs
  rcases cs q h1 h2 with rfl | rfl | ⟨e1,e2,e3,e4⟩
  ·lia
  ·lia
  ·rw[P q (by lia),if_neg e1,if_neg e2];exact h.bt q s e3 e4 (by simp[hs])
 ·intro q q' h1 h2 h3 h4
  rcases cs q h1 h3 with rfl | rfl | ⟨e1,e2,e3,e4⟩
  ·lia
  ·rw[P q hm,if_neg (by lia),if_pos rfl]
   rcases cs q' h2 h4 with rfl | rfl | ⟨d1,d2,d3,d4⟩
   ·lia
   ·lia
   ·rw[P q' (by lia),if_neg d1,if_neg d2];have:=(old q' d3 d4).1;lia
  ·rw[P q (by lia),if_neg e1,if_neg e2];have a:=(old q e3 e4).1
   rcases cs q' h2 h4 with rfl | rfl | ⟨d1,d2,d3,d4⟩
   ·lia
   ·have:=h.bt q q' e3 e4 (by simp);lia
   ·rw[P q' (by lia),if_neg d1,if_neg d2];exact h.nox q q' e3 d3 e4 d4
def Mt.val(h:Mt n (2*n) f [])(hlt:∀ x,x<2*n->at' f x<2*n):Val n f:=by
 refine⟨⟨h.len,hlt,?_,?_⟩,fun q q' h1 h2=>h.nox q q' h1 h2 (by simp) (by simp)⟩
 ·intro x;by_cases hx:x<2*n
  ·have a:=(h.ok (rd n x) (aY hx) (by simp)).2.2.2;unfold rnd at a;rw[bY hx,bY (hlt x hx)]at a;exact i7 (hlt _ (hlt x hx)) hx a
  ·have e:at' f x=x:=jF (by rw[h.len];lia);rw[e,e]
 ·intro x hx e;have a:=(h.ok (rd n x) (aY hx) (by simp)).2.2.1;unfold rnd at a;rw[bY hx,e]at a;exact a rfl
def pC(g:β->D)(im:∀ b,(g b).imm=true)(I:List β->St->Prop):∀ (w done:List β) (σ:St),(∀ u b v σ,done++w=u++b::v->I u σ->∃ σ2,(aF tg (.tup [.int u.length,g b]) σ).bind f=some (.nx,σ2)/\I (u++[b]) σ2)->I done σ->∃ σ',bo f tg (cT done.length (w.map g)) σ=some (.nx,σ')/\I (done++w) σ'
 | [],done,σ,_,h=>⟨σ,rfl,by simpa using h⟩
 | b::w,done,σ,hs,h=>by
  obtain⟨σ2,h1,h3⟩:=hs done b w σ rfl h;obtain⟨σ',h4,h5⟩:=pC g im I w (done++[b]) σ2 (fun pre e post σ he=>hs pre e post σ (by simpa using he)) h3;refine⟨σ',?_,by simpa using h5⟩;rw[List.map_cons,cT,bo,if_pos (by simp[D.imm,ax,im])];rw[show((done++[b]).length:Int)=(done.length:Int)+1 by simp]at h4
  cases hb:aF tg (.tup [.int done.length,g b]) σ with
  | none=>rw[hb]at h1;cases h1
  |some σ1=>
   rw[hb]at h1;simp only[Option.bind_some]at h1 ⊢;rw[h1];exact h4
abbrev bB(n:Nat):List Nat:=(List.range (2*n)).map (rd n)
def k9(n:Nat):(bB n).length=2*n:=by simp[bB]
def Ao(h:1<=n):bB n=List.range' 0 n++(List.range n).map (fun i=>(2*n-1)-i):=by
 unfold bB;rw[show 2*n=n+n by lia,List.range_add,List.map_append,<-List.range_eq_range',List.map_map];congr 1
 ·conv=>rhs;rw[<-List.map_id (List.range n)]
  apply List.map_congr_left;intro i hi;simp at hi;simp[rd,hi]
 ·apply List.map_congr_left;intro i hi;simp at hi;show rd n (n+i)=_;unfold rd;rw[if_neg (by lia)];lia
def Ae{a b:Nat}(h:b<=a)(ha:a<=1000):gg (-1) (.int (a:Int)) (.int ((a:Int)-b))=some (L ((List.range b).map fun i=>a-i)):=by
 have hN:bC (-1) (a:Int) ((a:Int)-b)=b:=by
  unfold bC;rw[show(- -1:Int)=1 from rfl,Int.ediv_one,if_neg (by decide)];split<;>lia
 dsimp only[gg];rw[hN];rw[if_pos ⟨by decide,by decide,by decide,by unfold most;lia,by lia,by lia,by lia,by lia⟩];rw[j3 b a h]
def tO{n:Nat}(h1:1<=n)(hn:n<=10):evF cl eU [.int n]=some (.lst (L (bB n))):=by
 have e1:aB .mul (.int 2) (.int n)=some (.int (2*n)):=bR (by decide) (by decide);have e2:=nK (a:=0) (b:=n) (by lia) (by lia);rw[Nat.sub_zero]at e2;simp only[Int.natCast_zero]at e2;have e3:=Ae (a:=2*n-1) (b:=n) (by lia) (by lia);rw[show((2*n-1:Nat):Int)=2*n-1 by lia,show 2*(n:Int)-1-n=n-1 by lia]at e3
 have e4:aB .add (.lst (L (List.range' 0 n))) (.lst (L ((List.range n).map fun i=>2*n-1-i)))=some (.lst (L (bB n))):=by
  dsimp only[aB];rw[if_pos (by simp[bJ,most];lia),Ao h1,gD]
 simp[evF,eU,aj,evS,ev,evs,e1,e2,e3,e4,lW,bz,D.imm,aV,bX,bg]
def kg{n q:Nat}(h:q<2*n):ixV (.lst (L (bB n))) (.int (q:Int))=some (.int ((rd n q:Nat):Int)):=by
 show cQ _ _=_;rw[gz,zm];simp[bB,h]
def gG{f:List Nat}{i j:Nat}(h:i<f.length):dD (.lst (L f)) (.int (i:Int)) (.int (j:Int))=some (.lst (L (f.set i j))):=by
 dsimp only[dD];rw[bJ,xJ h];simp[zO]
def gb(v:List Bool):∀ (w:List Bool) (d:Nat),dpf d (w++v)=(dpf d w).bind fun e=>dpf e v
 | [],d=>rfl
 | true::r,d=>by simpa[dpf]using gb v r (d+1)
 | false::r,0=>rfl
 | false::r,d+1=>by simpa[dpf]using gb v r d
def lQ:∀ (w:List Bool) (d:Nat) {e:Nat},dpf d w=some e->e<=d+w.length
 | [],d,e,h=>by cases h;simp
 | true::r,d,e,h=>by have:=lQ r (d+1) h;simp;lia
 | false::r,0,e,h=>nomatch h
 | false::r,d+1,e,h=>by have:=lQ r d h;simp;lia
def zeros(cl:Cl)(σ:St):∀ xs:List Nat,cJ (fun σ1=>(ev cl σ1 (.cst (.int 0))).map some) [7] σ (L xs)=some (L (List.replicate xs.length 0))
 | []=>rfl
 | x::r=>by
  rw[show L (x::r)=.int x::L r from rfl,cJ,zeros cl σ r];rfl
abbrev Wd(n:Nat)(u:List Bool)(f S:List Nat):Prop:=∀ q,q<u.length->u[q]?=some (decide (q∈S\/q<rnd n f q))
def Wd.push{S:List Nat}(h:Wd n u f S)(m:Mt n u.length f S):Wd n (u++[true]) f (S++[u.length]):=by
 intro q hq;simp at hq;by_cases c:q=u.length
 ·subst c;simp
 ·have hq':q<u.length:=by lia
  rw[List.getElem?_append_left hq',h q hq'];simp[c]
def Wd.pop{S:List Nat}{m0:Nat}(h:Wd n u f (S++[m0]))(m:Mt n u.length f (S++[m0]))(hk:u.length<2*n):Wd n (u++[false]) ((f.set (rd n m0) (rd n u.length)).set (rd n u.length) (rd n m0)) S:=by
 have hmk:m0<u.length:=m.lt m0 (by simp);have up:=List.pairwise_append.mp m.up;have hmS:∀ s∈S,s<m0:=fun s hs=>up.2.2 s hs m0 (by simp);intro q hq;simp at hq;rw[mH m.len hk (by lia) (by lia)];by_cases c:q=u.length
 ·subst c
  have:¬ (u.length∈S):=fun a=>by have:=hmS _ a;lia
  simp[this];lia
 ·have hq':q<u.length:=by lia
  rw[List.getElem?_append_left hq',h q hq',if_neg c];by_cases c':q=m0
  ·subst c';simp[hmk]
  ·simp[c']
def eV{fc:Nat}(h1:1<=n)(hn:n<=10)(hc:cl fc [.int n]=some (.lst (L (bB n))))(hw:w.length=2*n)(hd:dpf 0 w=some 0):∃ f:List Nat,(Val n f/\Wd n w f [])/\evF cl (c9 fc) [.str (tx w)]=some (.tup (L f)):=by
 obtain⟨σ',e,I⟩:=pC (f:=aj cl [3,4] (cV fc)) (tg:=[5,6]) (fun b:Bool=>D.str (tx [b])) (fun _=>rfl)
  (fun u σ=>∃ (f S:List Nat) (o5 o6 o8:Option D),σ=[some (.str (tx w)),some (.int n),some (.lst (L (bB n))),some (.lst (L f)),some (.lst (L (S.map (rd n)))),o5,o6,none,o8]/\dpf 0 u=some S.length/\Mt n u.length f S/\(∀ x,x<2*n->at' f x<2*n)/\Wd n u f S)
  w [] [some (.str (tx w)),some (.int n),some (.lst (L (bB n))),some (.lst (L (List.replicate (2*n) 0))),some (.lst (L [])),none,none,none,none] (by
   rintro u b v σ hu ⟨f,S,o5,o6,o8,rfl,hS,m,hlt,wd⟩
   have hk:u.length<2*n:=by
    rw[<-hw];have:=congrArg List.length hu;simp at this;lia
   have hdb:∃ d,dpf S.length [b]=some d:=by
    have:dpf 0 (u++b::v)=some 0:=by rw[<-hu];exact hd
    rw[gb,hS]at this
    revert this
    cases b with
    | true=>exact fun _=>⟨_,rfl⟩
    |false=>
     cases S.length with
     | zero=>exact fun h=>nomatch h
     | succ d=>exact fun _=>⟨_,rfl⟩
   cases b with
   |true=>
    refine⟨[some (.str (tx w)),some (.int n),some (.lst (L (bB n))),some (.lst (L f)),some (.lst (L ((S++[u.length]).map (rd n)))),some (.int u.length),some (.str (tx [true])),none,o8],?_,f,S++[u.length],_,_,_,rfl,?_,by simpa using m.push hk,hlt,wd.push m⟩
    ·have hl:S.length<most:=by have:=lQ u 0 hS;unfold most;lia
     have ap:L ((S++[u.length]).map (rd n))=L (S.map (rd n))++[.int ((rd n u.length:Nat):Int)]:=by simp[L]
     rw[ap];exact show aj cl [3,4] (cV fc) [some (.str (tx w)),some (.int n),some (.lst (L (bB n))),some (.lst (L f)),some (.lst (L (S.map (rd n)))),some (.int u.length),some (.str (tx [true])),none,o8]=some (.nx,_)from gJ (aE (az (k:=true) (ae rfl) ai (by rw[jh];decide))) (lL (eu (ae rfl) (ae rfl) (kg hk)) rfl rfl (by rw[bJ,List.length_map];exact hl) aR) aR
    ·rw[cR,hS];simp[dpf]
   |false=>
    obtain⟨d,hdb⟩:=hdb
    have hS0:S≠[]:=by
     rintro rfl;simp[dpf]at hdb
    obtain⟨S0,m0,rfl⟩:∃ S0 m0,S=S0++[m0]:=⟨S.dropLast,S.getLast hS0,(List.dropLast_concat_getLast hS0).symm⟩
    have hm0:m0<u.length:=m.lt m0 (by simp);have c:=kg hk;have p1:=gG (f:=f) (i:=rd n m0) (j:=rd n u.length) (by rw[m.len];exact aY (by lia));have p2:=gG (f:=f.set (rd n m0) (rd n u.length)) (i:=rd n u.length) (j:=rd n m0) (by rw[List.length_set,m.len];exact aY (by lia));refine⟨[some (.str (tx w)),some (.int n),some (.lst (L (bB n))),some (.lst (L ((f.set (rd n m0) (rd n u.length)).set (rd n u.length) (rd n m0)))),some (.lst (L (S0.map (rd n)))),some (.int u.length),some (.str (tx [false])),none,some (.int ((rd n m0:Nat):Int))],?_,_,S0,_,_,_,rfl,?_,by simpa using m.pop hk,?_,wd.pop m hk⟩
    ·have ap:L ((S0++[m0]).map (rd n))=L (S0.map (rd n))++[.int ((rd n m0:Nat):Int)]:=by simp[L]
     rw[ap];exact show aj cl [3,4] (cV fc) [some (.str (tx w)),some (.int n),some (.lst (L (bB n))),some (.lst (L f)),some (.lst (L (S0.map (rd n))++[.int ((rd n m0:Nat):Int)])),some (.int u.length),some (.str (tx [false])),none,o8]=some (.nx,_)from i6 (aE (az (k:=false) (ae rfl) ai (by rw[jh];decide))) (EI rfl (xg (eu (ae rfl) (ae rfl) c) (ae rfl) rfl rfl p1 (xg (ae rfl) (eu (ae rfl) (ae rfl) c) rfl rfl p2 aR))) aR
    ·rw[cR,hS];simp[dpf]
    ·intro x hx;rw[cI (by simp[m.len];exact aY (by lia)),cI (by rw[m.len];exact aY (by lia))];have:=aY (n:=n) (q:=m0) (by lia);have:=aY (n:=n) (q:=u.length) (by lia);have:=hlt x hx
     repeat' split
     all_goals lia)
  ⟨List.replicate (2*n) 0,[],none,none,none,rfl,rfl,⟨by simp,by simp,by simp,by simp,by simp,by simp,by simp⟩,fun x hx=>by simp[at',hx];lia,fun q hq=>by simp at hq⟩
 obtain⟨f,S,o5,o6,o8,rfl,hS,m,hlt,wd⟩:=I;simp only[List.nil_append]at hS m wd;rw[hd]at hS;have hS0:S=[]:=List.eq_nil_of_length_eq_zero (by simpa using hS.symm);subst hS0;rw[hw]at m;refine⟨f,⟨m.val hlt,wd⟩,?_⟩
 have len:biV .len (.str (tx w))=some (.int ((2*n:Nat):Int)):=by
  dsimp only[biV];rw[dU,hw,if_pos (by unfold most;lia)]
 have dv:aB .fdiv (.int ((2*n:Nat):Int)) (.int 2)=some (.int (n:Nat)):=by
  rw[ka (by decide) (by decide)];congr 2;lia
 have it:d6 (.str (tx w))=some (w.map fun b=>D.str (tx [b])):=by
  simp[d6,tx,Function.comp_def]
 have z:=zeros cl [some (.str (tx w)),some (.int n),some (.lst (L (bB n))),none,none,none,none,none,none] (bB n);rw[k9]at z
 exact aU rfl rfl (aI (aA (bE (ae rfl) len) ai dv) rfl (aI (bT (ae rfl) hc) (by unfold bN;rw[show aV (.lst (L (bB n)))=true from bX _];rfl) (gC (iD (uy (ae rfl) rfl) (by rw[bJ,k9];unfold most;lia) z) (by rw[show aV (.lst (L (List.replicate (2*n) 0)))=true from bX _];rfl) (gC (cU bF) rfl
  (dW (l9 (ae rfl) it) e (aL (bE (ae rfl) rfl) (by unfold bz;rw[show(D.tup (L f)).imm=true from bX _];rfl)))))))
def nZ{fc:Nat}(h1:1<=n)(hn:n<=10)(hc:cl fc [.int n]=some (.lst (L (bB n))))(hw:w.length=2*n)(hd:dpf 0 w=some 0):∃ f:List Nat,Val n f/\evF cl (c9 fc) [.str (tx w)]=some (.tup (L f)):=by
 obtain⟨f,⟨V,_⟩,e⟩:=eV h1 hn hc hw hd;exact⟨f,V,e⟩
def jD(im:∀ x,(g x).imm=true):∀ xs:List Nat,(∀ x∈xs,(aF tg (.int (x:Nat)) σ).bind F=some (some (g x)))->cJ F tg σ (L xs)=some (xs.map g)
 | [],_=>rfl
 | x::r,h=>by
  have a:=h x (by simp);have b:=jD im r (fun y hy=>h y (by simp[hy]));rw[show L (x::r)=.int x::L r from rfl,cJ]
  cases hb:aF tg (.int (x:Nat)) σ with
  | none=>rw[hb]at a;cases a
  |some σ1=>
   rw[hb]at a;simp only[Option.bind_some]at a ⊢;rw[a,b];simp[j7,im]
def vv(im:∀ x,(g x).imm=true):∀ xs:List Nat,(∀ x∈xs,(aF tg (.int (x:Nat)) σ).bind F=some (if c x then some (g x)else none))->cJ F tg σ (L xs)=some ((xs.filter c).map g)
 | [],_=>rfl
 | x::r,h=>by
  have a:=h x (by simp);have b:=vv im r (fun y hy=>h y (by simp[hy]));rw[show L (x::r)=.int x::L r from rfl,cJ]
  cases hb:aF tg (.int (x:Nat)) σ with
  | none=>rw[hb]at a;cases a
  |some σ1=>
   rw[hb]at a;simp only[Option.bind_some]at a ⊢;rw[a,b];cases hc:c x<;>simp[j7,im,hc]
def yQ(xs:List Nat)(g:Nat->Nat):(xs.map fun x=>D.int (g x:Nat))=L (xs.map g):=by simp[L]
def jA(h:xs.length<=1000):fits (L xs)=some (L xs):=by
 unfold fits;rw[if_pos (by rw[bJ];unfold most;lia)]
def cY{n:Nat}(h:n<=1000):fE (.int 0) (.int n)=some (L (List.range n)):=by
 have e2:=nK (a:=0) (b:=n) (by lia) h;rw[Nat.sub_zero,<-List.range_eq_range']at e2;exact e2
def mf{n:Nat}(hn:n<=100):evF cl dX [.int n]=some (.tup (L (br n))):=by
 have e2:=cY (n:=n) (by lia)
 have e3:=jD (F:=fun σ1=>(ev cl σ1 (.bin .add (.var 0) (.var 1))).map some) (tg:=[1]) (σ:=[some (.int n),none]) (g:=fun x=>.int ((n+x:Nat):Int)) (fun _=>rfl) (List.range n) (by
  intro x _
  simp[aF,ev,bW])
 rw[yQ]at e3
 have e4:aB .add (.lst (L ((List.range n).map fun x=>n+x))) (.lst (L (List.range n)))=some (.lst (L (br n))):=by
  dsimp only[aB];rw[if_pos (by simp[bJ,most];lia),br,gD];congr 3
  ·rw[List.range'_eq_map_range]
  ·rw[List.range_eq_range']
 have e5:=jA (xs:=List.range n) (by simp;lia);simp only[evF,dX,aj,evS,ev,bp];simp[ev,e2,e5];simp[ev]at e3;rw[e3];simp[e4,biV,items,bz,D.imm,bX,bg]
def oa{n:Nat}(hn:n<=10):evF cl dX [.int n]=some (.tup (L (br n))):=mf (by lia)
def nU(h:q<2*n):rnd n (br n) q=2*n-1-q:=by
 unfold rnd rd;by_cases c:q<n
 ·rw[if_pos c,plain_at,if_pos c,if_neg (by lia)];lia
 ·have e:at' (br n) (3*n-1-q)=2*n-1-q:=by rw[plain_at,if_neg (by omega),if_pos (by omega)];lia
  rw[if_neg c,e,if_pos (by omega)]
def vU(n:Nat):Val n (br n):=by
 refine⟨jE n,fun q q' h1 h2=>?_⟩;rw[nU h1,nU h2];omega
abbrev fB(n i:Nat):List Nat:=iL (br n) (n+i)
set_option synthInstance.maxSize 10000 in
set_option synthInstance.maxHeartbeats 0 in
def ye:∀ n,n<11->∀ i,i<n->i+1<n->∀ q,q<2*n->∀ q',q'<2*n->¬ (q<q'/\q'<rnd n (fB n i) q/\rnd n (fB n i) q<rnd n (fB n i) q'):=by decide +kernel
def yj(hn:n<=10)(h:i+1<n):Val n (fB n i):=⟨yX (jE n) (by lia),fun q q' h1 h2=>ye n (by lia) i (by lia) h q h1 q' h2⟩
def qw{fp:Nat}{n i:Nat}(hn:n<=10)(hi:i+1<n)(hp:cl fp [.int n]=some (.tup (L (br n)))):evF cl (fY fp) [.int n,.int i]=some (.tup (L (fB n i))):=by
 have hl:=(jE n).len
 have e:fB n i=((((br n).set i (i+1)).set (i+1) i).set (n+i) (n+i+1)).set (n+i+1) (n+i):=by
  unfold fB iL
  have a1:at' (br n) (n+i)=i:=by rw[plain_at,if_neg (by lia),if_pos (by lia)];lia
  have a2:at' (br n) (n+i+1)=i+1:=by rw[plain_at,if_neg (by lia),if_pos (by lia)];lia
  rw[a1,a2,if_neg (by lia)]
 have p1:=gG (f:=br n) (i:=i) (j:=i+1) (by lia);have p2:=gG (f:=(br n).set i (i+1)) (i:=i+1) (j:=i) (by simp;lia);have p3:=gG (f:=((br n).set i (i+1)).set (i+1) i) (i:=n+i) (j:=n+i+1) (by simp;lia);have p4:=gG (f:=(((br n).set i (i+1)).set (i+1) i).set (n+i) (n+i+1)) (i:=n+i+1) (j:=n+i) (by simp;lia);rw[<-e]at p4;simp only[Int.natCast_add,Int.natCast_one]at p1 p2 p3 p4;simp[evF,fY,aj,evS,ev,evs,hp,biV,items,aV,bX,bp,bW,bo,D.imm,aF,k8,p1,p2,p3,p4,bz,bg]
abbrev aX(n:Nat)(f:List Nat):List Nat:=(List.range (2*n)).map fun p=>(at' f ((p+n)%(2*n))+n)%(2*n)
def mz(h:p<2*n):at' (aX n f) p=(at' f ((p+n)%(2*n))+n)%(2*n):=by
 simp[at',aX,h]
def half{xs:List D}(h:xs.length=2*n):biV .len (.tup xs)=some (.int (2*n)):=by
 simp[biV,items,h]
def uh(n:Nat):aB .fdiv (.int (2*(n:Int))) (.int 2)=some (.int n):=by
 rw[ka (by decide) (by decide)];congr 2;lia
def fK(h:x<f.length):ixV (.tup (L f)) (.int (x:Nat))=some (.int (at' f x:Nat)):=by
 show cQ _ _=_;rw[gz,zm,iC h];rfl
def rf(h1:1<=n)(hn:n<=10)(hf:f.length=2*n):evF cl gh [.tup (L f)]=some (.tup (L (aX n f))):=by
 have e1:aB .mul (.int 2) (.int n)=some (.int (2*n)):=bR (by decide) (by decide);have e2:=cY (n:=2*n) (by lia);rw[show((2*n:Nat):Int)=2*(n:Int) by lia]at e2
 have e3:=jD (F:=fun σ1=>(ev cl σ1 (.bin .mod (.bin .add (.ix (.var 0) (.bin .mod (.bin .add (.var 2) (.var 1)) (.bin .mul (.cst (.int 2)) (.var 1)))) (.var 1)) (.bin .mul (.cst (.int 2)) (.var 1)))).map some) (tg:=[2]) (σ:=[some (.tup (L f)),some (.int n),none]) (g:=fun p=>.int (((at' f ((p+n)%(2*n))+n)%(2*n):Nat):Int)) (fun _=>rfl) (List.range (2*n)) (by
  intro x _
  have m1:aB .mod (.int ((x:Int)+n)) (.int (2*(n:Int)))=some (.int (((x+n)%(2*n):Nat):Int)):=by
   rw[fA (by lia)];simp
  have m2:=fK (f:=f) (x:=(x+n)%(2*n)) (by rw[hf];exact Nat.mod_lt _ (by lia))
  have m3:aB .mod (.int ((at' f ((x+n)%(2*n)):Nat)+(n:Int))) (.int (2*(n:Int)))=some (.int (((at' f ((x+n)%(2*n))+n)%(2*n):Nat):Int)):=by
   rw[fA (by lia)];simp
  simp only[aF,ev,List.set,Option.bind_some,List.getElem?_cons_zero,List.getElem?_cons_succ,id,e1,bW,m1,m2,m3,Option.map_some])
 rw[yQ]at e3;have e5:=jA (xs:=List.range (2*n)) (by simp;lia);have e6:=half (xs:=L f) (n:=n) (by rw[bJ,hf]);have e7:=uh n;simp only[evF,gh,aj,evS,ev,bp];simp[ev,e2,e5,e1,e6,e7,bN,D.imm];simp[ev]at e3;rw[e3];simp[biV,items,bz,D.imm,bX,bg,aX]
section dicts
variable [DecidableEq κ]
def pU:∀ {ks:List κ} {vs:List D} {x:κ} {d:D} {y:κ},ks.length=vs.length->x∉ks->aG (ks++[x]) (vs++[d]) y=if x=y then some d else aG ks vs y
 | [],[],x,d,y,_,_=>by simp[aG]
 | k::ks,v::vs,x,d,y,h,hn=>by
  simp at h hn;have:=pU (ks:=ks) (vs:=vs) (x:=x) (d:=d) (y:=y) h hn.2;simp only[List.cons_append,aG];by_cases e:k=y
  ·rw[if_pos e,if_pos e,if_neg (fun c=>hn.1 (c.trans e.symm))]
  ·rw[if_neg e,if_neg e,this]
def qm:∀ {ks:List κ} {vs:List D} {x:κ} {d:D} {y:κ},ks.length=vs.length->x∈ks->aG ks (List.zipWith (fun k v=>if k=x then d else v) ks vs) y=if x=y then some d else aG ks vs y
 | k::ks,v::vs,x,d,y,h,hm=>by
  simp at h;simp only[List.zipWith_cons_cons,aG];by_cases e:k=y
  ·rw[if_pos e,if_pos e];by_cases e':k=x
   ·rw[if_pos e',if_pos (e'.symm.trans e)]
   ·rw[if_neg e',if_neg (fun c=>e' (e.trans c.symm))]
  ·rw[if_neg e,if_neg e];by_cases hx:x∈ks
   ·exact qm h hx
   ·have kx:x=k:=by simpa[hx]using hm
    rw[if_neg (fun c=>e (kx.symm.trans c))]
    have:List.zipWith (fun k v=>if k=x then d else v) ks vs=vs:=by
     clear e hm kx
     induction ks generalizing vs with
     | nil=>cases vs with | nil=>rfl | cons _ _=>simp at h
     | cons a ks ih=>cases vs with
      | nil=>simp at h
      |cons b vs=>
       simp at h hx;simp only[List.zipWith_cons_cons];rw[if_neg (fun c=>hx.1 c.symm),ih (vs:=vs) (h:=h) (hx:=hx.2)]
    rw[this]
def gX{ks:List κ}(h:ks.length=vs.length):aG (putD ks vs x d).1 (putD ks vs x d).2 y=if x=y then some d else aG ks vs y:=by
 unfold putD;split
 ·exact qm h ‹_›
 ·exact pU h ‹_›
def gp{ks:List κ}(h:ks.length=vs.length):(putD ks vs x d).1.length=(putD ks vs x d).2.length/\(putD ks vs x d).1.length<=ks.length+1:=by
 unfold putD;split<;>simp[h]
end dicts
abbrev sd(b:Bool):PySem.Str:=if b then PySem.Str.ofString "high" else PySem.Str.ofString "low"
def oH(b:Bool):(sd b == PySem.Str.ofString "high")=b:=by cases b<;>decide +kernel
def BU(h:sd a=sd b):a=b:=by
 have:=oH a;rw[h,oH]at this;exact this.symm
abbrev nk(b:Bool)(p:Nat):List Ky:=[.inr (sd b),.inl (p:Int)]
def oX(h:nk a p=nk b q):a=b/\p=q:=by
 unfold nk at h;injection h with h1 h2;injection h1 with h1;injection h2 with h2;injection h2 with h2;exact⟨BU h1,by lia⟩
abbrev bf(b:Bool)(x:Nat):D:=.tup [.str (sd b),.int x]
abbrev pick(h l:List Nat)(b:Bool):List Nat:=if b then h else l
abbrev j2(h l:List Nat)(k:Nat)(ks:List (List Ky))(vs:List D):Prop:=ks.length=vs.length/\ks.length<=2*k/\∀ b p,p<k->aG ks vs (nk b p)=some (bf b (at' (pick h l b) p))
def j2.next{h l:List Nat}(N:j2 h l k ks vs):j2 h l (k+1) (putD (putD ks vs (nk true k) (bf true (at' h k))).1 (putD ks vs (nk true k) (bf true (at' h k))).2 (nk false k) (bf false (at' l k))).1 (putD (putD ks vs (nk true k) (bf true (at' h k))).1 (putD ks vs (nk true k) (bf true (at' h k))).2 (nk false k) (bf false (at' l k))).2:=by
 obtain⟨n1,n2,n3⟩:=N;obtain⟨a1,a2⟩:=gp (x:=nk true k) (d:=bf true (at' h k)) n1;obtain⟨b1,b2⟩:=gp (x:=nk false k) (d:=bf false (at' l k)) a1;refine⟨b1,by lia,fun b p hp=>?_⟩;rw[gX a1,gX n1];by_cases e:p=k
 ·subst e;cases b
  ·rw[if_pos rfl];rfl
  ·rw[if_neg (fun c=>by have:=(oX c).1;cases this),if_pos rfl];rfl
 ·rw[if_neg (fun c=>e (oX c).2.symm),if_neg (fun c=>e (oX c).2.symm)];exact n3 b p (by lia)
def wx{fr:Nat}(hn:n<=10)(hh:h.length=2*n)(hl:l.length=2*n):∃ ks vs o,j2 h l (2*n) ks vs/\bo (aj cl [3,5,6] (fG fr)) [4] (L (List.range (2*n))) [some (.tup (L h)),some (.tup (L l)),some (.int n),some (.dT [] []),none,none,none,none,none]=some (.nx,[some (.tup (L h)),some (.tup (L l)),some (.int n),some (.dT ks vs),o,none,none,none,none]):=by
 obtain⟨σ',e,ks,vs,o,rfl,N⟩:=cH (f:=aj cl [3,5,6] (fG fr)) (tg:=[4]) (xs:=List.range (2*n)) (σ:=[some (.tup (L h)),some (.tup (L l)),some (.int n),some (.dT [] []),none,none,none,none,none])
  (fun p σ=>∃ ks vs o,σ=[some (.tup (L h)),some (.tup (L l)),some (.int n),some (.dT ks vs),o,none,none,none,none]/\j2 h l p.length ks vs) ⟨[],[],none,rfl,rfl,by simp,by simp⟩ (by
   rintro p x q σ hx ⟨ks,vs,o,rfl,N⟩;obtain⟨h1,h2⟩:=cB (g:=id) (by simpa using hx);simp only[id]at h2;subst h2;have i1:=fK (f:=h) (x:=p.length) (by lia);have i2:=fK (f:=l) (x:=p.length) (by lia);have a:=gp (x:=nk true p.length) (d:=bf true (at' h p.length)) N.1
   have m1:ks.length<most:=by have:=N.2.1;unfold most;lia
   have m2:(putD ks vs (nk true p.length) (bf true (at' h p.length))).1.length<most:=by have:=N.2.1;unfold most;lia
   refine⟨_,?_,_,_,some (.int (p.length:Int)),rfl,by simpa using N.next⟩;have k1:keysOf [.str (PySem.Str.ofString "high"),.int (p.length:Int)]=some (nk true p.length):=rfl;have k2:keysOf [.str (PySem.Str.ofString "low"),.int (p.length:Int)]=some (nk false p.length):=rfl
   have u1:dD (.dT ks vs) (.tup [.str (PySem.Str.ofString "high"),.int (p.length:Int)]) (.tup [.str (PySem.Str.ofString "high"),.int (at' h p.length:Nat)])=some (.dT (putD ks vs (nk true p.length) (bf true (at' h p.length))).1 (putD ks vs (nk true p.length) (bf true (at' h p.length))).2):=by
    dsimp only[dD];rw[k1,Option.bind_some,if_pos m1];rfl
   have u2:∀ ks vs,ks.length<most->dD (.dT ks vs) (.tup [.str (PySem.Str.ofString "low"),.int (p.length:Int)]) (.tup [.str (PySem.Str.ofString "low"),.int (at' l p.length:Nat)])=some (.dT (putD ks vs (nk false p.length) (bf false (at' l p.length))).1 (putD ks vs (nk false p.length) (bf false (at' l p.length))).2):=by
    intro ks vs m;dsimp only[dD];rw[k2,Option.bind_some,if_pos m];rfl
   simp only[aF,fG,aj,evS,ev,evs,List.set,Option.bind_some,List.getElem?_cons_zero,List.getElem?_cons_succ,id,i1,i2,Option.map_some,D.imm,ax,Bool.and_self,if_true,u1,u2 _ _ m2])
 simp only[List.length_range]at N;exact⟨ks,vs,o,N,e⟩
abbrev stp(n:Nat)(h l:List Nat)(s:Bool × Nat):Bool × Nat:=if s.1=decide (n<=s.2)then(!s.1,at' (pick h l (!s.1)) ((s.2+n)%(2*n)))else s
abbrev itr(n:Nat)(h l:List Nat):Nat->Bool × Nat->Bool × Nat
 | 0,s=>s
 | i+1,s=>stp n h l (itr n h l i s)
abbrev Tr(n:Nat)(s:Bool × Nat)(m:Nat):Prop:=s.1=decide (n<=s.2)/\s.2%n=m
abbrev GD(gk:List Ky)(gv:List D)(k:Nat)(P:Nat->Prop):Prop:=gk.length=gv.length/\gk.length<=k/\∀ m:Nat,(aG gk gv (.inl (m:Int))).isSome=true↔P m
def GD.put(G:GD gk gv k P)(m0:Nat)(d:D):GD (putD gk gv (.inl (m0:Int)) d).1 (putD gk gv (.inl (m0:Int)) d).2 (k+1) (fun m=>P m\/m0=m):=by
 obtain⟨g1,g2,g3⟩:=G;obtain⟨a1,a2⟩:=gp (x:=(.inl (m0:Int):Ky)) (d:=d) g1;refine⟨a1,by lia,fun m=>?_⟩;rw[gX g1];by_cases e:m0=m
 ·subst e;simp
 ·rw[if_neg (fun c=>e (by injection c;lia)),g3];simp[e]
def GD.mono(G:GD gk gv k P)(hk:k<=k')(h:∀ m,P m↔Q m):GD gk gv k' Q :=
 ⟨G.1,by have:=G.2.1;lia,fun m=>(G.2.2 m).trans (h m)⟩
abbrev hst(n:Nat)(h l:List Nat)(ks:List (List Ky))(vs:List D)(o4:Option D)(fnd:List Nat)(gk:List Ky)(gv:List D)(o7 o8:Option D):St :=
 [some (.tup (L h)),some (.tup (L l)),some (.int n),some (.dT ks vs),o4,some (.lst (L fnd)),some (.dK gk gv),o7,o8]
section
def pX(b:Bool)(x:Nat):ixV (bf b x) (.int 0)=some (.str (sd b)):=rfl
def kH(b:Bool)(x:Nat):ixV (bf b x) (.int 1)=some (.int (x:Nat)):=rfl
def kT(b:Bool):ixV (.lst [.str (PySem.Str.ofString "high"),.str (PySem.Str.ofString "low")]) (.int (if b=true then 1 else 0))=some (.str (sd !b)):=by cases b<;>rfl
def Aa(h1:1<=n)(hn:n<=10)(N:j2 h l (2*n) ks vs)(hx:x<2*n)(G:GD gk gv k P)(hk:k<=2000)(o4 o8:Option D)(t:D) :
  ∃ gk' gv',GD gk' gv' (k+1) (fun m=>P m\/Tr n (b,x) m)/\(aF [8] t (hst n h l ks vs o4 fnd gk gv (some (bf b x)) o8)).bind (aj cl [3,5,6] (dh fr))=some (.nx,hst n h l ks vs o4 fnd gk' gv' (some (bf (stp n h l (b,x)).1 (stp n h l (b,x)).2)) (some t)):=by
 have e1:aB .mul (.int 2) (.int n)=some (.int (2*n)):=bR (by decide) (by decide)
 have cnd:ev cl (hst n h l ks vs o4 fnd gk gv (some (bf b x)) (some t)) (.cmp .eq (.cmp .eq (.ix (.var 7) (.cst (.int 0))) (.cst (.str "high"))) (.cmp .ge (.ix (.var 7) (.cst (.int 1))) (.var 2)))=some (.bl (b == decide (n<=x))):=by
  simp only[hst,ev,Option.bind_some,List.getElem?_cons_zero,List.getElem?_cons_succ,id,pX,kH,bw,eqD,oH,Option.map_some];simp
 by_cases e:b=decide (n<=x)
 ·refine⟨_,_,(G.put (x%n) (.bl true)).mono (Nat.le_refl _) (fun m=>by simp[Tr,e]),?_⟩
  have m1:aB .mod (.int (x:Nat)) (.int n)=some (.int ((x%n:Nat):Int)):=by rw[fA (by lia)];simp
  have m2:aB .mod (.int ((x:Nat)+(n:Int))) (.int (2*(n:Int)))=some (.int (((x+n)%(2*n):Nat):Int)):=by rw[fA (by lia)];simp
  have u:dD (.dK gk gv) (.int ((x%n:Nat):Int)) (.bl true)=some (.dK (putD gk gv (.inl ((x%n:Nat):Int)) (.bl true)).1 (putD gk gv (.inl ((x%n:Nat):Int)) (.bl true)).2):=by
   dsimp only[dD,keyOf];rw[Option.bind_some,if_pos (by have:=G.2.1;unfold most;lia)]
  have lk:ql (.dT ks vs) (.tup [.str (sd !b),.int (((x+n)%(2*n):Nat):Int)])=some (bf (!b) (at' (pick h l !b) ((x+n)%(2*n)))):=by
   have:=N.2.2 (!b) ((x+n)%(2*n)) (Nat.mod_lt _ (by lia));rw[<-this];rfl
  have s1:stp n h l (b,x)=(!b,at' (pick h l !b) ((x+n)%(2*n))):=by unfold stp;rw[if_pos e]
  rw[s1]
  have eb:(b == decide (n<=x))=true:=by simp[e]
  rw[eb]at cnd;simp only[aF,hst,List.set,Option.bind_some,dh,aj,evS]at cnd ⊢;rw[cnd];simp only[Option.bind_some,truth,if_true,aj,evS,ev,evs,List.getElem?_cons_zero,List.getElem?_cons_succ,id,pX,kH,m1,u,D.imm,Option.map_some,List.set,bw,eqD,oH,biV,kT,bW,e1,m2,lk];have ok:bN [3,5,6] (.ixD (.var 3) (.tup (.cons (.ix (.lst (.cons (.cst (.str "high")) (.cons (.cst (.str "low")) .nil))) (.bi .int (.cmp .eq (.ix (.var 7) (.cst (.int 0))) (.cst (.str "high"))))) (.cons (.bin .mod (.bin .add (.ix (.var 7) (.cst (.int 1))) (.var 2)) (.bin .mul (.cst (.int 2)) (.var 2))) .nil)))) (bf (!b) (at' (pick h l !b) ((x+n)%(2*n))))=true:=rfl;rw[if_pos ok];rfl
 ·refine⟨gk,gv,G.mono (by lia) (fun m=>by simp[Tr,e]),?_⟩
  have s1:stp n h l (b,x)=(b,x):=by unfold stp;rw[if_neg e]
  rw[s1]
  have eb:(b == decide (n<=x))=false:=by simp[e]
  rw[eb]at cnd;simp only[aF,hst,List.set,Option.bind_some,dh,aj,evS]at cnd ⊢;rw[cnd];simp[truth,aj]
def Dz(hh:∀ x,x<2*n->at' h x<2*n)(hl:∀ x,x<2*n->at' l x<2*n)(hs:s.2<2*n):(stp n h l s).2<2*n:=by
 unfold stp;split
 ·have m:(s.2+n)%(2*n)<2*n:=Nat.mod_lt _ (by lia);cases s.1
  ·exact hh _ m
  ·exact hl _ m
 ·exact hs
def xj(hh:∀ x,x<2*n->at' h x<2*n)(hl:∀ x,x<2*n->at' l x<2*n)(hs:s.2<2*n):∀ i,(itr n h l i s).2<2*n
 | 0=>hs
 | i+1=>Dz hh hl (xj hh hl hs i)
abbrev Met(n:Nat)(h l:List Nat)(s:Bool × Nat)(i:Nat)(m:Nat):Prop:=∃ j,j<i/\Tr n (itr n h l j s) m
def Aj(h1:1<=n)(hn:n<=10)(N:j2 h l (2*n) ks vs)(hh:∀ x,x<2*n->at' h x<2*n)(hl:∀ x,x<2*n->at' l x<2*n)(hs:s.2<2*n)(G:GD gk gv k P)(hk:k<=1000)(o4 o8:Option D) :
  ∃ gk' gv' o8',GD gk' gv' (k+4*n) (fun m=>P m\/Met n h l s (4*n) m)/\bo (aj cl [3,5,6] (dh fr)) [8] (L (List.range (4*n))) (hst n h l ks vs o4 fnd gk gv (some (bf s.1 s.2)) o8)=some (.nx,hst n h l ks vs o4 fnd gk' gv' (some (bf (itr n h l (4*n) s).1 (itr n h l (4*n) s).2)) o8'):=by
 obtain⟨σ',e,gk',gv',o8',rfl,G'⟩:=cH (f:=aj cl [3,5,6] (dh fr)) (tg:=[8]) (xs:=List.range (4*n)) (σ:=hst n h l ks vs o4 fnd gk gv (some (bf s.1 s.2)) o8)
  (fun p σ=>∃ gk' gv' o8',σ=hst n h l ks vs o4 fnd gk' gv' (some (bf (itr n h l p.length s).1 (itr n h l p.length s).2)) o8'/\GD gk' gv' (k+p.length) (fun m=>P m\/Met n h l s p.length m))
  ⟨gk,gv,o8,rfl,G.mono (by simp) (fun m=>by simp[Met])⟩ (by
   rintro p x q σ hx ⟨gk',gv',o8',rfl,G'⟩;obtain⟨a1,a2⟩:=cB (g:=id) (by simpa using hx);obtain⟨gk2,gv2,G2,e2⟩:=Aa (cl:=cl) (fr:=fr) (fnd:=fnd) h1 hn N (xj hh hl hs p.length) G' (by lia) o4 o8' (.int (x:Nat)) (b:=(itr n h l p.length s).1);refine⟨_,e2,gk2,gv2,_,by rw[List.length_append];rfl,G2.mono (by simp;lia) (fun m=>?_)⟩;simp only[Met,List.length_append,List.length_singleton];constructor
   ·rintro((hp | ⟨j,h1,h2⟩) | h2)
    ·exact .inl hp
    ·exact .inr ⟨j,by lia,h2⟩
    ·exact .inr ⟨p.length,by lia,h2⟩
   ·rintro(hp | ⟨j,h1,h2⟩)
    ·exact .inl (.inl hp)
    ·by_cases hj:j=p.length
     ·subst hj;exact .inr h2
     ·exact .inl (.inr ⟨j,by lia,h2⟩))
 simp only[List.length_range]at G' e;exact⟨gk',gv',o8',G',e⟩
abbrev beg(n:Nat)(h l:List Nat)(p:Nat):Bool × Nat:=(decide (p<n),at' (pick h l (decide (p<n))) p)
abbrev gL(n:Nat)(h l:List Nat):List Nat:=(List.range (2*n)).map fun p=>(itr n h l (4*n) (beg n h l p)).2
abbrev Gn(n:Nat)(h l:List Nat)(k m:Nat):Prop:=∃ p,p<k/\Met n h l (beg n h l p) (4*n) m
def FD(b:Bool):ixV (.lst [.str (PySem.Str.ofString "high"),.str (PySem.Str.ofString "low")]) (.int (if b=true then 1 else 0))=some (.str (sd !b)):=kT b
def AE(h1:1<=n)(hn:n<=10)(N:j2 h l (2*n) ks vs)(hh:∀ x,x<2*n->at' h x<2*n)(hl:∀ x,x<2*n->at' l x<2*n)(o4 o7 o8:Option D) :
  ∃ gk gv o4' o7' o8',GD gk gv 1000 (Gn n h l (2*n))/\bo (aj cl [3,5,6] (fC fr)) [4] (L (List.range (2*n))) (hst n h l ks vs o4 [] [] [] o7 o8)=some (.nx,hst n h l ks vs o4' (gL n h l) gk gv o7' o8'):=by
 have e4:aB .mul (.int 4) (.int n)=some (.int (4*n)):=bR (by decide) (by decide);have r4:=cY (n:=4*n) (by lia);rw[show((4*n:Nat):Int)=4*(n:Int) by lia]at r4
 obtain⟨σ',e,gk,gv,o4',o7',o8',rfl,G⟩:=cH (f:=aj cl [3,5,6] (fC fr)) (tg:=[4]) (xs:=List.range (2*n)) (σ:=hst n h l ks vs o4 [] [] [] o7 o8)
  (fun p σ=>∃ gk gv o4' o7' o8',σ=hst n h l ks vs o4' ((List.range p.length).map fun p=>(itr n h l (4*n) (beg n h l p)).2) gk gv o7' o8'/\GD gk gv (40*p.length) (Gn n h l p.length))
  ⟨[],[],o4,o7,o8,rfl,rfl,by simp,fun m=>by simp[aG,Gn]⟩ (by
   rintro p x q σ hx ⟨gk,gv,o4',o7',o8',rfl,G⟩;obtain⟨a1,a2⟩:=cB (g:=id) (by simpa using hx);simp only[id]at a2;subst a2
   have hb:(beg n h l p.length).2<2*n:=by
    unfold beg pick;cases decide (p.length<n)
    ·exact hl _ a1
    ·exact hh _ a1
   obtain⟨gk2,gv2,o82,G2,e2⟩:=Aj (cl:=cl) (fr:=fr) (fnd:=(List.range p.length).map fun p=>(itr n h l (4*n) (beg n h l p)).2) h1 hn N hh hl hb G (by lia) (some (.int (p.length:Nat))) o8'
   have c1:bw .ge (.int (p.length:Nat)) (.int n)=some (!decide (p.length<n)):=by
    rw[zf];congr 1;by_cases c:p.length<n
    ·simp[c]
    ·simp[c];lia
   have lk:ql (.dT ks vs) (.tup [.str (sd (decide (p.length<n))),.int (p.length:Nat)])=some (bf (beg n h l p.length).1 (beg n h l p.length).2):=by
    have:=N.2.2 (decide (p.length<n)) p.length a1;rw[show bf (beg n h l p.length).1 (beg n h l p.length).2=bf (decide (p.length<n)) (at' (pick h l (decide (p.length<n))) p.length)from rfl,<-this];rfl
   have sx:=kT (!decide (p.length<n));rw[Bool.not_not]at sx;refine⟨hst n h l ks vs (some (.int (p.length:Nat))) ((List.range (p++[p.length]).length).map fun p=>(itr n h l (4*n) (beg n h l p)).2) gk2 gv2 (some (bf (itr n h l (4*n) (beg n h l p.length)).1 (itr n h l (4*n) (beg n h l p.length)).2)) o82,?_,gk2,gv2,_,_,_,rfl,G2.mono (by simp;lia) (fun m=>?_)⟩
   ·have ok:bN [3,5,6] (.ixD (.var 3) (.tup (.cons (.ix (.lst (.cons (.cst (.str "high")) (.cons (.cst (.str "low")) .nil))) (.bi .int (.cmp .ge (.var 4) (.var 2)))) (.cons (.var 4) .nil)))) (bf (beg n h l p.length).1 (beg n h l p.length).2)=true:=rfl;simp only[aF,hst,List.set,Option.bind_some,fC,aj,evS,ev,evs,bp,List.getElem?_cons_zero,List.getElem?_cons_succ,id,c1,Option.map_some,biV,sx,lk,e4,r4]at e2 ⊢;rw[if_pos ok];simp only[Option.bind_some,e4,r4,List.getElem?_cons_zero,List.getElem?_cons_succ,id,e2,kH]
    have ml:((D.int (((itr n h l (4*n) (beg n h l p.length)).2:Nat):Int)).imm&&decide ((L (List.map (fun p=>(itr n h l (4*n) (beg n h l p)).snd) (List.range p.length))).length<most))=true:=by
     simp[D.imm,bJ,most];lia
    rw[if_pos ml];simp[L,List.range_succ]
   ·simp only[Gn,List.length_append,List.length_singleton];constructor
    ·rintro(⟨j,h1,h2⟩ | h2)
     ·exact⟨j,by lia,h2⟩
     ·exact⟨p.length,by lia,h2⟩
    ·rintro⟨j,h1,h2⟩;by_cases hj:j=p.length
     ·subst hj;exact .inr h2
     ·exact .inl ⟨j,by lia,h2⟩)
 simp only[List.length_range]at G e;exact⟨gk,gv,o4',o7',o8',G.mono (by lia) (fun _=>Iff.rfl),e⟩
def yI(h1:1<=n)(hn:n<=10)(h2:h.length=2*n)(l2:l.length=2*n)(hh:∀ x,x<2*n->at' h x<2*n)(hl:∀ x,x<2*n->at' l x<2*n) :
  ∃ inner:List Nat,(∀ m,m∈inner↔m<n/\¬ Gn n h l (2*n) m)/\inner.length<=n/\∀ r:Int,cl fr [.tup (L h),.tup (L l),.lst (L inner)]=some (.int r)->evF cl (eT fr) [.tup (L h),.tup (L l)]=some (.tup [.tup (L (gL n h l)),.int r]):=by
 have e1:aB .mul (.int 2) (.int n)=some (.int (2*n)):=bR (by decide) (by decide);have r2:=cY (n:=2*n) (by lia);rw[show((2*n:Nat):Int)=2*(n:Int) by lia]at r2;have r1:=cY (n:=n) (by lia);obtain⟨ks,vs,o,N,en⟩:=wx (cl:=cl) (fr:=fr) hn h2 l2;obtain⟨gk,gv,o4,o7,o8,G,eb⟩:=AE (cl:=cl) (fr:=fr) h1 hn N hh hl o none none;refine⟨(List.range n).filter fun m:Nat=>!(aG gk gv (.inl (m:Int))).isSome,fun m=>?_,?_,?_⟩
 ·have:=G.2.2 m;simp[<-this]
 ·have:=List.length_filter_le (fun m:Nat=>!(aG gk gv (.inl (m:Int))).isSome) (List.range n);simpa using this
 ·intro r hr;have e6:=half (xs:=L h) (n:=n) (by rw[bJ,h2]);have e7:=uh n;have ft:=jA (xs:=List.range n) (by simp;lia)
  have mc:=vv (F:=fun σ1=>((ev cl σ1 (.inD true (.var 4) (.var 6))).bind truth).bind fun k=>if k then(ev cl σ1 (.var 4)).map some else some none) (tg:=[4]) (σ:=hst n h l ks vs o4 (gL n h l) gk gv o7 o8) (g:=fun m=>.int (m:Nat)) (c:=fun m=>!(aG gk gv (.inl (m:Int))).isSome) (fun _=>rfl) (List.range n) (by
   intro x _;simp only[aF,hst,List.set,Option.bind_some,ev,List.getElem?_cons_zero,List.getElem?_cons_succ,id,yr,keyOf,Option.map_some,truth,if_true]
   cases(aG gk gv (.inl (x:Int))).isSome<;>rfl)
  simp only[evF,eT,aj,evS,ev,bp];simp[ev,e6,e7,bN,D.imm,aV,ax,e1,r2];rw[en];simp[aj,evS,ev,evs,bp,e1,r2,aV,ax,D.imm];simp[hst]at eb;rw[show L []=[]from rfl]at eb;rw[eb];simp[aj,evS,ev,evs,bp,r1,ft,biV,items];simp[ev,hst]at mc;rw[mc];rw[show(List.map (fun m:Nat=>D.int (m:Int)) (List.filter (fun m:Nat=>(aG gk gv (Sum.inl (m:Int))).isNone) (List.range n)))=L (List.filter (fun m:Nat=>(aG gk gv (Sum.inl (m:Int))).isNone) (List.range n))from rfl];simp at hr;simp[hr,bz,D.imm,ax,bX,bg]
end
def pM [DecidableEq κ]:∀ {ks:List κ} {vs:List D} {x:κ} {d:D},aG ks vs x=some d->x∈ks
 | k::ks,v::vs,x,d,h=>by
  rw[aG]at h;by_cases e:k=x
  ·simp[e]
  ·rw[if_neg e]at h;simp[pM h]
def xK{κ:Type} [DecidableEq κ]{ks:List κ}{vs:List D}{x:κ}(h:aG ks vs x=some d):(putD ks vs x e).1=ks:=by
 unfold putD;rw[if_pos (pM h)]
abbrev HI(inner:List Nat)(hk:List Ky)(hv:List D):Prop:=hk.length=hv.length/\hk.length<=10/\∀ m∈inner,∃ v:Int,aG hk hv (.inl (m:Int))=some (.int v)
def HI.put{inner:List Nat}{hk:List Ky}{hv:List D}(H:HI inner hk hv){m:Nat}(hm:m∈inner)(v:Int):HI inner (putD hk hv (.inl (m:Int)) (.int v)).1 (putD hk hv (.inl (m:Int)) (.int v)).2:=by
 obtain⟨a,b,c⟩:=H;obtain⟨v0,h0⟩:=c m hm;refine⟨(gp a).1,by rw[xK h0];exact b,fun i hi=>?_⟩;rw[gX a];by_cases e:(.inl (m:Int):Ky)=.inl (i:Int)
 ·rw[if_pos e];exact⟨v,rfl⟩
 ·rw[if_neg e];exact c i hi
abbrev rst(n:Nat)(h l inner:List Nat)(hk:List Ky)(hv:List D)(o5 o6 o7 o8 o9:Option D):St :=
 [some (.tup (L h)),some (.tup (L l)),some (.lst (L inner)),some (.int n),some (.dK hk hv),o5,o6,o7,o8,o9]
section
def oE(e:aG hk hv (.inl (m:Int))=some (.int v)):ql (.dK hk hv) (.int (m:Nat))=some (.int v):=e
def Ad(H:HI inner hk hv)(o5 o6 o7:Option D)(keep go:Int):∃ hk' hv' o7',HI inner hk' hv'/\bo (aj cl [4] c7) [7] (L inner) (rst n h l inner hk hv o5 o6 o7 (some (.int keep)) (some (.int go)))=some (.nx,rst n h l inner hk' hv' o5 o6 o7' (some (.int keep)) (some (.int go))):=by
 obtain⟨σ',e,hk',hv',o7',rfl,H'⟩:=cH (f:=aj cl [4] c7) (tg:=[7]) (xs:=inner) (σ:=rst n h l inner hk hv o5 o6 o7 (some (.int keep)) (some (.int go)))
  (fun p σ=>∃ hk' hv' o7',σ=rst n h l inner hk' hv' o5 o6 o7' (some (.int keep)) (some (.int go))/\HI inner hk' hv') ⟨hk,hv,o7,rfl,H⟩ (by
   rintro p x q σ hx ⟨hk',hv',o7',rfl,H'⟩
   have hm:x∈inner:=by rw[hx];simp
   obtain⟨v,hv0⟩:=H'.2.2 x hm;have lk:=oE hv0;by_cases c:v=go
   ·refine⟨_,?_,_,_,some (.int (x:Nat)),rfl,H'.put hm keep⟩
    have cc:(v == go)=true:=by simp[c]
    have u:dD (.dK hk' hv') (.int (x:Nat)) (.int keep)=some (.dK (putD hk' hv' (.inl (x:Int)) (.int keep)).1 (putD hk' hv' (.inl (x:Int)) (.int keep)).2):=by
     dsimp only[dD,keyOf];rw[Option.bind_some,if_pos (by have:=H'.2.1;unfold most;lia)]
    simp only[aF,rst,List.set,Option.bind_some,c7,aj,evS,ev,List.getElem?_cons_zero,List.getElem?_cons_succ,id,lk,dQ,cc,Option.map_some,truth,if_true,D.imm,u]
   ·refine⟨_,?_,hk',hv',some (.int (x:Nat)),rfl,H'⟩
    have cc:(v == go)=false:=by simp[c]
    simp only[aF,rst,List.set,Option.bind_some,c7,aj,evS,ev,List.getElem?_cons_zero,List.getElem?_cons_succ,id,lk,dQ,cc,Option.map_some,truth]
    rfl)
 exact⟨hk',hv',o7',H',e⟩
def xP(H:HI inner hk hv)(hm:m∈inner)(hxs:∀ x∈xs,x∈inner)(o6 o7 o8 o9:Option D):∃ hk' hv' o6' o7' o8' o9',HI inner hk' hv'/\bo (aj cl [4] d5) [6] (L xs) (rst n h l inner hk hv (some (.int (m:Nat))) o6 o7 o8 o9)=some (.nx,rst n h l inner hk' hv' (some (.int (m:Nat))) o6' o7' o8' o9'):=by
 obtain⟨σ',e,hk',hv',o6',o7',o8',o9',rfl,H'⟩:=cH (f:=aj cl [4] d5) (tg:=[6]) (xs:=xs) (σ:=rst n h l inner hk hv (some (.int (m:Nat))) o6 o7 o8 o9)
  (fun p σ=>∃ hk' hv' o6' o7' o8' o9',σ=rst n h l inner hk' hv' (some (.int (m:Nat))) o6' o7' o8' o9'/\HI inner hk' hv') ⟨hk,hv,o6,o7,o8,o9,rfl,H⟩ (by
   rintro p x q σ hx ⟨hk',hv',o6',o7',o8',o9',rfl,H'⟩;have hx':x∈inner:=hxs x (by rw[hx];simp);obtain⟨v,hv0⟩:=H'.2.2 x hx';obtain⟨w,hw0⟩:=H'.2.2 m hm;have lk:=oE hv0;have lw:=oE hw0;obtain⟨hk2,hv2,o72,H2,e2⟩:=Ad (cl:=cl) (n:=n) (h:=h) (l:=l) H' (some (.int (m:Nat))) (some (.int (x:Nat))) o7' w v;refine⟨_,?_,hk2,hv2,some (.int (x:Nat)),o72,some (.int w),some (.int v),rfl,H2⟩
   ·simp only[aF,rst,List.set,Option.bind_some,d5,aj,evS,ev,bp,items,List.getElem?_cons_zero,List.getElem?_cons_succ,id,lk,lw,D.imm,Bool.and_self,if_true]at e2 ⊢;rw[e2]
    rfl)
 exact⟨hk',hv',o6',o7',o8',o9',H',e⟩
def ints_map(v:Nat->Int):∀ xs:List Nat,fD (xs.map fun m=>.int (v m))=some (xs.map v)
 | []=>rfl
 | x::r=>by simp[fD,ints_map v r]
def v8(hn:n<=10)(h2:h.length=2*n)(l2:l.length=2*n)(hi:inner.length<=n)(hin:∀ m∈inner,m<n/\at' l m∈inner/\∃ j∈inner,at' h (n+m)=n+j):∃ r:Int,evF cl dN [.tup (L h),.tup (L l),.lst (L inner)]=some (.int r):=by
 have e6:=half (xs:=L h) (n:=n) (by rw[bJ,h2]);have e7:=uh n
 obtain⟨σ1,l1,hk,hv,o5,rfl,H0,H1,H2⟩:=cH (f:=aj cl [4] eN) (tg:=[5]) (xs:=inner) (σ:=rst n h l inner [] [] none none none none none)
  (fun p σ=>∃ hk hv o5,σ=rst n h l inner hk hv o5 none none none none/\hk.length=hv.length/\hk.length<=p.length/\∀ m∈p,∃ v:Int,aG hk hv (.inl (m:Int))=some (.int v)) ⟨[],[],none,rfl,rfl,by simp,by simp⟩ (by
   rintro p x q σ hx ⟨hk,hv,o5,rfl,H0,H1,H2⟩
   have hp:p.length<10:=by
    have:=congrArg List.length hx;simp at this;lia
   have pl:=gp (x:=(.inl (x:Int):Ky)) (d:=.int (x:Nat)) H0;refine⟨_,?_,(putD hk hv (.inl (x:Int)) (.int (x:Nat))).1,(putD hk hv (.inl (x:Int)) (.int (x:Nat))).2,some (.int (x:Nat)),rfl,pl.1,by have:=pl.2;simp;lia,fun m hm=>?_⟩
   ·have u:dD (.dK hk hv) (.int (x:Nat)) (.int (x:Nat))=some (.dK (putD hk hv (.inl (x:Int)) (.int (x:Nat))).1 (putD hk hv (.inl (x:Int)) (.int (x:Nat))).2):=by
     dsimp only[dD,keyOf];rw[Option.bind_some,if_pos (by unfold most;lia)]
    simp only[aF,rst,List.set,Option.bind_some,eN,aj,evS,ev,List.getElem?_cons_zero,List.getElem?_cons_succ,id,D.imm,if_true,u,Option.map_some]
   ·rw[gX H0];by_cases e:(.inl (x:Int):Ky)=.inl (m:Int)
    ·rw[if_pos e];exact⟨_,rfl⟩
    ·rw[if_neg e];simp at hm;rcases hm with hm | hm
     ·exact H2 m hm
     ·exact absurd (by rw[hm]) e)
 have H:HI inner hk hv:=⟨H0,by lia,H2⟩
 obtain⟨σ2,l2',hk',hv',o5',o6',o7',o8',o9',rfl,H'⟩:=cH (f:=aj cl [4] eQ) (tg:=[5]) (xs:=inner) (σ:=rst n h l inner hk hv o5 none none none none)
  (fun p σ=>∃ hk hv o5 o6 o7 o8 o9,σ=rst n h l inner hk hv o5 o6 o7 o8 o9/\HI inner hk hv) ⟨hk,hv,o5,none,none,none,none,rfl,H⟩ (by
   rintro p x q σ hx ⟨hk',hv',o5',o6',o7',o8',o9',rfl,H'⟩
   have hm:x∈inner:=by rw[hx];simp
   obtain⟨xn,ha,j,hj,hjj⟩:=hin x hm;obtain⟨hk2,hv2,o62,o72,o82,o92,H2,e2⟩:=xP (cl:=cl) (n:=n) (h:=h) (l:=l) H' hm (xs:=[at' l x,j]) (by intro y hy;simp at hy;rcases hy with rfl | rfl<;>assumption) o6' o7' o8' o9';have i1:=fK (f:=l) (x:=x) (by lia);have i2:=fK (f:=h) (x:=n+x) (by lia);rw[hjj]at i2
   have s1:((n+x:Nat):Int)=(n:Int)+x:=by lia
   have s2:((n+j:Nat):Int)-n=(j:Nat):=by lia
   rw[s1]at i2;refine⟨_,?_,hk2,hv2,some (.int (x:Nat)),o62,o72,o82,o92,rfl,H2⟩;simp only[aF,rst,List.set,Option.bind_some,eQ,aj,evS,ev,evs,bp,items,List.getElem?_cons_zero,List.getElem?_cons_succ,id,i1,i2,bW,lW,s2,Option.map_some]at e2 ⊢;simp only[L,List.map_cons,List.map_nil]at e2 ⊢;rw[e2]
   rfl)
 let v:Nat->Int:=fun m=>match aG hk' hv' (.inl (m:Int))with
  | some (.int v)=>v
  | _=>0
 have mc:=jD (F:=fun σ1=>(ev cl σ1 (.ixD (.var 4) (.var 5))).map some) (tg:=[5]) (σ:=rst n h l inner hk' hv' o5' o6' o7' o8' o9') (g:=fun m=>.int (v m)) (fun _=>rfl) inner (by
  intro x hx;obtain⟨w,hw⟩:=H'.2.2 x hx
  have vw:v x=w:=by simp only[v,hw]
  have lk:=oE hw
  simp only[aF,rst,List.set,Option.bind_some,ev,List.getElem?_cons_zero,List.getElem?_cons_succ,id,lk,Option.map_some,vw])
 have ft:=jA (xs:=inner) (by lia);refine⟨((iF (inner.map v)).length:Int),?_⟩
 have ls:biV .lenSet (.lst (inner.map fun m=>.int (v m)))=some (.int ((iF (inner.map v)).length:Int)):=by
  dsimp only[biV];rw[if_pos (by simp;lia),ints_map];rfl
 simp only[rst]at l1 l2' mc;simp only[evF,dN,aj,evS,ev,bp];simp[ev,e6,e7,bN,D.imm,aV,ax,items];rw[l1];simp[aj,evS,ev,bp,items];rw[l2'];simp[aj,evS,ev,bp,items,ft];simp[ev]at mc;rw[mc];simp[ls,bz,D.imm,bg]
end
abbrev eM(n:Nat)(f:List Nat):List Nat:=(List.range (2*n)).map fun p=>if p<n then(if at' f p<n then at' f p else p+n)else(if at' f (p-n)<n then at' f (p-n)+n else p-n)
def iw(h:p<2*n):at' (eM n f) p=if p<n then(if at' f p<n then at' f p else p+n)else(if at' f (p-n)<n then at' f (p-n)+n else p-n):=by
 unfold eM;rw[at'];rw[List.getElem?_map,List.getElem?_range h];rfl
def gH(hs:stp n h l s=s):∀ i,itr n h l i s=s
 | 0=>rfl
 | i+1=>by rw[itr,gH hs i,hs]
def iz(hs:stp n h l s=t)(ht:stp n h l t=t):∀ i,itr n h l (i+1) s=t
 | 0=>hs
 | i+1=>by rw[itr,iz hs ht i,ht]
section
def rQ(F:Frm n f)(h:p<n):at' (aX n f) p=if at' f (p+n)<n then at' f (p+n)+n else at' f (p+n)-n:=by
 rw[mz (by lia),Nat.mod_eq_of_lt (a:=p+n) (by lia)];have:=F.lt (p+n) (by lia);split
 ·rw[Nat.mod_eq_of_lt (by lia)]
 ·rw[Nat.mod_eq_sub_mod (by lia),Nat.mod_eq_of_lt (by lia)];lia
def zW(F:Frm n f)(h:n<=p)(h2:p<2*n):at' (aX n f) p=if at' f (p-n)<n then at' f (p-n)+n else at' f (p-n)-n:=by
 rw[mz (by lia),show(p+n)%(2*n)=p-n by rw[Nat.mod_eq_sub_mod (by lia),Nat.mod_eq_of_lt (by omega)];lia];have:=F.lt (p-n) (by lia);split
 ·rw[Nat.mod_eq_of_lt (by lia)]
 ·rw[Nat.mod_eq_sub_mod (by lia),Nat.mod_eq_of_lt (by lia)];lia
def rZ(F:Frm n f)(hp:p<2*n):(∀ i,(itr n f (aX n f) (i+1) (beg n f (aX n f) p)).2=at' (eM n f) p)/\∀ i m,m<n->Tr n (itr n f (aX n f) i (beg n f (aX n f) p)) m->at' f (n+m)<n:=by
 rw[iw hp];by_cases h:p<n
 ·have b0:beg n f (aX n f) p=(true,at' f p):=by simp[beg,h,pick]
  rw[b0,if_pos h];have l0:=F.lt p (by lia);by_cases c:at' f p<n
  ·have st:stp n f (aX n f) (true,at' f p)=(true,at' f p):=by
    unfold stp;rw[if_neg (by simp;lia)]
   refine⟨fun i=>by rw[gH st,if_pos c],fun i m hm t=>?_⟩;rw[gH st]at t;have:=t.1;simp at this;lia
  ·have st:stp n f (aX n f) (true,at' f p)=(false,p+n):=by
    unfold stp;rw[if_pos (by simp;lia)];show(false,at' (aX n f) ((at' f p+n)%(2*n)))=_;rw[show(at' f p+n)%(2*n)=at' f p-n by rw[Nat.mod_eq_sub_mod (by lia),Nat.mod_eq_of_lt (by lia)];lia,rQ F (by lia),show at' f p-n+n=at' f p by lia,F.inv,if_pos h]
   have s2:stp n f (aX n f) (false,p+n)=(false,p+n):=by
    unfold stp;rw[if_neg (by simp)]
   refine⟨fun i=>by rw[iz st s2,if_neg c],fun i m hm t=>?_⟩
   cases i with
   |zero=>
    have t2:=t.2;simp only[itr]at t2
    have:n+m=at' f p:=by
     rw[Nat.mod_eq_sub_mod (by lia),Nat.mod_eq_of_lt (by omega)]at t2;lia
    rw[this,F.inv];exact h
   |succ i=>
    rw[iz st s2]at t;have:=t.1;simp at this
 ·have b0:beg n f (aX n f) p=(false,at' (aX n f) p):=by simp[beg,h,pick]
  rw[b0,if_neg h,zW F (by lia) hp];have l0:=F.lt (p-n) (by lia);by_cases c:at' f (p-n)<n
  ·rw[if_pos c,if_pos c]
   have st:stp n f (aX n f) (false,at' f (p-n)+n)=(false,at' f (p-n)+n):=by
    unfold stp;rw[if_neg (by simp)]
   refine⟨fun i=>by rw[gH st],fun i m hm t=>?_⟩;rw[gH st]at t;have:=t.1;simp at this
  ·rw[if_neg c,if_neg c]
   have st:stp n f (aX n f) (false,at' f (p-n)-n)=(true,p-n):=by
    unfold stp;rw[if_pos (by simp;lia)];show(true,at' f ((at' f (p-n)-n+n)%(2*n)))=_;rw[show at' f (p-n)-n+n=at' f (p-n) by lia,Nat.mod_eq_of_lt l0,F.inv]
   have s2:stp n f (aX n f) (true,p-n)=(true,p-n):=by
    unfold stp;rw[if_neg (by simp;lia)]
   refine⟨fun i=>by rw[iz st s2],fun i m hm t=>?_⟩
   cases i with
   |zero=>
    have t2:=t.2;simp only[itr]at t2;rw[Nat.mod_eq_of_lt (by omega)]at t2
    have:n+m=at' f (p-n):=by lia
    rw[this,F.inv];lia
   |succ i=>
    rw[iz st s2]at t;have:=t.1;simp at this;lia
def vM(h1:1<=n)(F:Frm n f):gL n f (aX n f)=eM n f:=by
 apply B2 (n:=n) (by simp[gL]) (by simp[eM]);funext p;by_cases hp:p<2*n
 ·have:=(rZ F hp).1 (4*n-1);rw[<-this,show 4*n-1+1=4*n by lia];simp[at',gL,hp]
 ·rw[jF (by simp[gL];lia),jF (by simp[eM];lia)]
def qO(h1:1<=n)(F:Frm n f)(hm:m<n):Gn n f (aX n f) (2*n) m↔at' f (n+m)<n:=by
 constructor
 ·rintro⟨p,hp,j,hj,t⟩;exact(rZ F hp).2 j m hm t
 ·intro h;refine⟨at' f (n+m),by lia,0,by lia,?_⟩
  have b0:beg n f (aX n f) (at' f (n+m))=(true,n+m):=by simp[beg,h,pick,F.inv]
  rw[itr,b0];refine⟨by simp,?_⟩;show(n+m)%n=m;rw[Nat.add_mod_left,Nat.mod_eq_of_lt hm]
def Bt(F:Frm n f):Frm n (eM n f):=by
 have lt:∀ x,x<2*n->at' (eM n f) x<2*n:=by
  intro x hx;rw[iw hx];have a:=F.lt x hx;have b:=F.lt (x-n) (by lia)
  repeat' split
  all_goals lia
 refine⟨by simp[eM],lt,fun x=>?_,fun x hx=>?_⟩
 ·by_cases hx:x<2*n
  ·rw[iw (lt x hx),iw hx];by_cases c:x<n
   ·rw[if_pos c];by_cases d:at' f x<n
    ·rw[if_pos d,if_pos d,F.inv,if_pos c]
    ·rw[if_neg d,if_neg (by lia),show x+n-n=x by lia,if_neg d]
   ·rw[if_neg c];by_cases d:at' f (x-n)<n
    ·rw[if_pos d,if_neg (by lia),show at' f (x-n)+n-n=at' f (x-n) by lia,F.inv,if_pos (by lia)];lia
    ·rw[if_neg d,if_pos (by lia),if_neg d];lia
  ·have e:at' (eM n f) x=x:=jF (by simp[eM];lia);rw[e,e]
 ·rw[iw hx];have a:=F.no x hx;have b:=F.no (x-n) (by lia)
  repeat' split
  all_goals lia
def wt(F:Frm n f)(h:q<n):rnd n f q=if at' f q<n then at' f q else 3*n-1-at' f q:=by
 unfold rnd;rw[show rd n q=q by simp[rd,h]];rfl
def sy(F:Frm n f)(h:q<2*n):rnd n (eM n f) q=if q<n then(if at' f q<n then at' f q else 2*n-1-q)else(if at' f (2*n-1-q)<n then 2*n-1-at' f (2*n-1-q)else 2*n-1-q):=by
 unfold rnd;rw[iw (aY h)];by_cases c:q<n
 ·have e:rd n q=q:=by simp[rd,c]
  rw[e,if_pos c,if_pos c];by_cases d:at' f q<n
  ·rw[if_pos d,if_pos d];simp[rd,d]
  ·rw[if_neg d,if_neg d];unfold rd;rw[if_neg (by lia)];lia
 ·have e:rd n q=3*n-1-q:=by simp[rd,c]
  rw[e,if_neg c,if_neg (by lia),show 3*n-1-q-n=2*n-1-q by lia];by_cases d:at' f (2*n-1-q)<n
  ·rw[if_pos d,if_pos d];unfold rd;rw[if_neg (by lia)];lia
  ·rw[if_neg d,if_neg d];unfold rd;rw[if_pos (by omega)]
def Bs(V:Val n f):Val n (eM n f):=by
 have F:=V.frm;refine⟨Bt F,fun q q' h1 h2=>?_⟩
 have X:∀ a b,a<n->b<n->at' f a<n->¬ (a<b/\b<at' f a/\(at' f a<at' f b\/n<=at' f b)):=by
  intro a b ha hb hc ⟨c1,c2,c3⟩;have:=V.nox a b (by lia) (by lia);rw[wt F ha,wt F hb,if_pos hc]at this;have lb:=F.lt b (by lia);split at this<;>lia
 rw[sy F h1,sy F h2];rintro⟨a1,a2,a3⟩;by_cases c:q<n
 ·rw[if_pos c]at a2 a3;by_cases d:at' f q<n
  ·rw[if_pos d]at a2 a3;rw[if_pos (by lia:q'<n)]at a3;have:=X q q' c (by lia) d;split at a3<;>lia
  ·rw[if_neg d]at a2 a3;by_cases c':q'<n
   ·rw[if_pos c']at a3;split at a3<;>omega
   ·rw[if_neg c']at a3;by_cases d':at' f (2*n-1-q')<n
    ·rw[if_pos d']at a3;have:=X (at' f (2*n-1-q')) q d' c (by rw[F.inv];omega);rw[F.inv]at this;lia
    ·rw[if_neg d']at a3;lia
 ·rw[if_neg c]at a2 a3;rw[if_neg (by lia:¬ q'<n)]at a3;by_cases d:at' f (2*n-1-q)<n
  ·rw[if_pos d]at a2 a3;by_cases d':at' f (2*n-1-q')<n
   ·rw[if_pos d']at a3;have:=X (at' f (2*n-1-q')) (at' f (2*n-1-q)) d' d (by rw[F.inv];omega);rw[F.inv,F.inv]at this;omega
   ·rw[if_neg d']at a3;lia
  ·rw[if_neg d]at a2 a3;omega
def qa(h1:1<=n)(hn:n<=10)(F:Frm n f)(hr:∀ inner:List Nat,inner.length<=n->(∀ m∈inner,m<n/\at' (aX n f) m∈inner/\∃ j∈inner,at' f (n+m)=n+j)->∃ r:Int,cl fr [.tup (L f),.tup (L (aX n f)),.lst (L inner)]=some (.int r)) :
  ∃ r:Int,evF cl (eT fr) [.tup (L f),.tup (L (aX n f))]=some (.tup [.tup (L (eM n f)),.int r]):=by
 have ol:(aX n f).length=2*n:=by simp[aX]
 have olt:∀ x,x<2*n->at' (aX n f) x<2*n:=fun x hx=>by
  rw[mz hx];exact Nat.mod_lt _ (by lia)
 obtain⟨inner,i1,i2,i3⟩:=yI (cl:=cl) (fr:=fr) h1 hn F.len ol F.lt olt
 have i1':∀ m,m∈inner↔m<n/\n<=at' f (n+m):=by
  intro m;rw[i1];constructor
  ·rintro⟨a,b⟩;rw[qO h1 F a]at b;exact⟨a,by lia⟩
  ·rintro⟨a,b⟩;refine⟨a,?_⟩;rw[qO h1 F a];lia
 obtain⟨r,hr⟩:=hr inner i2 (fun m hm=>by
  obtain⟨a,b⟩:=(i1' m).mp hm;have lt:=F.lt (n+m) (by lia)
  have jm:at' f (n+m)-n∈inner:=by
   rw[i1'];refine⟨by lia,?_⟩;rw[show n+(at' f (n+m)-n)=at' f (n+m) by lia,F.inv];lia
  refine⟨a,?_,_,jm,by lia⟩;rw[rQ F a,Nat.add_comm m n,if_neg (by lia)]
  exact jm)
 exact⟨r,by rw[<-vM h1 F];exact i3 r hr⟩
end
def vZ(h1:1<=n)(hn:n<=10)
 (hd:∃ ds:List Nat,il ds [8,10 ^ 12,max 1 (n-1)]/\cl fdi [scr,.int k,.lst (L [8,10 ^ 12,max 1 (n-1)])]=some (.lst (L ds)))
 (hpl:cl fpl [.int n]=some (.tup (L (br n))))
 (hho:∀ i:Nat,i+1<n->cl fho [.int n,.int i]=some (.tup (L (fB n i))))
 (htx:∀ r:Int,∃ w:List Bool,w.length=2*n/\dpf 0 w=some 0/\cl ftx [.int r,.int n]=some (.str (tx w)))
 (hfr:∀ w:List Bool,w.length=2*n->dpf 0 w=some 0->∃ f:List Nat,Val n f/\cl ffr [.str (tx w)]=some (.tup (L f)))
 (hov:∀ f:List Nat,f.length=2*n->cl fov [.tup (L f)]=some (.tup (L (aX n f))))
 (hhu:∀ f:List Nat,Val n f->∃ (g:List Nat) (r:Int),Val n g/\cl fhu [.tup (L f),.tup (L (aX n f))]=some (.tup [.tup (L g),.int r])) :
  ∃ f:List Nat,Val n f/\evF cl (ij fhu fov ffr ftx fho fpl fdi) [scr,.int k,.int n]=some (.tup (L f)):=by
 obtain⟨ds,⟨dl,dd⟩,hd⟩:=hd
 match ds,dl with
 |[a,b,c],_=>
  have hc:c<max 1 (n-1):=dd 2 c _ rfl rfl
  have mx:(if(n:Int)-1 > 1 then(n:Int)-1 else 1)=((max 1 (n-1):Nat):Int):=by
   split<;>lia
  have pw:aB .pow (.int 10) (.int 12)=some (.int ((10 ^ 12:Nat):Int)):=rfl;obtain⟨w,w1,w2,w3⟩:=htx b;obtain⟨f,V,f3⟩:=hfr w w1 w2;obtain⟨g,r,V',hu⟩:=hhu f V;have ho:=hov f V.frm.len
  have tl:∀ g:List Nat,bz [] (.cst .non) (.tup (L g))=true/\(D.tup (L g)).imm=true:=fun g=>by simp[bz,D.imm,bX]
  have ret:∀ (e:E) (g:List Nat),bz [] e (.tup (L g))=true:=fun e g=>by unfold bz;rw[(tl g).2];rfl
  have start:∀ {rest:Ss} {d:D},(∃ σ,aj cl [] rest [some scr,some (.int k),some (.int n),none,some (.int (a:Nat)),some (.int (b:Nat)),some (.int (c:Nat))]=some (.rt d,σ))->evF cl ⟨3,7,[],[],.cons (.unp [4,5,6] (.call fdi (.cons (.var 0) (.cons (.var 1) (.cons (.lst (.cons (.cst (.int 8)) (.cons (.bin .pow (.cst (.int 10)) (.cst (.int 12))) (.cons (.max (.cst (.int 1)) (.bin .sub (.var 2) (.cst (.int 1)))) .nil)))) .nil))))) rest⟩ [scr,.int k,.int n]=some d:=fun {rest d} ⟨σ,h⟩ =>
   aU rfl rfl (xm (qQ (ae rfl) (ae rfl) (cU (aQ ai (aQ (aA ai ai pw) (aQ ((F1 ai (aA (ae rfl) ai lW)).trans (by rw[mx])) bF)))) hd) rfl rfl rfl h)
  have no:∀ {j:Nat},a≠j->∀ o,(ev cl [some scr,some (.int k),some (.int n),o,some (.int (a:Nat)),some (.int (b:Nat)),some (.int (c:Nat))] (.cmp .eq (.var 4) (.cst (.int (j:Nat)))))=some (.bl false):=fun {j} h o=>az (ae rfl) ai (by rw[dQ,beq_eq_false_iff_ne.mpr (by lia)]);have yes:∀ {j:Nat},a=j->∀ o,(ev cl [some scr,some (.int k),some (.int n),o,some (.int (a:Nat)),some (.int (b:Nat)),some (.int (c:Nat))] (.cmp .eq (.var 4) (.cst (.int (j:Nat)))))=some (.bl true):=fun {j} h o=>az (ae rfl) ai (by rw[dQ,h,beq_self_eq_true]);by_cases a0:a=0
  ·exact⟨br n,vU n,start ⟨_,bD (aE (yes a0 _)) (aL (bT (ae rfl) hpl) (ret ..))⟩⟩
  ·by_cases a1:a=1/\1<n
   ·exact⟨fB n c,yj hn (by lia),start ⟨_,aO (aE (no a0 _)) (bD (aE (cE (yes a1.1 _) (az (ae rfl) ai (by rw[mP,decide_eq_true (by lia)])))) (aL (iq (ae rfl) (ae rfl) (hho c (by lia))) (ret ..)))⟩⟩
   ·have cnd:ev cl [some scr,some (.int k),some (.int n),none,some (.int (a:Nat)),some (.int (b:Nat)),some (.int (c:Nat))] (.and (.cmp .eq (.var 4) (.cst (.int 1))) (.cmp .gt (.var 2) (.cst (.int 1))))=some (.bl false):=by
     by_cases e1:a=1
     ·exact cE (yes e1 _) (az (ae rfl) ai (by rw[mP,decide_eq_false (by lia)]))
     ·exact fJ (no e1 _)
    have on:∀ {rest:Ss} {d:D},(∃ σ,aj cl [] rest [some scr,some (.int k),some (.int n),some (.tup (L f)),some (.int (a:Nat)),some (.int (b:Nat)),some (.int (c:Nat))]=some (.rt d,σ))->∃ σ,aj cl [] (.cons (.ife (.cmp .eq (.var 4) (.cst (.int 0))) (.cons (.ret (.call fpl (.cons (.var 2) .nil))) .nil) .nil) (.cons (.ife (.and (.cmp .eq (.var 4) (.cst (.int 1))) (.cmp .gt (.var 2) (.cst (.int 1)))) (.cons (.ret (.call fho (.cons (.var 2) (.cons (.var 6) .nil)))) .nil) .nil) (.cons (.asg 3 (.call ffr (.cons (.call ftx (.cons (.var 5) (.cons (.var 2) .nil))) .nil))) rest))) [some scr,some (.int k),some (.int n),none,some (.int (a:Nat)),some (.int (b:Nat)),some (.int (c:Nat))]=some (.rt d,σ):=fun⟨σ,h⟩ =>
     ⟨σ,aO (aE (no a0 _)) (aO (aE cnd) (aI (bT (iq (ae rfl) (ae rfl) w3) f3) (by unfold bN;rw[(tl f).2];rfl) h))⟩
    by_cases a2:a=2
    ·exact⟨g,V',start (on ⟨_,bD (aE (yes a2 _)) (aL (eu (iq (ae rfl) (bT (ae rfl) ho) hu) ai rfl) (ret ..))⟩)⟩
    ·exact⟨f,V,start (on ⟨_,aO (aE (no a2 _)) (aL (ae rfl) (ret ..))⟩)⟩
def uK(im:∀ x,(g x).imm=true):∀ xs:List Nat,(∀ x∈xs,(aF tg (h x) σ).bind F=some (if c x then some (g x)else none))->cJ F tg σ (xs.map h)=some ((xs.filter c).map g)
 | [],_=>rfl
 | x::r,hh=>by
  have a:=hh x (by simp);have b:=uK im r (fun y hy=>hh y (by simp[hy]));rw[List.map_cons,cJ]
  cases hb:aF tg (h x) σ with
  | none=>rw[hb]at a;cases a
  |some σ1=>
   rw[hb]at a;simp only[Option.bind_some]at a ⊢;rw[a,b];cases hc:c x<;>simp[j7,im,hc]
abbrev pr(f:List Nat)(p:Nat):D:=.tup [.int (p:Nat),.int (at' f p:Nat)]
def rX:∀ (f:List Nat) (k:Nat),cT (k:Int) (L f)=(List.range f.length).map fun p=>.tup [.int ((k+p:Nat):Int),.int (at' f p:Nat)]
 | [],k=>rfl
 | x::r,k=>by
  rw[show L (x::r)=.int x::L r from rfl,cT,show(k:Int)+1=((k+1:Nat):Int) by lia,rX r (k+1),List.length_cons,List.range_succ_eq_map,List.map_cons,List.map_map];congr 1;apply List.map_congr_left;intro p hp;simp at hp
  have e:at' (x::r) (p+1)=at' r p:=by simp[at',hp]
  simp[e];lia
def jK(h:f.length=m):cT 0 (L f)=(List.range m).map (pr f):=by
 have:=rX f 0;rw[h]at this;simp only[Nat.zero_add]at this;exact this
def uI(g:β->D)(im:∀ b,(g b).imm=true)(I:List β->St->Prop):∀ (w done:List β) (σ:St),(∀ u b v σ,done++w=u++b::v->I u σ->∃ σ2,(aF tg (g b) σ).bind f=some (.nx,σ2)/\I (u++[b]) σ2)->I done σ->∃ σ',bo f tg (w.map g) σ=some (.nx,σ')/\I (done++w) σ'
 | [],done,σ,_,h=>⟨σ,rfl,by simpa using h⟩
 | b::w,done,σ,hs,h=>by
  obtain⟨σ2,h1,h3⟩:=hs done b w σ rfl h;obtain⟨σ',h4,h5⟩:=uI g im I w (done++[b]) σ2 (fun pre e post σ he=>hs pre e post σ (by simpa using he)) h3;refine⟨σ',?_,by simpa using h5⟩;rw[List.map_cons,bo,if_pos (im b)]
  cases hb:aF tg (g b) σ with
  | none=>rw[hb]at h1;cases h1
  |some σ1=>
   rw[hb]at h1;simp only[Option.bind_some]at h1 ⊢;rw[h1];exact h4
section
variable{n:Nat}
def lM(hp:p<2*n):evF cl cZ [.int n,.int (p:Nat)]=some (.int (rd n p:Nat)):=by
 have e1:aB .mul (.int 3) (.int n)=some (.int (3*n)):=bR (by decide) (by decide);by_cases c:p<n
 ·have c1:decide ((p:Int)<n)=true:=by simp;lia
  simp[evF,cZ,aj,evS,ev,et,c1,truth,bz,D.imm,bg,rd,c]
 ·have c1:decide ((p:Int)<n)=false:=by simp;lia
  simp[evF,cZ,aj,evS,ev,et,c1,truth,e1,lW,bz,D.imm,bg,rd,c];lia
def lD{T:D}{c:List D->D}{to:Nat->Nat}(hc:c=.tup\/c=.lst)(hn:n<=10)(F:Frm n f)(hT:∀ p:Nat,p<2*n->ixV T (.int (p:Nat))=some (.int (to p:Nat)))(hlt:∀ p,p<2*n->to p<2*n)(inj:∀ p q,p<2*n->q<2*n->to p=to q->p=q) :
  ∃ E:List Nat,E.length=2*n/\(∀ p,p<2*n->at' E (to p)=to (at' f p))/\evF cl i9 [c (L f),T]=some (.tup (L E)):=by
 have ln:biV .len (c (L f))=some (.int (2*n)):=by rcases hc with rfl | rfl<;>simp[biV,items,bJ,F.len]
 have it:d6 (c (L f))=some (L f):=by rcases hc with rfl | rfl<;>rfl
 have en:=jK F.len
 have e0:aB .mul (.lst [.int 0]) (.int (2*(n:Int)))=some (.lst (L (List.replicate (2*n) 0))):=by
  dsimp only[aB];rw[if_pos ⟨by lia,by unfold most;lia,by simp[most];lia⟩]
  have:(2*(n:Int)).toNat=2*n:=by lia
  rw[this];simp[L]
 obtain⟨σ',e,E,o3,o4,rfl,El,EE⟩:=uI (f:=aj cl [2] kY) (tg:=[3,4]) (pr f) (fun _=>rfl)
  (fun u σ=>∃ (E:List Nat) (o3 o4:Option D),σ=[some (c (L f)),some T,some (.lst (L E)),o3,o4]/\E.length=2*n/\∀ p∈u,at' E (to p)=to (at' f p))
  (List.range (2*n)) [] [some (c (L f)),some T,some (.lst (L (List.replicate (2*n) 0))),none,none] (by
   rintro u p v σ hu ⟨E,o3,o4,rfl,El,EE⟩
   have hp:p<2*n:=by
    have:p∈List.range (2*n):=by
     simp only[List.nil_append]at hu;rw[hu];simp
    simpa using this
   have hpu:∀ x∈u,x<2*n/\x≠p:=by
    intro x hx;simp only[List.nil_append]at hu;have nd:(List.range (2*n)).Nodup:=List.nodup_range
    have m:x∈List.range (2*n):=by rw[hu];simp[hx]
    rw[hu,List.nodup_append]at nd;exact⟨by simpa using m,nd.2.2 x hx p (by simp)⟩
   have t1:=hT p hp;have t2:=hT (at' f p) (F.lt p hp);have pt:=gG (f:=E) (i:=to p) (j:=to (at' f p)) (by have:=hlt p hp;lia);refine⟨_,?_,E.set (to p) (to (at' f p)),some (.int (p:Nat)),some (.int (at' f p:Nat)),rfl,by simp[El],fun x hx=>?_⟩
   ·simp[aF,bV,pr,kY,aj,evS,ev,t1,t2,D.imm,pt]
   ·rw[cI (by have:=hlt p hp;lia)];simp at hx;rcases hx with hx | rfl
    ·rw[if_neg (fun c=>(hpu x hx).2 (inj x p (hpu x hx).1 hp c))];exact EE x hx
    ·rw[if_pos rfl])
  ⟨_,none,none,rfl,by simp,by simp⟩
 refine⟨E,El,fun p hp=>EE p (by simp[hp]),?_⟩;simp only[evF,i9,aj,evS,ev,evs,bp];simp[ev,evs,ln,e0,aV,bX,it,en];rw[e];simp[aj,evS,ev,biV,items,bz,D.imm,bX,bg]
def uV{T:D}{to:Nat->Nat}(hn:n<=10)(F:Frm n f)(hT:∀ p:Nat,p<2*n->ixV T (.int (p:Nat))=some (.int (to p:Nat)))(hlt:∀ p,p<2*n->to p<2*n)(inj:∀ p q,p<2*n->q<2*n->to p=to q->p=q) :
  ∃ E:List Nat,E.length=2*n/\(∀ p,p<2*n->at' E (to p)=to (at' f p))/\evF cl i9 [.tup (L f),T]=some (.tup (L E)):=lD (.inl rfl) hn F hT hlt inj
def j1{c:List D->D}(hc:c=.tup\/c=.lst)(hn:n<=10)(F:Frm n f)(hpo:∀ xs:List D,cl fpo [c xs]=some (.int (xs.length / 2)))(hrp:∀ p:Nat,p<2*n->cl frp [.int n,.int (p:Nat)]=some (.int (rd n p:Nat)))
 (hm:∃ E:List Nat,E.length=2*n/\(∀ p,p<2*n->at' E (rd n p)=rd n (at' f p))/\cl fm [c (L f),.lst (L (bB n))]=some (.tup (L E))) :
  ∃ E:List Nat,E.length=2*n/\(∀ q,q<2*n->at' E q=rnd n f q)/\evF cl (eK fm frp fpo) [c (L f)]=some (.tup (L E)):=by
 obtain⟨E,El,EE,hm⟩:=hm;refine⟨E,El,fun q hq=>?_,?_⟩
 ·have:=EE (rd n q) (aY hq);rw[bY hq]at this;exact this
 ·have e1:aB .mul (.int 2) (.int n)=some (.int (2*n)):=bR (by decide) (by decide);have r2:=cY (n:=2*n) (by lia);rw[show((2*n:Nat):Int)=2*(n:Int) by lia]at r2;have ft:=jA (xs:=List.range (2*n)) (by simp;lia);have po:=hpo (L f);rw[bJ,F.len,show(((2*n:Nat):Int) / 2)=(n:Int) by lia]at po
  have mc:=jD (F:=fun σ1=>(ev cl σ1 (.call frp (.cons (.var 1) (.cons (.var 2) .nil)))).map some) (tg:=[2]) (σ:=[some (c (L f)),some (.int n),none]) (g:=fun p=>.int (rd n p:Nat)) (fun _=>rfl) (List.range (2*n)) (by
   intro x hx;simp at hx;have:=hrp x hx
   simp[aF,ev,evs,this])
  rw[yQ,show(List.range (2*n)).map (fun p=>rd n p)=bB n from rfl]at mc;simp only[evF,eK,aj,evS,ev,evs,bp];simp[ev,evs,po,bN,D.imm,e1,r2,ft];simp[ev,evs]at mc;rw[mc];simp[hm,bz,D.imm,bX,bg]
def rh(hn:n<=10)(F:Frm n f)(hpo:∀ xs:List D,cl fpo [.tup xs]=some (.int (xs.length / 2)))(hrp:∀ p:Nat,p<2*n->cl frp [.int n,.int (p:Nat)]=some (.int (rd n p:Nat)))
 (hm:∃ E:List Nat,E.length=2*n/\(∀ p,p<2*n->at' E (rd n p)=rd n (at' f p))/\cl fm [.tup (L f),.lst (L (bB n))]=some (.tup (L E))) :
  ∃ E:List Nat,E.length=2*n/\(∀ q,q<2*n->at' E q=rnd n f q)/\evF cl (eK fm frp fpo) [.tup (L f)]=some (.tup (L E)):=j1 (.inl rfl) hn F hpo hrp hm
end
structure Op(r:Nat->Nat)(k:Nat)(W:List Nat):Prop where
 up:W.Pairwise (·<·)
 mem:∀ p,p∈W↔p<k/\k<=r p
section
def Op.push(O:Op r k W)(inv:∀ q,q<m->r (r q)=q)(hk:k<m)(h:k<r k):Op r (k+1) (W++[k]):=by
 refine⟨?_,fun p=>?_⟩
 ·rw[List.pairwise_append];exact⟨O.up,by simp,fun a ha b hb=>by simp at hb;have:=(O.mem a).mp ha;lia⟩
 ·simp only[List.mem_append,List.mem_singleton,O.mem];constructor
  ·rintro(⟨a,b⟩ | rfl)
   ·refine⟨by lia,?_⟩;by_cases c:r p=k
    ·have:=inv p (by lia);rw[c]at this;lia
    ·lia
   ·lia
  ·rintro⟨a,b⟩;by_cases c:p=k
   ·exact .inr c
   ·exact .inl ⟨by lia,by lia⟩
end
section
def qK(h1:1<=n)(hn:n<=10)(V:Val n f)(hpo:∀ xs:List D,cl fo [.tup xs]=some (.int (xs.length / 2)))(hc:cl fc [.int n]=some (.bl true))(hp:cl fp [.tup (L f)]=some (.bl true))
 (hi:∃ E:List Nat,E.length=2*n/\(∀ q,q<2*n->at' E q=rnd n f q)/\cl fi [.tup (L f)]=some (.tup (L E)))
 (hu:∀ E:List Nat,E.length=2*n->(∀ q,q<2*n->at' E (at' E q)=q)->(∀ q,q<2*n->at' E q≠q)->(∀ q q',q<2*n->q'<2*n->¬ (q<q'/\q'<at' E q/\at' E q<at' E q'))->(∀ q,q<2*n->at' E q<2*n)->cl fu [.tup (L E)]=some (.bl true)) :
  evF cl (fX fu fi fp fc fo) [.tup (L f)]=some (.bl true):=by
 have F:=V.frm;obtain⟨E,El,Ea,hi⟩:=hi;have rl:∀ q,q<2*n->rnd n f q<2*n:=fun q hq=>aY (F.lt _ (aY hq))
 have hu:=hu E El (fun q hq=>by
   rw[Ea q hq,Ea _ (rl q hq)];unfold rnd
   rw[bY (F.lt _ (aY hq)),F.inv,bY hq]) (fun q hq e=>by
   rw[Ea q hq]at e;unfold rnd at e;have:=congrArg (rd n) e;rw[bY (F.lt _ (aY hq))]at this
   exact F.no _ (aY hq) this) (fun q q' h h'=>by
   rw[Ea q h,Ea q' h']
   exact V.nox q q' h h') (fun q hq=>by rw[Ea q hq];exact rl q hq)
 have e1:aB .mul (.int 2) (.int n)=some (.int (2*n)):=bR (by decide) (by decide);have ln:=half (xs:=L f) (n:=n) (by rw[bJ,F.len]);have po:=hpo (L f);rw[bJ,F.len,show(((2*n:Nat):Int) / 2)=(n:Int) by lia]at po;have en:=jK F.len
 have ft:fits ((List.range (2*n)).map (pr f))=some ((List.range (2*n)).map (pr f)):=by
  unfold fits;rw[if_pos (by simp[most];lia)]
 have mc:=uK (F:=fun σ1=>((ev cl σ1 (.cmp .eq (.var 3) (.var 4))).bind truth).bind fun k=>if k then(ev cl σ1 (.var 3)).map some else some none) (tg:=[3,4]) (σ:=[some (.tup (L f)),some (.int n),none,none,none]) (h:=pr f) (g:=fun p=>.int (p:Nat)) (c:=fun _=>false) (fun _=>rfl) (List.range (2*n)) (by
  intro x hx;simp at hx;have c2:((x:Int) == (at' f x:Nat))=false:=beq_eq_false_iff_ne.mpr (by have:=F.no x hx;lia)
  simp[aF,bV,pr,ev,dQ,c2,truth])
 rw[show(List.range (2*n)).filter (fun _=>false)=[]from List.filter_eq_nil_iff.mpr (by simp),List.map_nil]at mc
 have ne0:bw .ne (.int (2*(n:Int))) (.int (2*(n:Int)))=some false:=by
  rw[FP];simp
 simp only[evF,fX,aj,evS,ev,evs,bp];simp[ev,evs,po,bN,D.imm,ln,e1,ne0,hc,hp,truth,aj,evS,bp,d6,en,ft];simp[ev]at mc;rw[mc];simp[aj,evS,ev,evs,aV,ax,hi,hu,truth,bz,D.imm,bg,avE]
def lB(h:cl fi [x]=some (.bl true)):evF cl (dZ fi) [x]=some .non:=by
 simp[evF,dZ,aj,evS,ev,evs,h,truth,bg]
end
def jM{β:Type}{F:St->Option (Option D)}{tg:List Nat}{σ:St}{h g:β->D}(im:∀ x,(g x).imm=true):∀ xs:List β,(∀ x∈xs,(aF tg (h x) σ).bind F=some (some (g x)))->cJ F tg σ (xs.map h)=some (xs.map g)
 | [],_=>rfl
 | x::r,hh=>by
  have a:=hh x (by simp);have b:=jM im r (fun y hy=>hh y (by simp[hy]));rw[List.map_cons,cJ]
  cases hb:aF tg (h x) σ with
  | none=>rw[hb]at a;cases a
  |some σ1=>
   rw[hb]at a;simp only[Option.bind_some]at a ⊢;rw[a,b];simp[j7,im]
def oC(x:Bool):bw .ne (.bl x) (.bl x)=some false:=by cases x<;>rfl
def zj(x:Bool):bw .eq (.bl x) (.bl x)=some true:=by cases x<;>rfl
section
def mW(hN:(match d with | .non=>some (D.bl (!false)) | .dK _ _=>none | .dT _ _=>none | _=>some (.bl false))=some (D.bl false))(hb:fO .bool d=some kb)(hi:fO .int d=some ki)(hl:fO .list d=some kl)(ht:fO .tuple d=some kt)
 (k:aj cl [] r [some d,some d,none,none]=res):aj cl [] (.cons (.ife (.isN false (.var 1)) (.cons (.ret (.isN false (.var 0))) .nil) .nil) (.cons (.ife (.or (.cmp .ne (.isi (.var 0) .bool) (.isi (.var 1) .bool)) (.cmp .ne (.isi (.var 0) .int) (.isi (.var 1) .int))) (.cons (.ret (.cst (.bl false))) .nil) .nil) (.cons (.ife (.or (.cmp .ne (.isi (.var 0) .list) (.isi (.var 1) .list)) (.cmp .ne (.isi (.var 0) .tuple) (.isi (.var 1) .tuple))) (.cons (.ret (.cst (.bl false))) .nil) .nil) r))) [some d,some d,none,none]=res :=
 aO (aE (EJ hN (ae rfl))) (aO (aE (qX (az (cG (ae rfl) hb) (cG (ae rfl) hb) (oC _)) (az (cG (ae rfl) hi) (cG (ae rfl) hi) (oC _)))) (aO (aE (qX (az (cG (ae rfl) hl) (cG (ae rfl) hl) (oC _)) (az (cG (ae rfl) ht) (cG (ae rfl) ht) (oC _)))) k))
def jN(hN:(match d with | .non=>some (D.bl (!false)) | .dK _ _=>none | .dT _ _=>none | _=>some (.bl false))=some (D.bl false))(hb:fO .bool d=some kb)(hi:fO .int d=some ki)(hl:fO .list d=some false)(ht:fO .tuple d=some false)(hs:fO .str d=some ks)(he:bw .eq d d=some true):evF cl (cy fs) [d,d]=some (.bl true) :=
 aU rfl rfl (mW hN hb hi hl ht (bD (aE (cE (cA (cG (ae rfl) hl)) (cA (cG (ae rfl) ht)))) (aL (cE (az (cG (ae rfl) hs) (cG (ae rfl) hs) (zj _)) (az (ae rfl) (ae rfl) he)) rfl)))
end
def same_int(a:Int):evF cl (cy fs) [.int a,.int a]=some (.bl true):=jN rfl rfl rfl rfl rfl rfl (by rw[dQ,beq_self_eq_true])
def kG:∀ xs:List D,eL xs xs=xs.map fun x=>.tup [x,x]
 | []=>rfl
 | x::r=>by simp[eL,kG r]
def xu:∀ xs:List β,d7 (xs.map fun _=>D.bl true)=some (xs.map fun _=>true)
 | []=>rfl
 | x::r=>by simp[d7,xu r]
def qS{fs:Nat}{d:D}{xs:List D}(hd:d=.tup xs\/d=.lst xs)(hl:xs.length<=1000)(h:∀ x∈xs,cl fs [x,x]=some (.bl true)):evF cl (cy fs) [d,d]=some (.bl true):=by
 have al:biV .all (.lst (xs.map fun _=>.bl true))=some (.bl true):=by
  simp only[biV,xu];simp
 have mc:=jM (F:=fun σ1=>(ev cl σ1 (.call fs (.cons (.var 2) (.cons (.var 3) .nil)))).map some) (tg:=[2,3]) (σ:=[some d,some d,none,none]) (h:=fun x=>.tup [x,x]) (g:=fun _=>.bl true) (fun _=>rfl) xs (by
  intro x hx;show(ev cl [some d,some d,some x,some x] (.call fs (.cons (.var 2) (.cons (.var 3) .nil)))).map some=_;rw[iq (ae rfl) (ae rfl) (h x hx)]
  rfl)
 have it:items d=some xs:=by rcases hd with rfl | rfl<;>rfl
 have ln:biV .len d=some (.int xs.length):=by rcases hd with rfl | rfl<;>rfl
 have lq:bw .eq (.int (xs.length:Int)) (.int (xs.length:Int))=some true:=by simp[dQ]
 have lz:(eL xs xs).length<=most:=by rw[kG,List.length_map];unfold most;lia
 rw[<-kG]at mc;have tl:∀ {res:Option (Out × St)},some (Out.rt (.bl true),[some d,some d,none,none])=res->aj cl [] (.cons (.ret (.and (.cmp .eq (.bi .len (.var 0)) (.bi .len (.var 1))) (.bi .all (.compA (.call fs (.cons (.var 2) (.cons (.var 3) .nil))) [2,3] (.zip (.var 0) (.var 1)))))) .nil) [some d,some d,none,none]=res:=fun e=>(aL (cE (az (bE (ae rfl) ln) (bE (ae rfl) ln) lq) (bE (iD (EU (ae rfl) (ae rfl) it it rfl) lz mc) al)) rfl).trans e;rcases hd with rfl | rfl
 ·exact aU rfl rfl (mW rfl rfl rfl rfl rfl (aO (aE (cE (cA (k:=false) (cG (ae rfl) rfl)) (cA (k:=true) (cG (ae rfl) rfl)))) (tl rfl)))
 ·exact aU rfl rfl (mW rfl rfl rfl rfl rfl (aO (aE (fJ (cA (k:=true) (cG (ae rfl) rfl)))) (tl rfl)))
end RM
set_option maxHeartbeats 1000000
namespace RM
open RL RT
def l7(g:β->D)(im:∀ b,(g b).imm=true)(I:List β->St->Prop):∀ (w done:List β) (σ:St),(∀ u b v σ,done++w=u++b::v->I u σ->(∃ σ2,(aF tg (g b) σ).bind f=some (.nx,σ2)/\I (u++[b]) σ2)\/(B/\∃ σ2,(aF tg (g b) σ).bind f=some (.rt d,σ2)))->I done σ->(∃ σ',bo f tg (w.map g) σ=some (.nx,σ')/\I (done++w) σ')\/(B/\∃ σ',bo f tg (w.map g) σ=some (.rt d,σ'))
 | [],done,σ,_,h=>.inl ⟨σ,rfl,by simpa using h⟩
 | b::w,done,σ,hs,h=>by
  rcases hs done b w σ rfl h with⟨σ2,h1,h3⟩ | ⟨hB,σ2,h1⟩
  ·have go:∀ {r:Option (Out × St)},bo f tg (w.map g) σ2=r->bo f tg ((b::w).map g) σ=r:=fun {r} e=>by
    rw[List.map_cons,bo,if_pos (im b)]
    cases hb:aF tg (g b) σ with
    | none=>rw[hb]at h1;cases h1
    |some σ1=>
     rw[hb]at h1;simp only[Option.bind_some]at h1 ⊢;rw[h1];exact e
   rcases l7 (d:=d) (B:=B) g im I w (done++[b]) σ2 (fun pre e post σ he=>hs pre e post σ (by simpa using he)) h3 with⟨σ',h4,h5⟩ | ⟨hB,σ',h4⟩
   ·exact .inl ⟨σ',go h4,by simpa using h5⟩
   ·exact .inr ⟨hB,σ',go h4⟩
  ·refine .inr ⟨hB,σ2,?_⟩;rw[List.map_cons,bo,if_pos (im b)]
   cases hb:aF tg (g b) σ with
   | none=>rw[hb]at h1;cases h1
   |some σ1=>
    rw[hb]at h1;simp only[Option.bind_some]at h1 ⊢;rw[h1];rfl
def uX(hi:(σ[i]?).bind id=some (.lst (xs++[.int p])))(h:ev cl (σ.set i (some (.lst xs))) e=some (.int q))(k:aj cl M (.cons (.ife (.cst (.bl (decide (p=q)))) b a) r) (σ.set i (some (.lst xs)))=res):aj cl M (.cons (.ifp i e a b) r) σ=res:=by
 have l:evS cl M (.ifp i e a b) σ=if decide (p=q)=true then aj cl M b (σ.set i (some (.lst xs)))else aj cl M a (σ.set i (some (.lst xs))):=by
  rw[evS,hi,Option.bind_some];show((xs++[D.int p])[(xs++[D.int p]).length-1]?).bind _=_;rw[show(xs++[D.int p])[(xs++[D.int p]).length-1]?=some (.int p) by simp,Option.bind_some,List.dropLast_concat,h];rfl
 have r':evS cl M (.ife (.cst (.bl (decide (p=q)))) b a) (σ.set i (some (.lst xs)))=if decide (p=q)=true then aj cl M b (σ.set i (some (.lst xs)))else aj cl M a (σ.set i (some (.lst xs))):=by
  rw[evS,ai];rfl
 rw[aj,r',<-l,<-aj]at k;exact k
abbrev Nx(r:Nat->Nat)(m:Nat):Prop:=∀ q q',q<q'->q'<r q->r q<m->¬ (r q<r q'\/r q'=q')
structure Oq(r:Nat->Nat)(k:Nat)(W:List Nat):Prop extends Op r k W where
 nx:Nx r k
 al:∀ q q',q<q'->q'<k->k<=r q->r q'≠q'
section
def Oq.push(O:Oq r k W)(inv:∀ q,q<m->r (r q)=q)(hk:k<m)(h:k<r k):Oq r (k+1) (W++[k]) where
 toOp:=O.toOp.push inv hk h
 nx:=fun q q' h1 h2 h3=>by
  by_cases c:r q=k
  ·exfalso;have:=inv q (by lia);rw[c]at this;lia
  ·exact O.nx q q' h1 h2 (by lia)
 al:=fun q q' h1 h2 h3=>by
  by_cases c:q'=k
  ·subst c;lia
  ·exact O.al q q' h1 (by lia) (by lia)
def Oq.alone(O:Oq r k [])(inv:∀ q,q<m->r (r q)=q)(hk:k<m)(h:r k=k):Oq r (k+1) []:=by
 have no:∀ q,q<k->k<=r q->False:=fun q h1 h2=>by
  have:=(O.mem q).mpr ⟨h1,h2⟩;cases this
 refine⟨⟨.nil,fun p=>⟨fun h=>(by cases h),fun⟨a,b⟩=>?_⟩⟩,fun q q' h1 h2 h3=>?_,fun q q' h1 h2 h3=>?_⟩
 ·by_cases c:p=k
  ·subst c;lia
  ·exact(no p (by lia) (by lia)).elim
 ·by_cases c:r q=k
  ·exfalso;have:=inv q (by lia);rw[c,h]at this;lia
  ·exact O.nx q q' h1 h2 (by lia)
 ·exact(no q (by lia) (by lia)).elim
def Oq.pop(O:Oq r k (W0++[r k]))(inv:∀ q,q<m->r (r q)=q)(hk:k<m)(h:r k<k):Oq r (k+1) W0:=by
 have up:=O.up;rw[List.pairwise_append]at up;refine⟨⟨up.1,fun p=>?_⟩,fun q q' h1 h2 h3=>?_,fun q q' h1 h2 h3=>?_⟩
 ·constructor
  ·intro hp;have lt:=up.2.2 p hp (r k) (by simp);have:=(O.mem p).mp (by simp[hp]);refine⟨by lia,?_⟩;by_cases c:r p=k
   ·have i:=inv p (by lia);rw[c]at i;lia
   ·lia
  ·rintro⟨a,b⟩
   have pk:p≠k:=by rintro rfl;lia
   have:=(O.mem p).mpr ⟨by lia,by lia⟩;simp at this;rcases this with h | h
   ·exact h
   ·rw[h,inv k hk]at b;lia
 ·by_cases c:r q=k
  ·have i:=inv q (by lia);rw[c]at i;subst i;rintro(z | z)
   ·have mq:=(O.mem q').mpr ⟨by lia,by lia⟩;simp at mq;rcases mq with mq | mq
    ·have:=up.2.2 q' mq (r k) (by simp);lia
    ·lia
   ·exact O.al (r k) q' h1 (by lia) (by lia) z
  ·exact O.nx q q' h1 h2 (by lia)
 ·by_cases c:q'=k
  ·subst c;lia
  ·exact O.al q q' h1 (by lia) (by lia)
end
def Ay{cl:Cl}{m:Nat}{E:List Nat}(hm:m<=1000)(El:E.length=m)(inv:∀ q,q<m->at' E (at' E q)=q)(lt:∀ q,q<m->at' E q<m):∃ b:Bool,evF cl fw [.tup (L E)]=some (.bl b)/\(b=true->Nx (at' E) m)/\(Nx (at' E) m->b=true):=by
 have en:=jK El
 have st:=l7 (B:=¬ Nx (at' E) m) (f:=aj cl [1] bG) (tg:=[2,3]) (d:=.bl false) (pr E) (fun _=>rfl)
  (fun u σ=>∃ (W:List Nat) (o2 o3:Option D),σ=[some (.tup (L E)),some (.lst (L W)),o2,o3]/\Oq (at' E) u.length W/\W.length<=u.length)
  (List.range m) [] [some (.tup (L E)),some (.lst (L [])),none,none] (by
   rintro u p v σ hu ⟨W,o2,o3,rfl,O,Wl⟩;obtain⟨hk,hp⟩:=cB (g:=id) (by simpa using hu);simp only[id]at hp;subst hp
   have ml:(L W).length<most:=by rw[bJ];unfold most;lia
   by_cases c:u.length<at' E u.length
   ·refine .inl ⟨_,show aj cl [1] bG [some (.tup (L E)),some (.lst (L W)),some (.int (u.length:Nat)),some (.int (at' E u.length:Nat))]=some (.nx,_)from gJ (aE (az (k:=true) (ae rfl) (ae rfl) (by rw[mP,decide_eq_true (by lia)]))) (lL (ae rfl) rfl rfl ml aR) aR,W++[u.length],some (.int (u.length:Nat)),some (.int (at' E u.length:Nat)),?_,?_,?_⟩
    ·rw[gD];rfl
    ·rw[List.length_append];exact O.push inv hk c
    ·simp;lia
   ·have cg:(ev cl [some (.tup (L E)),some (.lst (L W)),some (.int (u.length:Nat)),some (.int (at' E u.length:Nat))] (.cmp .gt (.var 3) (.var 2))).bind truth=some false:=aE (az (k:=false) (ae rfl) (ae rfl) (by rw[mP,decide_eq_false (by lia)]));by_cases c2:at' E u.length=u.length
    ·have ce:(ev cl [some (.tup (L E)),some (.lst (L W)),some (.int (u.length:Nat)),some (.int (at' E u.length:Nat))] (.cmp .eq (.var 3) (.var 2))).bind truth=some true:=aE (az (k:=true) (ae rfl) (ae rfl) (by rw[dQ,c2,beq_self_eq_true]))
     cases W with
     |nil=>
      exact .inl ⟨_,show aj cl [1] bG [some (.tup (L E)),some (.lst (L [])),some (.int (u.length:Nat)),some (.int (at' E u.length:Nat))]=some (.nx,_)from i6 cg (gJ ce (aO (by rw[ae rfl];rfl) aR) aR) aR,[],_,_,rfl,by rw[List.length_append];exact O.alone inv hk c2,by simp⟩
     |cons w W=>
      exact .inr ⟨fun N=>by
       obtain⟨w1,w2⟩:=(O.mem w).mp (List.mem_cons_self ..)
       have wk:at' E w≠u.length:=fun z=>by
        have:=inv w (by lia);rw[z,c2]at this;lia
       exact N w u.length w1 (by lia) (lt w (by lia)) (.inr c2),_,show aj cl [1] bG [some (.tup (L E)),some (.lst (L (w::W))),some (.int (u.length:Nat)),some (.int (at' E u.length:Nat))]=some (.rt (.bl false),_)from jO cg (bD ce (bD (by rw[ae rfl];rfl) (aL ai rfl)))⟩
    ·have ce:(ev cl [some (.tup (L E)),some (.lst (L W)),some (.int (u.length:Nat)),some (.int (at' E u.length:Nat))] (.cmp .eq (.var 3) (.var 2))).bind truth=some false:=aE (az (k:=false) (ae rfl) (ae rfl) (by rw[dQ,beq_eq_false_iff_ne.mpr (by lia)]));have m1:at' E u.length∈W:=(O.mem _).mpr ⟨by lia,by rw[inv _ hk];exact Nat.le_refl _⟩;have ne:W≠[]:=List.ne_nil_of_mem m1;have dl:=List.dropLast_concat_getLast ne;generalize W.getLast ne=z at dl;generalize W.dropLast=W0 at dl;subst dl
     have hi:(([some (D.tup (L E)),some (.lst (L (W0++[z]))),some (.int (u.length:Nat)),some (.int (at' E u.length:Nat))]:St)[1]?).bind id=some (.lst (L W0++[.int (z:Nat)])):=by rw[gD];rfl
     by_cases c3:z=at' E u.length
     ·refine .inl ⟨_,show aj cl [1] bG [some (.tup (L E)),some (.lst (L (W0++[z]))),some (.int (u.length:Nat)),some (.int (at' E u.length:Nat))]=some (.nx,_)from i6 cg (i6 ce (uX hi (ae rfl) (gJ (by rw[ai,decide_eq_true (by lia)];rfl) aR aR)) aR) aR,W0,_,_,rfl,?_,?_⟩
      ·rw[List.length_append];subst c3;exact O.pop inv hk (by lia)
      ·simp at Wl ⊢;lia
     ·exact .inr ⟨fun N=>by
       have up:=O.up;rw[List.pairwise_append]at up
       have m0:at' E u.length∈W0:=by
        rcases List.mem_append.mp m1 with h | h
        ·exact h
        ·exact absurd (List.mem_singleton.mp h).symm c3
       have lz:=up.2.2 _ m0 z (by simp);have zz:=(O.mem z).mp (by simp)
       have zk:at' E z≠u.length:=fun q=>by
        have:=inv z (by lia);rw[q]at this;exact c3 this.symm
       have i:=inv u.length hk
       exact N (at' E u.length) z lz (by rw[i];exact zz.1) (by rw[i];exact hk) (.inl (by rw[i];lia)),_,show aj cl [1] bG [some (.tup (L E)),some (.lst (L (W0++[z]))),some (.int (u.length:Nat)),some (.int (at' E u.length:Nat))]=some (.rt (.bl false),_)from jO cg (jO ce (uX hi (ae rfl) (jO (by rw[ai,decide_eq_false (by lia)];rfl) (aL ai rfl))))⟩)
  ⟨[],none,none,rfl,⟨⟨by simp,by simp⟩,fun q q' _ _ h=>absurd h (Nat.not_lt_zero _),fun q q' _ h=>absurd h (Nat.not_lt_zero _)⟩,by simp⟩
 rw[<-en]at st
 rcases st with⟨σ',e,W,o2,o3,rfl,O,_⟩ | ⟨nN,σ',e⟩
 ·refine⟨true,aU rfl rfl (gC (cU bF) rfl (dW (l9 (ae rfl) rfl) e (aL ai rfl))),fun _=>?_,fun _=>rfl⟩;have:=O.nx;rw[List.nil_append,List.length_range]at this;exact this
 ·exact⟨false,aU rfl rfl (gC (cU bF) rfl (lY (l9 (ae rfl) rfl) e)),(fun h=>by cases h),fun N=>absurd N nN⟩
end RM
set_option maxHeartbeats 1000000
namespace RM
open RL RT
abbrev xi(xs:List Int)(p:Nat):Int:=(xs[p]?).getD 0
abbrev nb(xs:List Int)(p:Nat):Bool:=decide (0<=xi xs p/\xi xs p<xs.length)&&decide (xi xs (xi xs p).toNat=p)
def zx(h:p<xs.length):ixV (.tup (LI xs)) (.int (p:Nat))=some (.int (xi xs p)):=by
 show cQ _ _=_;rw[gz];simp[LI,xi,h]
def qo(xs:List Int):biV .len (.tup (LI xs))=some (.int (xs.length:Nat)):=congrArg (fun n:Nat=>some (D.int n)) (uO xs)
def bls(g:β->Bool):∀ xs:List β,d7 (xs.map fun x=>D.bl (g x))=some (xs.map g)
 | []=>rfl
 | x::r=>by rw[List.map_cons,d7,bls g r];rfl
def A8(g:β->Bool)(xs:List β):biV .all (.lst (xs.map fun x=>D.bl (g x)))=some (.bl (xs.all g)):=by
 show(d7 (xs.map fun x=>D.bl (g x))).map _=_;rw[bls,Option.map_some,List.all_map];rfl
section
def Cw(hnum:∀ i:Int,cl fn [.int i]=some (.bl true))(hp:p<xs.length):evF cl (gW fn) [.tup (LI xs),.int (p:Nat)]=some (.bl (nb xs p)):=by
 unfold nb;have a1:ev cl [some (.tup (LI xs)),some (.int (p:Nat)),some (.int (xi xs p))] (.call fn (.cons (.var 2) .nil))=some (.bl true):=bT (ae rfl) (hnum _);have as:∀ {res:Option (Out × St)} {r:Ss},aj cl [] r [some (.tup (LI xs)),some (.int (p:Nat)),some (.int (xi xs p))]=res->aj cl [] (.cons (.asg 2 (.ix (.var 0) (.var 1))) r) [some (.tup (LI xs)),some (.int (p:Nat)),none]=res:=fun h=>aI (eu (ae rfl) (ae rfl) (zx hp)) rfl h;by_cases c:0<=xi xs p/\xi xs p<xs.length
 ·rw[decide_eq_true c,Bool.true_and];obtain⟨j,hj⟩:=Int.eq_ofNat_of_zero_le c.1;rw[hj]at c as a1 ⊢;have i2:=zx (xs:=xs) (p:=j) (by lia)
  exact aU rfl rfl (as (aL (cE a1 (cE (mI (k:=true) ai (ae rfl) (bE (ae rfl) (qo xs)) (by rw[mD,decide_eq_true c.1]) (by rw[et,decide_eq_true c.2])) (az (eu (ae rfl) (ae rfl) i2) (ae rfl) (by
   rw[dQ,Int.toNat_natCast]
   congr 1)))) rfl))
 ·rw[decide_eq_false c,Bool.false_and];by_cases c1:0<=xi xs p
  ·exact aU rfl rfl (as (aL (cE a1 (fJ (mI (k:=false) ai (ae rfl) (bE (ae rfl) (qo xs)) (by rw[mD,decide_eq_true c1]) (by rw[et,decide_eq_false (fun z=>c ⟨c1,z⟩)])))) rfl))
  ·exact aU rfl rfl (as (aL (cE a1 (fJ (pD ai (ae rfl) (by rw[mD,decide_eq_false c1])))) rfl))
def r9(hm:xs.length<=1000)(hb:∀ p:Nat,p<xs.length->cl fb [.tup (LI xs),.int (p:Nat)]=some (.bl (nb xs p))):evF cl (gB fb) [.tup (LI xs)]=some (.bl ((List.range xs.length).all (nb xs))):=by
 have mc:=jM (F:=fun σ1=>(ev cl σ1 (.call fb (.cons (.var 0) (.cons (.var 1) .nil)))).map some) (tg:=[1]) (σ:=[some (.tup (LI xs)),none]) (h:=fun p=>.int (p:Nat)) (g:=fun p=>.bl (nb xs p)) (fun _=>rfl) (List.range xs.length) (by
  intro p hp;show(ev cl [some (.tup (LI xs)),some (.int (p:Nat))] (.call fb (.cons (.var 0) (.cons (.var 1) .nil)))).map some=_;rw[iq (ae rfl) (ae rfl) (hb p (List.mem_range.mp hp))]
  rfl)
 exact aU rfl rfl (aL (cE (cG (ae rfl) rfl) (bE (iD (lK (bE (ae rfl) (qo xs)) (cY hm)) (by rw[bJ,List.length_range];unfold most;lia) mc) (A8 _ _))) rfl)
def GG(f:List Nat):L f=LI (f.map Int.ofNat):=by unfold L LI;rw[List.map_map];rfl
def u7(len:h.length=m)(lt:∀ q,q<m->at' h q<m)(inv:∀ q,q<m->at' h (at' h q)=q):(List.range (h.map Int.ofNat).length).all (nb (h.map Int.ofNat))=true:=by
 have x1:∀ q,q<m->xi (h.map Int.ofNat) q=(at' h q:Nat):=fun q hq=>by simp[xi,at',show q<h.length by lia]
 rw[List.all_eq_true,List.length_map,len];intro q hq;have hq:=List.mem_range.mp hq;have l:=lt q hq;unfold nb;rw[x1 q hq,Int.toNat_natCast,x1 _ l,inv q hq,List.length_map,len];rw[decide_eq_true ⟨by lia,by lia⟩];simp
end
structure Dg(T:List Fn)(mx rw dg:Nat):Prop where
 Gw:T[mx]?=some jH
 G4:T[rw]?=some (j8 mx)
 Gz:T[dg]?=some (eW rw)
def Dg.digits{T:List Fn}{mx rw dg:Nat}(h:Dg T mx rw dg){ns:List Int}(hl:ns.length<=63)(n:Nat){k:Nat}{sizes:List Nat}(hk:k<=1000)(hp:∀ s∈sizes,0<s/\s<2 ^ 200)(hz:sizes.length<=1000) :
  ∃ ds:List Nat,il ds sizes/\ar T (n+3) dg [.lst (LI ns),.int k,.lst (L sizes)]=some (.lst (L ds)):=by
 obtain⟨r,hr⟩:=zX (cl:=ar T (n+1)) (f:=mx) (fun s=>by
  obtain⟨m,hm⟩:=Ab (cl:=ar T n) s
  exact⟨m,(aw h.Gw).trans hm⟩) hl hk
 obtain⟨ds,h1,h2⟩:=tw (cl:=ar T (n+2)) (f:=rw) ((aw h.G4).trans hr) hp hz;exact⟨ds,h1,(aw h.Gz).trans h2⟩
structure Dr(T:List Fn)(mx rw dg pl hk ci ft tx rg hu ov fr:Nat):Prop extends Dg T mx rw dg where
 Gj:T[pl]?=some dX
 G9:T[hk]?=some (fY pl)
 FU:T[ci]?=some eU
 FQ:T[ft]?=some (c9 ci)
 GC:T[tx]?=some iV
 Gf:T[rg]?=some dN
 Ge:T[hu]?=some (eT rg)
 Gg:T[ov]?=some gh
 FN:T[fr]?=some (ij hu ov ft tx hk pl dg)
section
variable{T:List Fn}{mx rw dg pl hk ci ft tx rg hu ov fr:Nat}
def Dr.plain(h:Dr T mx rw dg pl hk ci ft tx rg hu ov fr)(n:Nat){k:Nat}(hk:k<=10):ar T (n+1) pl [.int k]=some (.tup (L (br k))):=(aw h.Gj).trans (oa hk)
def Dr.hook(h:Dr T mx rw dg pl hk ci ft tx rg hu ov fr)(n:Nat){k i:Nat}(hk':k<=10)(hi:i+1<k):ar T (n+2) hk [.int k,.int i]=some (.tup (L (fB k i))):=(aw h.G9).trans (qw hk' hi (h.plain n hk'))
def Dr.lP(h:Dr T mx rw dg pl hk ci ft tx rg hu ov fr)(n:Nat){k:Nat}(h1:1<=k)(hk':k<=10):ar T (n+1) ci [.int k]=some (.lst (L (bB k))):=(aw h.FU).trans (tO h1 hk')
def Dr.over(h:Dr T mx rw dg pl hk ci ft tx rg hu ov fr)(n:Nat){k:Nat}{f:List Nat}(h1:1<=k)(hk':k<=10)(hf:f.length=2*k):ar T (n+1) ov [.tup (L f)]=some (.tup (L (aX k f))):=(aw h.Gg).trans (rf h1 hk' hf)
def Dr.BK(h:Dr T mx rw dg pl hk ci ft tx rg hu ov fr){ns:List Int}(hl:ns.length<=63)(n:Nat){k m:Nat}(hk':k<=1000)(h1:1<=m)(hm:m<=10)
 (hh:∀ f:List Nat,Val m f->∃ (g:List Nat) (r:Int),Val m g/\ar T (n+3) hu [.tup (L f),.tup (L (aX m f))]=some (.tup [.tup (L g),.int r])):∃ f:List Nat,Val m f/\ar T (n+4) fr [.lst (LI ns),.int k,.int m]=some (.tup (L f)):=by
 obtain⟨f,V,e⟩:=vZ (cl:=ar T (n+3)) (fhu:=hu) (fov:=ov) (ffr:=ft) (ftx:=tx) (fho:=hk) (fpl:=pl) (fdi:=dg) (scr:=.lst (LI ns)) (k:=k) h1 hm
  (h.digits hl n hk' (by
   intro s hs;simp only[List.mem_cons,List.not_mem_nil,or_false]at hs;rcases hs with rfl | rfl | rfl
   ·decide
   ·decide
   ·exact⟨by omega,Nat.lt_of_le_of_lt (show max 1 (m-1)<=10 by lia) (by decide)⟩) (by simp))
  (h.plain (n+2) hm) (fun i hi=>h.hook (n+1) hm hi)
  (fun r=>by
   obtain⟨w,h1,h2,h3⟩:=yp (cl:=ar T (n+2)) (r:=r) hm
   exact⟨w,h1,h2,(aw h.GC).trans h3⟩)
  (fun w a b=>by
   obtain⟨f,V,e⟩:=nZ (cl:=ar T (n+2)) (fc:=ci) h1 hm (h.lP (n+1) h1 hm) a b
   exact⟨f,V,(aw h.FQ).trans e⟩)
  (fun f hf=>h.over (n+2) h1 hm hf) hh
 exact⟨f,V,(aw h.FN).trans e⟩
def Dr.frame(h:Dr T mx rw dg pl hk ci ft tx rg hu ov fr){ns:List Int}(hl:ns.length<=63)(n:Nat){k m:Nat}(hk':k<=1000)(h1:1<=m)(hm:m<=10):∃ f:List Nat,Val m f/\ar T (n+4) fr [.lst (LI ns),.int k,.int m]=some (.tup (L f)) :=
 h.BK hl n hk' h1 hm fun f V=>by
  have F:=V.frm
  obtain⟨r,e⟩:=qa (cl:=ar T (n+2)) (fr:=rg) h1 hm F (fun inner i1 i2=>by
   obtain⟨r,e⟩:=v8 (cl:=ar T (n+1)) hm F.len (by simp[aX]) i1 i2
   exact⟨r,(aw h.Gf).trans e⟩)
  exact⟨_,r,Bs V,(aw h.Ge).trans e⟩
end
structure Ck(T:List Fn)(nu pc pa nb un if' cf po rp ir mv:Nat):Prop where
 Gk:T[nu]?=some iu
 Gi:T[pc]?=some (dF nu)
 Gy:T[pa]?=some (gB nb)
 G7:T[nb]?=some (gW nu)
 GJ:T[un]?=some fw
 Fx:T[if']?=some (fX un ir pa pc po)
 GF:T[cf]?=some (dZ if')
 C0:T[po]?=some hJ
 Ga:T[rp]?=some cZ
 Em:T[ir]?=some (eK mv rp po)
 BC:T[mv]?=some i9
section
variable{T:List Fn}{nu pc pa nb un if' cf po rp ir mv:Nat}
def Ck.num(h:Ck T nu pc pa nb un if' cf po rp ir mv)(n:Nat)(i:Int):ar T (n+1) nu [.int i]=some (.bl true):=(aw h.Gk).trans (oj i)
def Ck.CV(h:Ck T nu pc pa nb un if' cf po rp ir mv)(n:Nat)(i:Int):ar T (n+2) pc [.int i]=some (.bl (decide (1<=i/\i<=10))):=(aw h.Gi).trans (kE (h.num n) i)
def Ck.of(h:Ck T nu pc pa nb un if' cf po rp ir mv)(n:Nat)(xs:List D):ar T (n+1) po [.tup xs]=some (.int (xs.length / 2)):=(aw h.C0).trans (qL xs)
def Ck.ofL(h:Ck T nu pc pa nb un if' cf po rp ir mv)(n:Nat)(xs:List D):ar T (n+1) po [.lst xs]=some (.int (xs.length / 2)):=(aw h.C0).trans (rK xs)
def Ck.place(h:Ck T nu pc pa nb un if' cf po rp ir mv)(n:Nat){k p:Nat}(hp:p<2*k):ar T (n+1) rp [.int k,.int (p:Nat)]=some (.int (rd k p:Nat)):=(aw h.Ga).trans (lM hp)
def Ck.move(h:Ck T nu pc pa nb un if' cf po rp ir mv)(n:Nat){k:Nat}{f:List Nat}{U:D}{to:Nat->Nat}(hk:k<=10)(F:Frm k f)(hT:∀ p:Nat,p<2*k->ixV U (.int (p:Nat))=some (.int (to p:Nat)))(hlt:∀ p,p<2*k->to p<2*k)(inj:∀ p q,p<2*k->q<2*k->to p=to q->p=q) :
  ∃ E:List Nat,E.length=2*k/\(∀ p,p<2*k->at' E (to p)=to (at' f p))/\ar T (n+1) mv [.tup (L f),U]=some (.tup (L E)):=by
 obtain⟨E,h1,h2,h3⟩:=uV (cl:=ar T n) (T:=U) (to:=to) hk F hT hlt inj;exact⟨E,h1,h2,(aw h.BC).trans h3⟩
def Ck.round(h:Ck T nu pc pa nb un if' cf po rp ir mv)(n:Nat){k:Nat}{f:List Nat}(hk:k<=10)(F:Frm k f):∃ E:List Nat,E.length=2*k/\(∀ q,q<2*k->at' E q=rnd k f q)/\ar T (n+2) ir [.tup (L f)]=some (.tup (L E)):=by
 obtain⟨E,h1,h2,h3⟩:=rh (cl:=ar T (n+1)) (fm:=mv) (frp:=rp) (fpo:=po) hk F (h.of n) (fun p hp=>h.place n hp) (h.move n (U:=.lst (L (bB k))) (to:=rd k) hk F (fun p hp=>kg hp) (fun p hp=>aY hp) (fun p q hp hq h=>i7 hp hq h));exact⟨E,h1,h2,(aw h.Em).trans h3⟩
def Ck.frame(h:Ck T nu pc pa nb un if' cf po rp ir mv)(n:Nat){k:Nat}{f:List Nat}(h1:1<=k)(hk:k<=10)(V:Val k f):ar T (n+4) if' [.tup (L f)]=some (.bl true) :=
 (aw h.Fx).trans (qK h1 hk V (h.of (n+2)) (by rw[h.CV (n+1),decide_eq_true (by lia)])
  (by
   have F:=V.frm;have p:=(aw (n:=n+2) h.Gy).trans (r9 (xs:=f.map Int.ofNat) (by rw[List.length_map,F.len];lia) fun q hq=>(aw h.G7).trans (Cw (h.num n) hq));rw[u7 F.len F.lt (fun q _=>F.inv q),<-GG]at p
   exact p)
  (h.round (n+1) hk V.frm) (fun E a b c d l=>(aw h.GJ).trans (by
   obtain⟨w,e,_,hb⟩:=Ay (cl:=ar T (n+2)) (m:=2*k) (by lia) a b l
   rw[hb fun q q' x y z w=>by
    have:=d q q' (by lia) (by lia);have:=c q' (by lia)
    lia]at e
   exact e)))
def Ck.check(h:Ck T nu pc pa nb un if' cf po rp ir mv)(n:Nat){k:Nat}{f:List Nat}(h1:1<=k)(hk:k<=10)(V:Val k f):ar T (n+5) cf [.tup (L f)]=some .non:=(aw h.GF).trans (lB (h.frame n h1 hk V))
end
inductive Pl:Nat->D->Prop
 | int (n:Nat) (i:Int):Pl n (.int i)
 | bl (n:Nat) (b:Bool):Pl n (.bl b)
 | str (n:Nat) (x:PySem.Str):Pl n (.str x)
 | tup (n:Nat) (xs:List D) (hl:xs.length<=1000) (h:∀ x∈xs,Pl n x):Pl (n+1) (.tup xs)
 | lst (n:Nat) (xs:List D) (hl:xs.length<=1000) (h:∀ x∈xs,Pl n x):Pl (n+1) (.lst xs)
def rN{cl:Cl}{fs:Nat}(a:Bool):evF cl (cy fs) [.bl a,.bl a]=some (.bl true):=jN rfl rfl rfl rfl rfl rfl (zj a)
def same_str{cl:Cl}{fs:Nat}(x:PySem.Str):evF cl (cy fs) [.str x,.str x]=some (.bl true):=jN rfl rfl rfl rfl rfl rfl (show some (x == x)=some true by rw[beq_self_eq_true])
def sameAll{T:List Fn}{sm:Nat}(h:T[sm]?=some (cy sm)):∀ (k n:Nat) (d:D),Pl k d->k<=n->ar T (n+1) sm [d,d]=some (.bl true):=by
 intro k
 induction k with
 |zero=>
  intro n d p _
  cases p with
  | int=>exact(aw h).trans (same_int _)
  | bl=>exact(aw h).trans (rN _)
  | str=>exact(aw h).trans (same_str _)
 |succ k ih=>
  intro n d p hn
  cases p with
  | int=>exact(aw h).trans (same_int _)
  | bl=>exact(aw h).trans (rN _)
  | str=>exact(aw h).trans (same_str _)
  |tup _ xs hl hx=>
   obtain⟨m,rfl⟩:∃ m,n=m+1:=⟨n-1,by lia⟩
   exact(aw h).trans (qS (.inl rfl) hl fun x hd=>ih m x (hx x hd) (by lia))
  |lst _ xs hl hx=>
   obtain⟨m,rfl⟩:∃ m,n=m+1:=⟨n-1,by lia⟩
   exact(aw h).trans (qS (.inr rfl) hl fun x hd=>ih m x (hx x hd) (by lia))
def Pl.L{n:Nat}{xs:List Nat}(h:xs.length<=1000):Pl (n+1) (.tup (L xs)):=.tup _ _ (by rw[bJ];exact h) fun x hx=>by
 obtain⟨a,_,rfl⟩:=List.mem_map.mp hx;exact .int _ _
def uM(hf:f.length=n)(hg:g.length=n)(h:∀ x,x<n->at' f x=at' g x):f=g:=by
 refine List.ext_getElem? fun x=>?_;by_cases hx:x<n
 ·rw[iC (by lia),iC (by lia),h x hx]
 ·rw[List.getElem?_eq_none (by lia),List.getElem?_eq_none (by lia)]
end RM
set_option maxHeartbeats 1000000
namespace RM
open RL RT
abbrev wdL(n:Nat)(f:List Nat):List Bool:=(List.range (2*n)).map fun q=>decide (q<rnd n f q)
def di:(wdL n f).length=2*n:=by simp[wdL]
def oz(hw:w.length=2*n)(h:Wd n w f []):w=wdL n f:=by
 apply List.ext_getElem?;intro q;by_cases c:q<2*n
 ·rw[h q (by lia)];simp[wdL,c]
 ·rw[List.getElem?_eq_none (by lia),List.getElem?_eq_none (by rw[di];lia)]
def Frm.rlt(F:Frm n f)(h:q<2*n):rnd n f q<2*n:=aY (F.lt _ (aY h))
def Frm.gF(F:Frm n f)(h:q<2*n):rnd n f (rnd n f q)=q:=by
 unfold rnd;rw[bY (F.lt _ (aY h)),F.inv,bY h]
def Frm.rno(F:Frm n f)(h:q<2*n):rnd n f q≠q:=fun c=>by
 have:=F.no (rd n q) (aY h);exact this (by rw[<-bY (F.lt _ (aY h))];exact congrArg (rd n) c)
def nQ(V:Val n f)(U:Val n g)(P:∀ q,q<k->rnd n f q<k\/rnd n g q<k->rnd n f q=rnd n g q)(hk:k<2*n)(h1:rnd n f k<k)(h2:rnd n g k<k):¬ rnd n f k<rnd n g k:=by
 intro c;have a:=V.frm.gF hk;have b:=U.frm.gF hk
 have d:¬ rnd n f (rnd n g k)<k:=fun d=>by
  have:=P _ h2 (.inl d);lia
 have e:rnd n f (rnd n g k)≠k:=fun e=>by
  have:=V.frm.gF (q:=rnd n g k) (by lia);rw[e]at this;lia
 exact V.nox (rnd n f k) (rnd n g k) (by lia) (by lia) ⟨c,by lia,by lia⟩
def ny(V:Val n f)(U:Val n g)(h:∀ q,q<2*n->(q<rnd n f q↔q<rnd n g q)):∀ k,k<=2*n->∀ q,q<k->rnd n f q<k\/rnd n g q<k->rnd n f q=rnd n g q
 | 0,_,q,hq,_=>absurd hq (Nat.not_lt_zero _)
 | k+1,hk,q,hq,c=>by
  have P:=ny V U h k (by lia);have hk':k<2*n:=hk
  have J:rnd n f k<k\/rnd n g k<k->rnd n f k=rnd n g k:=fun c=>by
   have a:=h k hk';have b1:=V.frm.rno hk';have b2:=U.frm.rno hk'
   have c1:rnd n f k<k:=by lia
   have c2:rnd n g k<k:=by lia
   have:=nQ V U P hk' c1 c2;have:=nQ U V (fun q a b=>(P q a b.symm).symm) hk' c2 c1;lia
  by_cases e:q=k
  ·subst e;have b1:=V.frm.rno hk';have b2:=U.frm.rno hk';exact J (by lia)
  ·have hq':q<k:=by lia
   by_cases e1:rnd n f q=k
   ·have i1:=V.frm.gF (q:=q) (by lia);rw[e1]at i1;have j:=J (.inl (by lia));rw[e1,<-U.frm.gF hk',<-j,i1]
   ·by_cases e2:rnd n g q=k
    ·have i1:=U.frm.gF (q:=q) (by lia);rw[e2]at i1;have j:=J (.inr (by lia));rw[e2,<-V.frm.gF hk',j,i1]
    ·exact P q hq' (by lia)
def rq(V:Val n f)(U:Val n g)(h:wdL n f=wdL n g):f=g:=by
 have h':∀ q,q<2*n->(q<rnd n f q↔q<rnd n g q):=fun q hq=>by
  have:=congrArg (fun l=>l[q]?) h;simpa[wdL,hq]using this
 refine uM V.frm.len U.frm.len fun x hx=>?_;have:=ny V U h' (2*n) (Nat.le_refl _) (rd n x) (aY hx) (.inl (V.frm.rlt (aY hx)));unfold rnd at this;rw[bY hx]at this;exact i7 (V.frm.lt x hx) (U.frm.lt x hx) this
abbrev opn(n:Nat)(f:List Nat)(k:Nat):Nat:=(List.range k).countP fun q=>decide (k<=rnd n f q)
def Di(F:Frm n f)(hk:k<2*n)(h:k<rnd n f k):opn n f (k+1)=opn n f k+1:=by
 unfold opn;rw[List.range_succ,List.countP_append]
 have:(List.range k).countP (fun q=>decide (k+1<=rnd n f q))=(List.range k).countP fun q=>decide (k<=rnd n f q):=by
  apply List.countP_congr;intro q hq;simp at hq
  have:rnd n f q≠k:=fun c=>by
   have:=F.gF (q:=q) (by lia);rw[c]at this;lia
  simp;lia
 rw[this];simp;lia
def A6{k j:Nat}(hj:j<k)(p p':Nat->Bool)(h:∀ q,q<k->q≠j->p q=p' q)(h1:p j=true)(h2:p' j=false):(List.range k).countP p=(List.range k).countP p'+1:=by
 induction k with
 | zero=>lia
 |succ k ih=>
  rw[List.range_succ,List.countP_append,List.countP_append];by_cases c:j=k
  ·subst c
   have:(List.range j).countP p=(List.range j).countP p':=by
    apply List.countP_congr;intro q hq;simp at hq;rw[h q (by lia) (by lia)]
   rw[this];simp[h1,h2]
  ·rw[ih (by lia) fun q hq hn=>h q (by lia) hn];have:=h k (by lia) (by lia);simp[this];lia
def CB(F:Frm n f)(hk:k<2*n)(h:rnd n f k<k):opn n f k=opn n f (k+1)+1:=by
 unfold opn;rw[List.range_succ,List.countP_append];have b:=F.gF hk
 rw[A6 (j:=rnd n f k) h (fun q=>decide (k<=rnd n f q)) (fun q=>decide (k+1<=rnd n f q)) (fun q hq hn=>by
  have:rnd n f q≠k:=fun c=>by
   have:=F.gF (q:=q) (by lia);rw[c]at this;lia
  simp
  lia) (by simp;lia) (by simp;lia)]
 simp;lia
def sM(F:Frm n f):∀ k,k<=2*n->dpf 0 ((List.range k).map fun q=>decide (q<rnd n f q))=some (opn n f k)
 | 0,_=>rfl
 | k+1,hk=>by
  rw[List.range_succ,List.map_append,List.map_cons,List.map_nil,cR,sM F k (by lia),Option.bind_some];have no:=F.rno (q:=k) (by lia);by_cases c:k<rnd n f k
  ·rw[decide_eq_true c,Di F (by lia) c];rfl
  ·rw[decide_eq_false c,CB F (by lia) (by lia)];rfl
def pz(F:Frm n f):dpf 0 (wdL n f)=some 0:=by
 rw[wdL,sM F _ (Nat.le_refl _)];congr 1;unfold opn;rw[List.countP_eq_zero];intro q hq;simp at hq;have:=F.rlt hq;simp;lia
end RM
set_option maxHeartbeats 1000000
namespace RL
open PySem (Str)
abbrev Rx(cl:Cl)(σ:St)(e:E)(c:Str):Prop:=ev cl σ e=none/\evX cl σ e=some c
abbrev Rr(cl:Cl)(M:List Nat)(b:Ss)(σ:St)(c:Str)(σ':St):Prop:=aj cl M b σ=none/\cn cl M b σ=some (c,σ')
abbrev Rc(cl:Cl)(f:Nat)(ds:List D)(c:Str):Prop:=cl f ds=none/\cl (f+1000) ds=some (.str c)
section
def qZ(h:evS cl M s σ=none)(k:ju cl M s σ=some (c,σ')):Rr cl M (.cons s r) σ c σ':=by
 refine⟨?_,?_⟩
 ·rw[aj,h];rfl
 ·rw[cn,h];exact k
def E3(h:evs cl σ ps=some ds)(w:ds.all written=true):Rr cl M (.cons (.rais c ps) r) σ c σ:=qZ (by rw[evS]) (by show(evs cl σ ps).bind _=_;rw[h,Option.bind_some,if_pos w])
def F4(h:Rx cl σ e c):Rr cl M (.cons (.asg i e) r) σ c σ:=qZ (by rw[evS,h.1];rfl) (by show(evX cl σ e).map _=_;rw[h.2];rfl)
def EN(h:(ev cl σ t).bind truth=some true)(k:Rr cl M a σ c σ'):Rr cl M (.cons (.ife t a b) r) σ c σ':=qZ (by rw[evS,h];exact k.1) (by show((ev cl σ t).bind truth).bind _=_;rw[h];exact k.2)
def Ce(h:evs cl σ es=some ds)(k:Rc cl f ds c):Rx cl σ (.call f es) c:=by
 refine⟨?_,?_⟩
 ·rw[ev,h];exact k.1
 ·show(match evs cl σ es with | some ds=>clX cl f ds | none=>mB cl σ es)=_;rw[h];show clX cl f ds=_;unfold clX;rw[k.2];rfl
def G6(h:ev cl σ e=some d)(k:Rc cl f [d] c):Rx cl σ (.call f (.cons e .nil)) c:=Ce (aQ h bF) k
def BE(h1:aj cl M b σ=some (.nx,σ1))(k:aj cl M r σ1=res):aj cl M (.cons (.tryc b c i h) r) σ=res:=cS (by rw[evS,h1]) k
def Bb(h1:Rr cl M b σ n σ1)(hs:cD n c=true)(h2:aj cl M h (σ1.set i (some (.exc n)))=some (.nx,σ2))(k:aj cl M r (σ2.set i none)=res):aj cl M (.cons (.tryc b c i h) r) σ=res:=cS (by
 rw[evS,h1.1];show(cn cl M b σ).bind _=_;rw[h1.2,Option.bind_some,if_pos hs,h2]
 rfl) k
end
def Fe(h:T[f]?=some fn)(hT:T.length<=1000)(hl:ds.length=fn.ps)(hm:fn.mp=[])(k:Rr (ar T n) fn.M fn.body (ds.map some++List.replicate (fn.nn-fn.ps) none) c σ'):Rc (ar T (n+1)) f ds c:=by
 refine⟨?_,?_⟩
 ·rw[ar,h];show(if ds.length=fn.ps then _ else none)=none;rw[if_pos hl,k.1];rfl
 ·rw[ar,List.getElem?_eq_none (by omega)];show(T[f+1000-1000]?).bind _=_;rw[Nat.add_sub_cancel,h,Option.bind_some,if_pos ⟨hl,hm⟩,k.2];rfl
end RL
namespace RT
open RL
abbrev j5:Fn :=
 ⟨1,5,[1],[],(.cons (.own 1 (.lst (.cons (.isx (.var 0) "BadPegs") (.cons (.isx (.var 0) "BadFrame") (.cons (.isx (.var 0) "BadHalf") (.cons (.isx (.var 0) "BadHook") .nil)))))) (.cons (.own 1 (.bin .add (.var 1) (.lst (.cons (.isx (.var 0) "BadName") (.cons (.isx (.var 0) "NoNumber") (.cons (.isx (.var 0) "NoFrame") (.cons (.isx (.var 0) "NoStack") .nil))))))) (.cons (.own 1 (.bin .add (.var 1) (.lst (.cons (.isx (.var 0) "NoPlace") (.cons (.isx (.var 0) "Taken") (.cons (.isx (.var 0) "Full") (.cons (.isx (.var 0) "NothingThere") .nil))))))) (.cons (.own 1 (.bin .add (.var 1) (.lst (.cons (.isx (.var 0) "BadTrade") (.cons (.isx (.var 0) "Hangs") (.cons (.isx (.var 0) "BadPage") .nil)))))) (.cons (.app 1 (.not (.isx (.var 0) "ValueError"))) (.cons (.asg 2 (.lst (.cons (.cst (.str "BadPegs")) (.cons (.cst (.str "BadFrame")) (.cons (.cst (.str "BadHalf")) (.cons (.cst (.str "BadHook")) (.cons (.cst (.str "BadName")) (.cons (.cst (.str "NoNumber")) (.cons (.cst (.str "NoFrame")) (.cons (.cst (.str "NoStack")) (.cons (.cst (.str "NoPlace")) .nil))))))))))) (.cons (.asg 2 (.bin .add (.var 2) (.lst (.cons (.cst (.str "Taken")) (.cons (.cst (.str "Full")) (.cons (.cst (.str "NothingThere")) (.cons (.cst (.str "BadTrade")) (.cons (.cst (.str "Hangs")) (.cons (.cst (.str "BadPage")) (.cons (.cst (.str "odd")) .nil)))))))))) (.cons (.ret (.join (.comp (.var 3) [3,4] (.zip (.var 2) (.var 1)) (.var 4)))) .nil))))))))⟩
end RT
namespace RM
open RL RT
def C8(h:c∈(["BadPegs", "BadFrame", "BadHalf", "BadHook", "BadName", "NoNumber", "NoFrame", "NoStack"]:List PySem.Str)):evF cl j5 [.exc c]=some (.str c):=by
 simp only[List.mem_cons,List.not_mem_nil,or_false]at h;rcases h with rfl | rfl | rfl | rfl | rfl | rfl | rfl | rfl<;>rfl
end RM
set_option maxHeartbeats 1000000
namespace RT
open RL
abbrev ja(f_in_round f_check_frame:Nat):Fn :=
 ⟨1,3,[],[],(.cons (.exc (.call f_check_frame (.cons (.var 0) .nil))) (.cons (.ret (.join (.compA (.ifx (.cmp .gt (.var 2) (.var 1)) (.cst (.str "(")) (.cst (.str ")"))) [1,2] (.enm (.call f_in_round (.cons (.var 0) .nil)))))) .nil))⟩
abbrev cW(f_in_round f_tie f_is_brackets:Nat):Ss :=
 (.cons (.ife (.cmp .eq (.var 4) (.cst (.str "("))) (.cons (.app 2 (.var 3)) .nil) (.cons (.tie3 f_tie 1 3 2) .nil)) .nil)
abbrev dz(f_in_round f_tie f_is_brackets:Nat):Fn :=
 ⟨1,5,[1,2],[],(.cons (.ife (.not (.call f_is_brackets (.cons (.var 0) .nil))) (.cons (.rais "BadFrame" .nil) .nil) .nil) (.cons (.own 1 (.bin .mul (.lst (.cons (.cst (.int 0)) .nil)) (.bi .len (.var 0)))) (.cons (.own 2 (.lst .nil)) (.cons (.forr [3,4] (.enm (.var 0)) (cW f_in_round f_tie f_is_brackets)) (.cons (.ret (.call f_in_round (.cons (.var 1) .nil))) .nil)))))⟩
abbrev dJ(f_is_peg_count:Nat):Ss :=
 (.cons (.ife (.inn true (.var 2) (.tup (.cons (.cst (.str "(")) (.cons (.cst (.str ")")) .nil)))) (.cons (.ret (.cst (.bl false))) .nil) .nil) (.cons (.aug 1 .add (.ifx (.cmp .eq (.var 2) (.cst (.str "("))) (.cst (.int 1)) (.neg (.cst (.int 1))))) (.cons (.ife (.cmp .lt (.var 1) (.cst (.int 0))) (.cons (.ret (.cst (.bl false))) .nil) .nil) .nil)))
abbrev fQ(f_is_peg_count:Nat):Fn :=
 ⟨1,3,[],[],(.cons (.ife (.not (.call f_is_peg_count (.cons (.bin .fdiv (.bi .len (.var 0)) (.cst (.int 2))) .nil))) (.cons (.ret (.cst (.bl false))) .nil) .nil) (.cons (.asg 1 (.cst (.int 0))) (.cons (.forr [2] (.chr (.var 0)) (dJ f_is_peg_count)) (.cons (.ret (.cmp .eq (.var 1) (.cst (.int 0)))) .nil))))⟩
abbrev fk(f_law_circle:Nat):Ss :=
 (.cons (.asg 3 (.bin .add (.var 3) (.ix (.lst (.cons (.cst (.str "(")) (.cons (.cst (.str ")")) .nil))) (.bi .int (.inn false (.ix (.var 0) (.var 4)) (.var 2)))))) (.cons (.app 2 (.var 4)) .nil))
abbrev fU(f_law_circle:Nat):Fn :=
 ⟨1,5,[2],[],(.cons (.asg 1 (.call f_law_circle (.cons (.bin .fdiv (.bi .len (.var 0)) (.cst (.int 2))) .nil))) (.cons (.own 2 (.lst .nil)) (.cons (.asg 3 (.cst (.str ""))) (.cons (.forr [4] (.seq (.var 1)) (fk f_law_circle)) (.cons (.ret (.var 3)) .nil)))))⟩
abbrev dE:Ss :=
 (.cons (.asg 1 (.bin .add (.var 1) (.getE (.dd2 (.cst (.str "(")) (.cst (.int 1)) (.cst (.str ")")) (.neg (.cst (.int 1)))) (.var 2) (.neg (.cst (.int 1000)))))) (.cons (.ife (.cmp .lt (.var 1) (.cst (.int 0))) (.cons (.ret (.cst (.bl false))) .nil) .nil) .nil))
abbrev fS:Fn :=
 ⟨1,3,[],[],(.cons (.asg 1 (.cst (.int 0))) (.cons (.forr [2] (.chr (.var 0)) (dE)) (.cons (.ret (.and (.cmp .eq (.var 1) (.cst (.int 0))) (.chain .le .le (.cst (.int 2)) (.bi .len (.var 0)) (.cst (.int 20))))) .nil)))⟩
abbrev cz(f_law_digits:Nat):Fn :=
 ⟨3,6,[],[],(.cons (.unp [4,5,3] (.call f_law_digits (.cons (.var 0) (.cons (.var 1) (.cons (.lst (.cons (.cst (.int 6)) (.cons (.bin .add (.bi .len (.var 2)) (.cst (.int 1))) (.cons (.cst (.int 8)) .nil)))) .nil))))) (.cons (.asg 3 (.ix (.cst (.str "()( )x[\n")) (.var 3))) (.cons (.ife (.cmp .eq (.var 4) (.cst (.int 0))) (.cons (.ret (.bin .add (.bin .add (.sxT (.var 2) (.var 5)) (.var 3)) (.sxF (.var 2) (.var 5)))) .nil) .nil) (.cons (.ife (.cmp .eq (.var 4) (.cst (.int 1))) (.cons (.ret (.bin .add (.sxT (.var 2) (.var 5)) (.sxF (.var 2) (.bin .add (.var 5) (.cst (.int 1)))))) .nil) .nil) (.cons (.ife (.cmp .eq (.var 4) (.cst (.int 2))) (.cons (.ret (.bin .add (.bin .add (.sxT (.var 2) (.var 5)) (.var 3)) (.sxF (.var 2) (.bin .add (.var 5) (.cst (.int 1)))))) .nil) .nil) (.cons (.ife (.cmp .eq (.var 4) (.cst (.int 3))) (.cons (.ret (.bin .add (.var 2) (.var 2))) .nil) .nil) (.cons (.ife (.cmp .eq (.var 4) (.cst (.int 4))) (.cons (.ret (.bin .add (.sxF (.var 2) (.var 5)) (.sxT (.var 2) (.var 5)))) .nil) .nil) (.cons (.ret (.var 2)) .nil))))))))⟩
abbrev iQ(f_from_brackets f_law_kin:Nat):Fn :=
 ⟨1,3,[],[],(.cons (.asg 1 (.cst .non)) (.cons (.tryc (.cons (.asg 1 (.call f_from_brackets (.cons (.var 0) .nil))) .nil) "RibbonError" 2 (.cons (.asg 1 (.call f_law_kin (.cons (.var 2) .nil))) .nil)) (.cons (.ret (.var 1)) .nil)))⟩
end RT
namespace RM
open RL RT
def AU{xs:List D}{R R' x d u:D}(h1:(σ[r]?).bind id=some R)(h2:(σ[p]?).bind id=some x)(h3:(σ[w]?).bind id=some (.lst (xs++[d])))(im:x.imm=true)(hc:cl f [R,x,d]=some (.tup [u,R']))(k:aj cl M b ((σ.set w (some (.lst xs))).set r (some R'))=res):aj cl M (.cons (.tie3 f r p w) b) σ=res:=cS (by
 show((σ[r]?).bind id).bind _=_;rw[h1,Option.bind_some,h2,Option.bind_some,h3,Option.bind_some,show x3 (.lst (xs++[d]))=some (d,.lst xs) by simp[x3],Option.bind_some,if_pos im,hc]
 rfl) k
def Ck.DB{nb:Nat}(h:Ck T nu pc pa nb un if' cf po rp ir mv)(n:Nat){k:Nat}{f:List Nat}(hk:k<=10)(F:Frm k f):∃ E:List Nat,E.length=2*k/\(∀ q,q<2*k->at' E q=rnd k f q)/\ar T (n+2) ir [.lst (L f)]=some (.tup (L E)):=by
 obtain⟨E,h1,h2,h3⟩:=j1 (c:=.lst) (cl:=ar T (n+1)) (fm:=mv) (frp:=rp) (fpo:=po) (.inr rfl) hk F (h.ofL n) (fun p hp=>h.place n hp) (by
  obtain⟨E,h1,h2,h3⟩:=lD (c:=.lst) (cl:=ar T n) (T:=.lst (L (bB k))) (to:=rd k) (.inr rfl) hk F (fun p hp=>kg hp) (fun p hp=>aY hp) (fun p q hp hq h=>i7 hp hq h)
  exact⟨E,h1,h2,(aw h.BC).trans h3⟩)
 exact⟨E,h1,h2,(aw h.Em).trans h3⟩
def ky{ib ti ir:Nat}(h1:1<=n)(hn:n<=10)(hw:w.length=2*n)(hd:dpf 0 w=some 0)(hb:cl ib [.str (tx w)]=some (.bl true))
 (ht:∀ (xs:List Nat) (i j:Nat),i<xs.length->j<xs.length->cl ti [.lst (L xs),.int (i:Nat),.int (j:Nat)]=some (.tup [.non,.lst (L ((xs.set i j).set j i))]))
 (hr:∀ R:List Nat,Frm n R->∃ E:List Nat,E.length=2*n/\(∀ q,q<2*n->at' E q=rnd n R q)/\cl ir [.lst (L R)]=some (.tup (L E))) :
  ∃ f:List Nat,(Val n f/\Wd n w f [])/\evF cl (dz ir ti ib) [.str (tx w)]=some (.tup (L f)):=by
 have r0:rd n 0=0:=by unfold rd;rw[if_pos (by lia)]
 obtain⟨σ',e,I⟩:=pC (f:=aj cl [1,2] (cW ir ti ib)) (tg:=[3,4]) (fun b:Bool=>D.str (tx [b])) (fun _=>rfl)
  (fun u σ=>∃ (R f S:List Nat) (o3 o4:Option D),σ=[some (.str (tx w)),some (.lst (L R)),some (.lst (L S)),o3,o4]/\dpf 0 u=some S.length/\Mt n u.length f S/\(∀ x,x<2*n->at' f x<2*n)/\Wd n u f S/\R.length=2*n/\∀ q,q<2*n->at' R q=rnd n f q)
  w [] [some (.str (tx w)),some (.lst (L (List.replicate (2*n) 0))),some (.lst (L [])),none,none] (by
   rintro u b v σ hu ⟨R,f,S,o3,o4,rfl,hS,m,hlt,wd,hR,rr⟩
   have hk:u.length<2*n:=by
    rw[<-hw];have:=congrArg List.length hu;simp at this;lia
   have hdb:∃ d,dpf S.length [b]=some d:=by
    have:dpf 0 (u++b::v)=some 0:=by rw[<-hu];exact hd
    rw[gb,hS]at this
    revert this
    cases b with
    | true=>exact fun _=>⟨_,rfl⟩
    |false=>
     cases S.length with
     | zero=>exact fun h=>nomatch h
     | succ d=>exact fun _=>⟨_,rfl⟩
   cases b with
   |true=>
    have hl:S.length<most:=by have:=lQ u 0 hS;unfold most;lia
    have ap:L (S++[u.length])=L S++[.int ((u.length:Nat):Int)]:=by simp[L]
    refine⟨[some (.str (tx w)),some (.lst (L R)),some (.lst (L (S++[u.length]))),some (.int u.length),some (.str (tx [true]))],?_,R,f,S++[u.length],_,_,rfl,?_,by simpa using m.push hk,hlt,wd.push m,hR,rr⟩
    ·rw[ap];exact show aj cl [1,2] (cW ir ti ib) [some (.str (tx w)),some (.lst (L R)),some (.lst (L S)),some (.int u.length),some (.str (tx [true]))]=some (.nx,_)from gJ (aE (az (k:=true) (ae rfl) ai (by rw[jh];decide))) (lL (ae rfl) rfl rfl (by rw[bJ];exact hl) aR) aR
    ·rw[cR,hS];simp[dpf]
   |false=>
    obtain⟨d,hdb⟩:=hdb
    have hS0:S≠[]:=by
     rintro rfl;simp[dpf]at hdb
    obtain⟨S0,m0,rfl⟩:∃ S0 m0,S=S0++[m0]:=⟨S.dropLast,S.getLast hS0,(List.dropLast_concat_getLast hS0).symm⟩
    have hm0:m0<u.length:=m.lt m0 (by simp)
    have ap:L (S0++[m0])=L S0++[.int ((m0:Nat):Int)]:=by simp[L]
    have hc:=ht R u.length m0 (by lia) (by lia);refine⟨[some (.str (tx w)),some (.lst (L ((R.set u.length m0).set m0 u.length))),some (.lst (L S0)),some (.int u.length),some (.str (tx [false]))],?_,_,(f.set (rd n m0) (rd n u.length)).set (rd n u.length) (rd n m0),S0,_,_,rfl,?_,by simpa using m.pop hk,?_,wd.pop m hk,by simp[hR],?_⟩
    ·rw[ap];exact show aj cl [1,2] (cW ir ti ib) [some (.str (tx w)),some (.lst (L R)),some (.lst (L S0++[.int ((m0:Nat):Int)])),some (.int u.length),some (.str (tx [false]))]=some (.nx,_)from i6 (aE (az (k:=false) (ae rfl) ai (by rw[jh];decide))) (AU rfl rfl rfl rfl hc aR) aR
    ·rw[cR,hS];simp[dpf]
    ·intro x hx;rw[cI (by simp[m.len];exact aY (by lia)),cI (by rw[m.len];exact aY (by lia))];have:=aY (n:=n) (q:=m0) (by lia);have:=aY (n:=n) (q:=u.length) (by lia);have:=hlt x hx
     repeat' split
     all_goals lia
    ·intro q hq;rw[cI (by simp;lia),cI (by lia),mH m.len hk (by lia) hq,rr q hq]
     repeat' split
     all_goals lia)
  ⟨List.replicate (2*n) 0,List.replicate (2*n) 0,[],none,none,rfl,rfl,⟨by simp,by simp,by simp,by simp,by simp,by simp,by simp⟩,fun x hx=>by simp[at',hx];lia,fun q hq=>by simp at hq,by simp,fun q hq=>by
   have z:∀ x,x<2*n->at' (List.replicate (2*n) 0) x=0:=fun x hx=>by simp[at',hx]
   unfold rnd
   rw[z _ (aY hq),z q hq,r0]⟩
 obtain⟨R,f,S,o3,o4,rfl,hS,m,hlt,wd,hR,rr⟩:=I;simp only[List.nil_append]at hS m wd;rw[hd]at hS;have hS0:S=[]:=List.eq_nil_of_length_eq_zero (by simpa using hS.symm);subst hS0;rw[hw]at m;have V:=m.val hlt;have F:=V.frm
 have FR:Frm n R:=⟨hR,fun x hx=>by rw[rr x hx];exact F.rlt hx,fun x=>by
  by_cases hx:x<2*n
  ·rw[rr x hx,rr _ (F.rlt hx),F.gF hx]
  ·have o:=jF (f:=R) (x:=x) (by lia)
   rw[o,o],fun x hx=>by rw[rr x hx];exact F.rno hx⟩
 obtain⟨E,El,EE,hE⟩:=hr R FR
 have eE:E=f:=uM El F.len fun x hx=>by
  rw[EE x hx];unfold rnd;rw[rr _ (aY hx)];unfold rnd;rw[bY hx,bY (F.lt x hx)]
 subst eE;refine⟨E,⟨V,wd⟩,?_⟩
 have len:biV .len (.str (tx w))=some (.int ((2*n:Nat):Int)):=by
  dsimp only[biV];rw[dU,hw,if_pos (by unfold most;lia)]
 have e0:aB .mul (.lst [.int 0]) (.int ((2*n:Nat):Int))=some (.lst (L (List.replicate (2*n) 0))):=by
  dsimp only[aB];rw[if_pos ⟨by lia,by unfold most;lia,by simp[most];lia⟩];simp[L];lia
 have it:d6 (.str (tx w))=some (w.map fun b=>D.str (tx [b])):=by
  simp[d6,tx,Function.comp_def]
 exact aU rfl rfl (aO (aE (cA (bT (ae rfl) hb))) (gC (aA (cU (aQ ai bF)) (bE (ae rfl) len) e0) (by rw[show aV (.lst (L (List.replicate (2*n) 0)))=true from bX _];rfl) (gC (cU bF) rfl
  (dW (l9 (ae rfl) it) e (aL (bT (ae rfl) hE) (by unfold bz;rw[show(D.tup (L E)).imm=true from bX _];rfl))))))
end RM
set_option maxHeartbeats 1000000
namespace RM
open RL RT
def sG(b:β->Bool):∀ xs:List β,strs? (xs.map fun q=>D.str (tx [b q]))=some (xs.map fun q=>tx [b q])
 | []=>rfl
 | x::r=>by simp[strs?,sG b r]
def si(b:β->Bool):∀ xs:List β,(xs.map fun q=>tx [b q]).flatMap (fun s=>s.cps.toList)=(xs.map b).map sg
 | []=>rfl
 | x::r=>by
  rw[List.map_cons,List.flatMap_cons,si b r];rfl
def Ah(b:β->Bool)(xs:List β)(h:xs.length<=most):oD (.lst (xs.map fun q=>D.str (tx [b q])))=some (.str (tx (xs.map b))):=by
 dsimp only[oD];rw[sG,Option.bind_some,if_pos ⟨by simpa using h,by simp[dU]⟩,si];rfl
def E8(h:ev cl σ e=some x)(hb:oD x=some d):ev cl σ (.join e)=some d:=by
 show(ev cl σ e).bind _=_;rw[h];exact hb
def oU{ir cf:Nat}(hn:n<=10)(hc:cl cf [.tup (L f)]=some .non)(hr:∃ E:List Nat,E.length=2*n/\(∀ q,q<2*n->at' E q=rnd n f q)/\cl ir [.tup (L f)]=some (.tup (L E))):evF cl (ja ir cf) [.tup (L f)]=some (.str (tx (wdL n f))):=by
 obtain⟨E,El,EE,hE⟩:=hr
 have mc:=jM (F:=fun σ1=>(ev cl σ1 (.ifx (.cmp .gt (.var 2) (.var 1)) (.cst (.str "(")) (.cst (.str ")")))).map some) (tg:=[1,2]) (σ:=[some (.tup (L f)),none,none]) (h:=pr E) (g:=fun q=>D.str (tx [decide (q<rnd n f q)])) (fun _=>rfl) (List.range (2*n)) (by
  intro q hq;simp at hq
  have e:ev cl [some (.tup (L f)),some (.int (q:Nat)),some (.int (at' E q:Nat))] (.ifx (.cmp .gt (.var 2) (.var 1)) (.cst (.str "(")) (.cst (.str ")")))=some (.str (tx [decide (q<rnd n f q)])):=by
   rw[EE q hq];refine uf (aE (az (k:=decide (q<rnd n f q)) (ae rfl) (ae rfl) ?_)) ?_
   ·show some (decide (((rnd n f q:Nat):Int) > (q:Nat)))=_;congr 1;exact decide_eq_decide.mpr (by lia)
   ·by_cases c:q<rnd n f q
    ·rw[decide_eq_true c,<-jh];exact ai
    ·rw[decide_eq_false c,<-uF];exact ai
  show(ev cl [some (.tup (L f)),some (.int (q:Nat)),some (.int (at' E q:Nat))] _).map some=_
  rw[e];rfl)
 rw[<-jK El]at mc;have jn:=Ah (fun q=>decide (q<rnd n f q)) (List.range (2*n)) (by simp[most];lia);exact aU rfl rfl (DY (bT (ae rfl) hc) (aL (E8 (iD (l9 (bT (ae rfl) hE) rfl) (by rw[jK El];simp[most];lia) mc) jn) rfl))
def FE(a:Nat)(p:List Nat):inV (.int (a:Nat)) (.lst (L p))=some (decide (a∈p)):=by
 have h1:(L p).all flat=true:=by simp[L,flat]
 have h2:((L p).any fun x=>eqF x (.int (a:Nat)))=decide (a∈p):=by
  rw[Bool.eq_iff_iff];simp[L,eqF];exact⟨fun⟨x,hx,e⟩=>by rw[<-show x=a by lia];exact hx,fun h=>⟨a,h,rfl⟩⟩
 show(if flat (.int (a:Nat))&&(L p).all flat then some ((L p).any fun x=>eqF x (.int (a:Nat)))else none)=_;rw[h1,h2];rfl
def rF{ci:Nat}(h1:1<=n)(hn:n<=10)(F:Frm n f)(hc:cl ci [.int n]=some (.lst (L (bB n)))):evF cl (fU ci) [.tup (L f)]=some (.str (tx (wdL n f))):=by
 obtain⟨σ',e,I⟩:=cH (f:=aj cl [2] (fk ci)) (tg:=[4]) (xs:=bB n) (σ:=[some (.tup (L f)),some (.lst (L (bB n))),some (.lst (L [])),some (.str (tx [])),none])
  (fun p σ=>∃ o4,σ=[some (.tup (L f)),some (.lst (L (bB n))),some (.lst (L p)),some (.str (tx ((List.range p.length).map fun q=>decide (q<rnd n f q)))),o4]) ⟨none,rfl⟩ (by
   rintro p x q σ hx ⟨o4,rfl⟩;obtain⟨a1,a2⟩:=cB (show(List.range (2*n)).map (rd n)=p++x::q from hx)
   have ep:p=(List.range p.length).map (rd n):=by
    have:=congrArg (List.take p.length) (show(List.range (2*n)).map (rd n)=p++x::q from hx);rw[List.take_left' rfl,<-List.map_take,List.take_range,Nat.min_eq_left (by lia)]at this;exact this.symm
   generalize hk:p.length=k at *
   have mem:at' f x∈p↔rnd n f k<k:=by
    rw[ep,a2];simp only[List.mem_map,List.mem_range];constructor
    ·rintro⟨j,hj,e⟩;unfold rnd;rw[<-e,bY (by lia)];exact hj
    ·intro c;exact⟨_,c,bY (F.lt _ (aY (by lia)))⟩
   have no:=F.rno (q:=k) (by lia)
   have sgn:ixV (.lst [.str (PySem.Str.ofString "("),.str (PySem.Str.ofString ")")]) (.int (if at' f x∈p then 1 else 0))=some (.str (tx [decide (k<rnd n f k)])):=by
    rw[jh,uF];by_cases c:at' f x∈p
    ·rw[if_pos c,decide_eq_false (by have:=mem.mp c;lia)];rfl
    ·rw[if_neg c,decide_eq_true (by have:=mt mem.mpr c;lia)];rfl
   have bi:biV .int (.bl (decide (at' f x∈p)))=some (.int (if at' f x∈p then 1 else 0)):=by
    by_cases c:at' f x∈p
    ·rw[if_pos c,decide_eq_true c];rfl
    ·rw[if_neg c,decide_eq_false c];rfl
   have xl:x<f.length:=by rw[F.len,a2];exact aY a1
   have ap:L (p++[x])=L p++[.int (x:Nat)]:=by simp[L]
   refine⟨_,show aj cl [2] (fk ci) [some (.tup (L f)),some (.lst (L (bB n))),some (.lst (L p)),some (.str (tx ((List.range k).map fun q=>decide (q<rnd n f q)))),some (.int (x:Nat))]=some (.nx,_)from
    aI (aA (ae rfl) (eu (cU (aQ ai (aQ ai bF))) (bE (uD (n:=false) (eu (ae rfl) (ae rfl) (fK xl)) (ae rfl) (FE _ _)) bi) sgn) (pF (by simp[most];lia))) rfl (lL (ae rfl) rfl rfl (by rw[bJ,hk];unfold most;lia) aR),some (.int (x:Nat)),?_⟩
   rw[ap,List.length_append,hk,List.length_singleton,List.range_succ,List.map_append]
   rfl)
 obtain⟨o4,rfl⟩:=I;rw[k9]at e;have ln:=half (xs:=L f) (n:=n) (by rw[bJ,F.len]);rw[<-wg]at e;exact aU rfl rfl (aI (bT (aA (bE (ae rfl) ln) ai (uh n)) hc) (by unfold bN;rw[show aV (.lst (L (bB n)))=true from bX _];rfl) (gC (cU bF) rfl (aI ai rfl (dW (uy (ae rfl) rfl) e (aL (ae rfl) rfl)))))
end RM
set_option maxHeartbeats 1000000
namespace RM
open RL RT
abbrev gd:Nat->List Nat->Option Nat
 | d,[]=>some d
 | d,c::r=>if c=40 then gd (d+1) r else if c=41 then(if d=0 then none else gd (d-1) r)else none
def cO(v:List Nat):∀ (u:List Nat) (d:Nat),gd d (u++v)=(gd d u).bind fun e=>gd e v
 | [],d=>rfl
 | c::r,d=>by
  rw[List.cons_append,gd,gd,cO v r,cO v r]
  repeat' split
  all_goals rfl
def uk:∀ (u:List Nat) (d:Nat) {e:Nat},gd d u=some e->e<=d+u.length
 | [],d,e,h=>by cases h;simp
 | c::r,d,e,h=>by
  rw[gd]at h;simp only[List.length_cons];split at h
  ·have:=uk r _ h;lia
  ·split at h
   ·split at h
    ·cases h
    ·have:=uk r _ h;lia
   ·cases h
def ko:∀ (u:List Nat) (d:Nat) {e:Nat},gd d u=some e->∃ w:List Bool,u=w.map sg/\dpf d w=some e
 | [],d,e,h=>⟨[],rfl,h⟩
 | c::r,d,e,h=>by
  rw[gd]at h;split at h
  ·rename_i c0;obtain⟨w,h1,h2⟩:=ko r _ h;exact⟨true::w,by rw[c0,h1];rfl,h2⟩
  ·split at h
   ·rename_i c0;split at h
    ·cases h
    ·obtain⟨w,h1,h2⟩:=ko r _ h
     obtain⟨d',rfl⟩:∃ d',d=d'+1:=⟨d-1,by lia⟩
     exact⟨false::w,by rw[c0,h1];rfl,h2⟩
   ·cases h
def pQ:∀ (w:List Bool) (d:Nat),gd d (w.map sg)=dpf d w
 | [],d=>rfl
 | true::w,d=>by
  rw[List.map_cons,gd,if_pos (show sg true=40 from rfl),pQ w];rfl
 | false::w,0=>rfl
 | false::w,d+1=>by
  rw[List.map_cons,gd,if_neg (by decide),if_pos (show sg false=41 from rfl),if_neg (by lia),pQ w];rfl
def kX:∀ (w:List Bool) (d:Nat) {e:Nat},dpf d w=some e->(w.length+d+e)%2=0
 | [],d,e,h=>by cases h;simp;lia
 | true::r,d,e,h=>by have:=kX r (d+1) h;simp;lia
 | false::r,0,e,h=>nomatch h
 | false::r,d+1,e,h=>by have:=kX r d h;simp;lia
abbrev c1(c:Nat):D:=.str ⟨#[c]⟩
def uW(c c':Nat):((⟨#[c]⟩:PySem.Str) == ⟨#[c']⟩)=decide (c=c'):=by
 by_cases h:c=c'
 ·subst h;simp
 ·rw[decide_eq_false h,beq_eq_false_iff_ne];intro e;exact h (by simpa using e)
def tM:PySem.Str.ofString "(" = ⟨#[40]⟩:=by decide +kernel
def yn:PySem.Str.ofString ")" = ⟨#[41]⟩:=by decide +kernel
def zJ(c:Nat):inV (c1 c) (.tup [.str (PySem.Str.ofString "("),.str (PySem.Str.ofString ")")])=some (decide (c=40\/c=41)):=by
 rw[tM,yn];show some ([D.str ⟨#[40]⟩,D.str ⟨#[41]⟩].any fun x=>eqF x (c1 c))=_;simp only[List.any_cons,List.any_nil,c1,eqF,uW];congr 1;simp[eq_comm]
def zh(c:Nat):bw .eq (c1 c) (.str (PySem.Str.ofString "("))=some (decide (c=40)):=by
 rw[tM,<-uW];rfl
def oB(h:ev cl σ e=some x)(hr:E2 x=some ds):bp cl σ (.chr e)=some ds:=by
 show(ev cl σ e).bind _=_;rw[h];exact hr
def F9(h1:ev cl σ a=some x)(h2:ev cl σ b=some y)(h3:ev cl σ c=some z)(h4:ev cl σ d=some w)(hb:x6 x y z w=some v):ev cl σ (.dd2 a b c d)=some v:=by
 show(ev cl σ a).bind _=_;rw[h1,Option.bind_some,h2,Option.bind_some,h3,Option.bind_some,h4];exact hb
def Ey(h1:ev cl σ a=some x)(h2:ev cl σ b=some y)(h3:ev cl σ c=some z)(hb:tP x y z=some v):ev cl σ (.getE a b c)=some v:=by
 show(ev cl σ a).bind _=_;rw[h1,Option.bind_some,h2,Option.bind_some,h3];exact hb
def jP{s:PySem.Str}(h:s.length<=most):biV .len (.str s)=some (.int (s.length:Nat)):=by
 dsimp only[biV];rw[if_pos h]
def l6{s:PySem.Str}{pc:Nat}{k:Bool}(hl:s.length<=most)(hp:cl pc [.int ((s.length / 2:Nat):Int)]=some (.bl k)):evF cl (fQ pc) [.str s]=some (.bl (k&&decide (gd 0 s.cps.toList=some 0))):=by
 have dv:aB .fdiv (.int (s.length:Nat)) (.int 2)=some (.int ((s.length / 2:Nat):Int)):=by
  rw[ka (by decide) (by decide)];congr 2
 cases k with
 |false=>
  exact aU rfl rfl (bD (aE (cA (bT (aA (bE (ae rfl) (jP hl)) ai dv) hp))) (aL ai rfl))
 |true=>
  have L:=l7 (f:=aj cl [] (dJ pc)) (tg:=[2]) (d:=.bl false) (B:=gd 0 s.cps.toList=none) c1 (fun _=>rfl)
   (fun u σ=>∃ (d:Nat) (o2:Option D),σ=[some (.str s),some (.int (d:Nat)),o2]/\gd 0 u=some d) s.cps.toList [] [some (.str s),some (.int (0:Nat)),none] (by
    rintro u c v σ hu ⟨d,o2,rfl,hd⟩
    have hg:gd 0 s.cps.toList=gd d (c::v):=by
     rw[show s.cps.toList=u++c::v from hu,cO,hd];rfl
    have st:∀ {o:Out} {σ2:St},aj cl [] (dJ pc) [some (.str s),some (.int (d:Nat)),some (c1 c)]=some (o,σ2)->(aF [2] (c1 c) [some (.str s),some (.int (d:Nat)),o2]).bind (aj cl [] (dJ pc))=some (o,σ2):=fun h=>h;by_cases a:c=40\/c=41
    ·have i1:ev cl [some (.str s),some (.int (d:Nat)),some (c1 c)] (.inn true (.var 2) (.tup (.cons (.cst (.str "(")) (.cons (.cst (.str ")")) .nil))))=some (.bl false):=by
      have:=uD (cl:=cl) (σ:=[some (.str s),some (.int (d:Nat)),some (c1 c)]) (n:=true) (e:=.var 2) (ae rfl) (ug (aQ ai (aQ ai bF))) (zJ c);rw[decide_eq_true a]at this;exact this
     by_cases b:c=40
     ·subst b;refine .inl ⟨_,st (aO (aE i1) (vy (y:=1) (z:=((d+1:Nat):Int)) rfl (uf (k:=true) (aE (az (ae rfl) ai (zh 40))) ai) bW (aO (aE (az (k:=false) (ae rfl) ai (by rw[et,decide_eq_false (by lia)]))) aR))),d+1,_,rfl,?_⟩;rw[cO,hd];rfl
     ·have c0:c=41:=by lia
      subst c0;have ag:∀ {b' res},aj cl [] b' [some (.str s),some (.int ((d:Nat)-1)),some (c1 41)]=res->aj cl [] (.cons (.aug 1 .add (.ifx (.cmp .eq (.var 2) (.cst (.str "("))) (.cst (.int 1)) (.neg (.cst (.int 1))))) b') [some (.str s),some (.int (d:Nat)),some (c1 41)]=res:=fun h=>vy (y:=-1) (z:=(d:Nat)-1) rfl (uf (k:=false) (aE (az (ae rfl) ai (zh 41))) (lE ai)) bW h;by_cases z:d=0
      ·subst z;exact .inr ⟨by rw[hg];rfl,_,st (aO (aE i1) (ag (bD (aE (az (k:=true) (ae rfl) ai rfl)) (aL ai rfl))))⟩
      ·obtain⟨d',rfl⟩:∃ d',d=d'+1:=⟨d-1,by lia⟩
       have ez:(((d'+1:Nat):Int)-1)=(d':Nat):=by lia
       rw[ez]at ag;refine .inl ⟨_,st (aO (aE i1) (ag (aO (aE (az (k:=false) (ae rfl) ai (by rw[et,decide_eq_false (by lia)]))) aR))),d',_,rfl,?_⟩;rw[cO,hd];rfl
    ·have i1:ev cl [some (.str s),some (.int (d:Nat)),some (c1 c)] (.inn true (.var 2) (.tup (.cons (.cst (.str "(")) (.cons (.cst (.str ")")) .nil))))=some (.bl true):=by
      have:=uD (cl:=cl) (σ:=[some (.str s),some (.int (d:Nat)),some (c1 c)]) (n:=true) (e:=.var 2) (ae rfl) (ug (aQ ai (aQ ai bF))) (zJ c);rw[decide_eq_false a]at this;exact this
     exact .inr ⟨by rw[hg,gd,if_neg (by lia),if_neg (by lia)],_,st (bD (aE i1) (aL ai rfl))⟩)
   ⟨0,none,rfl,rfl⟩
  rcases L with⟨σ',e,d,o2,rfl,hd⟩ | ⟨hB,σ',e⟩
  ·rw[List.nil_append]at hd;rw[hd];refine aU rfl rfl (aO (aE (cA (bT (aA (bE (ae rfl) (jP hl)) ai dv) hp))) (aI ai rfl (dW (oB (ae rfl) rfl) e (aL (az (ae rfl) ai ?_) rfl))));rw[dQ];congr 1;rw[Bool.eq_iff_iff];simp
  ·rw[hB];exact aU rfl rfl (aO (aE (cA (bT (aA (bE (ae rfl) (jP hl)) ai dv) hp))) (aI ai rfl (lY (oB (ae rfl) rfl) e)))
end RM
set_option maxHeartbeats 1000000
namespace RM
open RL RT
def Eu(c:Nat):tP (.dK [.inr (PySem.Str.ofString "("),.inr (PySem.Str.ofString ")")] [.int 1,.int (-1)]) (c1 c) (.int (-1000))=some (.int (if c=40 then 1 else if c=41 then -1 else -1000)):=by
 rw[tM,yn];show some ((aG [(Sum.inr ⟨#[40]⟩:Ky),Sum.inr ⟨#[41]⟩] [.int 1,.int (-1)] (Sum.inr ⟨#[c]⟩)).getD (.int (-1000)))=_;simp only[aG];by_cases a:c=40
 ·subst a;rfl
 ·have n1:¬ ((Sum.inr ⟨#[40]⟩:Int ⊕ PySem.Str)=.inr ⟨#[c]⟩):=fun e=>a (by simpa using e.symm);by_cases b:c=41
  ·subst b;rfl
  ·have n2:¬ ((Sum.inr ⟨#[41]⟩:Int ⊕ PySem.Str)=.inr ⟨#[c]⟩):=fun e=>b (by simpa using e.symm);rw[if_neg a,if_neg b];simp[a,b,eq_comm]
def rC{s:PySem.Str}(hl:s.length<1000):evF cl fS [.str s]=some (.bl (decide (gd 0 s.cps.toList=some 0)&&decide (2<=s.length/\s.length<=20))):=by
 have dd:x6 (.str (PySem.Str.ofString "(")) (.int 1) (.str (PySem.Str.ofString ")")) (.int (-1))=some (.dK [.inr (PySem.Str.ofString "("),.inr (PySem.Str.ofString ")")] [.int 1,.int (-1)]):=by
  rw[tM,yn];rfl
 have L:=l7 (f:=aj cl [] dE) (tg:=[2]) (d:=.bl false) (B:=gd 0 s.cps.toList=none) c1 (fun _=>rfl)
  (fun u σ=>∃ (d:Nat) (o2:Option D),σ=[some (.str s),some (.int (d:Nat)),o2]/\gd 0 u=some d) s.cps.toList [] [some (.str s),some (.int (0:Nat)),none] (by
   rintro u c v σ hu ⟨d,o2,rfl,hd⟩
   have hg:gd 0 s.cps.toList=gd d (c::v):=by
    rw[show s.cps.toList=u++c::v from hu,cO,hd];rfl
   have hd1:d<1000:=by
    have:=uk u 0 hd;have l:=congrArg List.length hu;simp at l;have:s.cps.size<1000:=hl;lia
   have st:∀ {o:Out} {σ2:St} (x:Int),(d:Nat)+(if c=40 then 1 else if c=41 then -1 else -1000)=x->aj cl [] (.cons (.ife (.cmp .lt (.var 1) (.cst (.int 0))) (.cons (.ret (.cst (.bl false))) .nil) .nil) .nil) [some (.str s),some (.int x),some (c1 c)]=some (o,σ2)->(aF [2] (c1 c) [some (.str s),some (.int (d:Nat)),o2]).bind (aj cl [] dE)=some (o,σ2):=fun x hx h=>show aj cl [] dE [some (.str s),some (.int (d:Nat)),some (c1 c)]=some (_,_)from
    aI (aA (ae rfl) (Ey (F9 ai ai ai (lE ai) dd) (ae rfl) (lE ai) (Eu c)) (by rw[bW,hx])) rfl h
   by_cases b:c=40
   ·subst b;refine .inl ⟨_,st ((d+1:Nat):Int) rfl (aO (aE (az (k:=false) (ae rfl) ai (by rw[et,decide_eq_false (by lia)]))) aR),d+1,_,rfl,?_⟩;rw[cO,hd];rfl
   ·by_cases b':c=41
    ·subst b';by_cases z:d=0
     ·subst z;exact .inr ⟨by rw[hg];rfl,_,st (-1) rfl (bD (aE (az (k:=true) (ae rfl) ai rfl)) (aL ai rfl))⟩
     ·obtain⟨d',rfl⟩:∃ d',d=d'+1:=⟨d-1,by lia⟩
      refine .inl ⟨_,st (d':Nat) (by simp;lia) (aO (aE (az (k:=false) (ae rfl) ai (by rw[et,decide_eq_false (by lia)]))) aR),d',_,rfl,?_⟩;rw[cO,hd];rfl
    ·exact .inr ⟨by rw[hg,gd,if_neg b,if_neg b'],_,st _ rfl (bD (aE (az (k:=true) (ae rfl) ai (by rw[et,if_neg b,if_neg b',decide_eq_true (by lia)]))) (aL ai rfl))⟩)
  ⟨0,none,rfl,rfl⟩
 rcases L with⟨σ',e,d,o2,rfl,hd⟩ | ⟨hB,σ',e⟩
 ·rw[List.nil_append]at hd;rw[hd];refine aU rfl rfl (aI ai rfl (dW (oB (ae rfl) rfl) e (aL (d:=.bl _) ?_ rfl)))
  have eq0:bw .eq (.int (d:Nat)) (.int 0)=some (decide (some d=some 0)):=by
   rw[dQ];congr 1;rw[Bool.eq_iff_iff];simp
  by_cases z:d=0
  ·subst z;refine cE (az (ae rfl) ai eq0) ?_;by_cases a:2<=s.length
   ·refine mI ai (bE (ae rfl) (jP (by unfold most;lia))) ai (by rw[mD,decide_eq_true (by lia)]) ?_;rw[mD];congr 1;rw[Bool.eq_iff_iff];simp;lia
   ·rw[decide_eq_false (p:=2<=s.length/\s.length<=20) (fun h=>a h.1),Bool.and_false];exact pD ai (bE (ae rfl) (jP (by unfold most;lia))) (by rw[mD,decide_eq_false (by lia)])
  ·rw[decide_eq_false (fun h=>z (by simpa using h)),Bool.false_and];refine fJ (az (ae rfl) ai ?_);rw[eq0,decide_eq_false (fun h=>z (by simpa using h))]
 ·rw[hB];exact aU rfl rfl (aI ai rfl (lY (oB (ae rfl) rfl) e))
def EY(hl:ns.length<=63):tV (.scr (LI ns)) (.int 63)=some (.lst (LI ns)):=by
 show some (D.lst ((LI ns).take (cutAt (LI ns).length 63)))=_;rw[List.take_of_length_le]
 have:(LI ns).length=ns.length:=by simp[LI]
 rw[this];unfold cutAt;rw[if_pos (by decide)];have:(63:Int).toNat=63:=rfl;lia
section
end
section
variable{nu pc pa nb un if' cf po rp ir mv:Nat}
end
end RM
set_option maxHeartbeats 1000000
namespace K03
open RL RT
abbrev oS(f_law_same f_law_read f_law_is_text f_law_from_text f_law_bent_text f_from_brackets f_brackets f_law_text_of f_law_frame f_law_digits:Nat):Ss :=
 (.cons (.asg 4 (.call f_law_bent_text (.cons (.var 0) (.cons (.bin .add (.bin .add (.cst (.int 35)) (.bin .mul (.cst (.int 2)) (.var 1))) (.var 5)) (.cons (.var 4) .nil))))) .nil)
abbrev uN(f_law_same f_law_read f_law_is_text f_law_from_text f_law_bent_text f_from_brackets f_brackets f_law_text_of f_law_frame f_law_digits:Nat):Ss :=
 (.cons (.asg 2 (.bin .add (.cst (.int 1)) (.ix (.call f_law_digits (.cons (.var 0) (.cons (.bin .add (.cst (.int 20)) (.var 1)) (.cons (.lst (.cons (.cst (.int 10)) .nil)) .nil)))) (.cst (.int 0))))) (.cons (.asg 3 (.call f_law_frame (.cons (.var 0) (.cons (.var 1) (.cons (.var 2) .nil))))) (.cons (.asg 4 (.call f_law_text_of (.cons (.var 3) .nil))) (.cons (.ife (.or (.not (.call f_law_same (.cons (.call f_brackets (.cons (.var 3) .nil)) (.cons (.var 4) .nil)))) (.not (.call f_law_same (.cons (.call f_from_brackets (.cons (.var 4) .nil)) (.cons (.var 3) .nil))))) (.cons (.ret (.cst (.bl false))) .nil) .nil) (.cons (.forr [5] (.rng1 (.bin .add (.cst (.int 1)) (.bin .mod (.var 1) (.cst (.int 2))))) (oS f_law_same f_law_read f_law_is_text f_law_from_text f_law_bent_text f_from_brackets f_brackets f_law_text_of f_law_frame f_law_digits)) (.cons (.asg 6 (.cst (.str "BadFrame"))) (.cons (.ife (.call f_law_is_text (.cons (.var 4) .nil)) (.cons (.asg 6 (.call f_law_from_text (.cons (.var 4) .nil))) .nil) .nil) (.cons (.ife (.not (.call f_law_same (.cons (.call f_law_read (.cons (.var 4) .nil)) (.cons (.var 6) .nil)))) (.cons (.ret (.cst (.bl false))) .nil) .nil) .nil))))))))
abbrev zq(f_law_same f_law_read f_law_is_text f_law_from_text f_law_bent_text f_from_brackets f_brackets f_law_text_of f_law_frame f_law_digits:Nat):Fn :=
 ⟨1,7,[],[],(.cons (.asg 0 (.slT (.var 0) (.cst (.int 63)))) (.cons (.forr [1] (.rng1 (.cst (.int 12))) (uN f_law_same f_law_read f_law_is_text f_law_from_text f_law_bent_text f_from_brackets f_brackets f_law_text_of f_law_frame f_law_digits)) (.cons (.ret (.call f_law_same (.cons (.compA (.call f_law_read (.cons (.var 4) .nil)) [4] (.seq (.tup (.cons (.cst (.str "")) (.cons (.mulS (.cst (.str "()")) (.cst (.int 11))) (.cons (.cst (.str "x")) (.cons (.mulS (.cst (.str "(")) (.cst (.int 20))) .nil))))))) (.cons (.bin .mul (.lst (.cons (.cst (.str "BadFrame")) .nil)) (.cst (.int 4))) .nil)))) .nil)))⟩
abbrev T:List Fn:=[iu,dF 0,gB 3,gW 0,fw,oN,fX 4 13 2 1 8,dZ 6,hJ,ja 13 7,dz 13 5 11,fQ 1,cZ,eK 14 12 8,i9,j5,jH,j8 16,eW 17,dX,fY 19,eU,c9 21,iV,dN,eT 24,gh,ij 25 26 22 23 20 19 18,fU 21,cy 29,iQ 10 15,fS,cz 18,zq 29 30 31 22 32 10 9 28 27 18]
open RM
def wX{cl:Cl}{m N:Nat}{M:List Nat}{B:Ss}{e':E}{ns:List Int}(hl:ns.length<=63)(hN:N<=1000)
 (turn:∀ (k:Nat) (os:List (Option D)),k<N->os.length=m->∃ os',os'.length=m+1/\aj cl M B (some (.lst (LI ns))::some (.int (k:Nat))::os)=some (.nx,some (.lst (LI ns))::os'))
 (fin:∀ os:List (Option D),os.length=m+1->ev cl (some (.lst (LI ns))::os) e'=some (.bl true)) :
  evF cl ⟨1,m+2,M,[],.cons (.asg 0 (.slT (.var 0) (.cst (.int 63)))) (.cons (.forr [1] (.rng1 (.cst (.int (N:Nat)))) B) (.cons (.ret e') .nil))⟩ [.scr (LI ns)]=some (.bl true):=by
 have e1:=cY (n:=N) hN
 obtain⟨σ',e,os,hos,rfl⟩:=cH (f:=aj cl M B) (tg:=[1]) (xs:=List.range N) (σ:=some (.lst (LI ns))::List.replicate (m+1) none) (fun _ σ=>∃ os:List (Option D),os.length=m+1/\σ=some (.lst (LI ns))::os) ⟨_,by simp,rfl⟩ (by
  rintro p x q σ hx ⟨os,ho,rfl⟩
  have hxN:x<N:=by
   have:x∈List.range N:=by rw[hx];simp
   simpa using this
  cases os with
  | nil=>simp at ho
  |cons o os=>
   obtain⟨os',h1,h2⟩:=turn x os hxN (by simpa using ho)
   exact⟨_,by simpa[aF]using h2,os',h1,rfl⟩)
 exact aU rfl rfl (aI (EK (ae rfl) ai (EY hl)) (by simp[bN,D.imm,aV,wI]) (dW (lK ai e1) e (aL (fin os hos) rfl)))
def F2{ds:List Nat}{a:Nat}(h:il ds [a]):∃ x,ds=[x]/\x<a:=by
 obtain⟨h1,h2⟩:=h
 match ds,h1 with
 | [x],_=>exact⟨x,rfl,h2 0 x a rfl rfl⟩
def F8(h:il ds [a,b,c]):∃ x y z,ds=[x,y,z]/\x<a/\y<b/\z<c:=by
 obtain⟨h1,h2⟩:=h
 match ds,h1 with
 | [x,y,z],_=>exact⟨x,y,z,rfl,h2 0 x a rfl rfl,h2 1 y b rfl rfl,h2 2 z c rfl rfl⟩
def ck:Ck T 0 1 2 3 4 6 7 8 12 13 14:=⟨rfl,rfl,rfl,rfl,rfl,rfl,rfl,rfl,rfl,rfl,rfl⟩
def dr:Dr T 16 17 18 19 20 21 22 23 24 25 26 27:=⟨⟨rfl,rfl,rfl⟩,rfl,rfl,rfl,rfl,rfl,rfl,rfl,rfl,rfl⟩
def hT:T.length<=1000:=by decide
abbrev Gs(s:PySem.Str):Prop:=gd 0 s.cps.toList=some 0/\2<=s.length/\s.length<=20
noncomputable instance(s:PySem.Str):Decidable (Gs s):=inferInstanceAs (Decidable (_/\_/\_))
def m9{s:PySem.Str}(h:gd 0 s.cps.toList=some 0):s.length%2=0:=by
 obtain⟨w,h1,h2⟩:=ko _ _ h;have:=kX w 0 h2;have l:=congrArg List.length h1;simp at l;have:s.length=s.cps.size:=rfl;lia
def isb(m:Nat){s:PySem.Str}(hl:s.length<1000):ar T (m+3) 11 [.str s]=some (.bl (decide (Gs s))):=by
 have e:=(aw (fn:=fQ 1) (T:=T) (f:=11) (n:=m+2) rfl).trans (l6 (s:=s) (by unfold most;lia) (ck.CV m _));rw[e];congr 2;rw[Bool.eq_iff_iff,decide_eq_true_iff (p:=Gs s),Bool.and_eq_true,decide_eq_true_iff,decide_eq_true_iff];constructor
 ·rintro⟨a,b⟩;have:=m9 b;exact⟨b,by lia,by lia⟩
 ·rintro⟨b,a⟩;have:=m9 b;exact⟨by lia,b⟩
def ist(m:Nat){s:PySem.Str}(hl:s.length<1000):ar T (m+1) 31 [.str s]=some (.bl (decide (Gs s))):=by
 rw[(aw (fn:=fS) rfl).trans (rC hl)];congr 2;rw[Bool.eq_iff_iff,decide_eq_true_iff (p:=Gs s),Bool.and_eq_true,decide_eq_true_iff,decide_eq_true_iff];rfl
def good(h:Gs s):∃ n f,1<=n/\n<=10/\Val n f/\s=tx (wdL n f):=by
 obtain⟨h,h1,h2⟩:=h;have ev:=m9 h;obtain⟨w,a,b⟩:=ko _ _ h
 have es:s=tx w:=by
  cases s with
  |mk c=>
   show PySem.Str.mk c=PySem.Str.mk _;rw[<-a]
 have l:s.length=w.length:=by rw[es,dU]
 have hw:w.length=2*(s.length / 2):=by lia
 obtain⟨f,⟨V,W⟩,_⟩:=eV (cl:=ar T 1) (fc:=21) (n:=s.length / 2) (by lia) (by lia) (dr.lP 0 (by lia) (by lia)) hw b;exact⟨_,f,by lia,by lia,V,by rw[<-oz hw W];exact es⟩
def Fc(h1:1<=n)(h2:n<=10)(V:Val n f):Gs (tx (wdL n f)):=by
 refine⟨?_,by rw[dU,di];lia,by rw[dU,di];lia⟩;have:=pQ (wdL n f) 0;rw[pz V.frm]at this;simpa[tx]using this
def frb(m:Nat)(h1:1<=n)(h2:n<=10)(V:Val n f):ar T (m+5) 10 [.str (tx (wdL n f))]=some (.tup (L f)):=by
 have b:=isb (m+1) (s:=tx (wdL n f)) (by rw[dU,di];lia);rw[decide_eq_true (Fc h1 h2 V)]at b;obtain⟨g,⟨U,W⟩,e⟩:=ky (cl:=ar T (m+4)) (ib:=11) (ti:=5) (ir:=13) h1 h2 di (pz V.frm) b (fun xs i j hi hj=>(aw (fn:=oN) rfl).trans (Bl xs hi hj)) (fun R F=>ck.DB (m+2) h2 F);rw[rq V U (oz di W)];exact(aw (fn:=dz 13 5 11) rfl).trans (by rw[<-rq V U (oz di W)]at e ⊢;exact e)
def ftx(m:Nat)(h1:1<=n)(h2:n<=10)(V:Val n f):ar T (m+2) 22 [.str (tx (wdL n f))]=some (.tup (L f)):=by
 obtain⟨g,⟨U,W⟩,e⟩:=eV (cl:=ar T (m+1)) (fc:=21) h1 h2 (dr.lP m h1 h2) di (pz V.frm);have eg:=rq V U (oz di W);subst eg;exact(aw (fn:=c9 21) rfl).trans e
def qq{s:PySem.Str}(hl:s.length<1000)(h:¬ Gs s):ar T 29 30 [.str s]=some (.str "BadFrame"):=by
 have b:=isb 24 hl;rw[decide_eq_false h]at b;have r:Rc (ar T 28) 10 [.str s] "BadFrame" := Fe (fn:=dz 13 5 11) rfl hT rfl rfl (EN (aE (cA (bT (ae rfl) b))) (E3 bF rfl));have k:ar T 28 15 [.exc "BadFrame"]=some (.str "BadFrame"):=(aw (fn:=j5) rfl).trans (C8 (by decide));exact(aw (fn:=iQ 10 15) rfl).trans (aU rfl rfl (aI ai rfl (Bb (F4 (G6 (ae rfl) r)) rfl (aI (bT (ae rfl) k) rfl aR) (aL (ae rfl) rfl))))
def As(h1:1<=n)(h2:n<=10)(V:Val n f):ar T 29 30 [.str (tx (wdL n f))]=some (.tup (L f)):=by
 have im:(D.tup (L f)).imm=true:=bX _;exact(aw (fn:=iQ 10 15) rfl).trans (aU rfl rfl (aI ai rfl (BE (aI (bT (ae rfl) (frb 23 h1 h2 V)) (by unfold bN;rw[im];rfl) aR) (aL (ae rfl) (by unfold bz;rw[im];rfl)))))
def len_app(a b:PySem.Str):(a++b).length=a.length+b.length:=by
 show(PySem.Str.mk _).length=_;simp[PySem.Str.length]
def gf{a b:PySem.Str}(h:a.length+b.length<=most):aB .add (.str a) (.str b)=some (.str (a++b)):=by
 dsimp only[aB];rw[if_pos h]
def ot(h:ev cl σ a=some (.str s))(h':ev cl σ b=some (.int (i:Nat)))(hl:s.length<=most):ev cl σ (.sxT a b)=some (.str ⟨(s.cps.toList.take i).toArray⟩):=by
 show(ev cl σ a).bind _=_;rw[h,Option.bind_some,h'];show(if 0<=(i:Int)/\s.length<=most then _ else none)=_;rw[if_pos ⟨by lia,hl⟩];rfl
def oJ(h:ev cl σ a=some (.str s))(h':ev cl σ b=some (.int (i:Nat)))(hl:s.length<=most):ev cl σ (.sxF a b)=some (.str ⟨(s.cps.toList.drop i).toArray⟩):=by
 show(ev cl σ a).bind _=_;rw[h,Option.bind_some,h'];show(if 0<=(i:Int)/\s.length<=most then _ else none)=_;rw[if_pos ⟨by lia,hl⟩];rfl
def Fo(s:PySem.Str)(i:Nat):(PySem.Str.mk (s.cps.toList.take i).toArray).length<=s.length/\(PySem.Str.mk (s.cps.toList.drop i).toArray).length<=s.length/\(PySem.Str.mk (s.cps.toList.take i).toArray).length+(PySem.Str.mk (s.cps.toList.drop i).toArray).length=s.length:=by
 simp[PySem.Str.length];lia
def EL(s:PySem.Str)(i:Nat):(PySem.Str.mk (s.cps.toList.take i).toArray).length+(PySem.Str.mk (s.cps.toList.drop (i+1)).toArray).length<=s.length:=by
 simp[PySem.Str.length];lia
def sign{z:Nat}(h:z<8):∃ c:Nat,ixV (.str (PySem.Str.ofString "()( )x[\n")) (.int (z:Nat))=some (.str ⟨#[c]⟩):=by
 have l:(PySem.Str.ofString "()( )x[\n").cps.toList.length=8:=by decide +kernel
 generalize PySem.Str.ofString "()( )x[\n" = s at *;show ∃ c:Nat,(if s.length<=most then(cQ s.cps.toList (z:Nat)).map fun c=>D.str ⟨#[c]⟩else none)=_
 have l':s.length=8:=by show s.cps.size=8;simpa using l
 rw[if_pos (by rw[l'];decide),gz,List.getElem?_eq_getElem (by lia)];exact⟨_,rfl⟩
def xY{s:PySem.Str}{fd k:Nat}{sc:D}(hl:s.length<=100)(hd:∃ ds,il ds [6,s.length+1,8]/\cl fd [sc,.int (k:Nat),.lst (L [6,s.length+1,8])]=some (.lst (L ds))):∃ s':PySem.Str,s'.length<=2*s.length+1/\evF cl (cz fd) [sc,.int (k:Nat),.str s]=some (.str s'):=by
 obtain⟨ds,hd,e⟩:=hd;obtain⟨w,a,z,rfl,hw,ha,hz⟩:=F8 hd;obtain⟨c,ec⟩:=sign hz
 have hm:s.length<=most:=by unfold most;lia
 have ad:aB .add (.int (s.length:Nat)) (.int 1)=some (.int ((s.length+1:Nat):Int)):=rfl;have aa:aB .add (.int (a:Nat)) (.int 1)=some (.int ((a+1:Nat):Int)):=rfl
 have st:∀ (d:D) (σ':St),aj cl [] (match(cz fd).body with | .cons _ (.cons _ r)=>r | r=>r) [some sc,some (.int (k:Nat)),some (.str s),some (.str ⟨#[c]⟩),some (.int (w:Nat)),some (.int (a:Nat))]=some (.rt d,σ')->evF cl (cz fd) [sc,.int (k:Nat),.str s]=some d:=fun _ _ h =>
  aU rfl rfl (xm (qQ (ae rfl) (ae rfl) (cU (aQ ai (aQ (aA (bE (ae rfl) (jP hm)) ai ad) (aQ ai bF)))) e) rfl rfl rfl (aI (eu ai (ae rfl) ec) rfl h))
 obtain⟨l1,l2,l3⟩:=Fo s a;have l4:=EL s a;have l5:(PySem.Str.mk #[c]).length=1:=rfl
 match w,hw,st with
 | 0,_,st=>exact⟨_,by rw[len_app,len_app];lia,st _ _ (bD (aE (az (k:=true) (ae rfl) ai rfl)) (aL (aA (aA (ot (ae rfl) (ae rfl) hm) (ae rfl) (gf (by unfold most;lia))) (oJ (ae rfl) (ae rfl) hm) (gf (by rw[len_app];unfold most;lia))) rfl))⟩
 | 1,_,st=>exact⟨_,by rw[len_app];lia,st _ _ (aO (aE (az (k:=false) (ae rfl) ai rfl)) (bD (aE (az (k:=true) (ae rfl) ai rfl)) (aL (aA (ot (ae rfl) (ae rfl) hm) (oJ (ae rfl) (aA (ae rfl) ai aa) hm) (gf (by unfold most;lia))) rfl)))⟩
 | 2,_,st=>exact⟨_,by rw[len_app,len_app];lia,st _ _ (aO (aE (az (k:=false) (ae rfl) ai rfl)) (aO (aE (az (k:=false) (ae rfl) ai rfl)) (bD (aE (az (k:=true) (ae rfl) ai rfl)) (aL (aA (aA (ot (ae rfl) (ae rfl) hm) (ae rfl) (gf (by unfold most;lia))) (oJ (ae rfl) (aA (ae rfl) ai aa) hm) (gf (by rw[len_app];unfold most;lia))) rfl))))⟩
 | 3,_,st=>exact⟨_,by rw[len_app];lia,st _ _ (aO (aE (az (k:=false) (ae rfl) ai rfl)) (aO (aE (az (k:=false) (ae rfl) ai rfl)) (aO (aE (az (k:=false) (ae rfl) ai rfl)) (bD (aE (az (k:=true) (ae rfl) ai rfl)) (aL (aA (ae rfl) (ae rfl) (gf (by unfold most;lia))) rfl)))))⟩
 | 4,_,st=>exact⟨_,by rw[len_app];lia,st _ _ (aO (aE (az (k:=false) (ae rfl) ai rfl)) (aO (aE (az (k:=false) (ae rfl) ai rfl)) (aO (aE (az (k:=false) (ae rfl) ai rfl)) (aO (aE (az (k:=false) (ae rfl) ai rfl)) (bD (aE (az (k:=true) (ae rfl) ai rfl)) (aL (aA (oJ (ae rfl) (ae rfl) hm) (ot (ae rfl) (ae rfl) hm) (gf (by unfold most;lia))) rfl))))))⟩
 | 5,_,st=>exact⟨s,by lia,st _ _ (aO (aE (az (k:=false) (ae rfl) ai rfl)) (aO (aE (az (k:=false) (ae rfl) ai rfl)) (aO (aE (az (k:=false) (ae rfl) ai rfl)) (aO (aE (az (k:=false) (ae rfl) ai rfl)) (aO (aE (az (k:=false) (ae rfl) ai rfl)) (aL (ae rfl) rfl))))))⟩
def Fg{α:Type}:∀ {os:List α},os.length=5->∃ a b c d e,os=[a,b,c,d,e]
 | [a,b,c,d,e],_=>⟨a,b,c,d,e,rfl⟩
def ET{α:Type}:∀ {os:List α},os.length=6->∃ a b c d e f,os=[a,b,c,d,e,f]
 | [a,b,c,d,e,f],_=>⟨a,b,c,d,e,f,rfl⟩
def vA(h:ev cl σ a=some x)(h':ev cl σ b=some y)(hb:jR x y=some d):ev cl σ (.mulS a b)=some d:=by
 show(ev cl σ a).bind _=_;rw[h,Option.bind_some,h'];exact hb
abbrev four:List PySem.Str:=[PySem.Str.ofString "",⟨(List.replicate 11 (PySem.Str.ofString "()").cps.toList).flatten.toArray⟩,PySem.Str.ofString "x",⟨(List.replicate 20 (PySem.Str.ofString "(").cps.toList).flatten.toArray⟩]
def yq:∀ s∈four,s.length<1000/\¬ Gs s:=by decide +kernel
def ends(os:List (Option D))(ho:os.length=6)(x:Option D):ev (ar T 29) (x::os) (.call 29 (.cons (.compA (.call 30 (.cons (.var 4) .nil)) [4] (.seq (.tup (.cons (.cst (.str "")) (.cons (.mulS (.cst (.str "()")) (.cst (.int 11))) (.cons (.cst (.str "x")) (.cons (.mulS (.cst (.str "(")) (.cst (.int 20))) .nil))))))) (.cons (.bin .mul (.lst (.cons (.cst (.str "BadFrame")) .nil)) (.cst (.int 4))) .nil)))=some (.bl true):=by
 obtain⟨o1,o2,o3,o4,o5,o6,rfl⟩:=ET ho
 have m1:jR (.str (PySem.Str.ofString "()")) (.int 11)=some (.str ⟨(List.replicate 11 (PySem.Str.ofString "()").cps.toList).flatten.toArray⟩):=by
  dsimp only[jR];rw[if_pos (by decide +kernel)];rfl
 have m2:jR (.str (PySem.Str.ofString "(")) (.int 20)=some (.str ⟨(List.replicate 20 (PySem.Str.ofString "(").cps.toList).flatten.toArray⟩):=by
  dsimp only[jR];rw[if_pos (by decide +kernel)];rfl
 have mc:=jM (F:=fun σ1=>(ev (ar T 29) σ1 (.call 30 (.cons (.var 4) .nil))).map some) (tg:=[4]) (σ:=[x,o1,o2,o3,o4,o5,o6]) (h:=D.str) (g:=fun _=>D.str (PySem.Str.ofString "BadFrame")) (fun _=>rfl) four (fun s hs=>by
  obtain⟨a,b⟩:=yq s hs;show(ev (ar T 29) [x,o1,o2,o3,some (.str s),o5,o6] _).map some=_;rw[bT (ae rfl) (qq a b)]
  rfl)
 have em:aB .mul (.lst [.str (PySem.Str.ofString "BadFrame")]) (.int 4)=some (.lst [.str (PySem.Str.ofString "BadFrame"),.str (PySem.Str.ofString "BadFrame"),.str (PySem.Str.ofString "BadFrame"),.str (PySem.Str.ofString "BadFrame")]):=by
  dsimp only[aB];rw[if_pos ⟨by decide,by decide,show 1*4<=most by decide⟩];rfl
 have sm:=sameAll (T:=T) (sm:=29) rfl 1 28 (.lst [.str (PySem.Str.ofString "BadFrame"),.str (PySem.Str.ofString "BadFrame"),.str (PySem.Str.ofString "BadFrame"),.str (PySem.Str.ofString "BadFrame")]) (.lst _ _ (show 4<=1000 by decide) fun y hy=>by
  simp only[List.mem_cons,List.not_mem_nil,or_false]at hy
  rcases hy with rfl | rfl | rfl | rfl<;>exact .str _ _) (by decide)
 exact iq (iD (uy (ug (aQ ai (aQ (vA ai ai m1) (aQ ai (aQ (vA ai ai m2) bF))))) rfl) (show 4<=most by decide) mc) (aA (cU (aQ ai bF)) ai em) sm
def main(ns:List Int)(hl:ns.length<=63):ar T 30 33 [.scr (ns.map D.int)]=some (.bl true):=by
 refine(aw (fn:=zq 29 30 31 22 32 10 9 28 27 18) rfl).trans (wX (m:=5) (N:=12) hl (by decide) (fun k os hk ho=>?_) fun os ho=>ends os ho _);obtain⟨o2,o3,o4,o5,o6,rfl⟩:=Fg ho;obtain⟨ds,hd,e1⟩:=dr.digits hl 26 (k:=20+k) (sizes:=[10]) (by lia) (by simp) (by simp);obtain⟨p,rfl,hp⟩:=F2 hd
 have n1:1<=1+p:=by lia
 have n2:1+p<=10:=by lia
 have e0:aB .add (.int 1) (.int (p:Nat))=some (.int ((1+p:Nat):Int)):=rfl;generalize 1+p=n at *;obtain⟨f,V,e2⟩:=dr.frame hl 25 (k:=k) (m:=n) (by lia) n1 n2;have e3:ar T 29 28 [.tup (L f)]=some (.str (tx (wdL n f))):=(aw (fn:=fU 21) rfl).trans (rF n1 n2 V.frm (dr.lP 27 n1 n2));have e4:ar T 29 9 [.tup (L f)]=some (.str (tx (wdL n f))):=(aw (fn:=ja 13 7) rfl).trans (oU n2 (ck.check 23 n1 n2 V) (ck.round 26 n2 V.frm));have e5:=frb 24 n1 n2 V;have ss:∀ s:PySem.Str,ar T 29 29 [.str s,.str s]=some (.bl true):=fun s=>(aw (fn:=cy 29) rfl).trans (same_str s);have sf:∀ {n:Nat} {f:List Nat},n<=10->Val n f->ar T 29 29 [.tup (L f),.tup (L f)]=some (.bl true):=fun h V=>sameAll (T:=T) (sm:=29) rfl 1 28 _ (Pl.L (n:=0) (by rw[V.frm.len];lia)) (by decide)
 have ek:aB .mul (.int 2) (.int (k:Nat))=some (.int ((2*k:Nat):Int)):=by
  dsimp only[aB];rw[if_pos (.inl (by decide))];rfl
 have er:aB .mod (.int (k:Nat)) (.int 2)=some (.int ((k%2:Nat):Int)):=rfl;have eq:aB .add (.int 1) (.int ((k%2:Nat):Int))=some (.int ((1+k%2:Nat):Int)):=rfl;have em:fE (.int 0) (.int ((1+k%2:Nat):Int))=some (L (List.range (1+k%2))):=cY (by lia)
 have hr:1+k%2<=2:=by lia
 generalize 1+k%2=r at *
 obtain⟨σ',el,s,o5',rfl,hs⟩:=cH (f:=aj (ar T 29) [] (oS 29 30 31 22 32 10 9 28 27 18)) (tg:=[5]) (xs:=List.range r) (σ:=[some (.lst (LI ns)),some (.int (k:Nat)),some (.int (n:Nat)),some (.tup (L f)),some (.str (tx (wdL n f))),o5,o6])
  (fun p σ=>∃ (s:PySem.Str) (o5:Option D),σ=[some (.lst (LI ns)),some (.int (k:Nat)),some (.int (n:Nat)),some (.tup (L f)),some (.str s),o5,o6]/\s.length+1<=21*2 ^ p.length) ⟨_,_,rfl,by rw[dU,di];simp;lia⟩ (by
   rintro p x q σ hx ⟨s,o5,rfl,hs⟩;obtain⟨a1,a2⟩:=cB (g:=id) (by rw[List.map_id];exact hx);have hp:2 ^ p.length<=2:=Nat.pow_le_pow_right (n:=2) (j:=1) (by decide) (by lia);have a2:x=p.length:=a2;have b1:aB .add (.int 35) (.int ((2*k:Nat):Int))=some (.int ((35+2*k:Nat):Int)):=rfl;have b2:aB .add (.int ((35+2*k:Nat):Int)) (.int (x:Nat))=some (.int ((35+2*k+x:Nat):Int)):=rfl
   obtain⟨s',h',e'⟩:=xY (cl:=ar T 28) (fd:=18) (k:=35+2*k+x) (sc:=.lst (LI ns)) (s:=s) (by lia) (dr.digits hl 25 (k:=35+2*k+x) (sizes:=[6,s.length+1,8]) (by lia) (by
    intro y hy
    have:(100:Nat)<2 ^ 200:=by decide
    simp only[List.mem_cons,List.not_mem_nil,or_false]at hy;rcases hy with rfl | rfl | rfl
    ·decide
    ·exact⟨by lia,Nat.lt_of_le_of_lt (by lia) this⟩
    ·decide) (by simp))
   have eb:ar T 29 32 [.lst (LI ns),.int ((35+2*k+x:Nat):Int),.str s]=some (.str s'):=(aw (fn:=cz 18) rfl).trans e'
   exact⟨_,show aj (ar T 29) [] (oS 29 30 31 22 32 10 9 28 27 18) [some (.lst (LI ns)),some (.int (k:Nat)),some (.int (n:Nat)),some (.tup (L f)),some (.str s),some (.int (x:Nat)),o6]=some (.nx,_)from aI (qQ (ae rfl) (aA (aA ai (aA ai (ae rfl) ek) b1) (ae rfl) b2) (ae rfl) eb) rfl aR,s',some (.int (x:Nat)),rfl,by
    rw[List.length_append,List.length_singleton,Nat.pow_succ]
    lia⟩)
 have hs':s.length<1000:=by
  rw[List.length_range]at hs;have:2 ^ r<=4:=Nat.pow_le_pow_right (n:=2) (j:=2) (by decide) (by lia);lia
 have im:∀ g:List Nat,(D.tup (L g)).imm=true:=fun g=>bX g
 have st:∀ (res:Option (Out × St)),aj (ar T 29) [] (.cons (.ife (.call 31 (.cons (.var 4) .nil)) (.cons (.asg 6 (.call 22 (.cons (.var 4) .nil))) .nil) .nil) (.cons (.ife (.not (.call 29 (.cons (.call 30 (.cons (.var 4) .nil)) (.cons (.var 6) .nil)))) (.cons (.ret (.cst (.bl false))) .nil) .nil) .nil)) [some (.lst (LI ns)),some (.int (k:Nat)),some (.int (n:Nat)),some (.tup (L f)),some (.str s),o5',some (.str (PySem.Str.ofString "BadFrame"))]=res->aj (ar T 29) [] (uN 29 30 31 22 32 10 9 28 27 18) [some (.lst (LI ns)),some (.int (k:Nat)),o2,o3,o4,o5,o6]=res:=fun res h =>
  aI (aA ai (eu (qQ (ae rfl) (aA ai (ae rfl) rfl) (cU (aQ ai bF)) e1) ai rfl) e0) rfl
  (aI (qQ (ae rfl) (ae rfl) (ae rfl) e2) (by unfold bN;rw[im];rfl)
  (aI (bT (ae rfl) e3) rfl
  (aO (aE (qX (cA (iq (bT (ae rfl) e4) (ae rfl) (ss _))) (cA (iq (bT (ae rfl) e5) (ae rfl) (sf n2 V)))))
  (dW (lK (aA ai (aA (ae rfl) ai er) eq) em) el
  (aI ai rfl h)))))
 by_cases g:Gs s
 ·have it:=ist 28 hs';rw[decide_eq_true g]at it;obtain⟨n',f',q1,q2,U,rfl⟩:=good g;exact⟨_,rfl,st _ (gJ (aE (bT (ae rfl) it)) (aI (bT (ae rfl) (ftx 27 q1 q2 U)) (by unfold bN;rw[im];rfl) aR) (aO (aE (cA (iq (bT (ae rfl) (As q1 q2 U)) (ae rfl) (sf q2 U)))) aR))⟩
 ·have it:=ist 28 hs';rw[decide_eq_false g]at it;exact⟨_,rfl,st _ (aO (aE (bT (ae rfl) it)) (aO (aE (cA (iq (bT (ae rfl) (qq hs' g)) (ae rfl) (ss _)))) aR))⟩
end K03
namespace L2
open PySem PySem.Spec PyProof.Rows
@[reducible]noncomputable def Key:=Sum Int Str
abbrev kc:Key->Value->Bool
 | .inl k,v=>Value.isInt k v
 | .inr x,v=>Value.isStrOf x v
abbrev G3(w:World):Key->Int
 | .inl k=>hashInt k
 | .inr x=>hashStr w x
def bP:∀ {k:Key} {v:Value},kc k v=true->(∃ i t,k=Sum.inl i/\v=Value.int i t)\/(∃ x t,k=Sum.inr x/\v=Value.str x t)
 | .inl i,v,h=>by
  obtain⟨t,e⟩:=Value.isInt_shape (k:=i) (v:=v) h;exact .inl ⟨i,t,rfl,e⟩
 | .inr x,v,h=>by
  obtain⟨t,e⟩:=Value.isStrOf_shape (x:=x) (v:=v) h;exact .inr ⟨x,t,rfl,e⟩
def vo(i:Int)(t:Tok):kc (.inl i) (.int i t)=true:=by simp[kc,Value.isInt]
def v9(x:Str)(t:Tok):kc (.inr x) (.str x t)=true:=by simp[kc,Value.isStrOf]
def Cn(a b:Int):decide ((Sum.inl a:Key)=Sum.inl b)=(a == b):=by
 by_cases e:a=b
 ·subst e;simp
 ·have h:¬ (Sum.inl a:Key)=Sum.inl b:=fun q=>e (Sum.inl.inj q);rw[decide_eq_false h];exact(beq_eq_false_iff_ne.mpr e).symm
def CF(a b:Str):decide ((Sum.inr a:Key)=Sum.inr b)=decide (a=b):=by
 by_cases e:a=b
 ·subst e;simp
 ·have h:¬ (Sum.inr a:Key)=Sum.inr b:=fun q=>e (Sum.inr.inj q);rw[decide_eq_false h,decide_eq_false e]
def BI(a:Int)(b:Str):decide ((Sum.inl a:Key)=Sum.inr b)=false:=decide_eq_false (fun q=>nomatch q)
def BO(a:Str)(b:Int):decide ((Sum.inr a:Key)=Sum.inl b)=false:=decide_eq_false (fun q=>nomatch q)
abbrev bu(prog:Program)(w:World):PySem.KeyKind prog w Key where
 is:=kc
 hash:=G3 w
 inj:=fun v a b ha hb=>by
  rcases bP ha with⟨i,t,rfl,rfl⟩ | ⟨x,t,rfl,rfl⟩
  ·rcases bP hb with⟨j,u,rfl,e⟩ | ⟨y,u,rfl,e⟩
   ·injection e with e1 _;rw[e1]
   ·exact nomatch e
  ·rcases bP hb with⟨j,u,rfl,e⟩ | ⟨y,u,rfl,e⟩
   ·exact nomatch e
   ·injection e with e1 _;rw[e1]
 byValue:=fun k v h=>by
  rcases bP h with⟨i,t,rfl,rfl⟩ | ⟨x,t,rfl,rfl⟩<;>rfl
 pyHash:=fun hv h=>by
  rcases bP hv with⟨i,t,rfl,rfl⟩ | ⟨x,t,rfl,rfl⟩
  ·exact wpAny_pyHash_int h
  ·exact wpAny_pyHash_str h
 eqBool:=fun hu hv h=>by
  rcases bP hu with⟨i,t,rfl,rfl⟩ | ⟨x,t,rfl,rfl⟩
  ·rcases bP hv with⟨j,u,rfl,rfl⟩ | ⟨y,u,rfl,rfl⟩
   ·rw[Cn]at h;exact wpAny_eqBool_int h
   ·rw[BI]at h;exact SeqAt.EqAt.int_str i t y u _ _ _ _ h
  ·rcases bP hv with⟨j,u,rfl,rfl⟩ | ⟨y,u,rfl,rfl⟩
   ·rw[BO]at h;exact SeqAt.EqAt.str_int x t j u _ _ _ _ h
   ·rw[CF]at h;exact wpAny_eqBool_str h
 «strs»:=fun k x t v h=>by
  rcases bP h with⟨i,u,rfl,e⟩ | ⟨y,u,rfl,e⟩
  ·exact nomatch e
  ·injection e with e1 _;subst e1;cases v<;>rfl
def rB(prog:Program)(w:World)(i:Int)(t:Tok):(bu prog w).is (.inl i) (.int i t)=true:=vo i t
def rJ(prog:Program)(w:World)(x:Str)(t:Tok):(bu prog w).is (.inr x) (.str x t)=true:=v9 x t
inductive V where
 | non | bl (b:Bool) | int (i:Int) | str (x:Str) | byt (b:Array UInt8) | flt (b:UInt64) | ref (a:Addr) | ty (n:String)
 deriving DecidableEq
abbrev RelV:V->Value->Prop
 | .non,u=>u=Value.none
 | .bl b,u=>u=Value.bool b
 | .int i,u=>∃ t,u=Value.int i t
 | .str x,u=>∃ t,u=Value.str x t
 | .byt b,u=>∃ t,u=Value.bytes b t
 | .flt b,u=>∃ t,u=Value.float b t
 | .ref a,u=>u=Value.ref a
 | .ty n,u=>u=Value.type n
@[reducible]noncomputable def Vals:List V->List Value->Prop:=Paired RelV
def Vals.length(r:Vals xs us):xs.length=us.length:=Paired.length r
def Vals.get:∀ {xs:List V} {us:List Value} {i:Nat} {x:V},Vals xs us->xs[i]?=some x->∃ u,us[i]?=some u/\RelV x u
 | _,_,_,_,.nil,e=>by simp at e
 | _,_,0,_,.cons r _,e=>by simp at e;subst e;exact⟨_,rfl,r⟩
 | _,_,i+1,x,.cons _ t,e=>by
  obtain⟨u,h1,h2⟩:=Vals.get (i:=i) (x:=x) t (by simpa using e);exact⟨u,by simpa using h1,h2⟩
def Vals.set(r:RelV x u):∀ {xs:List V} {us:List Value} (i:Nat),Vals xs us->Vals (xs.set i x) (us.set i u)
 | _,_,_,.nil=>.nil
 | _,_,0,.cons _ t=>.cons r t
 | _,_,i+1,.cons q t=>.cons q (Vals.set r i t)
def Vals.append:∀ {xs ys:List V} {us ws:List Value},Vals xs us->Vals ys ws->Vals (xs++ys) (us++ws)
 | _,_,_,_,.nil,s=>s
 | _,_,_,_,.cons r t,s=>.cons r (Vals.append t s)
def Vals.take:∀ {xs:List V} {us:List Value} (n:Nat),Vals xs us->Vals (xs.take n) (us.take n)
 | _,_,0,_=>.nil
 | _,_,_+1,.nil=>.nil
 | _,_,n+1,.cons r t=>.cons r (Vals.take n t)
def Vals.drop:∀ {xs:List V} {us:List Value} (n:Nat),Vals xs us->Vals (xs.drop n) (us.drop n)
 | _,_,0,r=>r
 | _,_,_+1,.nil=>.nil
 | _,_,n+1,.cons _ t=>Vals.drop n t
abbrev fj:Option V->Option Value->Prop
 | some v,some u=>RelV v u
 | none,none=>True
 | _,_=>False
abbrev KV:List (κ × V)->List (κ × Value)->Prop:=Paired fun(p:κ × V) (q:κ × Value)=>p.1=q.1/\RelV p.2 q.2
abbrev kV:Key->V
 | .inl i=>.int i
 | .inr x=>.str x
inductive HO where
  | lst (xs:List V)
  | tup (xs:List V)
  | dK (kvs:List (Key × V)) | dT (kvs:List (List Key × V))
  | set (S:Int->Bool) (n:Nat)
  | ins (C dx:Addr) (fs:List (Str × V))
  | own (x:Addr)
  | xd (fs:List (Str × V))
  | met (f x:Addr)
  | rng (lo hi:Int)
  | frz (o:Obj) (u:HO)
  | tbl (ps:Array Value)
  | ext (φ:Heap->Prop)
@[reducible]noncomputable def Hp:=Addr->Option HO
abbrev upd(H:Hp)(a:Addr)(o:HO):Hp:=fun b=>if b=a then some o else H b
def aP:upd H a o a=some o:=by unfold upd;rw[if_pos rfl]
def aJ(h:b≠a):upd H a o b=H b:=by unfold upd;rw[if_neg h]
def oO{H:Hp}(h:H a=some o)(h':H b=some u)(d:o≠u):a≠b:=by
 intro e;subst e;rw[h]at h';exact d (Option.some.inj h')
def aK{H:Hp}(h:H a=some o)(h':H b=none):a≠b:=by
 intro e;subst e;rw[h]at h';cases h'
section
variable(P:Program)(w:World)
abbrev bj(H:Hp)(h:Heap)(a:Addr):HO->Prop
 | .lst xs=>xs.length<=sizeLine/\∃ (its:List Value) (n:Nat),Vals xs its/\h.get? a=some { cls:=.type "list",data:=.seq its.toArray n }
 | .tup xs=>xs.length<=sizeLine/\∃ its:List Value,Vals xs its/\IsTup h a its.toArray
 | .dK kvs=>kvs.length<=sizeLine/\(a == sysModules)=false/\∃ vs,KV kvs vs/\h.DictOf (bu P w) a vs
 | .dT kvs=>kvs.length<=sizeLine/\(a == sysModules)=false/\∃ xs:List (List Key × Addr × Value),
   Paired (fun(p:List Key × V) (q:List Key × Addr × Value)=>p.1=q.1/\H q.2.1=some (.tup (p.1.map kV))/\RelV p.2 q.2.2) kvs xs /\
   ∃ o es ep,h.get? a=some o/\o.ExactDict/\o.data=.dict es ep/\es.toList=xs.map (entryOfKey (tupleKind (bu P w)))/\(xs.map (·.1)).Nodup
 | .set S n=>h.SetOf (intKind P w) a S n
 | .ins C dx fs=>H dx=some (.own a)/\fs.length<=1000/\dx≠a/\h.get? a=some (PySem.W.instObj C dx) /\
   ∃ mA,h.Ns1 dx mA/\(∀ f,fj (fs.lookup f) (mA f))/\PySem.Within mA (fs.map (·.1))
 | .own _=>∃ o,h.get? a=some o
 | .xd fs=>∃ mA,h.Ns1 a mA/\∀ f,fj (fs.lookup f) (mA f)
 | .rng lo hi=>∃ t u v,h.get? a=some { cls:=.type "range",data:=.fields #[.int lo t,.int hi u,.int 1 v] }
 | .frz o u=>h.get? a=some o/\bj H h a u
 | .tbl ps=>h.get? a=some { cls:=.none,data:=.fields ps }
 | .met f x=>h.get? a=some (PySem.W.methodObj (.ref f) (.ref x))
 | .ext φ=>φ h/\(∃ o,h.get? a=some o)/\∀ h1 h2:Heap,φ h1->(∀ o,h1.get? a=some o->h2.get? a=some o)->φ h2
abbrev HOk(H:Hp)(h:Heap):Prop:=∀ a o,H a=some o->bj P w H h a o
end
section
variable{P:Program}{w:World}{H H':Hp}{h h':Heap}{a:Addr}{o:HO}
def bj.lt(x:bj P w H h a o):a<h.objs.size:=by
 cases o with
 | lst xs=>obtain⟨_,_,_,_,e⟩:=x;exact Heap.lt_size e
 | tup xs=>obtain⟨_,_,_,p⟩:=x;exact p.lt
 | dK kvs=>obtain⟨_,_,_,_,o,_,_,e,_⟩:=x;exact Heap.lt_size e
 | dT kvs=>obtain⟨_,_,_,_,o,_,_,e,_⟩:=x;exact Heap.lt_size e
 | set S n=>obtain⟨o,_,_,_,e,_⟩:=x;exact Heap.lt_size e
 | ins C dx fs=>obtain⟨_,_,_,e,_⟩:=x;exact Heap.lt_size e
 | own y=>obtain⟨_,e⟩:=x;exact Heap.lt_size e
 | xd fs=>obtain⟨_,⟨_,_,_,e,_⟩,_⟩:=x;exact Heap.lt_size e
 | rng lo hi=>obtain⟨_,_,_,e⟩:=x;exact Heap.lt_size e
 | frz ob u=>obtain⟨e,_⟩:=x;exact Heap.lt_size e
 | tbl ps=>exact Heap.lt_size (show h.get? a=some _ from x)
 | met f y=>exact Heap.lt_size (show h.get? a=some _ from x)
 | ext φ=>obtain⟨_,⟨_,e⟩,_⟩:=x;exact Heap.lt_size e
def Paired.yJ:∀ {l₁:List α} {l₂:List β},Paired F l₁ l₂->(∀ a b,F a b->G a b)->Paired G l₁ l₂
 | _,_,.nil,_=>.nil
 | _,_,.cons r t,f=>.cons (f _ _ r) (Paired.yJ t f)
def bj.jo(x:bj P w H h a o)(k:∀ b u,(b=a\/H b=some (.own a))->h.get? b=some u->h'.get? b=some u)
 (ho:∀ b,H b=some (.own a)->H' b=some (.own a))(ht:∀ b xs,H b=some (.tup xs)->H' b=some (.tup xs)):bj P w H' h' a o:=by
 induction o with
 | lst xs=>obtain⟨z,its,n,r,e⟩:=x;exact⟨z,its,n,r,k _ _ (.inl rfl) e⟩
 | tup xs=>obtain⟨z,its,r,ob,e,c⟩:=x;exact⟨z,its,r,ob,k _ _ (.inl rfl) e,c⟩
 | dK kvs=>obtain⟨z,y,vs,r,ob,es,ep,e,c⟩:=x;exact⟨z,y,vs,r,ob,es,ep,k _ _ (.inl rfl) e,c⟩
 |dT kvs=>
  obtain⟨z,y,xs,r,ob,es,ep,e,c⟩:=x;exact⟨z,y,xs,Paired.yJ r fun p q z=>⟨z.1,ht _ _ z.2.1,z.2.2⟩,ob,es,ep,k _ _ (.inl rfl) e,c⟩
 | set S n=>obtain⟨ob,es,ep,t,e,c⟩:=x;exact⟨ob,es,ep,t,k _ _ (.inl rfl) e,c⟩
 |ins C dx fs=>
  obtain⟨d,z,ne,e,mA,⟨od,es,ep,e2,c⟩,r⟩:=x;exact⟨ho _ d,z,ne,k _ _ (.inl rfl) e,mA,⟨od,es,ep,k _ _ (.inr d) e2,c⟩,r⟩
 | own y=>obtain⟨ob,e⟩:=x;exact⟨ob,k _ _ (.inl rfl) e⟩
 | xd fs=>obtain⟨mA,⟨od,es,ep,e,c⟩,r⟩:=x;exact⟨mA,⟨od,es,ep,k _ _ (.inl rfl) e,c⟩,r⟩
 | rng lo hi=>obtain⟨t,u,v,e⟩:=x;exact⟨t,u,v,k _ _ (.inl rfl) e⟩
 | frz ob u ih=>obtain⟨e,q⟩:=x;exact⟨k _ _ (.inl rfl) e,ih q⟩
 |tbl ps=>
  have e:h.get? a=some { cls:=.none,data:=.fields ps }:=x;show h'.get? a=some { cls:=.none,data:=.fields ps };exact k a _ (.inl rfl) e
 |met f y=>
  have e:h.get? a=some (PySem.W.methodObj (.ref f) (.ref y)):=x;show h'.get? a=some (PySem.W.methodObj (.ref f) (.ref y));exact k a _ (.inl rfl) e
 | ext φ=>obtain⟨p,⟨o,e⟩,st⟩:=x;exact⟨st _ _ p fun o q=>k _ _ (.inl rfl) q,⟨o,k _ _ (.inl rfl) e⟩,st⟩
def HOk.lt(x:HOk P w H h)(e:H a=some o):a<h.objs.size:=(x a o e).lt
def HOk.fresh(x:HOk P w H h)(e:h.objs.size<=a):H a=none:=by
 cases q:H a with
 | none=>rfl
 | some u=>exact absurd (Nat.lt_of_lt_of_le (x.lt q) e) (Nat.lt_irrefl _)
def HOk.kept(x:HOk P w H h)(k:∀ b u,h.get? b=some u->h'.get? b=some u):HOk P w H h':=fun a o e =>
 (x a o e).jo (fun b u _ q=>k b u q) (fun _ q=>q) fun _ _ q=>q
def HOk.laid(x:HOk P w H h)(k:∀ b u,h.get? b=some u->h'.get? b=some u)(hp:h.objs.size<=a)(new:bj P w (upd H a o) h' a o):HOk P w (upd H a o) h':=fun b u e=>by
 have hn:=x.fresh hp;by_cases hb:b=a
 ·subst hb;rw[aP]at e;cases e;exact new
 ·rw[aJ hb]at e
  exact(x b u e).jo (fun c v _ q=>k c v q) (fun c q=>by rw[aJ (aK q hn)];exact q) fun c xs q=>by rw[aJ (aK q hn)];exact q
end
abbrev Rd(H:Hp)(a:Addr)(u:HO):Prop:=H a=some u\/∃ o,H a=some (.frz o u)
def Rd.ok(r:Rd H a u)(x:HOk P w H h):bj P w H h a u:=by
 rcases r with r | ⟨o,r⟩
 ·exact x a u r
 ·obtain⟨_,q⟩:=x a _ r;exact q
abbrev Mut:Option HO->Prop
 | some (.lst _)=>True
 | some (.dK _)=>True
 | some (.dT _)=>True
 | some (.set _ _)=>True
 | some (.ins _ _ _)=>True
 | some (.ext _)=>True
 | _=>False
section
variable{P:Program}{w:World}{H:Hp}{h h':Heap}{x e:Addr}{o':HO}
def HOk.write(ok:HOk P w H h)(mu:Mut (H x))(he:e=x\/H e=some (.own x))(k:∀ b u,b≠e->h.get? b=some u->h'.get? b=some u)(heo:∃ u,h'.get? e=some u)
 (new:bj P w (upd H x o') h' x o'):HOk P w (upd H x o') h':=fun b u q=>by
 have nown:∀ c y,H c=some (.own y)->c≠x:=fun c y r z=>by subst z;rw[r]at mu;exact mu
 have ntup:∀ c xs,H c=some (.tup xs)->c≠x:=fun c xs r z=>by subst z;rw[r]at mu;exact mu
 by_cases hb:b=x
 ·subst hb;rw[aP]at q;cases q;exact new
 ·rw[aJ hb]at q;by_cases hbe:b=e
  ·have q':H b=some (.own x):=by
    rcases he with z | z
    ·exact absurd (hbe.trans z) hb
    ·rw[hbe];exact z
   rw[q]at q';cases q';obtain⟨v,hv⟩:=heo;exact⟨v,by rw[hbe];exact hv⟩
  ·refine(ok b u q).jo (fun c v hc r=>k c v ?_ r) (fun c r=>by rw[aJ (nown c b r)];exact r) fun c xs r=>by rw[aJ (ntup c xs r)];exact r
   rcases hc with rfl | hc
   ·exact hbe
   ·rintro rfl;rcases he with z | z
    ·exact nown c b hc z
    ·rw[hc]at z;cases z;exact hb rfl
end
structure Un(fs ex:List Addr)(H H':Hp)(h h':Heap):Prop where
 keep:∀ b o,h.get? b=some o->H b=none->b∉fs->b∉ex->h'.get? b=some o
 slot:∀ b o,h.get? b=some o->H b=none->b∈fs->b∉ex->∃ sl,h'.get? b=some { o with slots:=sl }
 free:∀ b o,h.get? b=some o->H b=none->b∉ex->H' b=none
 there:∀ b o,h.get? b=some o->b∉ex->∃ o',h'.get? b=some o'
 eD:∀ b xs,H b=some (.tup xs)->H' b=some (.tup xs)
 cK:∀ b o u,H b=some (.frz o u)->H' b=some (.frz o u)
 eC:∀ b ps,H b=some (.tbl ps)->∃ more,H' b=some (.tbl (ps++more))
section
variable{fs fs' ex ex':List Addr}{H H1 H2:Hp}{h h1 h2 h':Heap}{a x e:Addr}{o:HO}
def Un.any(u:Un fs ex H H1 h h1)(q:h.get? b=some ob)(n:H b=none)(hx:b∉ex):∃ sl,h1.get? b=some { ob with slots:=sl }:=by
 by_cases hb:b∈fs
 ·exact u.slot b ob q n hb hx
 ·exact⟨ob.slots,u.keep b ob q n hb hx⟩
def Un.kept(k:∀ b u,h.get? b=some u->h'.get? b=some u):Un fs ex H H h h' :=
 ⟨fun b ob q _ _ _=>k b ob q,fun b ob q _ _ _=>⟨ob.slots,k b ob q⟩,fun _ _ _ n _=>n,fun b ob q _=>⟨ob,k b ob q⟩,fun _ _ q=>q,fun _ _ _ q=>q,fun _ ps q=>⟨#[],by rw[q];simp⟩⟩
def Un.refl:Un fs ex H H h h:=Un.kept fun _ _ q=>q
def Un.laid(k:∀ b u,h.get? b=some u->h'.get? b=some u)(hp:h.objs.size<=a)(hn:H a=none):Un fs ex H (upd H a o) h h' where
 keep:=fun b u q _ _ _=>k b u q
 slot:=fun b u q _ _ _=>⟨u.slots,k b u q⟩
 free:=fun b u q n _=>by rw[aJ (Nat.ne_of_lt (Nat.lt_of_lt_of_le (Heap.lt_size q) hp))];exact n
 there:=fun b u q _=>⟨u,k b u q⟩
 eD:=fun b xs q=>by rw[aJ (aK q hn)];exact q
 cK:=fun b u xs q=>by rw[aJ (aK q hn)];exact q
 eC:=fun b ps q=>⟨#[],by rw[aJ (aK q hn),q];simp⟩
def Un.write(mu:Mut (H x))(he:e=x\/H e=some (.own x))(k:∀ b u,b≠e->h.get? b=some u->h'.get? b=some u)(heo:∃ u,h'.get? e=some u):Un fs ex H (upd H x o) h h':=by
 have hx:∀ b,H b=none->b≠x:=fun b n z=>by subst z;rw[n]at mu;exact mu
 have hb:∀ b,H b=none->b≠e:=fun b n z=>by
  subst z;rcases he with r | r
  ·exact hx b n r
  ·rw[n]at r;cases r
 have hm:∀ b u,H b=some u->¬ Mut (some u)->b≠x:=fun b u q nm z=>by subst z;rw[q]at mu;exact nm mu
 refine⟨fun b u q n _ _=>k b u (hb b n) q,fun b u q n _ _=>⟨u.slots,k b u (hb b n) q⟩,fun b u q n _=>by rw[aJ (hx b n)];exact n,fun b u q _=>?_,
  fun b xs q=>by rw[aJ (hm b _ q fun z=>z)];exact q,fun b u xs q=>by rw[aJ (hm b _ q fun z=>z)];exact q,fun b ps q=>⟨#[],by rw[aJ (hm b _ q fun z=>z),q];simp⟩⟩
 by_cases hbe:b=e
 ·subst hbe;exact heo
 ·exact⟨u,k b u hbe q⟩
end
abbrev trk(h:Heap)(H:Hp):List Addr:=(List.range h.objs.size).filter fun a=>(H a).isSome
abbrev jb(h:Heap)(H:Hp):Heap:=PySem.W.hideAll h (trk h H)
def vI(h:Heap)(H:Hp):(jb h H).objs.size=h.objs.size:=PySem.W.hideAll_size _ _
def xT(e:h.get? b=some o)(n:H b=none):(jb h H).get? b=some o :=
 PySem.W.hideAll_get _ e fun hm=>by
  have q:(H b).isSome=true:=(List.mem_filter.mp hm).2;rw[n]at q;simp at q
def AH(e:(jb h H).get? b=some o):h.get? b=some o/\H b=none:=by
 have e':h.get? b=some o:=PySem.W.of_hideAll (trk h H) e;refine⟨e',?_⟩
 cases q:H b with
 | none=>rfl
 |some x=>
  have hm:b∈trk h H:=List.mem_filter.mpr ⟨List.mem_range.mpr (Heap.lt_size e'),by simp[q]⟩;have z:(jb h H).get? b=none:=PySem.W.hideAll_none (trk h H) hm;rw[z]at e;cases e
structure Mod(K:PySem.W.Frag)(mg:Str->Option Value)(base:Heap):Prop where
 kin:K.In base
 glob:base.Ns mainGlobals mg
 blt:∃ mb,base.Ns builtinsNs mb/\∀ x:Str,x ≠ "__name__" -> mb x=bootBuiltins x
 nolimit:base.NoLimit
structure Cx where
 prog:Program
 w:World
 K:PySem.W.Frag
 mg:Str->Option Value
 base:Heap
 A:Around
 N:List Str
 s₀:Shared
 H₀:Hp
 env:Env
 outer:List Env
 stack:List Env
 ex:List Addr
 fn:Str->Bool
 calm:Bool
 pn:List (Addr × Obj)
 xe:Value->Shared->Prop
abbrev frs(l:List Env):List Addr:=l.filterMap (·.frame)
@[reducible]noncomputable def Cx.fs(X:Cx):List Addr:=frs X.outer
abbrev Vis(sc:Scope)(x:Str):Prop:=sc.names.lookup x=some .local\/sc.names.lookup x=some .cell\/sc.names.lookup x=some .free
abbrev Loc(sc:Scope)(x:Str):Prop:=sc.names.lookup x=some .local\/sc.names.lookup x=some .cell
abbrev Look(env:Env)(h:Heap)(m:Str->Option Value)(x:Str)(u:Value):Prop :=
 (env.kindOf x=some .local/\m x=some u)\/((env.kindOf x=some .cell\/env.kindOf x=some .free)/\∃ c,env.cells.lookup x=some c/\h.IsCell c (some u))
abbrev HX(X:Cx):Prop:=X.A.handled=none\/∃ h o u vs,X.A.handled=some (.ref h)/\X.H₀ h=some (.frz o u)/\o.data=.fields vs/\vs[2]?=some .none
structure Cx.Ok(X:Cx):Prop where
 mod:Mod X.K X.mg X.base
 kind:X.env.scope.kind=.function
 glob:X.env.globals=mainGlobals
 blt:X.env.builtins=builtinsNs
 above:X.s₀.heap.objs.size<=X.env.locals
 inj:∀ x y c,X.env.cells.lookup x=some c->X.env.cells.lookup y=some c->x=y
 has:∀ x,(X.env.kindOf x=some .cell\/X.env.kindOf x=some .free)->∃ c,X.env.cells.lookup x=some c
 cab:∀ x c,X.fn x=true->X.env.cells.lookup x=some c->X.s₀.heap.objs.size<=c
 hd:(X.calm=true->X.A.handled=none)/\HX X
 frames:X.A.frames=some X.stack
 stk:X.stack=X.outer\/(X.stack=X.env::X.outer/\X.env.frame=some X.env.locals)
 exf:∀ b∈X.ex,b≠X.env.locals/\∀ x c,X.env.cells.lookup x=some c->c≠b
 bs:∀ b o,X.base.get? b=some o->X.s₀.heap.get? b=some o/\X.H₀ b=none
 bsz:X.base.objs.size<=X.s₀.heap.objs.size
 jc:∀ b o,X.base.get? b=some o->b∉X.ex
 iS:∀ b∈X.ex,b∉X.fs
 dA:X.s₀.heap.FunFrames X.base X.outer
 frf:∀ b∈X.fs,X.H₀ b=none
structure Inv(X:Cx)(pins:List (Addr × Obj))(σ:List (Option V))(H:Hp)(s:Shared):Prop where
 ok:X.Ok
 os:s.os=X.s₀.os
 bare:AllBare s.gens
 base:Un X.fs X.ex X.H₀ H X.s₀.heap s.heap
 loc:∃ m,s.heap.Ns X.env.locals m/\∀ (i:Nat) (x:Str) (v:V),X.N[i]?=some x->σ[i]?=some (some v)->Vis X.env.scope x->∃ u,RelV v u/\Look X.env s.heap m x u
 cell:∀ x c,X.env.cells.lookup x=some c->∃ v,s.heap.IsCell c v
 free:H X.env.locals=none
 c8:∀ x c,X.env.cells.lookup x=some c->H c=none
 pin:∀ p∈X.pn++pins,s.heap.get? p.1=some p.2/\H p.1=none/\p.1≠X.env.locals/\p.1∉X.fs/\∀ v,p.2.data≠.cell v
 hok:HOk X.prog X.w H s.heap
 len:σ.length=X.N.length
section
variable{X:Cx}{pins:List (Addr × Obj)}{σ:List (Option V)}{H H':Hp}{s:Shared}{h':Heap}
def Cx.Ok.GI(ok:X.Ok)(e:X.base.get? b=some o):b∉X.fs:=fun hb=>by
 have:=(ok.dA.mem hb).1;rw[e]at this;cases this
def Inv.bs(I:Inv X pins σ H s):∀ b o,X.base.get? b=some o->s.heap.get? b=some o/\H b=none:=fun b o e =>
 ⟨I.base.keep b o (I.ok.bs b o e).1 (I.ok.bs b o e).2 (I.ok.GI e) (I.ok.jc b o e),I.base.free b o (I.ok.bs b o e).1 (I.ok.bs b o e).2 (I.ok.jc b o e)⟩
def Inv.bk(I:Inv X pins σ H s):∀ b o,X.base.get? b=some o->s.heap.get? b=some o:=fun b o e=>(I.bs b o e).1
def Inv.mod(I:Inv X pins σ H s):Mod X.K X.mg X.base:=I.ok.mod
def Inv.kIn(I:Inv X pins σ H s):X.K.In s.heap:=I.ok.mod.kin.keeps I.bk
def Inv.lt(I:Inv X pins σ H s):X.env.locals<s.heap.objs.size:=let ⟨_,hn,_⟩:=I.loc;hn.lt
def Inv.sz(I:Inv X pins σ H s):X.s₀.heap.objs.size<=s.heap.objs.size:=Nat.le_trans I.ok.above (Nat.le_of_lt I.lt)
def Inv.FJ(I:Inv X pins σ H s)(h:s.heap.objs.size<=a):a∉X.fs:=fun hb=>by
 obtain⟨_,o,ho,_⟩:=I.ok.dA.mem hb;exact absurd (Nat.lt_of_lt_of_le (Heap.lt_size ho) (Nat.le_trans I.sz h)) (Nat.lt_irrefl _)
def Inv.cne(I:Inv X pins σ H s):∀ x c,X.env.cells.lookup x=some c->c≠X.env.locals:=fun x c e z=>by
 obtain⟨v,o,ho,hd⟩:=I.cell x c e;obtain⟨m,⟨o',es,ep,ho',hd',_⟩,_⟩:=I.loc;rw[z,ho']at ho;cases ho;rw[hd']at hd;cases hd
def Inv.dA(I:Inv X pins σ H s):s.heap.FunFrames X.base X.outer:=by
 have all:∀ (l:List Env),(∀ b∈frs l,b∈X.fs)->X.s₀.heap.FunFrames X.base l->s.heap.FunFrames X.base l:=by
  intro l
  induction l with
  | nil=>intro _ _;trivial
  |cons env r ih=>
   intro hs hl;obtain⟨hk,⟨L,o,hf,hn,ho,hd⟩,hr⟩:=hl;have hL:L∈X.fs:=hs L (by unfold frs;rw[List.filterMap_cons,hf];exact List.mem_cons_self);obtain⟨sl,e⟩:=I.base.slot L o ho (I.ok.frf L hL) hL fun z=>I.ok.iS L z hL;exact⟨hk,⟨L,_,hf,hn,e,hd⟩,ih (fun b hb=>hs b (by unfold frs;rw[List.filterMap_cons,hf];exact List.mem_cons_of_mem _ hb)) hr⟩
 exact all X.outer (fun _ hb=>hb) I.ok.dA
def Inv.stack(I:Inv X pins σ H s):s.heap.FunFrames X.base X.stack:=by
 rcases I.ok.stk with e | ⟨e,hf⟩
 ·rw[e];exact I.dA
 ·rw[e];obtain⟨m,hn,_⟩:=I.loc;refine .cons (by rw[I.ok.kind];decide) hf hn ?_ I.dA;exact Heap.get?_none_of_le (Nat.le_trans I.ok.bsz I.ok.above)
def Inv.qM(I:Inv X pins σ H s):∀ b∈frs X.stack,b∈X.env.locals::X.fs:=fun b hb=>by
 rcases I.ok.stk with e | ⟨e,hf⟩
 ·rw[e]at hb;exact List.mem_cons_of_mem _ hb
 ·rw[e]at hb;unfold frs at hb;rw[List.filterMap_cons,hf]at hb;exact hb
def Inv.kd(I:Inv X pins σ H s):∀ b∈frs X.stack,H b=none:=fun b hb=>by
 rcases List.mem_cons.mp (I.qM b hb)with e | hb
 ·rw[e];exact I.free
 ·obtain⟨_,o,ho,_⟩:=I.ok.dA.mem hb;exact I.base.free b o ho (I.ok.frf b hb) fun z=>I.ok.iS b z hb
def Inv.step{g':Array GenState}{t':Nat}{d':Drawn}{ch:List Addr}(I:Inv X pins σ H s)
 (hch:∀ b∈ch,(b∈X.ex\/X.s₀.heap.objs.size<=b)/\b≠X.env.locals/\(∀ x c,X.env.cells.lookup x=some c->c≠b)/\∀ p∈X.pn++pins,p.1≠b)
 (keep:∀ b o,b≠X.env.locals->b∉X.fs->b∉ch->s.heap.get? b=some o->H b=none->h'.get? b=some o)
 (slot:∀ b o,b≠X.env.locals->b∈X.fs->b∉ch->s.heap.get? b=some o->H b=none->∃ sl,h'.get? b=some { o with slots:=sl })(free:∀ b o,b∉ch->s.heap.get? b=some o->H b=none->H' b=none)
 (there:∀ b o,b∉ch->s.heap.get? b=some o->∃ o',h'.get? b=some o')
 (eD:∀ b xs,H b=some (.tup xs)->H' b=some (.tup xs))(cK:∀ b o u,H b=some (.frz o u)->H' b=some (.frz o u))(eC:∀ b ps,H b=some (.tbl ps)->∃ more,H' b=some (.tbl (ps++more)))
 (ns:∀ m,s.heap.Ns X.env.locals m->h'.Ns X.env.locals m)(hok:HOk X.prog X.w H' h')(hg:AllBare g') :
  Inv X pins σ H' { s with heap:=h',gens:=g',drawn:=d',toks:=t' }:=by
 have neL:∀ b o,X.s₀.heap.get? b=some o->b≠X.env.locals:=fun b o e=>Nat.ne_of_lt (Nat.lt_of_lt_of_le (Heap.lt_size e) I.ok.above)
 have neC:∀ b o,X.s₀.heap.get? b=some o->b∉X.ex->b∉ch:=fun b o e hx hb=>by
  rcases(hch b hb).1 with z | z
  ·exact hx z
  ·exact absurd (Nat.lt_of_lt_of_le (Heap.lt_size e) z) (Nat.lt_irrefl _)
 have cellK:∀ x c,X.env.cells.lookup x=some c->∀ v,s.heap.IsCell c v->h'.IsCell c v:=fun x c e v ⟨o,ho,hd⟩=>by
  have nch:c∉ch:=fun z=>(hch c z).2.2.1 x c e rfl;by_cases hc:c∈X.fs
  ·obtain⟨sl,q⟩:=slot c o (I.cne x c e) hc nch ho (I.c8 x c e);exact⟨_,q,hd⟩
  ·exact⟨o,keep c o (I.cne x c e) hc nch ho (I.c8 x c e),hd⟩
 refine⟨I.ok,I.os,hg,⟨fun b o e n hb hx=>?_,fun b o e n hb hx=>?_,fun b o e n hx=>?_,fun b o e hx=>?_,fun b xs e=>eD b xs (I.base.eD b xs e),fun b o xs e=>cK b o xs (I.base.cK b o xs e),fun b ps e=>?_⟩,?_,fun x c e=>?_,?_,fun x c e=>?_,fun p hp=>?_,hok,I.len⟩
 ·exact keep b o (neL b o e) hb (neC b o e hx) (I.base.keep b o e n hb hx) (I.base.free b o e n hx)
 ·obtain⟨sl,e1⟩:=I.base.slot b o e n hb hx;obtain⟨sl',e2⟩:=slot b _ (neL b o e) hb (neC b o e hx) e1 (I.base.free b o e n hx);exact⟨sl',e2⟩
 ·obtain⟨o',e1⟩:=I.base.there b o e hx;exact free b o' (neC b o e hx) e1 (I.base.free b o e n hx)
 ·obtain⟨o',e1⟩:=I.base.there b o e hx;exact there b o' (neC b o e hx) e1
 ·obtain⟨m1,e1⟩:=I.base.eC b ps e;obtain⟨m2,e2⟩:=eC b _ e1;exact⟨m1++m2,by rw[e2,Array.append_assoc]⟩
 ·obtain⟨m,hn,hl⟩:=I.loc;refine⟨m,ns m hn,fun i x v e1 e2 e3=>?_⟩;obtain⟨u,r,l⟩:=hl i x v e1 e2 e3;refine⟨u,r,?_⟩
  rcases l with l | ⟨k,c,e,z⟩
  ·exact .inl l
  ·exact .inr ⟨k,c,e,cellK x c e _ z⟩
 ·obtain⟨v,z⟩:=I.cell x c e;exact⟨v,cellK x c e v z⟩
 ·obtain⟨m,⟨o,_,_,ho,_⟩,_⟩:=I.loc;exact free _ o (fun z=>(hch _ z).2.1 rfl) ho I.free
 ·obtain⟨v,o,ho,hd⟩:=I.cell x c e;exact free c o (fun z=>(hch c z).2.2.1 x c e rfl) ho (I.c8 x c e)
 ·obtain⟨e,n,ne,nf,d⟩:=I.pin p hp;have nch:p.1∉ch:=fun z=>(hch p.1 z).2.2.2 p hp rfl;exact⟨keep p.1 p.2 ne nf nch e n,free p.1 p.2 nch e n,ne,nf,d⟩
def Inv.un(I:Inv X pins σ H s)(u:Un X.fs [] H H' s.heap h')(hok:HOk X.prog X.w H' h'):Inv X pins σ H' { s with heap:=h',toks:=t' }:=by
 obtain⟨m,⟨o,es,ep,ho,r⟩,_⟩:=id I.loc;obtain⟨sl,hL⟩:=u.any ho I.free (by simp)
 exact I.step (g':=s.gens) (d':=s.drawn) (ch:=[]) (fun _ z=>nomatch z) (fun b o _ hb _ e n=>u.keep b o e n hb (by simp)) (fun b o _ hb _ e n=>u.slot b o e n hb (by simp)) (fun b o _ e n=>u.free b o e n (by simp)) (fun b o _ e=>u.there b o e (by simp)) u.eD u.cK u.eC (fun m' hm=>by
  obtain⟨o',es',ep',ho',r'⟩:=hm;rw[ho]at ho';cases ho'
  exact⟨_,es',ep',hL,r'⟩) hok I.bare
def Inv.call(I:Inv X pins σ H s)(u:Un (frs X.stack) ch H H' s.heap h')(hok:HOk X.prog X.w H' h')(hg:AllBare g')
 (hch:∀ b∈ch,(b∈X.ex\/X.s₀.heap.objs.size<=b)/\b≠X.env.locals/\(∀ x c,X.env.cells.lookup x=some c->c≠b)/\∀ p∈X.pn++pins,p.1≠b) :
  Inv X pins σ H' { s with heap:=h',gens:=g',drawn:=d',toks:=t' }:=by
 obtain⟨m,⟨o,es,ep,ho,r⟩,_⟩:=id I.loc;obtain⟨sl,hL⟩:=u.any ho I.free fun z=>(hch _ z).2.1 rfl
 exact I.step (ch:=ch) hch (fun b o hL hb hc e n=>u.keep b o e n (fun z=>(List.mem_cons.mp (I.qM b z)).elim hL hb) hc) (fun b o _ _ hc e n=>u.any e n hc) (fun b o hc e n=>u.free b o e n hc) (fun b o hc e=>u.there b o e hc) u.eD u.cK u.eC (fun m' hm=>by
  obtain⟨o',es',ep',ho',r'⟩:=hm;rw[ho]at ho';cases ho'
  exact⟨_,es',ep',hL,r'⟩) hok hg
def Inv.turned(I:Inv X pins σ H s)(k:∀ b o,b≠it->s.heap.get? b=some o->h'.get? b=some o)(hn:H it=none)(hL:it≠X.env.locals)
 (h1:it∈X.ex\/X.s₀.heap.objs.size<=it)(h2:∀ x c,X.env.cells.lookup x=some c->c≠it)(h3:∀ p∈X.pn++pins,p.1≠it):Inv X pins σ H { s with heap:=h',toks:=t' }:=by
 have nit:∀ b u,H b=some u->b≠it:=fun b u e z=>by rw[z,hn]at e;cases e
 refine I.step (g':=s.gens) (d':=s.drawn) (ch:=[it]) (fun b hb=>?_) (fun b o _ _ hc e _=>k b o (fun z=>hc (by simp[z])) e) (fun b o _ _ hc e _=>⟨o.slots,k b o (fun z=>hc (by simp[z])) e⟩) (fun _ _ _ _ n=>n)
  (fun b o hc e=>⟨o,k b o (fun z=>hc (by simp[z])) e⟩) (fun _ _ e=>e) (fun _ _ _ e=>e) (fun b ps e=>⟨#[],by rw[e];simp⟩) (fun m hm=>?_) (fun b u e=>?_) I.bare
 ·have e:b=it:=by simpa using hb
  subst e;exact⟨h1,hL,h2,h3⟩
 ·obtain⟨o,es,ep,ho,r⟩:=hm;exact⟨o,es,ep,k _ o (Ne.symm hL) ho,r⟩
 ·refine(I.hok b u e).jo (fun c v hc q=>k c v ?_ q) (fun _ q=>q) fun _ _ q=>q;rcases hc with z | z
  ·rw[z];exact nit b u e
  ·exact nit c _ z
def Inv.tok(I:Inv X pins σ H s)(t:Nat):Inv X pins σ H { s with toks:=t }:=I.un (h':=s.heap) (t':=t) Un.refl I.hok
def Inv.kept(I:Inv X pins σ H s)(k:∀ b u,s.heap.get? b=some u->h'.get? b=some u):Inv X pins σ H { s with heap:=h',toks:=t' }:=I.un (Un.kept k) (I.hok.kept k)
def Inv.laid(I:Inv X pins σ H s)(k:∀ b u,s.heap.get? b=some u->h'.get? b=some u)(hp:s.heap.objs.size<=a)(new:bj X.prog X.w (upd H a o) h' a o) :
  Inv X pins σ (upd H a o) { s with heap:=h',toks:=t' }:=I.un (Un.laid k hp (I.hok.fresh hp)) (I.hok.laid k hp new)
def Inv.write(I:Inv X pins σ H s)(mu:Mut (H x))(he:e=x\/H e=some (.own x))(k:∀ b u,b≠e->s.heap.get? b=some u->h'.get? b=some u)(heo:∃ u,h'.get? e=some u)
 (new:bj X.prog X.w (upd H x o) h' x o):Inv X pins σ (upd H x o) { s with heap:=h',toks:=t' }:=I.un (Un.write mu he k heo) (I.hok.write mu he k heo new)
def Inv.weak(I:Inv X pins σ H s)(hl:σ'.length=σ.length)(w:∀ (i:Nat) v,σ'[i]?=some (some v)->σ[i]?=some (some v)):Inv X pins σ' H s :=
 ⟨I.ok,I.os,I.bare,I.base,let ⟨m,hn,hl'⟩:=I.loc;⟨m,hn,fun i x v e1 e2 e3=>hl' i x v e1 (w i v e2) e3⟩,I.cell,I.free,I.c8,I.pin,I.hok,hl.trans I.len⟩
def Inv.sj(I:Inv X pins σ H s)(h:∀ p∈pins',s.heap.get? p.1=some p.2/\H p.1=none/\p.1≠X.env.locals/\p.1∉X.fs/\∀ v,p.2.data≠.cell v):Inv X pins' σ H s :=
 ⟨I.ok,I.os,I.bare,I.base,I.loc,I.cell,I.free,I.c8,fun p hp=>(List.mem_append.mp hp).elim (fun z=>I.pin p (List.mem_append_left _ z)) (h p),I.hok,I.len⟩
def kR{N:List Str}(hN:N.Nodup){i j:Nat}(a:N[i]?=some x)(b:N[j]?=some x):i=j:=by
 obtain⟨h1,e1⟩:=List.getElem?_eq_some_iff.mp a;obtain⟨h2,e2⟩:=List.getElem?_eq_some_iff.mp b;exact(List.getElem_inj hN).mp (e1.trans e2.symm)
def nV{M:Model}{A:Around}(I:Inv X pins σ H s)(hN:X.N.Nodup)(hi:X.N[i]?=some x)(hx:Loc X.env.scope x)(r:RelV v u)
 (h:∀ s',Inv X pins (σ.set i (some v)) H s'->(∃ a,Heap.SameBut a s.heap s'.heap/\(a=X.env.locals\/X.env.cells.lookup x=some a))->Q () s')(hf:X.fn x=true\/X.env.scope.names.lookup x=some .local:=by first | exact .inl rfl | exact .inr rfl | assumption):wpAny M A (storeName X.env x u) Q E s:=by
 obtain⟨m,hn,hl⟩:=id I.loc
 have hcls:(X.env.scope.kind == .class || (X.env.scope.kind == .module&&X.env.locals != X.env.globals))=false:=by rw[I.ok.kind];rfl
 have hiσ:i<σ.length:=by rw[I.len];exact(List.getElem?_eq_some_iff.mp hi).1
 have cne:=I.cne
 have tracked:∀ {a:Addr} {h':Heap},(∃ o,s.heap.get? a=some o/\H a=none)->Heap.SameBut a s.heap h'->HOk X.prog X.w H h':=fun {a h'} ha hs b ob e=>by
  obtain⟨_,_,hfree⟩:=ha;refine(I.hok b ob e).jo (fun c w' hc q=>(hs.2 c ?_).trans q) (fun _ q=>q) fun _ _ q=>q;rintro rfl;rcases hc with rfl | hc
  ·rw[hfree]at e;cases e
  ·rw[hfree]at hc;cases hc
 rcases hx with hk | hk
 ·refine wpAny_storeName_local hk hn (fun h' hn' hs=>?_) hcls;obtain⟨oL,_,_,hoL,_⟩:=id hn;refine h _ ⟨I.ok,I.os,I.bare,⟨fun b o e n hb hx=>?_,fun b o e n hb hx=>?_,I.base.free,fun b o e hx=>?_,I.base.eD,I.base.cK,I.base.eC⟩,⟨_,hn',fun j y v' e1 e2 e3=>?_⟩,fun y c e=>?_,I.free,I.c8,fun p hp=>?_,tracked ⟨oL,hoL,I.free⟩ hs,by simpa using I.len⟩ ⟨_,hs,.inl rfl⟩
  ·exact(hs.2 b (Nat.ne_of_lt (Nat.lt_of_lt_of_le (Heap.lt_size e) I.ok.above))).trans (I.base.keep b o e n hb hx)
  ·obtain⟨sl,e1⟩:=I.base.slot b o e n hb hx;exact⟨sl,(hs.2 b (Nat.ne_of_lt (Nat.lt_of_lt_of_le (Heap.lt_size e) I.ok.above))).trans e1⟩
  ·obtain⟨o',e1⟩:=I.base.there b o e hx;exact⟨o',(hs.2 b (Nat.ne_of_lt (Nat.lt_of_lt_of_le (Heap.lt_size e) I.ok.above))).trans e1⟩
  ·by_cases hj:j=i
   ·subst hj;rw[hi]at e1;cases e1;rw[List.getElem?_set_self hiσ]at e2;cases e2;exact⟨u,r,.inl ⟨hk,by simp⟩⟩
   ·rw[List.getElem?_set_ne (Ne.symm hj)]at e2;obtain⟨u',r',q⟩:=hl j y v' e1 e2 e3;refine⟨u',r',?_⟩
    rcases q with⟨k,e⟩ | ⟨k,c,e,z⟩
    ·refine .inl ⟨k,?_⟩;have:y≠x:=fun e=>hj (kR hN e1 (e▸hi));simp[this,e]
    ·exact .inr ⟨k,c,e,z.sameBut hs (cne y c e)⟩
  ·obtain⟨w',z⟩:=I.cell y c e;exact⟨w',z.sameBut hs (cne y c e)⟩
  ·obtain⟨e,n,ne,nf,d⟩:=I.pin p hp;exact⟨(hs.2 p.1 ne).trans e,n,ne,nf,d⟩
 ·have hfn:X.fn x=true:=by
   rcases hf with z | z
   ·exact z
   ·rw[z]at hk;cases hk
  obtain⟨c,hc⟩:=I.ok.has x (.inl hk);obtain⟨w',z⟩:=I.cell x c hc;refine wpAny_storeName_cell I.ok.kind hk hc z (fun h' hc' hs=>?_);obtain⟨oc,hoc,hocd⟩:=id z;refine h { s with heap:=h' } ⟨I.ok,I.os,I.bare,⟨fun b o e n hb hx=>?_,fun b o e n hb hx=>?_,I.base.free,fun b o e hx=>?_,I.base.eD,I.base.cK,I.base.eC⟩,⟨m,hn.sameBut hs (Ne.symm (cne x c hc)),fun j y v' e1 e2 e3=>?_⟩,fun y c' e=>?_,I.free,I.c8,fun p hp=>?_,tracked ⟨oc,hoc,I.c8 x c hc⟩ hs,by simpa using I.len⟩ ⟨c,hs,.inr hc⟩
  ·exact(hs.2 b (Nat.ne_of_lt (Nat.lt_of_lt_of_le (Heap.lt_size e) (I.ok.cab x c hfn hc)))).trans (I.base.keep b o e n hb hx)
  ·obtain⟨sl,e1⟩:=I.base.slot b o e n hb hx;exact⟨sl,(hs.2 b (Nat.ne_of_lt (Nat.lt_of_lt_of_le (Heap.lt_size e) (I.ok.cab x c hfn hc)))).trans e1⟩
  ·obtain⟨o',e1⟩:=I.base.there b o e hx;exact⟨o',(hs.2 b (Nat.ne_of_lt (Nat.lt_of_lt_of_le (Heap.lt_size e) (I.ok.cab x c hfn hc)))).trans e1⟩
  ·by_cases hj:j=i
   ·subst hj;rw[hi]at e1;cases e1;rw[List.getElem?_set_self hiσ]at e2;cases e2;exact⟨u,r,.inr ⟨.inl hk,c,hc,hc'⟩⟩
   ·rw[List.getElem?_set_ne (Ne.symm hj)]at e2;obtain⟨u',r',q⟩:=hl j y v' e1 e2 e3;refine⟨u',r',?_⟩
    rcases q with q | ⟨k,c',e,z'⟩
    ·exact .inl q
    ·refine .inr ⟨k,c',e,z'.sameBut hs ?_⟩;rintro rfl;exact hj (kR hN e1 (I.ok.inj _ _ _ e hc▸hi))
  ·by_cases hcc:c'=c
   ·subst hcc;exact⟨_,hc'⟩
   ·obtain⟨w2,z2⟩:=I.cell y c' e;exact⟨w2,z2.sameBut hs hcc⟩
  ·obtain⟨e,n,ne,nf,d⟩:=I.pin p hp;refine⟨(hs.2 p.1 ?_).trans e,n,ne,nf,d⟩;intro q;rw[q,hoc]at e;have q':oc=p.2:=Option.some.inj e;exact d w' (by rw[<-q'];exact hocd)
def fg(I:Inv X pins σ H s)(hN:X.N.Nodup)(hi:X.N[i]?=some x)(hx:Loc X.env.scope x)(r:RelV v u)
 (h:∀ s',Inv X pins (σ.set i (some v)) H s'->Q () s')(hf:X.fn x=true\/X.env.scope.names.lookup x=some .local:=by first | exact .inl rfl | exact .inr rfl | assumption):wpAny M A (storeName X.env x u) Q E s :=
 nV I hN hi hx r (fun s' I' _=>h s' I') hf
def Inv.tu(I:Inv X pins σ H s)(ho:s'.os=s.os)(u:Un (frs X.stack) ch H H' s.heap s'.heap)(hok:HOk X.prog X.w H' s'.heap)(hg:AllBare s'.gens)
 (hch:∀ b∈ch,(b∈X.ex\/X.s₀.heap.objs.size<=b)/\b≠X.env.locals/\(∀ x c,X.env.cells.lookup x=some c->c≠b)/\∀ p∈X.pn++pins,p.1≠b):Inv X pins σ H' s':=by
 obtain⟨h',g',d',t',o'⟩:=s';have e:o'=s.os:=ho;subst e;exact I.call (g':=g') (t':=t') (d':=d') u hok hg hch
end
@[reducible]noncomputable def XK:=Value->Option Addr->Hp->Prop
@[reducible]noncomputable def St:=List (Option V)
@[reducible]noncomputable def VK:=V->Hp->Prop
@[reducible]noncomputable def TE:=St->Hp->VK->Prop
@[reducible]noncomputable def TT:=St->Hp->(Bool->Hp->Prop)->Prop
@[reducible]noncomputable def TA:=St->Hp->(List V->Hp->Prop)->Prop
structure Ends where
 nx:St->Hp->Prop
 rt:VK
 bk:St->Hp->Prop:=fun _ _=>False
 ct:St->Hp->Prop:=fun _ _=>False
@[reducible]noncomputable def TS:=Ends->St->Hp->Prop
abbrev EP(X:Cx)(pins:List (Addr × Obj))(σ:St)(Q:VK)(u:Value)(s':Shared):Prop:=∃ v H',Inv X pins σ H' s'/\RelV v u/\Q v H'
abbrev TP(X:Cx)(pins:List (Addr × Obj))(σ:St)(Q:Bool->Hp->Prop)(b:Bool)(s':Shared):Prop:=∃ H',Inv X pins σ H' s'/\Q b H'
abbrev AP(X:Cx)(pins:List (Addr × Obj))(σ:St)(Q:List V->Hp->Prop)(us:List Value)(s':Shared):Prop:=∃ vs H',Inv X pins σ H' s'/\Vals vs us/\Q vs H'
abbrev SP(X:Cx)(pins:List (Addr × Obj))(D:Ends)(f:Flow)(s':Shared):Prop :=
 match f with
 | .next=>∃ σ' H',Inv X pins σ' H' s'/\D.nx σ' H'
 | .brk=>∃ σ' H',Inv X pins σ' H' s'/\D.bk σ' H'
 | .cont=>∃ σ' H',Inv X pins σ' H' s'/\D.ct σ' H'
 | .ret u=>∃ v σ' H',Inv X pins σ' H' s'/\RelV v u/\D.rt v H'
abbrev PE(X:Cx)(e:Expr)(t:TE):Prop :=
 ∀ (pins:List (Addr × Obj)) (s:Shared) (σ:St) (H:Hp) (Q:VK),Inv X pins σ H s->t σ H Q->wpAny (model X.prog X.w) X.A (eval e X.env) (EP X pins σ Q) X.xe s
abbrev PT(X:Cx)(e:Expr)(t:TT):Prop :=
 ∀ (pins:List (Addr × Obj)) (s:Shared) (σ:St) (H:Hp) (Q:Bool->Hp->Prop),Inv X pins σ H s->t σ H Q->wpAny (model X.prog X.w) X.A (isTrue e X.env (eval e X.env)) (TP X pins σ Q) X.xe s
abbrev PW(X:Cx)(e:Expr)(t:TT):Prop :=
 ∀ (whole:Sem Value) (pins:List (Addr × Obj)) (s:Shared) (σ:St) (H:Hp) (Q:Bool->Hp->Prop),Inv X pins σ H s->t σ H Q->wpAny (model X.prog X.w) X.A (isTrue e X.env whole) (TP X pins σ Q) X.xe s
def PW.pt(h:PW X e t):PT X e t:=h _
abbrev PA(X:Cx)(es:List Expr)(t:TA):Prop :=
 ∀ (pos:Pos) (pins:List (Addr × Obj)) (s:Shared) (σ:St) (H:Hp) (Q:List V->Hp->Prop),Inv X pins σ H s->t σ H Q->wpAny (model X.prog X.w) X.A (spliced (backTo pos (starEach es X.env))) (AP X pins σ Q) X.xe s
abbrev PS(X:Cx)(st:Stmt)(t:TS):Prop :=
 ∀ (pins:List (Addr × Obj)) (s:Shared) (σ:St) (H:Hp) (D:Ends),Inv X pins σ H s->t D σ H->wpAny (model X.prog X.w) X.A (exec st X.env) (SP X pins D) X.xe s
abbrev PSs(X:Cx)(st:List Stmt)(t:TS):Prop :=
 ∀ (pins:List (Addr × Obj)) (s:Shared) (σ:St) (H:Hp) (D:Ends),Inv X pins σ H s->t D σ H->wpAny (model X.prog X.w) X.A (execs st X.env) (SP X pins D) X.xe s
def thn(h:wpAny M A t Q E s)(hQ:∀ a s,Q a s->Q' a s):wpAny M A t Q' E s:=wpAny_mono h hQ fun _ _ x=>x
section
variable{X:Cx}
abbrev gE(i:Nat):TE:=fun σ H Q=>∃ v,σ[i]?=some (some v)/\Q v H
abbrev tC(v:V):TE:=fun _ H Q=>Q v H
def eP(hN:X.N[i]?=some x)(hv:Vis X.env.scope x)(hd:(x == ("__debug__" : Str))=false:=by decide)(hcd:(x == ("__classdict__" : Str))=false:=by decide):PE X (.Name x pos) (gE i):=by
 intro pins s σ H Q I h;obtain⟨v,e,h⟩:=h;obtain⟨m,hn,hl⟩:=I.loc;obtain⟨u,r,l⟩:=hl i x v hN e hv
 have fin:EP X pins σ Q u s:=⟨v,H,I,r,h⟩
 rcases l with⟨hk,hm⟩ | ⟨hk,c,hc,hcell⟩
 ·exact wpAny_Name (wpAny_loadName_local I.ok.kind hk hn hm fin) hd
 ·rcases hk with hk | hk
  ·exact wpAny_Name (wpAny_loadName_cell I.ok.kind hk hc hcell fin) hd
  ·exact wpAny_Name (wpAny_loadName_free I.ok.kind hk hc hcell fin hcd) hd
def qG:PE X (.Constant (.int i) j pos) (tC (.int i)):=fun _ _ _ H _ I h=>wpAny_Constant_int ⟨.int i,H,I.tok _,⟨_,rfl⟩,h⟩
def F6:PE X (.Constant (.bool b) j pos) (tC (.bl b)):=fun _ _ _ H _ I h=>Constant_bool ⟨.bl b,H,I,rfl,h⟩
def qk:PE X (.Constant .none j pos) (tC .non):=fun _ _ _ H _ I h=>Constant_none ⟨.non,H,I,rfl,h⟩
def qu:PE X (.Constant (.str x) j pos) (tC (.str x)):=fun _ _ _ H _ I h=>Calls.Constant_str ⟨.str x,H,I.tok _,⟨_,rfl⟩,h⟩
abbrev Gl(X:Cx)(x:Str):Prop:=X.env.kindOf x=some .globalImplicit
def gj(I:Inv X pins σ H s)(hg:Gl X x)(hm:X.mg x=some u)(h:Q u s)
 (hd:(x == ("__debug__" : Str))=false:=by decide):wpAny (model X.prog X.w) X.A (eval (.Name x pos) X.env) Q E s :=
 Calls.Name_function_global I.ok.kind hg (Calls.loadGlobal_global (by rw[I.ok.glob];exact I.mod.glob.keeps I.bk) hm h) hd
def iE(I:Inv X pins σ H s)(hg:Gl X x)(hm:X.mg x=none)(hv:bootBuiltins x=some u)(h:Q u s)
 (hn:x ≠ "__name__" := by decide)(hd:(x == ("__debug__" : Str))=false:=by decide):wpAny (model X.prog X.w) X.A (eval (.Name x pos) X.env) Q E s:=by
 obtain⟨mb,h1,h2⟩:=I.mod.blt;exact Calls.Name_function_global I.ok.kind hg (Calls.loadGlobal_builtin (by rw[I.ok.glob];exact I.mod.glob.keeps I.bk) hm (by rw[I.ok.blt];exact h1.keeps I.bk) ((h2 x hn).trans hv) h) hd
def rP(hg:Gl X x)(hm:X.mg x=some u)(r:RelV v u)(hd:(x == ("__debug__" : Str))=false:=by decide):PE X (.Name x pos) (tC v) :=
 fun _ _ _ H _ I h=>gj I hg hm ⟨v,H,I,r,h⟩ hd
def sS(hg:Gl X x)(hm:X.mg x=none)(hv:bootBuiltins x=some u)(r:RelV v u)(hn:x ≠ "__name__" := by decide)(hd:(x == ("__debug__" : Str))=false:=by decide):PE X (.Name x pos) (tC v) :=
 fun _ _ _ H _ I h=>iE I hg hm hv ⟨v,H,I,r,h⟩ hn hd
variable{a b:Expr}{ta tb:TE}{pos:Pos}
abbrev PC(X:Cx)(op:CmpOp)(a b:Expr)(t:TE):Prop :=
 ∀ (pins:List (Addr × Obj)) (s:Shared) (σ:St) (H:Hp) (Q:VK),Inv X pins σ H s->t σ H Q ->
  wpAny (model X.prog X.w) X.A (eval a X.env) (fun v s₁=>wpAny (model X.prog X.w) X.A (eval b X.env) (fun u s₂=>wpAny (model X.prog X.w) X.A (compareOp op v u) (EP X pins σ Q) X.xe s₂) X.xe s₁) X.xe s
abbrev tB(t:TE):TT:=fun σ H Q=>t σ H fun x H1=>∃ c,x=.bl c/\Q c H1
def DD(h:PC X op a b t)(h1:behindInMarks op b=false:=by first | exact nobehind _ (by decide) (by decide) | rfl):PE X (.Compare a [op] [b] pos) t:=fun pins s σ H Q I hw=>wpAny_Compare1 (h pins s σ H Q I hw) h1
def Ec(h:PC X op a b t)(h1:behindInMarks op b=false:=by first | exact nobehind _ (by decide) (by decide) | rfl):PT X (.Compare a [op] [b] pos) (tB t):=by
 intro pins s σ H Q I hw;refine wpAny_isTrue_Compare1 (thn (h pins s σ H _ I hw) fun v s1 h1=>thn h1 fun u s2 h2=>thn h2 fun c s3 ⟨x,H1,I1,r1,q1⟩=>?_) h1;obtain⟨d,rfl,q⟩:=q1;cases r1;exact wpAny_truthy_bool ⟨H1,I1,q⟩
variable{tA tB':TT}{rest:List Expr}
abbrev FZ(t u:TT):TT:=fun σ H Q=>t σ H fun c H1=>if c=true then u σ H1 Q else Q false H1
abbrev tOr(t u:TT):TT:=fun σ H Q=>t σ H fun c H1=>if c=true then Q true H1 else u σ H1 Q
abbrev FK(t:TT):TT:=fun σ H Q=>t σ H fun c H1=>Q (!c) H1
def Ap(ha:PT X a tA):PW X (.BoolOp .And [a] pos) tA:=by
 intro wh pins s σ H Q I h;refine isTrue_and (thn (ha pins s σ H Q I h) fun c s1 e=>?_)
 cases c with
 | true=>exact isTrue_and_nil e
 | false=>exact e
def Dt(ha:PT X a tA):PW X (.BoolOp .Or [a] pos) tA:=by
 intro wh pins s σ H Q I h;refine isTrue_or (thn (ha pins s σ H Q I h) fun c s1 e=>?_)
 cases c with
 | false=>exact isTrue_or_nil e
 | true=>exact e
def Dd(ha:PT X a tA)(hb:PW X (.BoolOp .And (b::rest) pos) tB'):PW X (.BoolOp .And (a::b::rest) pos) (FZ tA tB'):=by
 intro wh pins s σ H Q I h;refine isTrue_and (thn (ha pins s σ H _ I h) fun c s1 ⟨H1,I1,q1⟩=>?_)
 cases c with
 | true=>exact hb wh pins s1 σ H1 Q I1 q1
 | false=>exact⟨H1,I1,q1⟩
def Ft(ha:PT X a tA)(hb:PW X (.BoolOp .Or (b::rest) pos) tB'):PW X (.BoolOp .Or (a::b::rest) pos) (tOr tA tB'):=by
 intro wh pins s σ H Q I h;refine isTrue_or (thn (ha pins s σ H _ I h) fun c s1 ⟨H1,I1,q1⟩=>?_)
 cases c with
 | true=>exact⟨H1,I1,q1⟩
 | false=>exact hb wh pins s1 σ H1 Q I1 q1
def Cj(ha:PT X a tA):PT X (.UnaryOp .Not a pos) (FK tA):=by
 intro pins s σ H Q I h;exact isTrue_not (ha pins s σ H (fun c H1=>Q (!c) H1) I h)
abbrev F0(ta tb:TE):TE:=fun σ H Q=>ta σ H fun x H1=>∃ c,x=.bl c/\if c=true then tb σ H1 Q else Q (.bl false) H1
abbrev FT(ta tb:TE):TE:=fun σ H Q=>ta σ H fun x H1=>∃ c,x=.bl c/\if c=true then Q (.bl true) H1 else tb σ H1 Q
def BM(h:PE X a t):PE X (.BoolOp op [a] pos) t:=fun pins s σ H Q I hw=>BoolOp_one (h pins s σ H Q I hw)
def DS(ha:PE X a ta)(hb:PE X (.BoolOp .And (b::rest) pos) tb):PE X (.BoolOp .And (a::b::rest) pos) (F0 ta tb):=by
 intro pins s σ H Q I h;refine BoolOp_and (thn (ha pins s σ H _ I h) fun v s1 ⟨x,H1,I1,r1,q1⟩=>?_);obtain⟨c,rfl,q1⟩:=q1;cases r1;refine wpAny_truthy_bool ?_
 cases c with
 | true=>exact hb pins s1 σ H1 Q I1 q1
 | false=>exact⟨.bl false,H1,I1,rfl,q1⟩
def EM(ha:PE X a ta)(hb:PE X (.BoolOp .Or (b::rest) pos) tb):PE X (.BoolOp .Or (a::b::rest) pos) (FT ta tb):=by
 intro pins s σ H Q I h;refine BoolOp_or (thn (ha pins s σ H _ I h) fun v s1 ⟨x,H1,I1,r1,q1⟩=>?_);obtain⟨c,rfl,q1⟩:=q1;cases r1;refine wpAny_truthy_bool ?_
 cases c with
 | false=>exact hb pins s1 σ H1 Q I1 q1
 | true=>exact⟨.bl true,H1,I1,rfl,q1⟩
abbrev tIf(t:TT)(ta tb:TE):TE:=fun σ H Q=>t σ H fun c H1=>if c=true then ta σ H1 Q else tb σ H1 Q
def xB(hc:PT X c tA)(ha:PE X a ta)(hb:PE X b tb):PE X (.IfExp c a b pos) (tIf tA ta tb):=by
 intro pins s σ H Q I h;refine wpAny_IfExp (thn (hc pins s σ H _ I h) fun d s1 ⟨H1,I1,q1⟩=>?_)
 cases d with
 | true=>exact ha pins s1 σ H1 Q I1 q1
 | false=>exact hb pins s1 σ H1 Q I1 q1
end
abbrev SqL(K:PySem.W.Frag)(H:Hp)(a:Addr)(xs:List V):Prop :=
 Rd H a (.lst xs) \/
  ∃ (o:Obj) (its:Array Value) (n:Nat),K.lookup a=some o/\o.cls=.type "list" /\ o.dict=none/\o.data=.seq its n/\its.size<=sizeLine/\Vals xs its.toList
abbrev SqT(K:PySem.W.Frag)(H:Hp)(a:Addr)(xs:List V):Prop :=
 Rd H a (.tup xs) \/
  ∃ (o:Obj) (its:Array Value) (n:Nat),K.lookup a=some o/\o.cls=.type "tuple" /\ o.data=.seq its n/\its.size<=sizeLine/\Vals xs its.toList
abbrev GA:Value->Option V
 | .none=>some .non
 | .bool b=>some (.bl b)
 | .int i _=>some (.int i)
 | .str x _=>some (.str x)
 | .bytes b _=>some (.byt b)
 | .float b _=>some (.flt b)
 | .ref a=>some (.ref a)
 | .type n=>some (.ty n)
 | _=>none
def RelV.abs(r:RelV x u):GA u=some x:=by
 cases x with
 | non=>cases r;rfl
 | bl _=>cases r;rfl
 | int _=>obtain⟨t,rfl⟩:=r;rfl
 | str _=>obtain⟨t,rfl⟩:=r;rfl
 | byt _=>obtain⟨t,rfl⟩:=r;rfl
 | flt _=>obtain⟨t,rfl⟩:=r;rfl
 | ref _=>cases r;rfl
 | ty _=>cases r;rfl
def RelV.inj(r:RelV x u)(q:RelV y u):x=y:=Option.some.inj (r.abs.symm.trans q.abs)
def Vals.inj:∀ {xs ys:List V} {us:List Value},Vals xs us->Vals ys us->xs=ys
 | _,_,_,.nil,.nil=>rfl
 | _,_,_,.cons r t,.cons r' t'=>by rw[r.inj r',Vals.inj t t']
section
variable{X:Cx}{pins:List (Addr × Obj)}{σ:St}{H:Hp}{s:Shared}{a:Addr}{xs ys:List V}
def SqL.of{K:PySem.W.Frag}(h:H a=some (.lst xs)):SqL K H a xs:=.inl (.inl h)
def SqT.of{K:PySem.W.Frag}(h:H a=some (.tup xs)):SqT K H a xs:=.inl (.inl h)
def Inv.list(I:Inv X pins σ H s)(h:SqL X.K H a xs):∃ its:List Value,Vals xs its/\PlainL s.heap a its.toArray/\xs.length<=sizeLine:=by
 rcases h with h | ⟨o,its,n,hk,hc,hd,hs,hz,r⟩
 ·obtain⟨z,its,n,r,e⟩:=h.ok I.hok;exact⟨its,r,⟨_,n,e,rfl,rfl,rfl⟩,z⟩
 ·refine⟨its.toList,r,⟨o,n,I.kIn a o hk,hc,hd,by simpa using hs⟩,?_⟩;have e:=r.length;simp only[Array.length_toList]at e;omega
def Inv.tuple(I:Inv X pins σ H s)(h:SqT X.K H a xs):∃ its:List Value,Vals xs its/\IsTup s.heap a its.toArray/\xs.length<=sizeLine:=by
 rcases h with h | ⟨o,its,n,hk,hc,hs,hz,r⟩
 ·obtain⟨z,its,r,p⟩:=h.ok I.hok;exact⟨its,r,p,z⟩
 ·refine⟨its.toList,r,⟨o,I.kIn a o hk,hc,n,by simpa using hs⟩,?_⟩;have e:=r.length;simp only[Array.length_toList]at e;omega
def Inv.yv(I:Inv X pins σ H s)(h:SqL X.K H a xs)(h':SqL X.K H a ys):xs=ys:=by
 obtain⟨its,r,⟨o,n,e,_,_,d⟩,_⟩:=I.list h;obtain⟨its',r',⟨o',n',e',_,_,d'⟩,_⟩:=I.list h';rw[e]at e';cases e';rw[d]at d';injection d' with d1 _
 have:its=its':=by simpa using congrArg Array.toList d1
 subst this;exact r.inj r'
def Inv.uQ(I:Inv X pins σ H s)(h:SqT X.K H a xs)(h':SqT X.K H a ys):xs=ys:=by
 obtain⟨its,r,⟨o,e,_,n,d⟩,_⟩:=I.tuple h;obtain⟨its',r',⟨o',e',_,n',d'⟩,_⟩:=I.tuple h';rw[e]at e';cases e';rw[d]at d';injection d' with d1 _
 have:its=its':=by simpa using congrArg Array.toList d1
 subst this;exact r.inj r'
end
@[reducible]noncomputable def Cx.dS(X:Cx)(E:Value->Shared->Prop):Cx:={ X with xe:=E }
@[reducible]noncomputable def Cx.nox(X:Cx):Cx:=X.dS fun _ _=>False
def Cx.Ok.dS{X:Cx}(ok:X.Ok)(E:Value->Shared->Prop):(X.dS E).Ok :=
 ⟨ok.mod,ok.kind,ok.glob,ok.blt,ok.above,ok.inj,ok.has,ok.cab,ok.hd,ok.frames,ok.stk,ok.exf,ok.bs,ok.bsz,ok.jc,ok.iS,ok.dA,ok.frf⟩
def Cx.Ok.cx{X:Cx}(ok:(X.dS E).Ok):X.Ok :=
 ⟨ok.mod,ok.kind,ok.glob,ok.blt,ok.above,ok.inj,ok.has,ok.cab,ok.hd,ok.frames,ok.stk,ok.exf,ok.bs,ok.bsz,ok.jc,ok.iS,ok.dA,ok.frf⟩
section
variable{X:Cx}{pins:List (Addr × Obj)}{σ:St}{H:Hp}{s:Shared}{E:Value->Shared->Prop}
def Inv.dS(I:Inv X pins σ H s)(E:Value->Shared->Prop):Inv (X.dS E) pins σ H s:=⟨I.ok.dS E,I.os,I.bare,I.base,I.loc,I.cell,I.free,I.c8,I.pin,I.hok,I.len⟩
def Inv.cx(I:Inv (X.dS E) pins σ H s):Inv X pins σ H s:=⟨I.ok.cx,I.os,I.bare,I.base,I.loc,I.cell,I.free,I.c8,I.pin,I.hok,I.len⟩
def SP.cx(h:SP (X.dS E) pins D f s'):SP X pins D f s':=by
 cases f with
 | next=>obtain⟨σ',H',I,q⟩:=h;exact⟨σ',H',I.cx,q⟩
 | brk=>obtain⟨σ',H',I,q⟩:=h;exact⟨σ',H',I.cx,q⟩
 | cont=>obtain⟨σ',H',I,q⟩:=h;exact⟨σ',H',I.cx,q⟩
 | ret u=>obtain⟨v,σ',H',I,r,q⟩:=h;exact⟨v,σ',H',I.cx,r,q⟩
def PE.nox(h:PE X.nox e t):PE X e t:=fun pins s σ H Q I hw =>
 wpAny_mono (h pins s σ H Q (I.dS _) hw) (fun _ _ ⟨v,H',I',r,q⟩=>⟨v,H',I'.cx,r,q⟩) fun _ _ z=>False.elim z
def PT.nox(h:PT X.nox e t):PT X e t:=fun pins s σ H Q I hw =>
 wpAny_mono (h pins s σ H Q (I.dS _) hw) (fun _ _ ⟨H',I',q⟩=>⟨H',I'.cx,q⟩) fun _ _ z=>False.elim z
def PSs.nox{st:List Stmt}(h:PSs X.nox st t):PSs X st t:=fun pins s σ H D I hw =>
 wpAny_mono (h pins s σ H D (I.dS _) hw) (fun _ _ q=>q.cx) fun _ _ z=>False.elim z
end
section
variable{X:Cx}{st:Stmt}{rest:List Stmt}{t u:TS}{e:Expr}{te:TE}{pos:Pos}
abbrev F3:TS:=fun D σ H=>D.nx σ H
abbrev Gu(t u:TS):TS:=fun D σ H=>t { D with nx:=u D } σ H
def AF:PSs X [] F3:=fun _ _ σ H _ I h=>wpAny_execs_nil ⟨σ,H,I,h⟩
def kU(h1:PS X st t)(h2:PSs X rest u):PSs X (st::rest) (Gu t u):=by
 intro pins s σ H D I h;refine wpAny_execs_cons (thn (h1 pins s σ H { D with nx:=u D } I h) fun f s1 q=>?_)
 cases f with
 |next=>
  obtain⟨σ',H',I',q⟩:=q;exact h2 pins s1 σ' H' D I' q
 | ret v=>exact q
 | brk=>exact q
 | cont=>exact q
def Inv.quiet(I:Inv X pins σ H s):interactive X.env=false:=by simp[interactive,I.ok.kind]
abbrev oG(te:TE):TS:=fun D σ H=>te σ H fun _ H1=>D.nx σ H1
def kq(he:PE X e te)(hs:swapsWith e none pos.line X.env=pure false:=by rfl):PS X (.Expr e pos) (oG te):=by
 intro pins s σ H D I h;exact wpAny_Expr_any (thn (he pins s σ H _ I h) fun v s1 ⟨x,H1,I1,r1,q1⟩=>⟨σ,H1,I1,q1⟩) I.quiet hs
abbrev Gp(te:TE):TS:=fun D σ H=>te σ H D.rt
def qI(he:PE X e te):PS X (.Return (some e) pos) (Gp te):=by
 intro pins s σ H D I h;exact wpAny_Return_some (thn (he pins s σ H _ I h) fun v s1 ⟨x,H1,I1,r1,q1⟩=>⟨x,σ,H1,I1,r1,q1⟩)
abbrev G5(c:TT)(t u:TS):TS:=fun D σ H=>c σ H fun b H1=>if b=true then t D σ H1 else u D σ H1
def uE(hc:PT X c tc)(ha:PSs X a t)(hb:PSs X b u):PS X (.If c a b pos) (G5 tc t u):=by
 intro pins s σ H D I h;refine wpAny_If (thn (hc pins s σ H _ I h) fun d s1 ⟨H1,I1,q1⟩=>?_)
 cases d with
 | true=>exact ha pins s1 σ H1 D I1 q1
 | false=>exact hb pins s1 σ H1 D I1 q1
end
@[reducible]noncomputable def TG:=V->St->Hp->(St->Hp->Prop)->Prop
@[reducible]noncomputable def TGs:=List V->St->Hp->(St->Hp->Prop)->Prop
abbrev PG(X:Cx)(target:Expr)(t:TG):Prop :=
 ∀ (pins:List (Addr × Obj)) (s:Shared) (σ:St) (H:Hp) (v:V) (u:Value) (Q:St->Hp->Prop),Inv X pins σ H s->RelV v u->t v σ H Q ->
  wpAny (model X.prog X.w) X.A (assign target X.env u) (fun _ s'=>∃ σ' H',Inv X pins σ' H' s'/\Q σ' H') X.xe s
abbrev PGs(X:Cx)(ts:List Expr)(t:TGs):Prop :=
 ∀ (pins:List (Addr × Obj)) (s:Shared) (σ:St) (H:Hp) (vs:List V) (us:List Value) (Q:St->Hp->Prop),Inv X pins σ H s->Vals vs us->t vs σ H Q ->
  wpAny (model X.prog X.w) X.A (assignInOrder ((assignEach ts X.env).map (·.2)) us) (fun _ s'=>∃ σ' H',Inv X pins σ' H' s'/\Q σ' H') X.xe s
@[reducible]noncomputable def Cm:=V->V->V->Hp->(Hp->Prop)->Prop
abbrev Cz(X:Cx)(t:Cm):Prop :=
 ∀ (pins:List (Addr × Obj)) (s:Shared) (σ:St) (H:Hp) (o i v:V) (ov iv u:Value) (Q:Hp->Prop),Inv X pins σ H s->RelV o ov->RelV i iv->RelV v u->t o i v H Q ->
  wpAny (model X.prog X.w) X.A (setItem ov iv u) (fun _ s'=>∃ H',Inv X pins σ H' s'/\Q H') X.xe s
@[reducible]noncomputable def TIp:=V->V->Hp->VK->Prop
abbrev PIp(X:Cx)(op:Operator)(t:TIp):Prop :=
 ∀ (pins:List (Addr × Obj)) (s:Shared) (σ:St) (H:Hp) (x y:V) (v u:Value) (Q:VK),Inv X pins σ H s->RelV x v->RelV y u->t x y H Q ->
  wpAny (model X.prog X.w) X.A (inplaceOp op v u) (EP X pins σ Q) X.xe s
section
variable{X:Cx}{pos:Pos}
abbrev ly(i:Nat):TG:=fun v σ H Q=>Q (σ.set i (some v)) H
def rV(hN:X.N.Nodup)(hi:X.N[i]?=some x)(hx:Loc X.env.scope x)(hf:X.fn x=true\/X.env.scope.names.lookup x=some .local:=by first | exact .inl rfl | exact .inr rfl | assumption):PG X (.Name x pos) (ly i):=by
 intro pins s σ H v u Q I r h;exact wpAny_assign_Name (fg I hN hi hx r (fun s' I'=>⟨_,H,I',h⟩) hf)
abbrev DK:TGs:=fun vs σ H Q=>vs=[]/\Q σ H
abbrev zM(t:TG)(u:TGs):TGs:=fun vs σ H Q=>∃ v r,vs=v::r/\t v σ H fun σ' H'=>u r σ' H' Q
def Bm:PGs X [] DK:=by
 intro pins s σ H vs us Q I r h;obtain⟨e,h⟩:=h;subst e;cases r;exact assignInOrder_nil ⟨σ,H,I,h⟩
def yk(h1:PG X e t)(h2:PGs X es u)
 (hs:(assignEach (e::es) X.env).map (·.2)=assign e X.env::(assignEach es X.env).map (·.2):=by rfl):PGs X (e::es) (zM t u):=by
 intro pins s σ H vs us Q I r h;obtain⟨v,vr,e1,h⟩:=h;subst e1
 cases r with
 |cons r rr=>
  rw[hs];refine assignInOrder_cons (thn (h1 pins s σ H _ _ _ I r h) fun _ s1 ⟨σ1,H1,I1,q1⟩=>?_);exact h2 pins s1 σ1 H1 _ _ Q I1 rr q1
abbrev me(K:PySem.W.Frag)(n:Nat)(t:TGs):TG:=fun v σ H Q=>∃ a xs,v=.ref a/\SqT K H a xs/\xs.length=n/\t xs σ H Q
abbrev yL(to ti:TE)(t:Cm):TG:=fun v σ H Q=>to σ H fun o H1=>ti σ H1 fun i H2=>t o i v H2 fun H3=>Q σ H3
def C6(ho:PE X o to)(hi:PE X i ti)(hs:Cz X t)
 (ha:∀ v,assign (.Subscript o i pos) X.env v=(do
   let ov <- holding [v] (eval o X.env)
   let iv <- holding [v,ov] (eval i X.env)
   standAt pos
   holding [v,ov,iv] (setItem ov iv v)
   release [v,ov,iv] []):=by intro _;rfl):PG X (.Subscript o i pos) (yL to ti t):=by
 intro pins s σ H v u Q I r h;rw[ha];refine wpAny_bind (wpAny_holding (thn (ho pins s σ H _ I h) fun ov s1 ⟨x,H1,I1,r1,q1⟩=>?_));refine wpAny_bind (wpAny_holding (thn (hi pins s1 σ H1 _ I1 q1) fun iv s2 ⟨y,H2,I2,r2,q2⟩=>?_));refine wpAny_bind (wpAny_standAt (wpAny_bind (wpAny_holding (thn (hs pins s2 σ H2 x y v ov iv u _ I2 r1 r2 r q2) fun _ s3 ⟨H3,I3,q3⟩=>?_))));exact wpAny_release ⟨σ,H3,I3,q3⟩
abbrev mT(te:TE)(g:TG):TS:=fun D σ H=>te σ H fun x H1=>g x σ H1 D.nx
def qP(he:PE X e te)(hg:PG X tg g)(hs:swapsWithSole [tg] e pos.line X.env=pure false:=by rfl)(hw:swappedStores [tg] e X.env=pure none:=by rfl)
 (h1:(assignEach [tg] X.env).map (·.2)=[assign tg X.env]:=by rfl):PS X (.Assign [tg] e pos) (mT te g):=by
 intro pins s σ H D I h;refine wpAny_Assign_stores (thn (he pins s σ H _ I h) fun v s1 ⟨x,H1,I1,r1,q1⟩=>?_) hs hw;rw[h1];exact thn (hg pins s1 σ H1 x v _ I1 r1 q1) fun _ s2 q=>q
def oR(hN:X.N.Nodup)(hi:X.N[i]?=some x)(hx:Loc X.env.scope x)(he:PE X e te)(hs:swapsWith e (some (.Name x pos')) pos.line X.env=pure false:=by rfl)(hf:X.fn x=true\/X.env.scope.names.lookup x=some .local:=by first | exact .inl rfl | exact .inr rfl | assumption) :
  PS X (.Assign [.Name x pos'] e pos) (mT te (ly i)):=by
 intro pins s σ H D I h;refine wpAny_Assign_Name (thn (he pins s σ H _ I h) fun v s1 ⟨y,H1,I1,r1,q1⟩=>?_) hs;exact fg I1 hN hi hx r1 (fun s2 I2=>⟨_,H1,I2,q1⟩) hf
abbrev C1(i j:Nat)(ta:TA):TS:=fun D σ H=>ta σ H fun vs H1=>∃ v w,vs=[v,w]/\D.nx ((σ.set i (some v)).set j (some w)) H1
def BG(hc:X.calm=true)(hN:X.N.Nodup)(hi:X.N[i]?=some x)(hj:X.N[j]?=some y)(hij:i≠j)
 (hx:X.env.scope.names.lookup x=some .local)(hy:X.env.scope.names.lookup y=some .local)(ha:PA X [a,b] ta)
 (hw:swappedStores [.Tuple [.Name x px,.Name y py] kt pt] (.Tuple [a,b] k2 pt2) X.env=pure (some [x,y]))
 (hs:swapsWithSole [.Tuple [.Name x px,.Name y py] kt pt] (.Tuple [a,b] k2 pt2) pos.line X.env=pure false:=by rfl) :
  PS X (.Assign [.Tuple [.Name x px,.Name y py] kt pt] (.Tuple [a,b] k2 pt2) pos) (C1 i j ta):=by
 intro pins s σ H D I h;rw[exec_Assign_arm];refine wpAny_bind (wpAny_standAt ?_);rw[hs];refine wpAny_bind (wpAny_pure ?_);rw[if_neg (by decide)];refine wpAny_bind (Tuple_ (thn (ha _ pins s σ H _ I h) fun us s1 ⟨vs,H1,I1,r1,q1⟩=>?_));obtain⟨v,w,e1,q1⟩:=q1;subst e1
 obtain⟨u1,u2,rfl,rv,rw'⟩:∃ u1 u2,us=[u1,u2]/\RelV v u1/\RelV w u2:=by
  cases r1 with
  |cons p q=>
   cases q with
   |cons p' q'=>
    cases q';exact⟨_,_,rfl,p,p'⟩
 refine wpAny_newObj_type ?_ (by show 2<=sizeLine;decide);have I2:Inv X pins σ H1 { s1 with heap:=s1.heap.push { cls:=.type "tuple",data:=.seq [u1,u2].toArray } }:=I1.kept (t':=s1.toks) fun b o e=>Heap.get?_push_of_some _ e;rw[hw];refine wpAny_bind (wpAny_pure ?_);show wpAny (model X.prog X.w) X.A (do rule "assign.swapped-stores";let items <- unpackItems (.ref s1.heap.objs.size) 2 none;assignInOrder [fun v=>bindName X.env y v,fun v=>bindName X.env x v] items.reverse;pure Flow.next) _ _ _;refine wpAny_bind (wpAny_rule (wpAny_bind (unpackItems_tuple (items:=#[u1,u2]) (I.ok.hd.1 hc) (IsTup.new s1.heap _) fun h' hx'=>?_)));have I3:=I2.kept (h':=h') (t':=s1.toks) fun b o e=>hx' b o (Nat.ne_of_lt (Heap.lt_size e)) e;show wpAny _ _ (assignInOrder [fun v=>bindName X.env y v,fun v=>bindName X.env x v] [u2,u1] >>= fun _=>pure Flow.next) _ _ _;refine wpAny_bind (assignInOrder_cons (wpAny_bindName (fg I3 hN hj (.inl hy) rw' (fun s2 I4=>?_) (.inr hy))));refine assignInOrder_cons (wpAny_bindName (fg I4 hN hi (.inl hx) rv (fun s3 I5=>assignInOrder_nil (wpAny_pure ?_)) (.inr hx)));rw[List.set_comm _ _ (Ne.symm hij)]at I5;exact⟨_,H1,I5,q1⟩
abbrev BZ(i:Nat)(te:TE)(ti:TIp):TS:=fun D σ H=>∃ x,σ[i]?=some (some x)/\te σ H fun y H1=>ti x y H1 fun z H2=>D.nx (σ.set i (some z)) H2
def vn(hN:X.N.Nodup)(hi:X.N[i]?=some x)(hx:Loc X.env.scope x)(he:PE X e te)(ho:PIp X op ti)(hf:X.fn x=true\/X.env.scope.names.lookup x=some .local:=by first | exact .inl rfl | exact .inr rfl | assumption) :
  PS X (.AugAssign (.Name x pos') op e pos) (BZ i te ti):=by
 intro pins s σ H D I h;obtain⟨v,e1,h⟩:=h;obtain⟨m,hn,hl⟩:=I.loc
 have vis:Vis X.env.scope x:=by rcases hx with k | k;exact .inl k;exact .inr (.inl k)
 obtain⟨u,r,l⟩:=hl i x v hi e1 vis;refine wpAny_AugAssign_Name ?_
 have go:wpAny (model X.prog X.w) X.A (eval e X.env) (fun w s₂=>wpAny (model X.prog X.w) X.A (inplaceOp op u w) (fun r s₃=>wpAny (model X.prog X.w) X.A (storeName X.env x r) (fun _=>SP X pins D .next) X.xe s₃) X.xe s₂) X.xe s:=by
  refine thn (he pins s σ H _ I h) fun w s1 ⟨y,H1,I1,r1,q1⟩=>?_;refine thn (ho pins s1 σ H1 v y u w _ I1 r r1 q1) fun z s2 ⟨zv,H2,I2,r2,q2⟩=>?_;exact fg I2 hN hi hx r2 (fun s3 I3=>⟨_,H2,I3,q2⟩) hf
 rcases l with⟨hk,hm⟩ | ⟨hk,c,hc,hcell⟩
 ·exact wpAny_loadName_local I.ok.kind hk hn hm go
 ·rcases hk with hk | hk
  ·exact wpAny_loadName_cell I.ok.kind hk hc hcell go
  ·rcases hx with k | k
   ·have:X.env.scope.names.lookup x=some .free:=hk;rw[k]at this;cases this
   ·have:X.env.scope.names.lookup x=some .free:=hk;rw[k]at this;cases this
abbrev ipI(f:Int->Int->Int):TIp:=fun x y H Q=>∃ i j,x=.int i/\y=.int j/\Q (.int (f i j)) H
def DA:PIp X .Add (ipI fun i j=>i+j):=by
 intro pins s σ H x y v u Q I r1 r2 h;obtain⟨i,j,e1,e2,q⟩:=h;subst e1;subst e2;obtain⟨t,rfl⟩:=r1;obtain⟨t',rfl⟩:=r2;exact iadd_int ⟨.int _,H,I.tok _,⟨_,rfl⟩,q⟩
def CI:PIp X .Sub (ipI fun i j=>i-j):=by
 intro pins s σ H x y v u Q I r1 r2 h;obtain⟨i,j,e1,e2,q⟩:=h;subst e1;subst e2;obtain⟨t,rfl⟩:=r1;obtain⟨t',rfl⟩:=r2;exact isub_int ⟨.int _,H,I.tok _,⟨_,rfl⟩,q⟩
end
section
variable{X:Cx}{pos:Pos}
end
structure It where
 go:Nat->Hp->Prop
 yld:Nat->Hp->V->Hp->Prop
 stop:Nat->Hp->Prop
abbrev iR(X:Cx)(pins:List (Addr × Obj))(H:Hp)(b:Addr):Prop :=
 H b=none/\b≠X.env.locals/\b∉X.fs/\(b∈X.ex\/X.s₀.heap.objs.size<=b)/\(∀ x c,X.env.cells.lookup x=some c->c≠b)/\∀ p∈X.pn++pins,p.1≠b
def Inv.kN(I:Inv X pins σ H s)(hb:s.heap.objs.size<=b)(hn:H' b=none):iR X pins H' b:=by
 refine⟨hn,Nat.ne_of_gt (Nat.lt_of_lt_of_le I.lt hb),I.FJ hb,.inr (Nat.le_trans I.sz hb),fun x c e z=>?_,fun p hp z=>?_⟩
 ·obtain⟨v,q⟩:=I.cell x c e;exact absurd (Nat.lt_of_lt_of_le q.lt (by rw[z];exact hb)) (Nat.lt_irrefl _)
 ·exact absurd (Nat.lt_of_lt_of_le (Heap.lt_size (I.pin p hp).1) (by rw[z];exact hb)) (Nat.lt_irrefl _)
structure lV(CM:Cx->Prop)(P:Program)(w:World)(K:PySem.W.Frag)(tg:Expr)(J:It)(fp:List Addr)(it:Addr)(tn:Nat->Heap->Prop):Prop where
 mem:it∈fp
 obj:∀ i h,tn i h->∀ b∈fp,∃ o,h.get? b=some o/\∀ v,o.data≠.cell v
 keep:∀ i h h',tn i h->(∀ b∈fp,∀ o,h.get? b=some o->h'.get? b=some o)->tn i h'
 item:∀ (X:Cx),X.prog=P->X.w=w->X.K=K->CM X->∀ (i:Nat) (pins:List (Addr × Obj)) (s:Shared) (σ:St) (H:Hp) (E:Value->Shared->Prop),Inv X pins σ H s->(∀ b∈fp,iR X pins H b)->tn i s.heap->J.go i H ->
  wpAny (model P w) X.A (pyNext (.ref it)) (fun r s1=>∃ u,r=some u /\
   wpAny (model P w) X.A (letOwnedTupleGo tg (.ref it) u) (fun _ s2=>∃ x H',Inv X pins σ H' s2/\RelV x u/\J.yld i H x H'/\tn (i+1) s2.heap/\∀ b∈fp,H' b=none) E s1) E s
 done:∀ (X:Cx),X.prog=P->X.w=w->X.K=K->CM X->∀ (i:Nat) (pins:List (Addr × Obj)) (s:Shared) (σ:St) (H:Hp) (E:Value->Shared->Prop),Inv X pins σ H s->(∀ b∈fp,iR X pins H b)->tn i s.heap->J.stop i H ->
  wpAny (model P w) X.A (pyNext (.ref it)) (fun r s1=>r=none/\Inv X pins σ H s1) E s
 self:∀ (A:Around) (i:Nat) (s:Shared) (Q:Value->Shared->Prop) (E:Value->Shared->Prop),tn i s.heap->Q (.ref it) s->wpAny (model P w) A (pyIter (.ref it)) Q E s
@[reducible]noncomputable def Calm:Cx->Prop:=fun X=>X.calm=true
@[reducible]noncomputable def Turn:=lV Calm
@[reducible]noncomputable def TI:=St->Hp->(It->Hp->Prop)->Prop
abbrev BN(CM:Cx->Prop)(X:Cx)(pins:List (Addr × Obj))(σ:St)(tg:Expr)(R:It->Hp->Prop)(itv:Value)(s2:Shared):Prop :=
 ∃ (it:Addr) (fp:List Addr) (tn:Nat->Heap->Prop) (J:It) (H':Hp),itv=.ref it/\Inv X pins σ H' s2/\lV CM X.prog X.w X.K tg J fp it tn/\tn 0 s2.heap/\(∀ b∈fp,iR X pins H' b)/\R J H'
@[reducible]noncomputable def PIE:=BN Calm
abbrev PI'(CM:Cx->Prop)(X:Cx)(tg iter:Expr)(wi:TI):Prop :=
 ∀ (pins:List (Addr × Obj)) (s:Shared) (σ:St) (H:Hp) (R:It->Hp->Prop),Inv X pins σ H s->wi σ H R ->
  wpAny (model X.prog X.w) X.A (eval iter X.env) (fun v s1=>wpAny (model X.prog X.w) X.A (pyIter v) (BN CM X pins σ tg R) X.xe s1) X.xe s
@[reducible]noncomputable def PI:=PI' Calm
def lT(ho:s.heap.get? it=some o)(hc:o.cls=.type n)(hd:o.data=.fields vs)
 (hn:["enumerate", "zip", "dict_itemiterator", "dict_reverseitemiterator", "odict_iterator", "itertools.zip_longest", "itertools.pairwise"].contains n=false)(hQ:Q () s):wpAny M A (letOwnedTupleGo tg (.ref it) u) Q E s:=by
 unfold letOwnedTupleGo
 cases tg<;>first
  | exact wpAny_pure hQ
  | (cases u<;>first
    | exact wpAny_pure hQ
    | (refine wpAny_bind (wpAny_load ho ?_)
       rw[hc,hd];show wpAny M A (if(["enumerate", "zip", "dict_itemiterator", "dict_reverseitemiterator", "odict_iterator", "itertools.zip_longest", "itertools.pairwise"].contains n&&vs[0]? == some (rawInt _))=true then _ else _) Q E s;rw[if_neg (by intro h;rw[hn,Bool.false_and]at h;cases h)]
       exact wpAny_pure hQ))
abbrev Itl(K:PySem.W.Frag)(a:Addr):It :=
 ⟨fun i H=>∃ xs x,SqL K H a xs/\xs[i]?=some x,fun i H x H'=>H'=H/\∀ xs,SqL K H a xs->xs[i]?=some x,fun i H=>∃ xs,SqL K H a xs/\xs.length<=i⟩
abbrev Itt(K:PySem.W.Frag)(a:Addr):It :=
 ⟨fun i H=>∃ xs x,SqT K H a xs/\xs[i]?=some x,fun i H x H'=>H'=H/\∀ xs,SqT K H a xs->xs[i]?=some x,fun i H=>∃ xs,SqT K H a xs/\xs.length<=i⟩
abbrev Itr(lo:Int)(n:Nat):It:=⟨fun i _=>i<n,fun i H x H'=>H'=H/\x=.int (lo+i),fun i _=>n<=i⟩
def vC{P:Program}{w:World}{K:PySem.W.Frag}(a it:Addr):Turn P w K tg (Itl K a) [it] it (fun i h=>h.IsListIter it a i) where
 mem:=by simp
 obj:=fun i h st b hb=>by
  have e:b=it:=by simpa using hb
  subst e;obtain⟨o,e,c,d⟩:=st;exact⟨o,e,fun v z=>by rw[d]at z;cases z⟩
 keep:=fun i h h' st k=>st.at fun o e=>k it (by simp) o e
 item:=by
  intro X hP hw hK hc i pins s σ H E I hf st hg;subst hP hw hK;obtain⟨xs,x,hq,hx⟩:=hg;obtain⟨its,rv,p,hz⟩:=I.list hq;obtain⟨u,hu,ru⟩:=rv.get hx;obtain⟨f0,f1,f2,f3,f4,f5⟩:=hf it (by simp);refine wpAny_pyNext_list_item st p.isList (x:=u) (by simpa using hu) fun h' st' sb=>?_;have I1:Inv X pins σ H { s with heap:=h' }:=I.turned (t':=s.toks) (fun b o hb e=>(sb.2 b hb).trans e) f0 f1 f3 f4 f5;obtain⟨o,e,c,d⟩:=id st';exact⟨u,rfl,lT (s:={ s with heap:=h' }) e c d (by decide) ⟨x,H,I1,ru,⟨rfl,fun ys hy=>by rw[I.yv hy hq];exact hx⟩,st',fun b hb=>(hf b hb).1⟩⟩
 done:=by
  intro X hP hw hK hc i pins s σ H E I hf st hg;subst hP hw hK;obtain⟨xs,hq,hx⟩:=hg;obtain⟨its,rv,p,hz⟩:=I.list hq;obtain⟨f0,f1,f2,f3,f4,f5⟩:=hf it (by simp);have hl:=rv.length
  exact wpAny_pyNext_list_end (I.ok.hd.1 hc) st p.isList (by simp;omega) fun h' eb=>⟨rfl,I.turned (t':=s.toks) (fun b o hb e=>eb b o hb e) f0 f1 f3 f4 f5⟩
 self:=fun _ _ _ _ _ st h=>wpAny_pyIter_listiter st h
def tZ{P:Program}{w:World}{K:PySem.W.Frag}(a it:Addr):Turn P w K tg (Itt K a) [it] it (fun i h=>h.IsTupleIter it a i) where
 mem:=by simp
 obj:=fun i h st b hb=>by
  have e:b=it:=by simpa using hb
  subst e;obtain⟨o,e,c,d⟩:=st;exact⟨o,e,fun v z=>by rw[d]at z;cases z⟩
 keep:=fun i h h' st k=>st.at fun o e=>k it (by simp) o e
 item:=by
  intro X hP hw hK hc i pins s σ H E I hf st hg;subst hP hw hK;obtain⟨xs,x,hq,hx⟩:=hg;obtain⟨its,rv,p,hz⟩:=I.tuple hq;obtain⟨u,hu,ru⟩:=rv.get hx;obtain⟨f0,f1,f2,f3,f4,f5⟩:=hf it (by simp);refine wpAny_pyNext_tuple_item st (show s.heap.IsTuple a its.toArray from p) (x:=u) (by simpa using hu) fun h' st' sb=>?_;have I1:Inv X pins σ H { s with heap:=h' }:=I.turned (t':=s.toks) (fun b o hb e=>(sb.2 b hb).trans e) f0 f1 f3 f4 f5;obtain⟨o,e,c,d⟩:=id st';exact⟨u,rfl,lT (s:={ s with heap:=h' }) e c d (by decide) ⟨x,H,I1,ru,⟨rfl,fun ys hy=>by rw[I.uQ hy hq];exact hx⟩,st',fun b hb=>(hf b hb).1⟩⟩
 done:=by
  intro X hP hw hK hc i pins s σ H E I hf st hg;subst hP hw hK;obtain⟨xs,hq,hx⟩:=hg;obtain⟨its,rv,p,hz⟩:=I.tuple hq;obtain⟨f0,f1,f2,f3,f4,f5⟩:=hf it (by simp);have hl:=rv.length
  exact wpAny_pyNext_tuple_end (I.ok.hd.1 hc) st (show s.heap.IsTuple a its.toArray from p) (by simp;omega) fun h' eb=>⟨rfl,I.turned (t':=s.toks) (fun b o hb e=>eb b o hb e) f0 f1 f3 f4 f5⟩
 self:=fun _ _ _ _ _ st h=>wpAny_pyIter_tupleiter st h
def uz{P:Program}{w:World}{K:PySem.W.Frag}(it:Addr)(lo:Int)(n:Nat):Turn P w K tg (Itr lo n) [it] it (fun i h=>IsRangeIter h it (lo+(i:Nat)*1) ((n:Int)-(i:Nat)) 1) where
 mem:=by simp
 obj:=fun i h st b hb=>by
  have e:b=it:=by simpa using hb
  subst e
  exact⟨_,st,fun v z=>by
   have z':Data.fields _=Data.cell v:=z
   cases z'⟩
 keep:=fun i h h' st k=>k it (by simp) _ st
 item:=by
  intro X hP hw hK hc i pins s σ H E I hf st hg;subst hP hw hK;obtain⟨f0,f1,f2,f3,f4,f5⟩:=hf it (by simp);have W:=Walks.range (prog:=X.prog) (w:=X.w) (I.ok.hd.1 hc) it lo 1 n;refine W.item i s _ _ hg st fun v h' tk hv st' kk=>?_;obtain⟨t,rfl⟩:=hv;have I1:Inv X pins σ H { s with heap:=h',toks:=tk }:=I.turned (fun b o hb e=>kk b o (by simpa using hb) e) f0 f1 f3 f4 f5;refine⟨_,rfl,lT (s:={ s with heap:=h',toks:=tk }) (n := "range_iterator") st' rfl rfl (by decide) ⟨.int (lo+i),H,I1,⟨t,?_⟩,⟨rfl,rfl⟩,st',fun b hb=>(hf b hb).1⟩⟩;rw[Int.mul_one]
 done:=by
  intro X hP hw hK hc i pins s σ H E I hf st hg;subst hP hw hK;obtain⟨f0,f1,f2,f3,f4,f5⟩:=hf it (by simp)
  exact wpAny_pyNext_range_end (I.ok.hd.1 hc) st (by have:n<=i:=hg;omega) fun h' eb=>⟨rfl,I.turned (t':=s.toks) (fun b o hb e=>eb b o hb e) f0 f1 f3 f4 f5⟩
 self:=fun _ _ _ _ _ st h=>wpAny_pyIter_rangeiter st h
section
variable{X:Cx}{tg:Expr}
def yW{pins:List (Addr × Obj)}{σ:St}{H:Hp}{s:Shared}{R:It->Hp->Prop}{E:Value->Shared->Prop}{lo hi:Int}{t u v:Tok}{tk:Nat}(I:Inv X pins σ H s)(h1:-(2 ^ 62)<=lo)(h2:lo<2 ^ 62)(h3:-(2 ^ 62)<=hi)(h4:hi<2 ^ 62)
 (q:R (Itr lo (hi-lo).toNat) H):wpAny (model X.prog X.w) X.A (pyIter (.ref s.heap.objs.size)) (PIE X pins σ tg R) E { s with heap:=s.heap.push { cls:=.type "range",data:=.fields #[.int lo t,.int hi u,.int 1 v] },toks:=tk }:=by
 refine wpAny_pyIter_range (IsRange.new ..) (small_one h1 h2 h3 h4) ?_;have I1:Inv X pins σ H { s with heap:=s.heap.push { cls:=.type "range",data:=.fields #[.int lo t,.int hi u,.int 1 v] },toks:=tk }:=I.kept fun b o e=>Heap.get?_push_of_some _ e
 refine⟨(s.heap.push { cls:=.type "range",data:=.fields #[.int lo t,.int hi u,.int 1 v] }).objs.size,[(s.heap.push { cls:=.type "range",data:=.fields #[.int lo t,.int hi u,.int 1 v] }).objs.size],_,_,H,rfl,
  I1.kept (t':=tk) fun b o e=>Heap.get?_push_of_some _ e,uz _ lo (hi-lo).toNat,?_,fun b hb=>?_,q⟩
 ·have e1:lo+((0:Nat):Int)*1=lo:=by simp
  have e2:(((hi-lo).toNat:Nat):Int)-((0:Nat):Int)=Builtin.Range.rangeSize lo hi 1:=by rw[rangeSize_one];split<;>omega
  show IsRangeIter _ _ (lo+((0:Nat):Int)*1) ((((hi-lo).toNat:Nat):Int)-((0:Nat):Int)) 1;rw[e1,e2];exact Heap.get?_push_size _ rfl
 ·have e:b=(s.heap.push { cls:=.type "range",data:=.fields #[.int lo t,.int hi u,.int 1 v] }).objs.size:=by simpa using hb
  subst e;exact I1.kN (Nat.le_refl _) (I1.hok.fresh (Nat.le_refl _))
abbrev Fb(ta:TA):TI:=fun σ H R=>ta σ H fun vs H1=>∃ j:Int,vs=[.int j]/\-(2 ^ 62)<=j/\j<2 ^ 62/\R (Itr 0 j.toNat) H1
def wq{a:Expr}{ta:TA}{p pos:Pos}(hg:Gl X "range")(hm:X.mg "range" = none)(ha:PA X [a] ta)(hs:starEach [a] X.env=[(false,eval a X.env)]:=by rfl):PI X tg (.Call (.Name "range" p) [a] [] pos) (Fb ta):=by
 intro pins s σ H R I h;refine Call_ (iE I hg hm boot_range (PyProof.Rows.callWith_type1 (thn (ha pos pins s σ H _ I h) fun us s1 ⟨vs,H1,I1,r1,q1⟩=>?_) hs rfl));obtain⟨j,e,q1,q2,q⟩:=q1;subst e
 cases r1 with
 |cons r rr=>
  cases rr;obtain⟨t,rfl⟩:=r;exact call_range_1 (yW I1 (by omega) (by omega) q1 q2 (by simpa using q))
abbrev G1(wi:TI)(g:TG)(tb:TS):TS:=fun D σ H=>wi σ H fun J H1=>∃ W:Nat->Nat->St->Hp->Prop,(∃ m,W 0 m σ H1)/\∀ i m σ H,W i m σ H ->
 (J.stop i H/\D.nx σ H)\/(J.go i H/\∃ N:St->Hp->Prop,(∀ σ' H',N σ' H'->∃ m',m'<m/\W (i+1) m' σ' H')/\∀ x H',J.yld i H x H'->g x σ H' fun σ2 H2=>tb { D with nx:=N,ct:=N,bk:=D.nx } σ2 H2)
abbrev j4(fp:List Addr)(h:Heap):List (Addr × Obj):=fp.filterMap fun b=>(h.get? b).map fun o=>(b,o)
def fW(hb:b∈fp)(e:h.get? b=some o):(b,o)∈j4 fp h:=List.mem_filterMap.mpr ⟨b,hb,by rw[e];rfl⟩
def xo(hp:p∈j4 fp h):p.1∈fp/\h.get? p.1=some p.2:=by
 obtain⟨b,hb,e⟩:=List.mem_filterMap.mp hp
 cases q:h.get? b with
 | none=>rw[q]at e;cases e
 |some o=>
  rw[q]at e;have e':(b,o)=p:=Option.some.inj e;subst e';exact⟨hb,q⟩
def Inv.pinned(I:Inv X pins σ H s)(hf:∀ b∈fp,iR X pins H b)(ho:∀ b∈fp,∃ o,s.heap.get? b=some o/\∀ v,o.data≠.cell v):Inv X (pins++j4 fp s.heap) σ H s :=
 I.sj fun p hp=>(List.mem_append.mp hp).elim (fun z=>I.pin p (List.mem_append_right _ z)) fun z=>by
  obtain⟨hb,e⟩:=xo z;obtain⟨f0,f1,f2,_⟩:=hf p.1 hb;obtain⟨o,e',d⟩:=ho p.1 hb;rw[e]at e';cases e';exact⟨e,f0,f1,f2,d⟩
def Inv.iP(I:Inv X (pins++pl) σ H s):Inv X pins σ H s:=I.sj fun p hp=>I.pin p (List.mem_append_right _ (List.mem_append_left _ hp))
def vX(hp:PassesOwn (model X.prog X.w) X.A X.env X.xe)(hc:X.calm=true)(hi:PI X tg iter wi)(hg:PG X tg g)(hb:PSs X body tb)
 (hs:∀ x,foldedSetIterable iter X.env x=pure x:=by intro _;rfl):PS X (.For tg iter body [] pos) (G1 wi g tb):=by
 intro pins s σ H D I h;refine wpAny_For (thn (hi pins s σ H _ I h) fun v s1 h1=>thn h1 fun itv s2 h2=>?_) hs;obtain⟨it,fp,tn,J,H2,e,I2,T,st2,f2,W,⟨m0,w0⟩,turn⟩:=h2;subst e
 have stat:∀ {H':Hp},(∀ b∈fp,H' b=none)->∀ b∈fp,iR X pins H' b:=fun hn b hb=>⟨hn b hb,(f2 b hb).2⟩
 refine codeAny_forLoop_any (fun n s'=>∃ i σ' H',Inv X pins σ' H' s'/\tn i s'.heap/\(∀ b∈fp,H' b=none)/\W i n σ' H') ?_ m0 ⟨0,σ,H2,I2,st2,fun b hb=>(f2 b hb).1,w0⟩;rintro n s3 ⟨i,σ3,H3,I3,st3,fr3,w3⟩
 rcases turn i n σ3 H3 w3 with⟨stop,qn⟩ | ⟨go,N,hN,step⟩
 ·refine wpAny_passesOwn hp (thn (T.done X rfl rfl rfl hc i pins s3 σ3 H3 X.xe I3 (stat fr3) st3 stop) fun r s4 ⟨hr,I4⟩=>?_);subst hr;exact wpAny_execs_nil ⟨σ3,H3,I4,qn⟩
 ·refine wpAny_passesOwn hp (thn (T.item X rfl rfl rfl hc i pins s3 σ3 H3 X.xe I3 (stat fr3) st3 go) fun r s4 ⟨u,hr,h4⟩=>?_);subst hr;refine wpAny_passesOwn hp (thn h4 fun _ s5 ⟨x,H5,I5,r5,y5,st5,fr5⟩=>?_);have I5':=I5.pinned (stat fr5) (T.obj _ _ st5);refine wpAny_passesOwn hp (thn (hg _ s5 σ3 H5 x u _ I5' r5 (step x H5 y5)) fun _ s6 ⟨σ6,H6,I6,q6⟩=>?_);refine wpAny_passesOwn hp (thn (hb _ s6 σ6 H6 _ I6 q6) fun f s7 q7=>?_)
  have again:∀ {σ7:St} {H7:Hp},Inv X (pins++j4 fp s5.heap) σ7 H7 s7->N σ7 H7->∃ m,m<n/\∃ i σ' H',Inv X pins σ' H' s7/\tn i s7.heap/\(∀ b∈fp,H' b=none)/\W i m σ' H':=fun {σ7 H7} I7 n7=>by
   obtain⟨m',hm,w7⟩:=hN σ7 H7 n7;refine⟨m',hm,i+1,σ7,H7,I7.iP,T.keep _ _ _ st5 fun b hb o e=>(I7.pin (b,o) (List.mem_append_right _ (List.mem_append_right _ (fW hb e)))).1,fun b hb=>?_,w7⟩;obtain⟨o,e,d⟩:=T.obj _ _ st5 b hb;exact(I7.pin (b,o) (List.mem_append_right _ (List.mem_append_right _ (fW hb e)))).2.1
  cases f with
  | next=>obtain⟨σ7,H7,I7,n7⟩:=q7;exact again I7 n7
  | cont=>obtain⟨σ7,H7,I7,n7⟩:=q7;exact again I7 n7
  | brk=>obtain⟨σ7,H7,I7,q7⟩:=q7;exact⟨σ7,H7,I7.iP,q7⟩
  | ret v=>obtain⟨x7,σ7,H7,I7,r7,q7⟩:=q7;exact⟨x7,σ7,H7,I7.iP,r7,q7⟩
end
@[reducible]noncomputable def R2:=V->V->Hp->VK->Prop
abbrev OpR(X:Cx)(f:Value->Value->Sem Value)(r:R2):Prop :=
 ∀ (pins:List (Addr × Obj)) (s:Shared) (σ:St) (H:Hp) (x y:V) (v u:Value) (Q:VK),Inv X pins σ H s->RelV x v->RelV y u->r x y H Q ->
  wpAny (model X.prog X.w) X.A (f v u) (EP X pins σ Q) X.xe s
abbrev UnR(X:Cx)(f:Value->Sem Value)(r:V->Hp->VK->Prop):Prop :=
 ∀ (pins:List (Addr × Obj)) (s:Shared) (σ:St) (H:Hp) (x:V) (v:Value) (Q:VK),Inv X pins σ H s->RelV x v->r x H Q ->
  wpAny (model X.prog X.w) X.A (f v) (EP X pins σ Q) X.xe s
abbrev bx(X:Cx)(f:Value)(r:List V->Hp->VK->Prop):Prop :=
 ∀ (pins:List (Addr × Obj)) (s:Shared) (σ:St) (H:Hp) (xs:List V) (us:List Value) (Q:VK),Inv X pins σ H s->Vals xs us->r xs H Q ->
  wpAny (model X.prog X.w) X.A (call f us) (EP X pins σ Q) X.xe s
abbrev Gb(X:Cx)(r:V->Hp->(Bool->Hp->Prop)->Prop):Prop :=
 ∀ (pins:List (Addr × Obj)) (s:Shared) (σ:St) (H:Hp) (x:V) (v:Value) (Q:Bool->Hp->Prop),Inv X pins σ H s->RelV x v->r x H Q ->
  wpAny (model X.prog X.w) X.A (truthy v) (TP X pins σ Q) X.xe s
abbrev tOp(r:R2)(ta tb:TE):TE:=fun σ H Q=>ta σ H fun x H1=>tb σ H1 fun y H2=>r x y H2 Q
abbrev tUn(r:V->Hp->VK->Prop)(ta:TE):TE:=fun σ H Q=>ta σ H fun x H1=>r x H1 Q
abbrev rI(C:Int->Int->Prop)(g:Int->Int->V):R2:=fun x y H Q=>∃ i j,x=.int i/\y=.int j/\C i j/\Q (g i j) H
abbrev rI0(g:Int->Int->V):R2:=fun x y H Q=>∃ i j,x=.int i/\y=.int j/\Q (g i j) H
abbrev rU(g:Int->V):V->Hp->VK->Prop:=fun x H Q=>∃ i,x=.int i/\Q (g i) H
section
variable{X:Cx}{a b c:Expr}{ta tb tc:TE}{pos:Pos}
def zd(ha:PE X a ta)(hb:PE X b tb){pins:List (Addr × Obj)}{s:Shared}{σ:St}{H:Hp}{R:V->V->Hp->Prop}(I:Inv X pins σ H s)
 (h:ta σ H fun x H1=>tb σ H1 fun y H2=>R x y H2){Q:Value->Shared->Prop}{f:Value->Value->Sem Value}
 (hf:∀ v u s2 x y H2,Inv X pins σ H2 s2->RelV x v->RelV y u->R x y H2->wpAny (model X.prog X.w) X.A (f v u) Q X.xe s2) :
  wpAny (model X.prog X.w) X.A (eval a X.env) (fun v s₁=>wpAny (model X.prog X.w) X.A (eval b X.env) (fun u s₂=>wpAny (model X.prog X.w) X.A (f v u) Q X.xe s₂) X.xe s₁) X.xe s:=by
 refine thn (ha pins s σ H _ I h) fun v s1 ⟨x,H1,I1,r1,q1⟩=>?_;refine thn (hb pins s1 σ H1 _ I1 q1) fun u s2 ⟨y,H2,I2,r2,q2⟩=>?_;exact hf v u s2 x y H2 I2 r1 r2 q2
def zo{op:Operator}{r:R2}(ho:OpR X (binaryOp op) r)(ha:PE X a ta)(hb:PE X b tb):PE X (.BinOp a op b pos) (tOp r ta tb):=by
 intro pins s σ H Q I h;exact wpAny_BinOp (zd ha hb I h fun v u s2 x y H2 I2 rx ry q=>ho pins s2 σ H2 x y v u Q I2 rx ry q)
def zK(ho:UnR X (unaryOp op) r)(ha:PE X a ta):PE X (.UnaryOp op a pos) (tUn r ta):=by
 intro pins s σ H Q I h;exact UnaryOp_ (thn (ha pins s σ H _ I h) fun v s1 ⟨x,H1,I1,r1,q1⟩=>ho pins s1 σ H1 x v Q I1 r1 q1)
def opI{f:Value->Value->Sem Value}{C:Int->Int->Prop}{g:Int->Int->Int}
 (rule:∀ (i j:Int) (t u:Tok) (s:Shared) (Q:Value->Shared->Prop) (E:Value->Shared->Prop),C i j->Q (.int (g i j) s.toks) { s with toks:=s.toks+1 }->wpAny (model X.prog X.w) X.A (f (.int i t) (.int j u)) Q E s) :
  OpR X f (rI C fun i j=>.int (g i j)):=by
 intro pins s σ H x y v u Q I rx ry h;obtain⟨i,j,rfl,rfl,hc,q⟩:=h;obtain⟨t,rfl⟩:=rx;obtain⟨t',rfl⟩:=ry;exact rule i j t t' s _ _ hc ⟨.int (g i j),H,I.tok _,⟨_,rfl⟩,q⟩
def DG{f:Value->Value->Sem Value}{g:Int->Int->Int}
 (rule:∀ (i j:Int) (t u:Tok) (s:Shared) (Q:Value->Shared->Prop) (E:Value->Shared->Prop),Q (.int (g i j) s.toks) { s with toks:=s.toks+1 }->wpAny (model X.prog X.w) X.A (f (.int i t) (.int j u)) Q E s) :
  OpR X f (rI0 fun i j=>.int (g i j)):=by
 intro pins s σ H x y v u Q I rx ry h;obtain⟨i,j,rfl,rfl,q⟩:=h;obtain⟨t,rfl⟩:=rx;obtain⟨t',rfl⟩:=ry;exact rule i j t t' s _ _ ⟨.int (g i j),H,I.tok _,⟨_,rfl⟩,q⟩
abbrev B7(i j:Int):Prop:=0<=j/\j<=1000000/\i.natAbs<2 ^ 64
abbrev tX(i j:Int):Prop:=(-(2 ^ 64)<i/\i<2 ^ 64)\/(-(2 ^ 64)<j/\j<2 ^ 64)
def tX.ok(h:tX i j):IntMulOk i j:=by
 rcases h with⟨h1,h2⟩ | ⟨h1,h2⟩
 ·exact .of_left (intBits_le_64 h1 h2)
 ·exact .of_right (intBits_le_64 h1 h2)
def EH:OpR X (binaryOp .Add) (rI0 fun i j=>.int (i+j)):=DG fun _ _ _ _ _ _ _ q=>add_int q
def C3:OpR X (binaryOp .Sub) (rI0 fun i j=>.int (i-j)):=DG fun _ _ _ _ _ _ _ q=>sub_int q
def Dw:OpR X (binaryOp .Mult) (rI tX fun i j=>.int (i*j)):=opI fun _ _ _ _ _ _ _ hc q=>mul_int q hc.ok
def Ez:OpR X (binaryOp .Mod) (rI (fun _ j=>0<j) fun i j=>.int (i%j)):=opI fun i j _ _ _ _ _ hc q=>by
 have h1:(0:Int)<j:=hc;exact mod_int' (by omega) (by rw[Int.fmod_eq_emod_of_nonneg i (by omega)];exact q)
def B6:OpR X (binaryOp .Pow) (rI B7 fun i j=>.int (i ^ j.toNat)):=opI fun _ _ _ _ _ _ _ hc q=>pow_int_small hc.1 hc.2.1 hc.2.2 q
def unI{f:Value->Sem Value}{g:Int->Int}
 (rule:∀ (i:Int) (t:Tok) (s:Shared) (Q:Value->Shared->Prop) (E:Value->Shared->Prop),Q (.int (g i) s.toks) { s with toks:=s.toks+1 }->wpAny (model X.prog X.w) X.A (f (.int i t)) Q E s) :
  UnR X f (rU fun i=>.int (g i)):=by
 intro pins s σ H x v Q I rx h;obtain⟨i,rfl,q⟩:=h;obtain⟨t,rfl⟩:=rx;exact rule i t s _ _ ⟨.int (g i),H,I.tok _,⟨_,rfl⟩,q⟩
def vx:UnR X (unaryOp .USub) (rU fun i=>.int (-i)):=unI fun _ _ _ _ _ q=>neg_int q
end
abbrev FV:V->V->Bool
 | .non,.non=>true | .non,.int _=>true | .int _,.non=>true | .non,.bl _=>true | .bl _,.non=>true | .non,.str _=>true | .str _,.non=>true
 | .int _,.int _=>true | .bl _,.bl _=>true | .str _,.str _=>true | .byt _,.byt _=>true
 | .int _,.str _=>true | .str _,.int _=>true | .bl _,.str _=>true | .str _,.bl _=>true
 | _,_=>false
abbrev rNe:R2:=fun x y H Q=>FV x y=true/\Q (.bl (!decide (x=y))) H
def AS:decide (V.int i=V.int j)=(i == j):=by
 rw[Bool.eq_iff_iff];simp
def Eo:decide (V.bl i=V.bl j)=(i == j):=by
 rw[Bool.eq_iff_iff];simp
def A0:decide (V.str i=V.str j)=(i == j):=by
 rw[Bool.eq_iff_iff];simp
def zR:decide (V.byt i=V.byt j)=(i.toList == j.toList):=by
 rw[Bool.eq_iff_iff];cases i;cases j;simp
section
variable{X:Cx}{a b c:Expr}{ta tb tc:TE}{pos:Pos}
def bS(I:Inv X pins σ H s)(q:Q (.bl k) H)(e:k=k'):EP X pins σ Q (.bool k') s:=by
 subst e;exact⟨.bl k,H,I,rfl,q⟩
def F5:OpR X (compareOp .NotEq) rNe:=by
 intro pins s σ H x y v u Q I rx ry h;obtain⟨hs,q⟩:=h
 cases x with
 |non=>
  cases rx
  cases y with
  | non=>cases ry;exact PySem.EqNone.ne_none_none (bS I q (by simp))
  | bl j=>cases ry;exact PySem.EqNone.ne_none_bool (bS I q (by simp))
  | int j=>obtain⟨t',rfl⟩:=ry;exact PySem.EqNone.ne_none_int (bS I q (by simp))
  | str j=>obtain⟨t',rfl⟩:=ry;exact PySem.EqNone.ne_none_str (bS I q (by simp))
  | _=>exact absurd (show false=true from hs) Bool.false_ne_true
 |bl i=>
  cases rx
  cases y with
  | non=>cases ry;exact PySem.EqNone.ne_bool_none (bS I q (by simp))
  | bl j=>cases ry;exact ne_bool (bS I q (congrArg not Eo))
  | str j=>obtain⟨t',rfl⟩:=ry;exact PySem.EqMixed.ne_bool_str (bS I q (by simp))
  | _=>exact absurd (show false=true from hs) Bool.false_ne_true
 |int i=>
  obtain⟨t,rfl⟩:=rx
  cases y with
  | non=>cases ry;exact PySem.EqNone.ne_int_none (bS I q (by simp))
  | int j=>obtain⟨t',rfl⟩:=ry;exact ne_int (bS I q (congrArg not AS))
  | str j=>obtain⟨t',rfl⟩:=ry;exact PySem.EqMixed.ne_int_str (bS I q (by simp))
  | _=>exact absurd (show false=true from hs) Bool.false_ne_true
 |str i=>
  obtain⟨t,rfl⟩:=rx
  cases y with
  | non=>cases ry;exact PySem.EqNone.ne_str_none (bS I q (by simp))
  | bl j=>cases ry;exact PySem.EqMixed.ne_str_bool (bS I q (by simp))
  | int j=>obtain⟨t',rfl⟩:=ry;exact PySem.EqMixed.ne_str_int (bS I q (by simp))
  | str j=>obtain⟨t',rfl⟩:=ry;exact ne_str (bS I q (congrArg not A0))
  | _=>exact absurd (show false=true from hs) Bool.false_ne_true
 |byt i=>
  obtain⟨t,rfl⟩:=rx
  cases y with
  | byt j=>obtain⟨t',rfl⟩:=ry;exact PySem.W.ne_bytes (bS I q (congrArg not zR))
  | _=>exact absurd (show false=true from hs) Bool.false_ne_true
 | _=>cases y<;>exact absurd (show false=true from hs) Bool.false_ne_true
def D5:OpR X (compareOp .Is) (fun x y H Q=>y=.non/\Q (.bl (decide (x=.non))) H):=by
 intro pins s σ H x y v u Q I rx ry h;obtain⟨rfl,q⟩:=h;cases ry;refine is_none_gen (bS I q ?_)
 cases x<;>first
  | (cases rx;rfl)
  | (obtain⟨t,rfl⟩:=rx;rfl)
def AK:OpR X (compareOp .IsNot) (fun x y H Q=>y=.non/\Q (.bl (!decide (x=.non))) H):=by
 intro pins s σ H x y v u Q I rx ry h;obtain⟨rfl,q⟩:=h;cases ry;refine isnot_none_gen (bS I q ?_)
 cases x<;>first
  | (cases rx;rfl)
  | (obtain⟨t,rfl⟩:=rx;rfl)
def OpR.or(h:OpR X f r)(h':OpR X f r'):OpR X f (fun x y H Q=>r x y H Q\/r' x y H Q):=by
 intro pins s σ H x y v u Q I rx ry q;rcases q with q | q
 ·exact h pins s σ H x y v u Q I rx ry q
 ·exact h' pins s σ H x y v u Q I rx ry q
def pK(b:Expr)(h:op≠.In:=by decide)(h2:op≠.NotIn:=by decide):behindInMarks op b=false:=by
 have e1:(op == CmpOp.In)=false:=by cases op<;>first | rfl | exact absurd rfl h
 have e2:(op == CmpOp.NotIn)=false:=by cases op<;>first | rfl | exact absurd rfl h2
 cases b<;>simp[behindInMarks,e1,e2]
def mj{op:CmpOp}{r:R2}(ho:OpR X (compareOp op) r)(ha:PE X a ta)(hb:PE X b tb)(hm:behindInMarks op b=false):PE X (.Compare a [op] [b] pos) (tOp r ta tb):=by
 intro pins s σ H Q I h;exact wpAny_Compare1 (zd ha hb I h fun v u s2 x y H2 I2 rx ry q=>ho pins s2 σ H2 x y v u Q I2 rx ry q) hm
abbrev zG(t:TE):TT:=fun σ H Q=>t σ H fun x H'=>∃ k,x=.bl k/\Q k H'
def jW(ho:OpR X (compareOp op) r)(ha:PE X a ta)(hb:PE X b tb)(hm:behindInMarks op b=false):PT X (.Compare a [op] [b] pos) (zG (tOp r ta tb)):=by
 intro pins s σ H Q I h
 refine wpAny_isTrue_Compare1 (thn (ha pins s σ H _ I h) fun v s1 ⟨x,H1,I1,r1,q1⟩=>thn (hb pins s1 σ H1 _ I1 q1) fun u s2 ⟨y,H2,I2,r2,q2⟩ =>
  thn (ho pins s2 σ H2 x y v u _ I2 r1 r2 q2) fun c s3 ⟨z,H3,I3,r3,k,e,q3⟩=>?_) hm
 subst e;cases r3;exact wpAny_truthy_bool ⟨H3,I3,q3⟩
abbrev qW(r r':R2)(ta tb tc:TE):TE:=fun σ H Q=>ta σ H fun x H1=>tb σ H1 fun y H2=>r x y H2 fun z H3=>∃ k,z=.bl k /\
 (if k=true then tc σ H3 fun w' H4=>r' y w' H4 Q else Q (.bl false) H3)
def xH(ho:OpR X (compareOp op) r)(ho':OpR X (compareOp op') r')(ha:PE X a ta)(hb:PE X b tb)(hc:PE X c tc)
 (hm:lastMarks [op,op'] [b,c]=false:=by with_unfolding_all rfl):PE X (.Compare a [op,op'] [b,c] pos) (qW r r' ta tb tc):=by
 intro pins s σ H Q I h
 refine Compare_chain (thn (ha pins s σ H _ I h) fun v s1 ⟨x,H1,I1,r1,q1⟩=>chain_link (thn (hb pins s1 σ H1 _ I1 q1) fun u s2 ⟨y,H2,I2,r2,q2⟩ =>
  thn (ho pins s2 σ H2 x y v u _ I2 r1 r2 q2) fun d s3 ⟨z,H3,I3,r3,k,e,q3⟩=>?_)) hm
 subst e;cases r3;refine wpAny_truthy_bool ?_
 cases k with
 | false=>exact ite_ff ⟨.bl false,H3,I3,rfl,q3⟩
 | true=>exact ite_tt (chain_last (thn (hc pins s3 σ H3 _ I3 q3) fun w' s4 ⟨z',H4,I4,r4,q4⟩=>ho' pins s4 σ H4 y z' u w' Q I4 r2 r4 q4))
def xR(ho:OpR X (compareOp op) r)(ho':OpR X (compareOp op') r')(ha:PE X a ta)(hb:PE X b tb)(hc:PE X c tc)
 (hm:lastMarks [op,op'] [b,c]=false:=by with_unfolding_all rfl):PT X (.Compare a [op,op'] [b,c] pos) (zG (qW r r' ta tb tc)):=by
 intro pins s σ H Q I h
 refine isTrue_chain (thn (ha pins s σ H _ I h) fun v s1 ⟨x,H1,I1,r1,q1⟩=>test_link (thn (hb pins s1 σ H1 _ I1 q1) fun u s2 ⟨y,H2,I2,r2,q2⟩ =>
  thn (ho pins s2 σ H2 x y v u _ I2 r1 r2 q2) fun d s3 ⟨z,H3,I3,r3,k,e,q3⟩=>?_)) hm
 subst e;cases r3;refine wpAny_truthy_bool ?_
 cases k with
 |false=>
  obtain⟨k',e',q'⟩:=q3;cases e';exact ite_ff ⟨H3,I3,q'⟩
 |true=>
  refine ite_tt (test_last (thn (hc pins s3 σ H3 _ I3 q3) fun w' s4 ⟨z',H4,I4,r4,q4⟩=>thn (ho' pins s4 σ H4 y z' u w' _ I4 r2 r4 q4) fun d' s5 ⟨z2,H5,I5,r5,k2,e2,q5⟩=>?_));subst e2;cases r5;exact wpAny_truthy_bool ⟨H5,I5,q5⟩
abbrev tK(K:PySem.W.Frag)(x:V)(H:Hp)(k:Bool):Prop :=
 match x with
 | .non=>k=false
 | .bl b=>k=b
 | .int i=>k=(i != 0)
 | .str y=>y.length<=sizeLine/\k=((y.length:Int) != 0)
 | .byt y=>y.size<=sizeLine/\k=((y.size:Int) != 0)
 | .ref p=>(∃ xs,SqL K H p xs/\k=!xs.isEmpty)\/(∃ xs,SqT K H p xs/\k=!xs.isEmpty)\/∃ kvs,H p=some (.dK kvs)/\k=!kvs.isEmpty
 | _=>False
def tR(r:KV kvs vs):(!vs.isEmpty)=!kvs.isEmpty:=by
 cases r<;>rfl
def lX(r:Vals xs its):(!its.toArray.isEmpty)=!xs.isEmpty:=by
 cases r<;>simp
def iy:(sizeLine:Nat)<2 ^ 63:=by rw[sizeLine_eq];decide
def wV:Gb X (fun x H Q=>∃ k,tK X.K x H k/\Q k H):=by
 intro pins s σ H x v Q I rx h;obtain⟨k,e,q⟩:=h;have hl:=iy;have hs:sizeLine=16777216:=sizeLine_eq
 cases x with
 |non=>
  cases rx;have e':k=false:=e;subst e';exact truthy_none ⟨H,I,q⟩
 |bl b=>
  cases rx;have e':k=b:=e;subst e';exact wpAny_truthy_bool ⟨H,I,q⟩
 |int i=>
  obtain⟨t,rfl⟩:=rx;have e':k=(i != 0):=e;subst e';exact PySem.P.truthy_int ⟨H,I,q⟩
 |str y=>
  obtain⟨t,rfl⟩:=rx;obtain⟨hy,e'⟩:y.length<=sizeLine/\k=((y.length:Int) != 0):=e;subst e';exact PySem.P.truthy_str (by omega) ⟨H,I.tok _,q⟩
 |byt y=>
  obtain⟨t,rfl⟩:=rx;obtain⟨hy,e'⟩:y.size<=sizeLine/\k=((y.size:Int) != 0):=e;subst e';exact PySem.W.truthy_bytes (by omega) ⟨H,I.tok _,q⟩
 |ref p=>
  cases rx;have e':(∃ xs,SqL X.K H p xs/\k=!xs.isEmpty)\/(∃ xs,SqT X.K H p xs/\k=!xs.isEmpty)\/∃ kvs,H p=some (.dK kvs)/\k=!kvs.isEmpty:=e
  rcases e' with⟨xs,hx,e'⟩ | ⟨xs,hx,e'⟩ | ⟨kvs,hx,e'⟩
  ·subst e';obtain⟨its,r,pl,hz⟩:=I.list hx;have hlen:=r.length;exact wpAny_truthy_list pl.isList (by simp only[List.size_toArray];omega) ⟨H,I.tok _,by rw[lX r];exact q⟩
  ·subst e';obtain⟨its,r,pl,hz⟩:=I.tuple hx;have hlen:=r.length;exact truthy_tuple pl (by simp only[List.size_toArray];omega) ⟨H,I.tok _,by rw[lX r];exact q⟩
  ·subst e';obtain⟨hz,hS,vs,r,m⟩:kvs.length<=sizeLine/\(p == sysModules)=false/\∃ vs,KV kvs vs/\s.heap.DictOf (bu X.prog X.w) p vs:=I.hok p _ hx;have hlen:kvs.length=vs.length:=Paired.length r;exact wpAny_truthy_dict hS m (by omega) ⟨H,I.tok _,by rw[tR r];exact q⟩
 | _=>exact(show False from e).elim
def yz(ha:PE X a ta)(he:∀ whole,isTrue a X.env whole=(do let v <- whole;standAt a.pos;holding [v] (truthy v))) :
  PT X a (fun σ H Q=>ta σ H fun x H'=>∃ k,tK X.K x H' k/\Q k H'):=by
 intro pins s σ H Q I h;exact isTrue_plain (thn (ha pins s σ H _ I h) fun v s1 ⟨x,H1,I1,r1,q1⟩=>wV pins s1 σ H1 x v Q I1 r1 q1) (he _)
def u5:OpR X (binaryOp .Add) (fun x y H Q=>∃ i j,x=.str i/\y=.str j/\i.length+j.length<=sizeLine/\Q (.str (i++j)) H):=by
 intro pins s σ H x y v u Q I rx ry h;obtain⟨i,j,rfl,rfl,hz,q⟩:=h;obtain⟨t,rfl⟩:=rx;obtain⟨t',rfl⟩:=ry;exact add_str (fun t' tk=>⟨.str (i++j),H,I.tok _,⟨_,rfl⟩,q⟩) hz
def vals1(r:Vals [x] us):∃ u,us=[u]/\RelV x u:=by
 cases r with
 | cons r1 r2=>cases r2;exact⟨_,rfl,r1⟩
def vals2(r:Vals [x,y] us):∃ u w',us=[u,w']/\RelV x u/\RelV y w':=by
 cases r with
 |cons r1 r2=>
  cases r2 with
  | cons r3 r4=>cases r4;exact⟨_,_,rfl,r1,r3⟩
def wa(hc:X.calm=true):bx X (.builtin "max") (fun xs H Q=>∃ i j,xs=[.int i,.int j]/\Q (.int (if j > i then j else i)) H):=by
 intro pins s σ H xs us Q I r h;obtain⟨i,j,rfl,q⟩:=h;obtain⟨u,w',rfl,⟨t,rfl⟩,⟨t',rfl⟩⟩:=vals2 r
 refine max_two_ints (I.ok.hd.1 hc) fun h' tk k=>⟨_,H,I.kept k,?_,q⟩
 by_cases hj:j > i
 ·rw[if_pos hj,if_pos hj];exact⟨_,rfl⟩
 ·rw[if_neg hj,if_neg hj];exact⟨_,rfl⟩
def ve:bx X (.type "int") (fun xs H Q=>(∃ i,xs=[.int i]/\Q (.int i) H)\/∃ k,xs=[.bl k]/\Q (.int (if k then 1 else 0)) H):=by
 intro pins s σ H xs us Q I r h
 rcases h with⟨i,rfl,q⟩ | ⟨k,rfl,q⟩
 ·obtain⟨u,rfl,t,rfl⟩:=vals1 r;exact call_int_int ⟨.int i,H,I,⟨_,rfl⟩,q⟩
 ·obtain⟨u,rfl,r1⟩:=vals1 r;cases r1;exact call_int_bool ⟨.int (if k then 1 else 0),H,I.tok _,⟨_,rfl⟩,q⟩
abbrev CQ(K:PySem.W.Frag)(x:V)(H:Hp)(n:Nat):Prop :=
 match x with
 | .str y=>y.length<=sizeLine/\n=y.length
 | .byt y=>y.size<=sizeLine/\n=y.size
 | .ref p=>(∃ xs,SqL K H p xs/\n=xs.length)\/∃ xs,SqT K H p xs/\n=xs.length
 | _=>False
def yY:bx X (.builtin "len") (fun xs H Q=>∃ x n,xs=[x]/\CQ X.K x H n/\Q (.int n) H):=by
 intro pins s σ H xs us Q I r h;obtain⟨x,n,rfl,e,q⟩:=h;obtain⟨u,rfl,rx⟩:=vals1 r;have hl:=iy;have hs:sizeLine=16777216:=sizeLine_eq
 cases x with
 |str y=>
  obtain⟨t,rfl⟩:=rx;obtain⟨hy,e'⟩:y.length<=sizeLine/\n=y.length:=e;subst e';exact len_str (by omega) ⟨.int _,H,I.tok _,⟨_,rfl⟩,q⟩
 |byt y=>
  obtain⟨t,rfl⟩:=rx;obtain⟨hy,e'⟩:y.size<=sizeLine/\n=y.size:=e;subst e';exact PySem.W.len_bytes (by omega) ⟨.int _,H,I.tok _,⟨_,rfl⟩,q⟩
 |ref p=>
  cases rx;have e':(∃ xs,SqL X.K H p xs/\n=xs.length)\/∃ xs,SqT X.K H p xs/\n=xs.length:=e
  rcases e' with⟨xs,hx,e'⟩ | ⟨xs,hx,e'⟩
  ·subst e';obtain⟨its,r',pl,hz⟩:=I.list hx;have hlen:=r'.length;exact Calls.call_len_list pl.isList (by simp only[List.size_toArray];omega) ⟨.int xs.length,H,I.tok _,⟨_,by simp only[List.size_toArray];rw[hlen]⟩,q⟩
  ·subst e';obtain⟨its,r',pl,hz⟩:=I.tuple hx;have hlen:=r'.length;exact len_tuple pl (by simp only[List.size_toArray];omega) ⟨.int xs.length,H,I.tok _,⟨_,by simp only[List.size_toArray];rw[hlen]⟩,q⟩
 | _=>exact(show False from e).elim
end
structure yy(h:Heap)(x dx C:Addr)(mA:Str->Option Value):Prop where
 obj:h.get? x=some (PySem.W.instObj C dx)
 ns:h.Ns1 dx mA
 ne:dx≠x
def wU{h:Heap}(n:h.Ns1 dx mA):∃ od,h.get? dx=some od/\∀ name,PySem.W.lookIn name od=some (mA name):=by
 obtain⟨o,es,ep,ho,hd,hk,_,hm⟩:=n;refine⟨o,ho,fun name=>?_⟩;have e:=hm name;unfold nsFind findBy at e;rw[<-Array.find?_toList]at e;unfold PySem.W.lookIn;rw[hd];dsimp only;split
 ·rename_i y q;rw[q]at e;exact congrArg some e
 ·rename_i q;rw[q]at e
  have a:es.toList.any (·.refKey)=false:=by
   rw[List.any_eq_false];intro y hy;obtain⟨z,t,hkey⟩:=hk y (Array.mem_toList_iff.mp hy);simp[DictEntry.refKey,hkey]
  have a':¬ es.toList.any (·.refKey)=true:=by rw[a];exact Bool.false_ne_true
  rw[if_neg a'];exact congrArg some e
def yy.look(I:yy h x dx C mA):∃ od,PySem.W.InstAt h x (PySem.W.instObj C dx) C (some od)/\∀ name,PySem.W.lookIn name od=some (mA name) :=
 let ⟨od,ho,hl⟩:=wU I.ns
 ⟨od,⟨I.obj,rfl,rfl,ho⟩,hl⟩
section
variable{prog:Program}{w:World}{A:Around}{E:Value->Shared->Prop}{s:Shared}{K:PySem.W.Frag}{x dx C f:Addr}{mA:Str->Option Value}{name:Str}{v:Value}
end
def fj.some_of(r:fj (some v) o):∃ u,o=some u/\RelV v u:=by
 cases o with
 | none=>exact(show False from r).elim
 | some u=>exact⟨u,rfl,r⟩
section
variable{P:Program}{w:World}{H H':Hp}{h h':Heap}{a C dx:Addr}{fs fs':List (Str × V)}
def AL(hok:HOk P w H h)(e:H a=some (.ins C dx fs)):∃ mA,yy h a dx C mA/\(∀ f,fj (fs.lookup f) (mA f))/\PySem.Within mA (fs.map (·.1))/\fs.length<=1000/\H dx=some (.own a):=by
 obtain⟨d,z,ne,ob,mA,n,r,q⟩:=(show bj P w H h a (.ins C dx fs)from hok a _ e)
 exact⟨mA,⟨ob,n,ne⟩,r,q,z,d⟩
end
structure Cls(K:PySem.W.Frag)(C:Addr):Prop where
 pg:PySem.W.plainGet K C Str.empty=true
 hd:PySem.W.hasDictIn K C=true
 po:PySem.W.plainOver K C=true
 sa:PySem.W.findIn K (.ref C) "__setattr__" = some (some (.builtin "object.__setattr__"))
def Cls.get{K:PySem.W.Frag}(c:Cls K C)(f:Str):PySem.W.plainGet K C f=true:=c.pg
section
variable{X:Cx}{pins:List (Addr × Obj)}{σ:St}{H:Hp}{s:Shared}{a C dx:Addr}{fs:List (Str × V)}{f:Str}{v:V}{A:Around}{E:Value->Shared->Prop}
end
section
variable{X:Cx}{o e value:Expr}{f:Str}{pos pos' tpos:Pos}{ta tv:TE}
end
section
variable{X:Cx}{pins:List (Addr × Obj)}{σ:St}{H:Hp}{s:Shared}{A:Around}{E:Value->Shared->Prop}{Q:Value->Shared->Prop}{c:Value}{b:Bool}
inductive eR (K:PySem.W.Frag) (H:Hp):V->Value->Prop where
 | non:eR K H .non (.type "NoneType")
 | bl (x:Bool):eR K H (.bl x) (.type "bool")
 | int (i:Int):eR K H (.int i) (.type "int")
 | str (x:Str):eR K H (.str x) (.type "str")
 | flt (x:UInt64):eR K H (.flt x) (.type "float")
 | lst {a:Addr} {xs:List V} (e:H a=some (.lst xs)):eR K H (.ref a) (.type "list")
 | frz {a:Addr} {o:Obj} {xs:List V} (e:H a=some (.frz o (.lst xs))):eR K H (.ref a) (.type "list")
 | tup {a:Addr} {xs:List V} (e:H a=some (.tup xs)):eR K H (.ref a) (.type "tuple")
 | dK {a:Addr} {kvs:List (Key × V)} (e:H a=some (.dK kvs)):eR K H (.ref a) (.type "dict")
 | dT {a:Addr} {kvs:List (List Key × V)} (e:H a=some (.dT kvs)):eR K H (.ref a) (.type "dict")
 | ins {a C dx:Addr} {fs:List (Str × V)} (e:H a=some (.ins C dx fs)) (cl:Cls K C) (ha:PySem.W.findIn K (.ref C) "__class__" = some (some (.builtin "object.__class__")))
   (hn:PySem.W.specialIn K (.builtin "object.__class__") "__get__" = some (some (.builtin "getset_descriptor.__get__"))) (htk:PySem.W.takesIn K (.builtin "object.__class__")=some true)
   (hm:PySem.W.mroIn K C (.type "object")=some true):eR K H (.ref a) (.ref C)
def uJ(I:Inv X pins σ H s)(rx:RelV x u)(ty:eR X.K H x t)(e:PySem.W.kitOne X.K t c=some b)(h:∀ tk,Q (.bool b) { s with toks:=tk }) :
  wpAny (model X.prog X.w) A (call (.builtin "isinstance") [u,c]) Q E s:=by
 cases ty with
 | non=>cases(show u=Value.none from rx);exact PySem.W.kia_one PySem.W.kitx_none I.kIn True.intro e (fun z=>nomatch z) h
 | bl y=>cases(show u=Value.bool y from rx);exact PySem.W.kia_one PySem.W.kitx_bool I.kIn True.intro e (fun z=>nomatch z) h
 | int i=>obtain⟨t,q⟩:=(show ∃ t,u=Value.int i t from rx);cases q;exact PySem.W.kia_one PySem.W.kitx_int I.kIn True.intro e (fun z=>nomatch z) h
 | str y=>obtain⟨t,q⟩:=(show ∃ t,u=Value.str y t from rx);cases q;exact PySem.W.kia_one PySem.W.kitx_str I.kIn True.intro e (fun z=>nomatch z) h
 | flt y=>obtain⟨t,q⟩:=(show ∃ t,u=Value.float y t from rx);cases q;exact PySem.W.kia_one PySem.W.kitx_float I.kIn True.intro e (fun z=>nomatch z) h
 |@lst a xs ea=>
  cases(show u=Value.ref a from rx)
  obtain⟨_,_,n,_,h1⟩:=(show bj X.prog X.w H s.heap a (.lst xs)from I.hok a _ ea)
  exact PySem.W.kia_one PySem.W.kitx_list I.kIn ⟨_,h1,rfl⟩ e (fun z=>nomatch z) h
 |@frz a ob xs ea=>
  cases(show u=Value.ref a from rx)
  obtain⟨_,_,_,n,_,h1⟩:=(show bj X.prog X.w H s.heap a (.frz ob (.lst xs))from I.hok a _ ea)
  exact PySem.W.kia_one PySem.W.kitx_list I.kIn ⟨_,h1,rfl⟩ e (fun z=>nomatch z) h
 |@tup a xs ea=>
  cases(show u=Value.ref a from rx)
  obtain⟨_,_,_,p⟩:=(show bj X.prog X.w H s.heap a (.tup xs)from I.hok a _ ea)
  obtain⟨o,h1,h2,_⟩:=p;exact PySem.W.kia_one PySem.W.kitx_tuple I.kIn ⟨o,h1,h2⟩ e (fun z=>nomatch z) h
 |@dK a kvs ea=>
  cases(show u=Value.ref a from rx)
  obtain⟨_,_,vs,_,p⟩:=(show bj X.prog X.w H s.heap a (.dK kvs)from I.hok a _ ea)
  obtain⟨o,es,ep,h1,h2,_⟩:=p;exact PySem.W.kia_one PySem.W.kitx_dict I.kIn ⟨o,h1,h2.1⟩ e (fun z=>nomatch z) h
 |@dT a kvs ea=>
  cases(show u=Value.ref a from rx)
  obtain⟨_,_,xs,_,o,es,ep,h1,h2,_⟩:=(show bj X.prog X.w H s.heap a (.dT kvs)from I.hok a _ ea)
  exact PySem.W.kia_one PySem.W.kitx_dict I.kIn ⟨o,h1,h2.1⟩ e (fun z=>nomatch z) h
 |@ins a C dx fs ea cl ha hn htk hm=>
  cases(show u=Value.ref a from rx);obtain⟨mA,O,_⟩:=AL I.hok ea;obtain⟨od,J,_⟩:=O.look;exact PySem.W.kia_one (PySem.W.kitx_own (cl.get _) cl.hd ha hn htk hm) I.kIn J e (fun z=>nomatch z) h
end
structure cq(k:Nat)(A:Around):Prop where
 hd:A.handled=none
 dp:A.depth+3*k+5<recursionLimit
 un:A.units+16*k+200<cLine
def cq.deeper(r:cq (k+1) A)(env:Env):cq k (A.deeper env) :=
 ⟨r.hd,by have:=r.dp;show A.depth+1+3*k+5<_;omega,by have:=r.un;show A.units+3+16*k+200<_;omega⟩
def cq.depth(r:cq k A):A.depth<recursionLimit:=by have:=r.dp;omega
abbrev j9:TA:=fun _ H Q=>Q [] H
abbrev f9(ta:TE)(tr:TA):TA:=fun σ H Q=>ta σ H fun x H1=>tr σ H1 fun xs H2=>Q (x::xs) H2
section
variable{X:Cx}{e:Expr}{es:List Expr}{te:TE}{t:TA}{pos:Pos}
def cL:PA X [] j9:=fun _ _ _ _ H Q I h=>Calls.spliced_nil ⟨[],H,I,.nil,h⟩
def ba(ha:PE X e te)(hr:PA X es t)(hs:starEach (e::es) X.env=(false,eval e X.env)::starEach es X.env:=by rfl):PA X (e::es) (f9 te t):=by
 intro pos pins s σ H Q I h;rw[hs];show wpAny _ _ (spliced ((false,eval e X.env)::backTo pos (starEach es X.env))) _ _ s;refine Calls.spliced_cons (thn (ha pins s σ H _ I h) fun u s1 ⟨x,H1,I1,r1,q1⟩=>?_)
 exact thn (hr pos pins s1 σ H1 _ I1 q1) fun us s2 ⟨xs,H2,I2,r2,q2⟩=>⟨x::xs,H2,I2,.cons r1 r2,q2⟩
abbrev GH(t:TA):TE:=fun σ H Q=>t σ H fun xs H1=>xs.length<=sizeLine/\∀ p,H1 p=none->Q (.ref p) (upd H1 p (.tup xs))
abbrev FH(t:TA):TE:=fun σ H Q=>t σ H fun xs H1=>xs.length<=sizeLine/\∀ p,H1 p=none->Q (.ref p) (upd H1 p (.lst xs))
def Cu(h:PA X es t):PE X (.Tuple es x1 pos) (GH t):=by
 intro pins s σ H Q I hq;refine wpAny_Tuple_spliced (thn (h pos pins s σ H _ I hq) fun us s1 ⟨xs,H1,I1,r,z,q⟩=>⟨by rw[<-r.length];exact z,?_⟩);have hf:H1 s1.heap.objs.size=none:=I1.hok.fresh (Nat.le_refl _);refine⟨.ref s1.heap.objs.size,upd H1 s1.heap.objs.size (.tup xs),I1.laid (t':=s1.toks) (fun b u e=>Heap.get?_push_of_some _ e) (Nat.le_refl _) ?_,rfl,q _ hf⟩;exact⟨z,us,r,⟨_,Heap.get?_push_size _ rfl,rfl,_,rfl⟩⟩
def EA(h:PA X es t):PE X (.List es pos) (FH t):=by
 intro pins s σ H Q I hq;refine wpAny_List_spliced (thn (h pos pins s σ H _ I hq) fun us s1 ⟨xs,H1,I1,r,z,q⟩=>⟨by rw[<-r.length];exact z,?_⟩);have hf:H1 s1.heap.objs.size=none:=I1.hok.fresh (Nat.le_refl _);refine⟨.ref s1.heap.objs.size,upd H1 s1.heap.objs.size (.lst xs),I1.laid (t':=s1.toks) (fun b u e=>Heap.get?_push_of_some _ e) (Nat.le_refl _) ?_,rfl,q _ hf⟩;exact⟨z,us,0,r,Heap.get?_push_size _ rfl⟩
end
@[reducible]noncomputable def Sp:=List V->Hp->VK->XK->Prop
@[reducible]noncomputable def CXT:=List Env->Hp->Shared->XK->Value->Shared->Prop
structure qc(P:Program)(w:World)(K:PySem.W.Frag)(mg:Str->Option Value)(base:Heap)(A:Around)(outer:List Env)(s:Shared)(H:Hp):Prop where
 frames:A.frames=some outer
 mod:Mod K mg base
 bs:∀ b o,base.get? b=some o->s.heap.get? b=some o/\H b=none
 bsz:base.objs.size<=s.heap.objs.size
 dA:s.heap.FunFrames base outer
 frf:∀ b∈frs outer,H b=none
 hok:HOk P w H s.heap
 bare:AllBare s.gens
abbrev CE(outer:List Env)(P:Program)(w:World)(H:Hp)(s:Shared)(Q:VK)(u:Value)(s':Shared):Prop :=
 ∃ v H',s'.os=s.os/\AllBare s'.gens/\Un (frs outer) [] H H' s.heap s'.heap/\HOk P w H' s'.heap/\RelV v u/\Q v H'
abbrev CR(CX:CXT)(outer:List Env)(P:Program)(w:World)(H:Hp)(s:Shared)(Q:VK)(E:XK)(r:Result)(s':Shared):Prop :=
 match r with
 | .ok (.ret u)=>CE outer P w H s Q u s'
 | .ok _=>False
 | .error e=>CX outer H s E e s'
structure dO(P:Program)(w:World)(K:PySem.W.Frag)(mg:Str->Option Value)(base:Heap)(CX:CXT)(k:Nat)(f:Addr)(fd:FuncData)(ps:List Str)(sp:Sp):Prop where
 len:∀ vs H Q E,sp vs H Q E->vs.length=ps.length
 run:∀ (A:Around) (outer:List Env) (s:Shared) (H:Hp) (args:Args) (us:List Value) (vs:List V) (Q:VK) (E:XK),cq k A->qc P w K mg base A outer s H->BindsTo s fd args (ps.zip us)->Vals vs us->sp vs H Q E ->
  codeAny (model P w) A (.call (.ref f) args) (CR CX outer P w H s Q E) s
section
variable{X:Cx}{pins:List (Addr × Obj)}{σ:St}{H:Hp}{s s':Shared}
def Inv.xZ(I:Inv X pins σ H s):qc X.prog X.w X.K X.mg X.base X.A X.stack s H :=
 ⟨I.ok.frames,I.ok.mod,I.bs,Nat.le_trans I.ok.bsz I.sz,I.stack,I.kd,I.hok,I.bare⟩
def Inv.after(I:Inv X pins σ H s)(h:CE X.stack X.prog X.w H s Q u s'):EP X pins σ Q u s':=by
 obtain⟨v,H',os,bare,un,hok,r,q⟩:=h;obtain⟨hh,g,d,t,os'⟩:=s';obtain rfl:os'=s.os:=os;exact⟨v,H',I.call (h':=hh) (g':=g) (d':=d) (t':=t) (ch:=[]) un hok bare (fun b z=>absurd z (by simp)),r,q⟩
end
abbrev zI(sp:Sp)(dvs:List V)(E:XK)(t:TA):TE:=fun σ H Q=>t σ H fun vs H1=>sp (vs++dvs) H1 Q E
abbrev Binds(K:PySem.W.Frag)(fd:FuncData)(ps:List Str)(ds:List Value):Prop :=
 ∀ (s:Shared) (us:List Value),K.In s.heap->(us++ds).length=ps.length->BindsTo s fd ⟨us,[]⟩ (ps.zip (us++ds))
def Binds.all{K:PySem.W.Frag}(h:∀ us:List Value,us.length=ps.length->bindArgs fd ⟨us,[]⟩=pure (ps.zip us)):Binds K fd ps []:=fun s us _ hl=>by
 rw[List.append_nil]at hl ⊢;exact .of_eq (h us hl)
abbrev Passes(CX:CXT)(X:Cx)(E:XK):Prop:=∀ (pins:List (Addr × Obj)) (σ:St) (H:Hp) (s:Shared) (e:Value) (s':Shared),Inv X pins σ H s->CX X.stack H s E e s'->X.xe e s'
section
variable{X:Cx}{CX:CXT}{k:Nat}{f C:Addr}{fd:FuncData}{ps:List Str}{sp:Sp}{dvs:List V}{ds:List Value}{E:XK}{x m:Str}{p pos apos:Pos}{e o:Expr}{es:List Expr}{ta:TE}{t:TA}
def CO(F:dO X.prog X.w X.K X.mg X.base CX k f fd ps sp)(hr:cq k X.A)(hb:Binds X.K fd ps ds)(hd:Vals dvs ds)(hx:Passes CX X E)
 (I:Inv X pins σ H s)(r:Vals vs us)(h:sp (vs++dvs) H Q E):wpAny (model X.prog X.w) X.A (call (.ref f) us) (EP X pins σ Q) X.xe s:=by
 have r2:Vals (vs++dvs) (us++ds):=r.append hd
 have hl:(us++ds).length=ps.length:=by rw[<-r2.length];exact F.len _ _ _ _ h
 refine wpAny_call (codeAny_mono (F.run X.A X.stack s H ⟨us,[]⟩ (us++ds) (vs++dvs) Q E hr I.xZ (hb s us I.kIn hl) r2 h) fun r s' hq=>?_)
 cases r with
 | error e=>exact hx pins σ H s e s' I hq
 |ok fl=>
  cases fl with
  | ret u=>exact I.after hq
  | next=>exact False.elim hq
  | brk=>exact False.elim hq
  | cont=>exact False.elim hq
def sP(F:dO X.prog X.w X.K X.mg X.base CX k f fd ps sp)(hr:cq k X.A)(hg:Gl X x)(hm:X.mg x=some (.ref f))(hk:PySem.W.keepIn X.K (.ref f)=true)(hb:Binds X.K fd ps ds)(hd:Vals dvs ds)(hx:Passes CX X E)
 (ha:PA X (e::es) t)(hdb:(x == ("__debug__" : Str))=false:=by decide)(he:starEach (e::es) X.env=(false,eval e X.env)::starEach es X.env:=by rfl)(hpl:(backTo pos (starEach es X.env)).any (·.1)=false:=by rfl) :
  PE X (.Call (.Name x p) (e::es) [] pos) (zI sp dvs E t):=by
 intro pins s σ H Q I h;refine wpAny_Call_Name_kw (gj I hg hm ?_ hdb);refine PySem.W.callWith_K (h₀:=X.base) I.ok.mod.kin hk (thn (ha pos pins s σ H _ I h) fun us s1 ⟨vs,H1,I1,r,q⟩=>⟨I1.kIn,?_⟩) he hpl;exact CO F hr hb hd hx I1 r q
end
section
variable{X:Cx}{CX:CXT}{k:Nat}{f C:Addr}{fd:FuncData}{ps ks:List Str}{sp:Sp}{E:XK}{x m:Str}{p pos apos kpos:Pos}{e o:Expr}{es:List Expr}{kws:List Keyword}{te ta:TE}{t tk:TA}{nm:Option Str}
variable{g:List Value->List Value->List Value}{gV:List V->List V->List V}
end
structure fh(N P:List Str)(sc:Scope):Prop where
 kind:sc.kind=.function
 co:sc.isCoroutine=false
 gen:sc.isGenerator=false
 nd:N.Nodup
 pre:N.take P.length=P
 par:∀ x∈P,sc.names.lookup x=some .local\/sc.names.lookup x=some .cell
 C4:∀ y∈sc.names,y.2≠.free
def nz{kindOf:Str->Option NameKind}:∀ {binds:List (Str × Value)} {m:Str->Option Value},(∀ v,(x,v)∉binds)->bindL kindOf binds m x=m x
 | [],_,_=>rfl
 | (n,v)::r,m,h=>by
  unfold bindL;rw[nz fun w hw=>h w (List.mem_cons_of_mem _ hw)];split
  ·have:x≠n:=by rintro rfl;exact h v List.mem_cons_self
   simp[this]
  ·rfl
def nC{kindOf:Str->Option NameKind}:∀ {binds:List (Str × Value)} {m:Str->Option Value},(∀ v,(x,v)∉binds)->bindC kindOf binds m x=m x
 | [],_,_=>rfl
 | (n,v)::r,m,h=>by
  unfold bindC;rw[nC fun w hw=>h w (List.mem_cons_of_mem _ hw)];split
  ·rfl
  ·have:x≠n:=by rintro rfl;exact h v List.mem_cons_self
   simp[this]
def nW{kindOf:Str->Option NameKind}:∀ {P:List Str} {vs:List Value} {i:Nat} {m:Str->Option Value},P.Nodup->P[i]?=some x->vs[i]?=some v->kindOf x=some .local ->
  bindL kindOf (P.zip vs) m x=some v
 | [],_,_,_,_,h,_,_=>by simp at h
 | _::_,[],_,_,_,_,h,_=>by simp at h
 | p::P,w::vs,0,m,nd,h1,h2,hk=>by
  simp at h1 h2;subst h1;subst h2;show bindL kindOf ((p,w)::P.zip vs) m p=_;unfold bindL;rw[nz fun v hv=>(List.nodup_cons.mp nd).1 (List.of_mem_zip hv).1,if_pos hk];simp
 | p::P,w::vs,i+1,m,nd,h1,h2,hk=>by
  show bindL kindOf ((p,w)::P.zip vs) m x=_;unfold bindL;exact nW (i:=i) (List.nodup_cons.mp nd).2 (by simpa using h1) (by simpa using h2) hk
def ng{kindOf:Str->Option NameKind}:∀ {P:List Str} {vs:List Value} {i:Nat} {m:Str->Option Value},P.Nodup->P[i]?=some x->vs[i]?=some v->kindOf x≠some .local ->
  bindC kindOf (P.zip vs) m x=some v
 | [],_,_,_,_,h,_,_=>by simp at h
 | _::_,[],_,_,_,_,h,_=>by simp at h
 | p::P,w::vs,0,m,nd,h1,h2,hk=>by
  simp at h1 h2;subst h1;subst h2;show bindC kindOf ((p,w)::P.zip vs) m p=_;unfold bindC;rw[nC fun v hv=>(List.nodup_cons.mp nd).1 (List.of_mem_zip hv).1,if_neg hk];simp
 | p::P,w::vs,i+1,m,nd,h1,h2,hk=>by
  show bindC kindOf ((p,w)::P.zip vs) m x=_;unfold bindC;exact ng (i:=i) (List.nodup_cons.mp nd).2 (by simpa using h1) (by simpa using h2) hk
abbrev start(N:List Str)(vs:List V):St:=vs.map some++List.replicate (N.length-vs.length) none
abbrev gM(CX:CXT)(P:Program)(w:World)(K:PySem.W.Frag)(mg:Str->Option Value)(base:Heap)(N:List Str)(qual:Str)(scope:Scope)(f:Addr)(cd:Value)(A:Around)(outer:List Env)(s:Shared)(H:Hp)(E:XK):Cx where
 prog:=P
 w:=w
 K:=K
 mg:=mg
 base:=base
 A:=A.deeper (envOfC qual scope s.heap.objs.size f cd)
 N:=N
 s₀:=s
 H₀:=H
 env:=envOfC qual scope s.heap.objs.size f cd
 outer:=outer
 stack:=envOfC qual scope s.heap.objs.size f cd::outer
 ex:=[]
 calm:=true
 fn:=fun _=>true
 pn:=[]
 xe:=fun e s'=>wpAny (model P w) (A.deeper (envOfC qual scope s.heap.objs.size f cd)) (leaving (envOfC qual scope s.heap.objs.size f cd) e) (fun _ s''=>CX outer H s E e s'') (fun e' s''=>CX outer H s E e' s'') s'
def oY{sc:Scope}(h:sc.names.lookup x=some .cell):∃ c,(cellsFrom n sc.names []).lookup x=some c:=by
 have q:=PySem.W.cellsFrom_some sc.names n [] (.inl h);exact Option.isSome_iff_exists.mp q
def nH{CX:CXT}{P:Program}{w:World}{K:PySem.W.Frag}{mg:Str->Option Value}{base:Heap}{N ps:List Str}{qual:Str}{scope:Scope}{f:Addr}{cd:Value}{A:Around}{outer:List Env}{s s1:Shared}{H:Hp}{E:XK}{us:List Value}{vs:List V}
 (S:fh N ps scope)(hd:A.handled=none)(e0:qc P w K mg base A outer s H)(hl:vs.length=ps.length)(r:Vals vs us)
 (x:InCallC s s.heap.objs.size (bindL (envOfC qual scope s.heap.objs.size f cd).kindOf (ps.zip us) fun _=>none) (cellsFrom (s.heap.objs.size+1) scope.names []) (bindC (envOfC qual scope s.heap.objs.size f cd).kindOf (ps.zip us) fun _=>none) s1) :
  Inv (gM CX P w K mg base N qual scope f cd A outer s H E) [] (start N vs) H s1:=by
 have hpl:ps.length<=N.length:=by have:=congrArg List.length S.pre;rw[List.length_take]at this;omega
 obtain⟨h1,tk,rfl,hk⟩:=x.done;have noA:∀ b:Addr,b∉(gM CX P w K mg base N qual scope f cd A outer s H E).ex:=fun b z=>absurd (show b∈([]:List Addr)from z) (by simp)
 refine⟨⟨e0.mod,S.kind,rfl,rfl,Nat.le_refl _,fun y z c h1 h2=>?_,fun y hy=>?_,fun y c _ h=>?_,⟨fun _=>hd,.inl hd⟩,Around.frames_deeper e0.frames,.inr ⟨rfl,rfl⟩,fun b z=>absurd z (noA b),e0.bs,e0.bsz,fun b _ _=>noA b,fun b z=>absurd z (noA b),e0.dA,e0.frf⟩,
  rfl,e0.bare,Un.kept hk,⟨_,x.toInCall.ns,fun i y v h1 h2 h3=>?_⟩,fun y c h=>⟨_,x.cell y c h⟩,e0.hok.fresh (Nat.le_refl _),fun y c h=>?_,fun p hp=>absurd (show p∈([]:List (Addr × Obj))from hp) (by simp),e0.hok.kept hk,?_⟩
 ·exact name_of_addr x.apart (PySem.mem_of_lookup h1) (PySem.mem_of_lookup h2)
 ·have hy:scope.names.lookup y=some .cell\/scope.names.lookup y=some .free:=hy;rcases hy with hy | hy
  ·exact oY hy
  ·exact absurd rfl (S.C4 _ (PySem.mem_of_lookup hy))
 ·exact Nat.le_of_lt (x.above y c (PySem.mem_of_lookup h))
 ·have hi:i<vs.length:=by
   unfold start at h2;by_cases hi:i<vs.length
   ·exact hi
   ·rw[List.getElem?_append_right (by simpa using hi)]at h2;rw[List.getElem?_replicate]at h2;split at h2<;>cases h2
  have ha:vs[i]?=some v:=by
   unfold start at h2;rw[List.getElem?_append_left (by simpa using hi),List.getElem?_map]at h2
   cases e:vs[i]? with
   | none=>rw[e]at h2;cases h2
   | some a=>rw[e]at h2;cases h2;rfl
  obtain⟨u,hu,rv⟩:=r.get ha
  have hp:ps[i]?=some y:=by
   rw[<-S.pre,List.getElem?_take_of_lt (by omega)];exact h1
  have ndP:ps.Nodup:=by rw[<-S.pre];exact S.nd.sublist (List.take_sublist _ _)
  refine⟨u,rv,?_⟩;rcases S.par y (List.mem_of_getElem? hp)with k | k
  ·exact .inl ⟨k,nW ndP hp hu k⟩
  ·obtain⟨c,e⟩:=oY (n:=s.heap.objs.size+1) k;refine .inr ⟨.inl k,c,e,?_⟩;have q:=x.cell y c e;rw[ng ndP hp hu (by show scope.names.lookup y≠_;rw[k];decide)]at q;exact q
 ·exact e0.hok.fresh (Nat.le_of_lt (x.above y c (PySem.mem_of_lookup h)))
 ·unfold start;show _=N.length;rw[List.length_append,List.length_map,List.length_replicate];omega
def zH{CX:CXT}{P:Program}{w:World}{K:PySem.W.Frag}{mg:Str->Option Value}{base:Heap}{k:Nat}{f:Addr}{name qual:Str}{params:Arguments}{body:List Stmt}{scope:Scope}{dV kV doc pm cdv ct oc:Value}{an od:Option Addr}
 {osl:Array (Option Value)}{N ps:List Str}{sp:Sp}(lk:K.lookup f=some ⟨oc,od,.func (PySem.W.fnOf name qual params body scope dV kV doc pm an cdv ct),osl⟩)(hcd:PySem.W.codeIn K cdv qual=true)(S:fh N ps scope)
 (len:∀ vs H Q E,sp vs H Q E->vs.length=ps.length)
 (hbody:∀ (A:Around) (outer:List Env) (s:Shared) (H:Hp) (vs:List V) (Q:VK) (E:XK),cq k (A.deeper (envOfC qual scope s.heap.objs.size f cdv))->sp vs H Q E ->
   ∃ t,PSs (gM CX P w K mg base N qual scope f cdv A outer s H E) body t/\t { nx:=fun _ H'=>Q .non H',rt:=Q } (start N vs) H) :
  dO P w K mg base CX (k+1) f (PySem.W.fnOf name qual params body scope dV kV doc pm an cdv ct) ps sp:=by
 refine⟨len,fun A outer s H args us vs Q E hr e0 hb r hsp=>?_⟩;have hl:=len _ _ _ _ hsp;have KX:K.In s.heap:=e0.mod.kin.keeps fun b o e=>(e0.bs b o e).1;have lim:s.heap.NoLimit:=e0.mod.nolimit.keeps fun b o e=>(e0.bs b o e).1
 have hkind:∀ y∈ps.zip us,scope.names.lookup y.1=some .local\/(scope.names.lookup y.1=some .cell/\((cellsFrom (s.heap.objs.size+1) scope.names []).lookup y.1).isSome=true):=fun⟨n,v⟩ hy=>by
  rcases S.par n (List.of_mem_zip hy).1 with q | q
  ·exact .inl q
  ·exact .inr ⟨q,PySem.W.cellsFrom_some _ _ _ (.inl q)⟩
 refine codeAny_call_function hr.depth (KX _ _ lk) rfl S.co S.gen rfl (PySem.W.codeRec_of KX hcd) (hb _ _ _ _ ?_);refine wpAny_newFunctionEnv_cells S.kind hkind fun env he s1 x=>?_;subst he;refine⟨lim.keeps x.toInCall.keep,codeAny_func ?_⟩;obtain⟨t,ht,hq⟩:=hbody A outer s H vs Q E (hr.deeper _) hsp;have I:Inv (gM CX P w K mg base N qual scope f cdv A outer s H E) [] (start N vs) H s1:=nH S hr.hd e0 hl r x;refine wpAny_mono (ht [] s1 (start N vs) H _ I hq) (fun fl s' hs=>?_) fun e s' hs=>hs
 have fin:∀ {σ':St} {H':Hp} {v:V} {u:Value},Inv (gM CX P w K mg base N qual scope f cdv A outer s H E) [] σ' H' s'->RelV v u->Q v H'->CE outer P w H s Q u s' :=
  fun {σ' H' v u} J rv q=>⟨v,H',J.os,J.bare,J.base,J.hok,rv,q⟩
 cases fl with
 |ret u=>
  obtain⟨v,σ',H',J,rv,q⟩:=hs;exact fin J rv q
 |next=>
  obtain⟨σ',H',J,q⟩:=hs;exact fin (v:=V.non) (u:=Value.none) J rfl q
 |brk=>
  obtain⟨_,_,_,q⟩:=hs;exact False.elim q
 |cont=>
  obtain⟨_,_,_,q⟩:=hs;exact False.elim q
section
variable{X:Cx}{x:Str}{p pos:Pos}{e:Expr}{es:List Expr}{t:TA}{id T:String}{r:List V->Hp->VK->Prop}
abbrev tCB(r:List V->Hp->VK->Prop)(t:TA):TE:=fun σ H Q=>t σ H fun vs H1=>r vs H1 Q
def eZ(hc:bx X (.builtin id) r)(hg:Gl X x)(hm:X.mg x=none)(hv:bootBuiltins x=some (.builtin id))(ha:PA X (e::es) t)(hn:x ≠ "__name__" := by decide)(hdb:(x == ("__debug__" : Str))=false:=by decide)
 (he:starEach (e::es) X.env=(false,eval e X.env)::starEach es X.env:=by rfl)(hpl:(backTo pos (starEach es X.env)).any (·.1)=false:=by rfl):PE X (.Call (.Name x p) (e::es) [] pos) (tCB r t):=by
 intro pins s σ H Q I h;refine wpAny_Call_Name_kw (iE I hg hm hv ?_ hn hdb);exact PyProof.Rows.callWith_builtin1 (thn (ha pos pins s σ H _ I h) fun us s1 ⟨vs,H1,I1,r1,q1⟩=>hc pins s1 σ H1 vs us Q I1 r1 q1) he hpl
def d9(hc:bx X (.type T) r)(hg:Gl X x)(hm:X.mg x=none)(hv:bootBuiltins x=some (.type T))(ha:PA X (e::es) t)(hn:x ≠ "__name__" := by decide)(hdb:(x == ("__debug__" : Str))=false:=by decide)
 (he:starEach (e::es) X.env=(false,eval e X.env)::starEach es X.env:=by rfl)(hpl:(backTo pos (starEach es X.env)).any (·.1)=false:=by rfl):PE X (.Call (.Name x p) (e::es) [] pos) (tCB r t):=by
 intro pins s σ H Q I h;refine wpAny_Call_Name_kw (iE I hg hm hv ?_ hn hdb);exact PyProof.Rows.callWith_type1 (thn (ha pos pins s σ H _ I h) fun us s1 ⟨vs,H1,I1,r1,q1⟩=>hc pins s1 σ H1 vs us Q I1 r1 q1) he hpl
end
end L2
namespace HT
open PySem PyProof.Rows
section
open PySem.SeqAt
open PySem.AutoSeq1 (wpAny_loadPart')
open PySem.MeetsSeq PySem.MeetsSeq2 PySem.MeetsSeq3
end
section
variable{prog:Program}{w:World}{A:Around}{E:Value->Shared->Prop}{s:Shared}
def AV(ht:IsTup s.heap t vs.toArray)(hb:IsTup s.heap b ws.toArray)(hv:vs≠[])
 (h1:ws=[]->Q (.ref t) s)(h2:ws≠[]->Q (.ref s.heap.objs.size) { s with heap:=s.heap.push { cls:=.type "tuple",data:=.seq (vs++ws).toArray } })
 (hsz:vs.length+ws.length<=sizeLine):wpAny (model prog w) A (binaryOp .Add (.ref t) (.ref b)) Q E s:=by
 obtain⟨⟨cls,dd,data,sl⟩,ho,hc,n,hd⟩:=id ht;obtain⟨⟨cls2,dd2,data2,sl2⟩,ho2,hc2,n2,hd2⟩:=id hb;simp only at hc hd hc2 hd2;subst hc hd hc2 hd2
 have e:vs.toArray++ws.toArray=(vs++ws).toArray:=by simp
 by_cases hw:ws=[]
 ·exact concat_meets ⟨_,ho,rfl⟩ ⟨_,ho2,rfl⟩ noFill_tuple_add seq_tuple_add PySem.F.slot_tuple_add PySem.F.entry_tuple_add (PySem.F.args_tuple_add_2 _ _)
   (tuple_addW1 t b vs.toArray ws.toArray n n2 dd dd2 sl sl2 (by simpa using hv) (by simp[hw])) ⟨ho,ho2,h1 hw⟩
 ·refine concat_meets ⟨_,ho,rfl⟩ ⟨_,ho2,rfl⟩ noFill_tuple_add seq_tuple_add PySem.F.slot_tuple_add PySem.F.entry_tuple_add (PySem.F.args_tuple_add_2 _ _)
   (tuple_addW2 t b vs.toArray ws.toArray n n2 dd dd2 sl sl2 (by simpa using hv) (by simpa using hw) (by rw[List.size_toArray,List.size_toArray];exact hsz)) ⟨ho,ho2,?_⟩
  rw[e];exact h2 hw
abbrev sIx(n d:Nat):Option Int->Nat
 | none=>d
 | some v=>if v<0 then(v+(n:Int)).toNat else min v.toNat n
def yh(n d:Nat):sIx n d none=d:=rfl
def Ex(n d:Nat)(hd:d<=n)(o:Option Int):sIx n d o<=n:=by
 cases o with
 | none=>exact hd
 |some v=>
  show(if v<0 then(v+(n:Int)).toNat else min v.toNat n)<=n;by_cases hv:v<0
  ·rw[if_pos hv];omega
  ·rw[if_neg hv];exact Nat.min_le_right _ _
def ku(v:Int)(n d:Nat):(if v<0 then max (v+(n:Int)) 0 else min v (n:Int))=((sIx n d (some v):Nat):Int):=by
 show(if v<0 then max (v+(n:Int)) 0 else min v (n:Int))=(((if v<0 then(v+(n:Int)).toNat else min v.toNat n):Nat):Int);by_cases hv:v<0
 ·simp only[if_pos hv];omega
 ·simp only[if_neg hv];omega
def ub(lo hi:Option Int)(n:Nat):Builtin.Slice.sliceAdjust lo hi 1 (n:Int)=(((sIx n 0 lo:Nat):Int),((sIx n n hi:Nat):Int)):=by
 have h1:¬ ((1:Int)<0):=by omega
 unfold Builtin.Slice.sliceAdjust;simp only[h1,if_false];refine Prod.ext ?_ ?_
 ·cases lo with
  | none=>rfl
  | some v=>exact ku v n 0
 ·cases hi with
  | none=>rfl
  | some v=>exact ku v n n
def tQ(i j:Nat):Builtin.Slice.slicePlaces (i:Int) (j:Int) 1=j-i:=by
 unfold Builtin.Slice.slicePlaces
 have h1:(1:Int) > 0:=by omega
 simp only[h1,if_true,Int.ediv_one];split<;>omega
def lJ(p:IsPart v o)(h:Q o s):wpAny (model prog w) A (Builtin.Slice.slicePartIndex v) Q E s:=by
 cases p with
 | none=>exact slicePart_none h
 | int i t=>exact slicePart_int h
def kC{sl:Addr}{vl vu:Value}{lo hi:Option Int}{n:Nat}{Q:Int × Int × Nat->Shared->Prop}(hs:s.heap.IsSliceOf sl vl vu .none)(pl:IsPart vl lo)(pu:IsPart vu hi)
 (h:Q (((sIx n 0 lo:Nat):Int),1,sIx n n hi-sIx n 0 lo) s):wpAny (model prog w) A (Builtin.Slice.sliceApplied (.ref sl) (pure (n:Int))) Q E s:=by
 obtain⟨os,hos,hcs,hds⟩:=id hs;unfold Builtin.Slice.sliceApplied Builtin.Slice.sliceFields;refine wpAny_bind (wpAny_bind (wpAny_field hos hds (x:=vl) rfl (wpAny_bind (wpAny_field hos hds (x:=vu) rfl (wpAny_bind (wpAny_field hos hds (x:=.none) rfl (wpAny_pure ?_)))))));refine wpAny_bind (slicePart_none ?_);show wpAny _ _ (if((1:Int) == 0)=true then _ else _) _ _ s;rw[if_neg (by decide)];refine wpAny_bind (lJ pl (wpAny_bind (lJ pu (wpAny_bind (wpAny_pure ?_)))));show wpAny _ _ (match Builtin.Slice.sliceAdjust lo hi 1 (n:Int)with | (lo,hi)=>pure (lo,(1:Int),Builtin.Slice.slicePlaces lo hi 1)) _ _ s;rw[ub lo hi n];show wpAny _ _ (pure (((sIx n 0 lo:Nat):Int),(1:Int),Builtin.Slice.slicePlaces ((sIx n 0 lo:Nat):Int) ((sIx n n hi:Nat):Int) 1)) _ _ s;rw[tQ];exact wpAny_pure h
def yb(xs:Array Value)(i k:Nat):((List.range k).filterMap fun(m:Nat)=>xs[((i:Int)+(m:Int)*1).toNat]?).toArray=((xs.toList.drop i).take k).toArray:=by
 have e:(fun(m:Nat)=>xs[((i:Int)+(m:Int)*1).toNat]?)=fun m=>xs[i+m]?:=by
  funext m
  have:((i:Int)+(m:Int)*1).toNat=i+m:=by omega
  rw[this]
 rw[e];have:=pick_run xs i k;rw[List.filterMap_map]at this;have e2:((fun x=>xs[x]?) ∘ fun x=>i+x)=fun m=>xs[i+m]?:=rfl;rw[e2]at this;rw[this]
def kz{t sl:Addr}{items:Array Value}{vl vu:Value}{lo hi:Option Int}{Q:Value->Shared->Prop}(ht:IsTup s.heap t items)(hs:s.heap.IsSliceOf sl vl vu .none)(pl:IsPart vl lo)(pu:IsPart vu hi)
 (hw:¬ (sIx items.size 0 lo=0/\sIx items.size items.size hi=items.size))
 (h:Q (.ref s.heap.objs.size) { s with heap:=s.heap.push { cls:=.type "tuple",data:=.seq ((items.toList.drop (sIx items.size 0 lo)).take (sIx items.size items.size hi-sIx items.size 0 lo)).toArray } })
 (hsz:items.size<=sizeLine):wpAny (model prog w) A (getItem (.ref t) (.ref sl)) Q E s:=by
 have htake:sizeOk (.seq ((items.toList.drop (sIx items.size 0 lo)).take (sIx items.size items.size hi-sIx items.size 0 lo)).toArray):=by
  show((items.toList.drop (sIx items.size 0 lo)).take (sIx items.size items.size hi-sIx items.size 0 lo)).toArray.size<=sizeLine;rw[List.size_toArray,List.length_take,List.length_drop,Array.length_toList];omega
 have hj:sIx items.size items.size hi<=items.size:=Ex _ _ (Nat.le_refl _) hi;obtain⟨os,hos,hcs,hds⟩:=id hs
 have hTs:s.TypeIs (.ref sl) "slice" := ⟨os,hos,hcs⟩
 unfold getItem
 try with_reducible refine wpAny_holding ?_
 first | refine wpAny_bind (wpAny_pure ?_) | skip
 refine wpAny_bind (wpAny_sequenceKey ht.typeIs (by decide) ?_)
 refine wpAny_bind (wpAny_callSpecial?_slot (name:=Str.ofString "__getitem__") ht.typeIs PyProof.Rows.slot_tuple_getitem
  (wpAny_call_entry PyProof.Rows.slot_tuple_getitem ht.typeIs entry_tuple_getitem ?_ (args_tuple_getitem _ _)))
 show wpAny _ _ (Builtin.Tuple.tupleItemsOf (.ref t) >>= _) _ _ s;refine wpAny_bind (tupleItemsOf_ ht ?_);refine wpAny_bind (wpAny_typeOf hTs ?_);rw[if_pos (by decide)];refine wpAny_bind (kC hs pl pu ?_)
 have hno:¬ ((((sIx items.size 0 lo:Nat):Int) == 0&&(1:Int) == 1&&(sIx items.size items.size hi-sIx items.size 0 lo) == items.size)=true):=by
  intro q;rw[Bool.and_eq_true,Bool.and_eq_true]at q;have q1:((sIx items.size 0 lo:Nat):Int)=0:=eq_of_beq q.1.1;have q2:sIx items.size items.size hi-sIx items.size 0 lo=items.size:=eq_of_beq q.2;exact hw ⟨by omega,by omega⟩
 show wpAny _ _ (if(((sIx items.size 0 lo:Nat):Int) == 0&&(1:Int) == 1&&(sIx items.size items.size hi-sIx items.size 0 lo) == items.size)=true then _ else _) _ _ s;rw[if_neg hno,yb]
 first
  | exact wpAny_bind (m:=Builtin.Tuple.tupleExact _) (wpAny_newObj_type (wpAny_pure ⟨_,rfl,wpAny_pure h⟩) htake)
  | exact wpAny_bind (m:=Builtin.Tuple.tupleExact _) (wpAny_newObj_type (wpAny_bind (wpAny_pure (wpAny_pure ⟨_,rfl,wpAny_pure h⟩))) htake)
  | exact wpAny_bind (wpAny_bind (m:=Builtin.Tuple.tupleExact _) (wpAny_newObj_type (wpAny_pure (wpAny_pure ⟨_,rfl,wpAny_pure h⟩)) htake))
  | exact wpAny_bind (wpAny_bind (m:=Builtin.Tuple.tupleExact _) (wpAny_newObj_type (wpAny_pure ⟨_,rfl,wpAny_pure h⟩) htake))
end
end HT
namespace L2
open PySem PySem.Spec PyProof.Rows
@[reducible]noncomputable def TO:=St->Hp->(Option Int->Hp->Prop)->Prop
abbrev PO(X:Cx)(e:Option Expr)(t:TO):Prop :=
 ∀ (pins:List (Addr × Obj)) (s:Shared) (σ:St) (H:Hp) (Q:Option Int->Hp->Prop),Inv X pins σ H s->t σ H Q ->
  wpAny (model X.prog X.w) X.A (evalPart e X.env) (fun u s'=>∃ o H',Inv X pins σ H' s'/\IsPart u o/\Q o H') X.xe s
abbrev AZ:TO:=fun _ H Q=>Q none H
abbrev FC(t:TE):TO:=fun σ H Q=>t σ H fun x H1=>∃ i,x=.int i/\Q (some i) H1
def intsAre_of:∀ {us:List Value},Vals (ns.map V.int) us->IntsAre us ns:=by
 induction ns with
 | nil=>intro us r;rw[List.map_nil]at r;cases r;exact .nil
 |cons n ns ih=>
  intro us r;rw[List.map_cons]at r
  cases r with
  |cons r1 r2=>
   obtain⟨t,e⟩:=r1;subst e;exact .cons n t (ih r2)
section
variable{X:Cx}{e:Expr}{te:TE}{lo hi:Option Expr}{tl th:TO}{pos p2:Pos}
def mi:PO X none AZ:=by
 intro pins s σ H Q I h;rw[evalPart_none];exact wpAny_pure ⟨none,H,I,.none,h⟩
def mM(h:PE X e te):PO X (some e) (FC te):=by
 intro pins s σ H Q I hw;rw[evalPart_some];refine thn (h pins s σ H _ I hw) fun u s1 ⟨x,H1,I1,r1,q1⟩=>?_;obtain⟨i,rfl,q⟩:=q1;obtain⟨t,rfl⟩:=r1;exact⟨some i,H1,I1,.int i t,q⟩
abbrev SlR(X:Cx)(r:V->Option Int->Option Int->Hp->VK->Prop):Prop :=
 ∀ (pins:List (Addr × Obj)) (s:Shared) (σ:St) (H:Hp) (x:V) (v vl vu:Value) (lo hi:Option Int) (sl:Addr) (Q:VK),Inv X pins σ H s->RelV x v->s.heap.IsSliceOf sl vl vu .none->IsPart vl lo->IsPart vu hi->r x lo hi H Q ->
  ∃ T id,typeLookup (.type T) "__getitem__" = pure (some (.builtin id))/\s.TypeIs v T/\wpAny (model X.prog X.w) X.A (getItem v (.ref sl)) (EP X pins σ Q) X.xe s
def SlR.or(h:SlR X r)(h':SlR X r'):SlR X (fun x lo hi H Q=>r x lo hi H Q\/r' x lo hi H Q):=by
 intro pins s σ H x v vl vu lo hi sl Q I rx hs pl pu q;rcases q with q | q
 ·exact h pins s σ H x v vl vu lo hi sl Q I rx hs pl pu q
 ·exact h' pins s σ H x v vl vu lo hi sl Q I rx hs pl pu q
abbrev tSl(r:V->Option Int->Option Int->Hp->VK->Prop)(te:TE)(tl th:TO):TE:=fun σ H Q=>te σ H fun x H1=>tl σ H1 fun l H2=>th σ H2 fun u H3=>r x l u H3 Q
def lg(hr:SlR X r)(he:PE X e te)(hl:PO X lo tl)(hu:PO X hi th):PE X (.Subscript e (.Slice lo hi none p2) pos) (tSl r te tl th):=by
 intro pins s σ H Q I h;refine Subscript_ (thn (he pins s σ H _ I h) fun v s1 ⟨x,H1,I1,r1,q1⟩=>?_);refine wpAny_Slice (thn (hl pins s1 σ H1 _ I1 q1) fun vl s2 ⟨l,H2,I2,pl,q2⟩=>thn (hu pins s2 σ H2 _ I2 q2) fun vu s3 ⟨u,H3,I3,pu,q3⟩=>?_);rw[evalPart_none];refine wpAny_pure ?_;have I4:Inv X pins σ H3 { s3 with heap:=s3.heap.push { cls:=.type "slice",data:=.fields #[vl,vu,.none] } }:=I3.kept (t':=s3.toks) fun b ob q=>Heap.get?_push_of_some _ q;obtain⟨T,id,hT,ht,hg⟩:=hr pins { s3 with heap:=s3.heap.push { cls:=.type "slice",data:=.fields #[vl,vu,.none] } } σ H3 x v vl vu l u s3.heap.objs.size Q I4 r1 (Heap.IsSliceOf.new ..) pl pu q3;show wpAny (model X.prog X.w) X.A (subscriptTail e (.Slice lo hi none p2) v (.ref s3.heap.objs.size)) (EP X pins σ Q) X.xe { s3 with heap:=s3.heap.push { cls:=.type "slice",data:=.fields #[vl,vu,.none] } };exact tail_any (ops:=[.ref s3.heap.objs.size,v]) ht hT hg (by with_unfolding_all rfl)
abbrev iX(xs:List V)(lo hi:Option Int):List V:=(xs.drop (HT.sIx xs.length 0 lo)).take (HT.sIx xs.length xs.length hi-HT.sIx xs.length 0 lo)
def k7(xs:List V)(lo hi:Option Int):(iX xs lo hi).length<=xs.length:=by
 unfold iX;rw[List.length_take,List.length_drop];omega
abbrev FO(K:PySem.W.Frag):V->Option Int->Option Int->Hp->VK->Prop:=fun x lo hi H Q=>∃ a xs,x=.ref a/\SqT K H a xs /\
 ¬ (HT.sIx xs.length 0 lo=0/\HT.sIx xs.length xs.length hi=xs.length)/\∀ p,H p=none->Q (.ref p) (upd H p (.tup (iX xs lo hi)))
def BA:SlR X (FO X.K):=by
 intro pins s σ H x v vl vu lo hi sl Q I rx hs pl pu h;obtain⟨a,xs,rfl,hx,hw,q⟩:=h;cases rx;obtain⟨its,r,ht,hz⟩:=I.tuple hx
 have hlen:its.toArray.size=xs.length:=by rw[List.size_toArray];exact r.length.symm
 refine⟨"tuple",_,PyProof.Rows.slot_tuple_getitem.lookup,ht.typeIs,?_⟩;refine HT.kz ht hs pl pu (by rw[hlen];exact hw) ?_ (by rw[hlen];exact hz);rw[hlen];refine⟨.ref s.heap.objs.size,_,I.laid (t':=s.toks) (o:=.tup (iX xs lo hi)) (fun b ob q=>Heap.get?_push_of_some _ q) (Nat.le_refl _) ?_,rfl,q _ (I.hok.fresh (Nat.le_refl _))⟩;exact⟨Nat.le_trans (k7 xs lo hi) hz,_,(r.drop (HT.sIx xs.length 0 lo)).take (HT.sIx xs.length xs.length hi-HT.sIx xs.length 0 lo),IsTup.new _ _⟩
abbrev Fp(K:PySem.W.Frag):R2:=fun x y H Q=>∃ a b xs ys,x=.ref a/\y=.ref b/\SqT K H a xs/\SqT K H b ys/\xs≠[]/\xs.length+ys.length<=sizeLine /\
 (ys=[]->Q (.ref a) H)/\(ys≠[]->∀ p,H p=none->Q (.ref p) (upd H p (.tup (xs++ys))))
def Vals.mG(r:Vals xs us):us=[]↔xs=[]:=by
 cases r with
 | nil=>simp
 | cons _ _=>simp
def Ak:OpR X (binaryOp .Add) (Fp X.K):=by
 intro pins s σ H x y v u Q I rx ry h;obtain⟨a,b,xs,ys,rfl,rfl,ha,hb,hx,hz,q1,q2⟩:=h;cases rx;cases ry;obtain⟨its,r1,p1,_⟩:=I.tuple ha;obtain⟨its2,r2,p2,_⟩:=I.tuple hb;refine HT.AV p1 p2 (fun z=>hx (r1.mG.mp z)) (fun z=>⟨.ref a,H,I,rfl,q1 (r2.mG.mp z)⟩) (fun z=>?_) (by rw[<-r1.length,<-r2.length];exact hz);refine⟨.ref s.heap.objs.size,_,I.laid (t':=s.toks) (o:=.tup (xs++ys)) (fun b ob q=>Heap.get?_push_of_some _ q) (Nat.le_refl _) ?_,rfl,q2 (fun w=>z (r2.mG.mpr w)) _ (I.hok.fresh (Nat.le_refl _))⟩;exact⟨by rw[List.length_append];exact hz,_,r1.append r2,IsTup.new _ _⟩
end
abbrev ixN(n:Nat)(i:Int):Option Nat:=if 0<=i then(if i<n then some i.toNat else none)else if -(n:Int)<=i then some (i+n).toNat else none
abbrev atI(xs:List α)(i:Int):Option α:=(ixN xs.length i).bind fun j=>xs[j]?
def sC(h:ixN n i=some j):seqIndex? i n=some j/\j<n/\-(n:Int)<=i/\i<n:=by
 unfold ixN at h;by_cases h0:0<=i
 ·rw[if_pos h0]at h;by_cases h1:i<n
  ·rw[if_pos h1]at h;have e:i.toNat=j:=Option.some.inj h;exact⟨by rw[seqIndex_of h0 h1,e],by omega,by omega,h1⟩
  ·rw[if_neg h1]at h;cases h
 ·rw[if_neg h0]at h;by_cases h1:-(n:Int)<=i
  ·rw[if_pos h1]at h;have e:(i+n).toNat=j:=Option.some.inj h;exact⟨by rw[seqIndex_neg (by omega) h1,e],by omega,h1,by omega⟩
  ·rw[if_neg h1]at h;cases h
def mE(h:atI xs i=some v):∃ j,seqIndex? i xs.length=some j/\xs[j]?=some v/\j<xs.length/\-(xs.length:Int)<=i/\i<xs.length:=by
 unfold atI at h
 cases e:ixN xs.length i with
 | none=>rw[e]at h;cases h
 |some j=>
  rw[e]at h;obtain⟨h1,h2,h3,h4⟩:=sC e;exact⟨j,h1,h,h2,h3,h4⟩
abbrev sH(b:Expr):Prop:=∀ o i,subscripted b false o i=operate [o,i] (getItem o i)
abbrev IxR(X:Cx)(r:R2):Prop :=
 ∀ (value slice:Expr) (pins:List (Addr × Obj)) (s:Shared) (σ:St) (H:Hp) (x y:V) (v u:Value) (Q:VK),Inv X pins σ H s->RelV x v->RelV y u->r x y H Q ->
  subscripted slice false v u=operate [v,u] (getItem v u)->wpAny (model X.prog X.w) X.A (subscriptTail value slice v u) (EP X pins σ Q) X.xe s
abbrev MtR(X:Cx)(id:String)(r:V->List V->Hp->VK->Prop):Prop :=
 ∀ (pins:List (Addr × Obj)) (s:Shared) (σ:St) (H:Hp) (x:V) (xs:List V) (v:Value) (us:List Value) (Q:VK),Inv X pins σ H s->RelV x v->Vals xs us->r x xs H Q ->
  wpAny (model X.prog X.w) X.A (call (.builtin id) (v::us)) (EP X pins σ Q) X.xe s
section
variable{X:Cx}{a b:Expr}{ta tb:TE}{pos:Pos}
def IxR.or(h:IxR X r)(h':IxR X r'):IxR X (fun x y H Q=>r x y H Q\/r' x y H Q):=by
 intro value slice pins s σ H x y v u Q I rx ry q hs;rcases q with q | q
 ·exact h value slice pins s σ H x y v u Q I rx ry q hs
 ·exact h' value slice pins s σ H x y v u Q I rx ry q hs
def zN{r:R2}(hr:IxR X r)(ha:PE X a ta)(hb:PE X b tb)(hs:sH b):PE X (.Subscript a b pos) (tOp r ta tb):=by
 intro pins s σ H Q I h;exact Subscript_ (zd ha hb I h fun v u s2 x y H2 I2 rx ry q=>hr a b pins s2 σ H2 x y v u Q I2 rx ry q (hs _ _))
abbrev DQ(K:PySem.W.Frag):R2:=fun x y H Q=>∃ p xs i v,x=.ref p/\y=.int i/\SqL K H p xs/\atI xs i=some v/\Q v H
abbrev Bz(K:PySem.W.Frag):R2:=fun x y H Q=>∃ p xs i v,x=.ref p/\y=.int i/\SqT K H p xs/\atI xs i=some v/\Q v H
abbrev Cd:R2:=fun x y H Q=>∃ z i c,x=.str z/\y=.int i/\z.length<=sizeLine/\atI z.cps.toList i=some c/\Q (.str ⟨#[c]⟩) H
def Bg:IxR X (DQ X.K):=by
 intro value slice pins s σ H x y v u Q I rx ry h hs;obtain⟨p,xs,i,z,rfl,rfl,hq,he,q⟩:=h;cases rx;obtain⟨t,rfl⟩:=ry;obtain⟨its,r,pl,hz⟩:=I.list hq;obtain⟨j,h1,h2,h3,h4,h5⟩:=mE he;obtain⟨w,ew,rw'⟩:=r.get h2;have hl:=r.length;have hn:=iy
 have fin:EP X pins σ Q w s:=⟨z,H,I,rw',q⟩
 by_cases h0:0<=i
 ·have hj:i.toNat=j:=by
   rw[seqIndex_of h0 h5]at h1;exact Option.some.inj h1
  exact item_listR pl.isList h0 (by omega) (by rw[hj];simpa using ew) fin hs
 ·have hj:(i+(its.toArray.size:Int)).toNat=j:=by
   rw[seqIndex_neg (by omega) h4]at h1;rw[List.size_toArray,<-hl];exact Option.some.inj h1
  exact subscriptTail_builtinR (x:=w) pl.isList.typeIs slot_list_getitem.lookup
   (wpAny_getItem_list_neg (Q:=fun r s'=>r=w/\EP X pins σ Q r s') pl.isList (by omega) (by rw[List.size_toArray]<;>omega) (by omega) (by rw[hj];simpa using ew) ⟨rfl,fin⟩) hs
def fK:IxR X (Bz X.K):=by
 intro value slice pins s σ H x y v u Q I rx ry h hs;obtain⟨p,xs,i,z,rfl,rfl,hq,he,q⟩:=h;cases rx;obtain⟨t,rfl⟩:=ry;obtain⟨its,r,pl,hz⟩:=I.tuple hq;obtain⟨j,h1,h2,h3,h4,h5⟩:=mE he;obtain⟨w,ew,rw'⟩:=r.get h2;have hl:=r.length;have hn:=iy
 have fin:EP X pins σ Q w s:=⟨z,H,I,rw',q⟩
 exact subscriptTail_builtinR (x:=w) pl.typeIs slot_tuple_getitem.lookup
  (getItem_tuple (j:=j) (Q:=fun r s'=>r=w/\EP X pins σ Q r s') pl (by omega) (by omega) (by rw[List.size_toArray,<-hl];exact h1) (by simpa using ew) ⟨rfl,fin⟩) hs
def Cp:IxR X Cd:=by
 intro value slice pins s σ H x y v u Q I rx ry h hs;obtain⟨z,i,c,rfl,rfl,hz,he,q⟩:=h;obtain⟨t,rfl⟩:=rx;obtain⟨t',rfl⟩:=ry;obtain⟨j,h1,h2,h3,h4,h5⟩:=mE he
 have hl:z.cps.toList.length=z.length:=by simp[Str.length]
 rw[hl]at h1 h4 h5;have hn:=iy
 exact tail_any (typeIs_str s z t) slot_str_getitem.lookup (getItem_str (c:=c) (by
  have e1:decide (i < -(2 ^ 63:Int))=false:=decide_eq_false (by omega);have e2:decide (i≥2 ^ 63)=false:=decide_eq_false (by omega)
  rw[e1,e2,Bool.or_false]) (by rw[h1];simpa using h2) ⟨.str ⟨#[c]⟩,H,I.tok _,⟨_,rfl⟩,q⟩) hs
abbrev rIx(K:PySem.W.Frag):R2:=fun x y H Q=>DQ K x y H Q\/Bz K x y H Q\/Cd x y H Q
def vD:IxR X (rIx X.K):=Bg.or (fK.or Cp)
def tL(its:List Value)(n j:Nat)(u:Value):Obj.mapSeq (·.setIfInBounds j u) { cls:=.type "list",data:=.seq its.toArray n }={ cls:=.type "list",data:=.seq (its.set j u).toArray n }:=by
 simp[Obj.mapSeq]
def Inv.lst{pins:List (Addr × Obj)}{σ:St}{H:Hp}{s:Shared}{p:Addr}{xs:List V}(I:Inv X pins σ H s)(h:H p=some (.lst xs)) :
  ∃ (its:List Value) (n:Nat),Vals xs its/\s.heap.get? p=some { cls:=.type "list",data:=.seq its.toArray n }/\xs.length<=sizeLine:=by
 obtain⟨z,its,n,r,e⟩:=I.hok p _ h;exact⟨its,n,r,e,z⟩
def Inv.CD{pins:List (Addr × Obj)}{σ:St}{H:Hp}{s:Shared}{p:Addr}{xs ys:List V}{its its':List Value}{n n':Nat}{f:Obj->Obj}(I:Inv X pins σ H s)(h:H p=some (.lst xs))
 (ho:s.heap.get? p=some { cls:=.type "list",data:=.seq its.toArray n })(hf:f { cls:=.type "list",data:=.seq its.toArray n }={ cls:=.type "list",data:=.seq its'.toArray n' })(r:Vals ys its')(hz:ys.length<=sizeLine)(t:Nat) :
  Inv X pins σ (upd H p (.lst ys)) { s with heap:=s.heap.update p f,toks:=t }:=by
 have e:(s.heap.update p f).get? p=some { cls:=.type "list",data:=.seq its'.toArray n' }:=by
  rw[Heap.get?_update_self f ho (by rw[hf]<;>rfl),hf]
 refine I.write (x:=p) (e:=p) (by rw[h];trivial) (.inl rfl) (fun b u hb q=>(Heap.get?_update_other _ _ (Ne.symm hb)).trans q) ⟨_,e⟩ ?_;exact⟨hz,its',n',r,e⟩
abbrev uG:V->V->V->Hp->(Hp->Prop)->Prop:=fun o i v H Q=>∃ p xs k j,o=.ref p/\i=.int k/\H p=some (.lst xs)/\ixN xs.length k=some j/\Q (upd H p (.lst (xs.set j v)))
def set_list:Cz X uG:=by
 intro pins s σ H o i v ov iv u Q I ro ri rv h;obtain⟨p,xs,k,j,rfl,rfl,hp,hj,q⟩:=h;cases ro;obtain⟨t,rfl⟩:=ri;obtain⟨its,n,r,ho,hz⟩:=I.lst hp;obtain⟨h1,h2,h3,h4⟩:=sC hj;have hl:=r.length;have hn:=iy
 have I':Inv X pins σ (upd H p (.lst (xs.set j v))) { s with heap:=s.heap.update p (Obj.mapSeq (·.setIfInBounds j u)) } :=
  I.CD hp ho (tL its n j u) (r.set rv j) (by rw[List.length_set];exact hz) s.toks
 by_cases h0:0<=k
 ·have hk:k.toNat=j:=by
   rw[seqIndex_of h0 h4]at h1;exact Option.some.inj h1
  exact PySem.W.ki_setAt ho h0 (by omega) (by rw[List.size_toArray,<-hl];exact h4) (by rw[hk];exact⟨_,I',q⟩)
 ·have hk:(k+(its.toArray.size:Int)).toNat=j:=by
   rw[seqIndex_neg (by omega) h3]at h1;rw[List.size_toArray,<-hl];exact Option.some.inj h1
  exact PySem.W.ki_setBack ho (by omega) (by rw[List.size_toArray,<-hl];exact h3) (by omega) (by rw[hk];exact⟨_,I',q⟩)
def pB(lo hi:Option Int)(n:Nat):(sliceBounds lo hi none n).1=((HT.sIx n 0 lo:Nat):Int)/\(sliceBounds lo hi none n).2.1=((HT.sIx n n hi:Nat):Int)/\(sliceBounds lo hi none n).2.2=1:=by
 refine⟨?_,?_,rfl⟩
 ·cases lo with
  | none=>simp[sliceBounds,HT.sIx]
  |some i=>
   simp only[sliceBounds,HT.sIx,Option.getD_none,show(1:Int) > 0 by decide,if_true];by_cases h:i<0
   ·simp only[h,if_true]<;>omega
   ·simp only[h,if_false]<;>omega
 ·cases hi with
  | none=>simp[sliceBounds,HT.sIx]
  |some i=>
   simp only[sliceBounds,HT.sIx,Option.getD_none,show(1:Int) > 0 by decide,if_true];by_cases h:i<0
   ·simp only[h,if_true]<;>omega
   ·simp only[h,if_false]<;>omega
def om(its:List Value)(lo hi:Option Int):slicePick its.toArray lo hi none=((its.drop (HT.sIx its.length 0 lo)).take (HT.sIx its.length its.length hi-HT.sIx its.length 0 lo)).toArray:=by
 obtain⟨h1,h2,h3⟩:=pB lo hi its.toArray.size;unfold slicePick;rw[h1,h2,h3];simp only[sliceRange_one,pick_run,List.size_toArray]<;>rfl
abbrev FF(K:PySem.W.Frag):V->Option Int->Option Int->Hp->VK->Prop:=fun x lo hi H Q=>∃ a xs,x=.ref a/\SqL K H a xs/\∀ p,H p=none->Q (.ref p) (upd H p (.lst (iX xs lo hi)))
def Bx:SlR X (FF X.K):=by
 intro pins s σ H x v vl vu lo hi sl Q I rx hs pl pu h;obtain⟨a,xs,rfl,hx,q⟩:=h;cases rx;obtain⟨its,r,ht,hz⟩:=I.list hx;have hlen:=r.length;refine⟨"list",_,slot_list_getitem.lookup,ht.isList.typeIs,?_⟩;refine wpAny_getItem_list_slice ht.isList hs pl pu .none (by simp) ?_ (by rw[List.size_toArray]<;>omega);rw[om,<-hlen];refine⟨.ref s.heap.objs.size,_,I.laid (t':=s.toks) (o:=.lst (iX xs lo hi)) (fun b ob q=>Heap.get?_push_of_some _ q) (Nat.le_refl _) ?_,rfl,q _ (I.hok.fresh (Nat.le_refl _))⟩;exact⟨Nat.le_trans (k7 xs lo hi) hz,_,0,(r.drop (HT.sIx xs.length 0 lo)).take (HT.sIx xs.length xs.length hi-HT.sIx xs.length 0 lo),Heap.get?_push_size _ rfl⟩
abbrev fF:V->Bool
 | .non=>true
 | .bl _=>true
 | .int _=>true
 | .str _=>true
 | _=>false
abbrev eqV:V->V->Bool
 | .non,.non=>true
 | .bl a,.bl b=>a == b
 | .bl a,.int b=>(if a then 1 else 0) == b
 | .int a,.bl b=>a == (if b then 1 else 0)
 | .int a,.int b=>a == b
 | .str a,.str b=>a == b
 | _,_=>false
def BR(ry:RelV y u)(rx:RelV x v)(fy:fF y=true)(fx:fF x=true):SeqAt.EqAt A s u v (eqV y x):=by
 cases y with
 |non=>
  cases ry
  cases x with
  | non=>cases rx;exact SeqAt.EqAt.same _
  | bl b=>cases rx;exact SeqAt.EqAt.none_bool b
  | int b=>obtain⟨t,rfl⟩:=rx;exact SeqAt.EqAt.none_int b t
  | str b=>obtain⟨t,rfl⟩:=rx;exact SeqAt.EqAt.none_str b t
  | _=>exact absurd (show false=true from fx) Bool.false_ne_true
 |bl a=>
  cases ry
  cases x with
  | non=>cases rx;exact SeqAt.EqAt.bool_none a
  | bl b=>cases rx;exact SeqAt.EqAt.bool_bool a b
  | int b=>obtain⟨t,rfl⟩:=rx;exact SeqAt.EqAt.bool_int a b t
  | str b=>obtain⟨t,rfl⟩:=rx;exact SeqAt.EqAt.bool_str a b t
  | _=>exact absurd (show false=true from fx) Bool.false_ne_true
 |int a=>
  obtain⟨t',rfl⟩:=ry
  cases x with
  | non=>cases rx;exact SeqAt.EqAt.int_none a t'
  | bl b=>cases rx;exact SeqAt.EqAt.int_bool a t' b
  | int b=>obtain⟨t,rfl⟩:=rx;exact SeqAt.EqAt.int_int a t' b t
  | str b=>obtain⟨t,rfl⟩:=rx;exact SeqAt.EqAt.int_str a t' b t
  | _=>exact absurd (show false=true from fx) Bool.false_ne_true
 |str a=>
  obtain⟨t',rfl⟩:=ry
  cases x with
  | non=>cases rx;exact SeqAt.EqAt.str_none a t'
  | bl b=>cases rx;exact SeqAt.EqAt.str_bool a t' b
  | int b=>obtain⟨t,rfl⟩:=rx;exact SeqAt.EqAt.str_int a t' b t
  | str b=>obtain⟨t,rfl⟩:=rx;exact SeqAt.EqAt.str_str a t' b t
  | _=>exact absurd (show false=true from fx) Bool.false_ne_true
 | _=>exact absurd (show false=true from fy) Bool.false_ne_true
abbrev eqU(x:V)(u:Value):Bool:=match u with
 | .none=>eqV .non x
 | .bool b=>eqV (.bl b) x
 | .int i _=>eqV (.int i) x
 | .str z _=>eqV (.str z) x
 | _=>false
def vh(r:RelV y u)(f:fF y=true):eqU x u=eqV y x:=by
 cases y with
 | non=>cases r;rfl
 | bl b=>cases r;rfl
 | int i=>obtain⟨t,rfl⟩:=r;rfl
 | str z=>obtain⟨t,rfl⟩:=r;rfl
 | _=>exact absurd (show false=true from f) Bool.false_ne_true
def i5:∀ {xs:List V} {us:List Value},Vals xs us->xs.all fF=true->us.any (eqU x)=xs.any fun y=>eqV y x
 | _,_,.nil,_=>rfl
 | y::xs,u::us,.cons r t,f=>by
  rw[List.all_cons,Bool.and_eq_true]at f;rw[List.any_cons,List.any_cons,vh r f.1,i5 t f.2]
def gK(rx:RelV x v)(fx:fF x=true):∀ {xs:List V} {us:List Value},Vals xs us->xs.all fF=true->∀ u∈us,SeqAt.EqAt A s u v (eqU x u)
 | _,_,.nil,_=>fun u hu=>by cases hu
 | y::xs,u::us,.cons r t,f=>fun u' hu=>by
  rw[List.all_cons,Bool.and_eq_true]at f;rcases List.mem_cons.mp hu with rfl | hu
  ·rw[vh r f.1];exact BR r rx f.1 fx
  ·exact gK rx fx t f.2 u' hu
abbrev inV(x:V)(xs:List V):Bool:=xs.any fun y=>eqV y x
abbrev rIn(K:PySem.W.Frag)(neg:Bool):R2:=fun x y H Q=>∃ p xs,y=.ref p/\(SqL K H p xs\/SqT K H p xs)/\fF x=true/\xs.all fF=true/\Q (.bl (if neg then !inV x xs else inV x xs)) H
def vf:OpR X (compareOp .In) (rIn X.K false):=by
 intro pins s σ H x y v u Q I rx ry h;obtain⟨p,xs,rfl,hq,fx,fs,q⟩:=h;cases ry;rcases hq with hq | hq
 ·obtain⟨its,r,pl,hz⟩:=I.list hq;refine SeqAt.in_listAt (eqU x) pl.isList (fun w hw=>gK rx fx r fs w (by simpa using hw)) ⟨.bl _,H,I,rfl,?_⟩;rw[show its.toArray.any (eqU x)=its.any (eqU x) by simp,i5 r fs];exact q
 ·obtain⟨its,r,pl,hz⟩:=I.tuple hq;refine SeqAt.in_tupleAt (eqU x) pl (fun w hw=>gK rx fx r fs w (by simpa using hw)) ⟨.bl _,H,I,rfl,?_⟩;rw[show its.toArray.any (eqU x)=its.any (eqU x) by simp,i5 r fs];exact q
def qh:OpR X (compareOp .NotIn) (rIn X.K true):=by
 intro pins s σ H x y v u Q I rx ry h;obtain⟨p,xs,rfl,hq,fx,fs,q⟩:=h;cases ry;rcases hq with hq | hq
 ·obtain⟨its,r,pl,hz⟩:=I.list hq;refine SeqAt.notIn_listAt (eqU x) pl.isList (fun w hw=>gK rx fx r fs w (by simpa using hw)) ⟨.bl _,H,I,rfl,?_⟩;rw[show its.toArray.any (eqU x)=its.any (eqU x) by simp,i5 r fs];exact q
 ·obtain⟨its,r,pl,hz⟩:=I.tuple hq;refine SeqAt.notIn_tupleAt (eqU x) pl (fun w hw=>gK rx fx r fs w (by simpa using hw)) ⟨.bl _,H,I,rfl,?_⟩;rw[show its.toArray.any (eqU x)=its.any (eqU x) by simp,i5 r fs];exact q
def bx.or(h:bx X f r)(h':bx X f r'):bx X f (fun xs H Q=>r xs H Q\/r' xs H Q):=by
 intro pins s σ H xs us Q I rs q;rcases q with q | q
 ·exact h pins s σ H xs us Q I rs q
 ·exact h' pins s σ H xs us Q I rs q
def pT:bx X (.type "list") (fun xs H Q=>∃ p ys,xs=[.ref p]/\(SqL X.K H p ys\/SqT X.K H p ys)/\∀ l,H l=none->Q (.ref l) (upd H l (.lst ys))):=by
 intro pins s σ H xs us Q I r h;obtain⟨p,ys,rfl,hq,q⟩:=h;obtain⟨u,rfl,rx⟩:=vals1 r;cases rx
 have fin:∀ (its:List Value),Vals ys its->ys.length<=sizeLine->∀ (h':Heap) (c':Nat),(∀ b o',s.heap.get? b=some o'->h'.get? b=some o') ->
   h'.get? s.heap.objs.size=some { cls:=.type "list",dict:=none,data:=.seq its.toArray c',slots:=#[] }->EP X pins σ Q (.ref s.heap.objs.size) { s with heap:=h' }:=fun its r' hz h' c' kp e =>
  ⟨.ref s.heap.objs.size,_,I.laid (t':=s.toks) kp (Nat.le_refl _) (show bj X.prog X.w _ h' _ (.lst ys)from⟨hz,its,c',r',e⟩),rfl,q _ (I.hok.fresh (Nat.le_refl _))⟩
 rcases hq with hq | hq
 ·obtain⟨its,r',pl,hz⟩:=I.list hq;have hlen:=r'.length;obtain⟨o,ho,hc,n,hd⟩:=pl.isList;exact call_list_seq p (.inl rfl) ho hc hd (fun h' c' kp e=>fin its r' hz h' c' kp e) (by simp only[List.size_toArray]<;>omega)
 ·obtain⟨its,r',pl,hz⟩:=I.tuple hq;have hlen:=r'.length;obtain⟨o,ho,hc,n,hd⟩:=pl;exact call_list_seq p (.inr rfl) ho hc hd (fun h' c' kp e=>fin its r' hz h' c' kp e) (by simp only[List.size_toArray]<;>omega)
def oi:bx X (.type "tuple") (fun xs H Q=>∃ p ys,xs=[.ref p]/\((SqL X.K H p ys/\∀ l,H l=none->Q (.ref l) (upd H l (.tup ys)))\/(SqT X.K H p ys/\Q (.ref p) H))):=by
 intro pins s σ H xs us Q I r h;obtain⟨p,ys,rfl,h⟩:=h;obtain⟨u,rfl,rx⟩:=vals1 r;cases rx
 rcases h with⟨hq,q⟩ | ⟨hq,q⟩
 ·obtain⟨its,r',pl,hz⟩:=I.list hq;have hlen:=r'.length;refine call_tuple_list pl.isList (fun h' kp=>?_) (by simp only[List.size_toArray]<;>omega);have I1:Inv X pins σ H { s with heap:=h' }:=I.kept (t':=s.toks) kp
  have I2:Inv X pins σ (upd H h'.objs.size (.tup ys)) { s with heap:=h'.push { cls:=.type "tuple",data:=.seq its.toArray } } :=
   I1.laid (t':=s.toks) (fun b o e=>Heap.get?_push_of_some _ e) (Nat.le_refl _) (show bj X.prog X.w _ _ _ (.tup ys)from⟨hz,its,r',IsTup.new _ _⟩)
  exact⟨.ref h'.objs.size,_,I2,rfl,q _ (I1.hok.fresh (Nat.le_refl _))⟩
 ·obtain⟨its,r',pl,hz⟩:=I.tuple hq;exact call_tuple_same pl ⟨.ref p,H,I,rfl,q⟩
abbrev tyV(K:PySem.W.Frag)(T:String)(x:V)(H:Hp):Prop:=match x with
 | .str _=>T = "str"
 | .int _=>T = "int"
 | .ref p=>(T = "list" /\ ∃ xs,SqL K H p xs)\/(T = "tuple" /\ ∃ o,K.lookup p=some o/\o.cls=.type "tuple" /\ o.dict=none) \/
   (T = "dict" /\ ((∃ kvs,H p=some (.dK kvs))\/∃ kvs,H p=some (.dT kvs)))\/(T = "set" /\ ∃ S n,H p=some (.set S n))
 | _=>False
def wR(I:Inv X pins σ H s)(r:RelV x v)(ty:tyV X.K T x H) :
  s.TypeIs v T/\∀ a,v=.ref a->∃ ob,s.heap.get? a=some ob/\ob.dict=none:=by
 cases x with
 |str z=>
  obtain⟨t,rfl⟩:=r;cases(show T = "str" from ty);exact⟨typeIs_str s z t,fun _ e=>nomatch e⟩
 |int i=>
  obtain⟨t,rfl⟩:=r;cases(show T = "int" from ty);exact⟨typeIs_int s i t,fun _ e=>nomatch e⟩
 |ref p=>
  cases r
  rcases ty with⟨rfl,xs,hq⟩ | ⟨rfl,o,hk,hc,hd⟩ | ⟨rfl,hk⟩ | ⟨rfl,S,n,hk⟩
  ·obtain⟨its,_,pl,_⟩:=I.list hq;refine⟨pl.isList.typeIs,fun a e=>?_⟩;cases e;obtain⟨o,n,e,c,hd,_⟩:=pl;exact⟨o,e,hd⟩
  ·refine⟨⟨o,I.kIn p o hk,hc⟩,fun a e=>?_⟩;cases e;exact⟨o,I.kIn _ o hk,hd⟩
  ·have z:∃ o,s.heap.get? p=some o/\o.ExactDict:=by
    rcases hk with⟨kvs,hk⟩ | ⟨kvs,hk⟩
    ·obtain⟨_,_,_,_,o,_,_,e,ex,_⟩:=I.hok p _ hk;exact⟨o,e,ex⟩
    ·obtain⟨_,_,_,_,o,_,_,e,ex,_⟩:=I.hok p _ hk;exact⟨o,e,ex⟩
   obtain⟨o,e,ex⟩:=z;refine⟨⟨o,e,ex.1⟩,fun a e2=>?_⟩;cases e2;exact⟨o,e,ex.2.1⟩
  ·obtain⟨o,_,_,_,e,ex,_⟩:=I.hok p _ hk;refine⟨⟨o,e,ex.1⟩,fun a e2=>?_⟩;cases e2;exact⟨o,e,ex.2.1⟩
 | _=>exact False.elim ty
abbrev uw(K:PySem.W.Frag)(T:String)(r:V->List V->Hp->VK->Prop)(to:TE):TE:=fun σ H Q=>to σ H fun x H1=>tyV K T x H1/\r x [] H1 Q
abbrev tBM(K:PySem.W.Frag)(T:String)(r:V->List V->Hp->VK->Prop)(to:TE)(t:TA):TE:=fun σ H Q=>to σ H fun x H1=>tyV K T x H1/\t σ H1 fun xs H2=>r x xs H2 Q
variable{o e:Expr}{es:List Expr}{to:TE}{t:TA}{name:Str}{apos cpos:Pos}{T id:String}{r:V->List V->Hp->VK->Prop}
def pR(pa:PlainAttrs T)(slot:Slot T name id)(hty:typeOf (.builtin id)=pure (.type "method_descriptor"))(hm:MtR X id r)(ho:PE X o to)
 (hbase:attributeBase o name X.env (eval o X.env)=eval o X.env:=by rfl)(hline:(apos.endLine == cpos.line)=true:=by rfl):PE X (.Call (.Attribute o name apos) [] [] cpos) (uw X.K T r to):=by
 intro pins s σ H Q I h;refine wpAny_Call_method0_late hbase hline (thn (ho pins s σ H _ I h) fun v s1 ⟨x,H1,I1,r1,ty,q1⟩=>?_);obtain⟨h1,h2⟩:=wR I1 r1 ty;exact⟨T,id,pa,slot,hty,h1,h2,Calls.callWith_builtin rfl (PySem.evalArgs_none (hm pins s1 σ H1 x [] v [] Q I1 r1 .nil q1))⟩
def zr(pa:PlainAttrs T)(slot:Slot T name id)(hty:typeOf (.builtin id)=pure (.type "method_descriptor"))(hm:MtR X id r)(ho:PE X o to)(ha:PA X (e::es) t)
 (hbase:attributeBase o name X.env (eval o X.env)=eval o X.env:=by rfl)
 (hfew:((backTo cpos (starEach (e::es) X.env)).all (fun x=>!x.1)&&(backToKw cpos (keywordEach [] X.env)).all (fun x=>x.1.isSome)
   && decide ((e::es).length+([]:List Keyword).length+(if([]:List Keyword).isEmpty then 0 else 1)<30))=true:=by rfl)
 (hline:(apos.endLine == cpos.line)=true:=by rfl)(hs:starEach (e::es) X.env=(false,eval e X.env)::starEach es X.env:=by rfl)(hplain:(backTo cpos (starEach es X.env)).any (·.1)=false:=by rfl) :
  PE X (.Call (.Attribute o name apos) (e::es) [] cpos) (tBM X.K T r to t):=by
 intro pins s σ H Q I h;refine wpAny_Call_method_late hbase hfew hline rfl (thn (ho pins s σ H _ I h) fun v s1 ⟨x,H1,I1,r1,ty,q1⟩=>?_);obtain⟨h1,h2⟩:=wR I1 r1 ty;refine⟨T,id,pa,slot,hty,h1,h2,?_⟩;have hA:=ha cpos pins s1 σ H1 _ I1 q1;rw[hs]at hA ⊢;refine Calls.callWith_builtin (by show(false || (backTo cpos (starEach es X.env)).any (·.1))=false;rw[hplain]<;>rfl) (Calls.evalArgs_plain ?_);exact thn hA fun us s2 ⟨vs,H2,I2,r2,q2⟩=>hm pins s2 σ H2 x vs v us Q I2 r1 r2 q2
end
abbrev MtM(X:Cx)(id:String)(r:V->List V->Hp->VK->Prop):Prop :=
 ∀ (pins:List (Addr × Obj)) (s:Shared) (σ:St) (H:Hp) (x:V) (xs:List V) (v:Value) (us:List Value) (Q:VK),Inv X pins σ H s->RelV x v->Vals xs us->r x xs H Q ->
  wpAny (model X.prog X.w) X.A (call (.builtin id) (v::us)) (EP X pins σ Q) X.xe s
def Vals.one:∀ {x:V} {us:List Value},Vals [x] us->∃ u,us=[u]/\RelV x u
 | _,_,.cons r .nil=>⟨_,rfl,r⟩
def Vals.zero:∀ {us:List Value},Vals [] us->us=[]
 | _,.nil=>rfl
def Vals.dropLast(h:Vals xs us):Vals xs.dropLast us.dropLast:=by
 induction h with
 | nil=>exact .nil
 |cons r t ih=>
  cases t with
  | nil=>exact .nil
  | cons q t'=>exact .cons r ih
def Vals.rep(h:Vals xs us):∀ k:Nat,Vals (List.replicate k xs).flatten (List.replicate k us).flatten
 | 0=>.nil
 | k+1=>by
  rw[List.replicate_succ,List.replicate_succ,List.flatten_cons,List.flatten_cons];exact Vals.append h (Vals.rep h k)
def ud(l:List α):l.eraseIdx (l.length-1)=l.dropLast:=by
 induction l with
 | nil=>rfl
 |cons a r ih=>
  cases r with
  | nil=>rfl
  |cons b r=>
   have e:(a::b::r).length-1=((b::r).length-1)+1:=by
    have h1:(a::b::r).length=r.length+2:=rfl;have h2:(b::r).length=r.length+1:=rfl;omega
   rw[e,List.eraseIdx_cons_succ,ih]
   all_goals rfl
def foldl_rep(its:List Value):∀ (k:Nat) (acc:List Value),
  List.foldl (fun x1 x2=>x1++x2) acc.toArray (List.replicate k its.toArray)=(acc++(List.replicate k its).flatten).toArray
 | 0,acc=>by simp
 | k+1,acc=>by
  have e:acc.toArray++its.toArray=(acc++its).toArray:=by simp
  have e2:(acc++its)++(List.replicate k its).flatten=acc++(List.replicate (k+1) its).flatten:=by
   rw[List.replicate_succ,List.flatten_cons,List.append_assoc]
  rw[<-e2,<-foldl_rep its k (acc++its),<-e,List.replicate_succ,List.foldl_cons]
section
variable{X:Cx}{pins:List (Addr × Obj)}{σ:St}{H:Hp}{s:Shared}{l b:Addr}{xs ys zs:List V}
def Inv.Du{its its':List Value}{n:Nat}{f:Array Value->Array Value}{t':Nat}(I:Inv X pins σ H s)(hH:H l=some (.lst xs))
 (e:s.heap.get? l=some { cls:=.type "list",data:=.seq its.toArray n })(hf:f its.toArray=its'.toArray)(hv:Vals ys its')(hz:ys.length<=sizeLine) :
  Inv X pins σ (upd H l (.lst ys)) { s with heap:=s.heap.update l (Obj.mapSeq f),toks:=t' }:=by
 have q:=PySem.IsL.update e f;rw[hf]at q;refine I.write (x:=l) (e:=l) (by rw[hH];exact trivial) (.inl rfl) (fun b' u hb hu=>(Heap.get?_update_other s.heap (Obj.mapSeq f) (Ne.symm hb)).trans hu) ⟨_,q⟩ ?_;exact⟨hz,its',_,hv,q⟩
def Inv.DW(I:Inv X pins σ H s)(hv:Vals ys its)(hz:ys.length<=sizeLine) :
  Inv X pins σ (upd H s.heap.objs.size (.lst ys)) { s with heap:=s.heap.push { cls:=.type "list",data:=.seq its.toArray },toks:=t' } :=
 I.laid (fun _ _ q=>Heap.get?_push_of_some _ q) (Nat.le_refl _) ⟨hz,its,0,hv,Heap.get?_push_size _ rfl⟩
def Inv.fresh(I:Inv X pins σ H s):H s.heap.objs.size=none:=I.hok.fresh (Nat.le_refl _)
def Inv.qU(I:Inv X pins σ H s)(hH:H l=some (.lst xs)):xs.length<=sizeLine/\∃ (its:List Value) (n:Nat),Vals xs its/\xs.length=its.length/\s.heap.get? l=some { cls:=.type "list",data:=.seq its.toArray n }:=by
 obtain⟨z,its,n,r,e⟩:=I.hok l _ hH;exact⟨z,its,n,r,r.length,e⟩
def yH(h:n<=sizeLine):Builtin.List.listTooLong n=false:=by
 unfold Builtin.List.listTooLong;exact decide_eq_false (by omega)
end
section
variable{X:Cx}
abbrev sF:V->List V->Hp->VK->Prop:=fun x vs H Q=>∃ l xs y,x=.ref l/\vs=[y]/\H l=some (.lst xs)/\xs.length<sizeLine/\Q .non (upd H l (.lst (xs++[y])))
def nY:MtM X "list.append" sF:=by
 intro pins s σ H x vs v us Q I rx rv h;obtain⟨l,xs,y,rfl,rfl,hH,hz,q⟩:=h;cases rx;obtain⟨u,rfl,ru⟩:=rv.one;obtain⟨z,its,n,r,hl,e⟩:=I.qU hH;refine call_meets F.slot_list_append ⟨_,e,rfl⟩ F.entry_list_append (F.args_list_append_2 _ _) (PySem.list_append l its.toArray n u (by rw[List.size_toArray];omega)) ⟨e,?_⟩;refine⟨.non,_,I.Du (its':=its++[u]) hH e (by simp) (r.append (.cons ru .nil)) ?_,rfl,q⟩;rw[List.length_append,List.length_singleton];omega
abbrev t7:V->List V->Hp->VK->Prop:=fun x vs H Q=>∃ l xs y,x=.ref l/\vs=[]/\H l=some (.lst xs)/\xs[xs.length-1]?=some y/\Q y (upd H l (.lst xs.dropLast))
def pA:MtM X "list.pop" t7:=by
 intro pins s σ H x vs v us Q I rx rv h;obtain⟨l,xs,y,rfl,rfl,hH,hy,q⟩:=h;cases rx;have hus:=rv.zero;subst hus;obtain⟨z,its,n,r,hl,e⟩:=I.qU hH;obtain⟨u,hu,ru⟩:=r.get hy
 have hy':its.toArray[its.toArray.size-1]?=some u:=by
  show its.toArray[its.length-1]?=some u;rw[<-Array.getElem?_toList,<-hl];exact hu
 refine call_meets F.slot_list_pop ⟨_,e,rfl⟩ F.entry_list_pop (F.args_list_pop_1 _) (MeetsSeq.list_pop_last l its.toArray n u hy' (by rw[List.size_toArray];omega)) ⟨e,?_⟩;refine⟨y,_,I.Du (its':=its.dropLast) hH e ?_ r.dropLast ?_,ru,q⟩
 ·show its.toArray.eraseIdxIfInBounds (its.toArray.size-1)=its.dropLast.toArray;rw[List.size_toArray,List.eraseIdxIfInBounds_toArray,ud]
 ·rw[List.length_dropLast];omega
abbrev FY:R2:=fun x y H Q=>∃ l b xs zs,x=.ref l/\y=.ref b/\H l=some (.lst xs)/\H b=some (.lst zs)/\xs.length+zs.length<=sizeLine/\∀ p,H p=none->Q (.ref p) (upd H p (.lst (xs++zs)))
def BP:OpR X (binaryOp .Add) FY:=by
 intro pins s σ H x y v u Q I rx ry h;obtain⟨l,b,xs,zs,rfl,rfl,hH,hB,hz,q⟩:=h;cases rx;cases ry;obtain⟨z,its,n,r,hl,e⟩:=I.qU hH;obtain⟨z2,its2,n2,r2,hl2,e2⟩:=I.qU hB;refine PySem.P.add_list e e2 ?_ (by rw[List.size_toArray,List.size_toArray];omega)
 have ea:its.toArray++its2.toArray=(its++its2).toArray:=by simp
 rw[ea];exact⟨.ref _,_,I.DW (t':=s.toks) (r.append r2) (by rw[List.length_append];omega),rfl,q _ I.fresh⟩
abbrev FX:R2:=fun x y H Q=>∃ l k xs,x=.ref l/\y=.int k/\H l=some (.lst xs)/\-(2 ^ 63)<=k/\k<2 ^ 63/\xs.length*k.toNat<=sizeLine /\
 ∀ p,H p=none->Q (.ref p) (upd H p (.lst (List.replicate k.toNat xs).flatten))
def len_rep(xs:List α)(k:Nat):(List.replicate k xs).flatten.length=k*xs.length:=by
 induction k with
 | zero=>simp
 | succ k ih=>rw[List.replicate_succ,List.flatten_cons,List.length_append,ih,Nat.succ_mul,Nat.add_comm]
def Ci:OpR X (binaryOp .Mult) FX:=by
 intro pins s σ H x y v u Q I rx ry h;obtain⟨l,k,xs,rfl,rfl,hH,h1,h2,hz,q⟩:=h;cases rx;obtain⟨t,rfl⟩:=ry;obtain⟨z,its,n,r,hl,e⟩:=I.qU hH
 have hlen:its.toArray.size*k.toNat<=sizeLine:=by rw[List.size_toArray,<-hl];exact hz
 have hcap:¬ its.toArray.size*k.toNat > (2 ^ 63-1) / 8:=by
  have:(sizeLine:Nat)<=(2 ^ 63-1) / 8:=by decide
  omega
 have hfit:¬ (!Builtin.List.listFitsIndex k)=true:=by
  rw[fitsIndex_both h1 h2];exact Bool.false_ne_true
 have hlong:¬ Builtin.List.listTooLong (its.toArray.size*k.toNat)=true:=by
  rw[yH hlen];exact Bool.false_ne_true
 have hnew:List.foldl (fun x1 x2=>x1++x2) #[] (List.replicate (if its.toArray.isEmpty=true then 0 else k.toNat) its.toArray)=(List.replicate k.toNat its).flatten.toArray:=by
  have f0:∀ m:Nat,List.foldl (fun x1 x2=>x1++x2) #[] (List.replicate m its.toArray)=(List.replicate m its).flatten.toArray:=fun m=>by
   have:=foldl_rep its m [];rw[List.nil_append]at this;exact this
  rw[f0]
  cases its with
  | nil=>simp
  | cons a r'=>rw[if_neg (by simp)]
 refine wpAny_binaryOp_repeat_ref (T := "list") (U := "int") (by decide) ⟨_,e,rfl⟩ (fun s'=>typeIs_int s' k t) noFill_list_mul F.fills_int_mul F.slot_int_rmul repeat_list F.slot_int_index.lookup
  (call_meets F.slot_int_rmul (typeIs_int s k t) F.entry_int_rmul (F.args_int_rmul_2 _ _) (int___rmul___int_list k t l its.toArray n)
   ⟨e,rfl,⟨_,e,rfl⟩,call_meets F.slot_list_mul ⟨_,e,rfl⟩ F.entry_list_mul (F.args_list_mul_2 _ _) (AutoListH.list___mul___list_int_3 l its.toArray n k t hfit hcap hlong) ⟨e,?_⟩⟩)
 rw[hnew];exact⟨.ref _,_,I.DW (t':=s.toks) (r.rep k.toNat) (by rw[len_rep,Nat.mul_comm];exact hz),rfl,q _ I.fresh⟩
end
section
variable{prog:Program}{w:World}{A:Around}{E:Value->Shared->Prop}{s:Shared}
set_option maxRecDepth 100000 in
end
section
variable{X:Cx}
end
section
variable{κ:Type} [DecidableEq κ]
abbrev eO(kvs:List (κ × V))(k:κ):Option V:=(kvs.find? fun kv=>decide (kv.1=k)).map (·.2)
abbrev putK(kvs:List (κ × V))(k:κ)(v:V):List (κ × V) :=
 if(kvs.any fun kv=>decide (kv.1=k))=true then kvs.map (fun kv=>if kv.1=k then(kv.1,v)else kv)else kvs++[(k,v)]
def jv{p:κ × V}{r:List (κ × V)}{k:κ}(e:p.1=k):eO (p::r) k=some p.2:=by simp[eO,List.find?_cons,e]
def iW{p:κ × V}{r:List (κ × V)}{k:κ}(e:¬ p.1=k):eO (p::r) k=eO r k:=by simp[eO,List.find?_cons,e]
def pJ(k:κ):∀ kvs:List (κ × V),(kvs.any fun kv=>decide (kv.1=k))=(eO kvs k).isSome
 | []=>rfl
 | p::r=>by
  rw[List.any_cons];by_cases e:p.1=k
  ·simp only[jv e,decide_eq_true e,Bool.true_or,Option.isSome_some]
  ·rw[iW e,decide_eq_false e,Bool.false_or];exact pJ k r
def ig(kvs:List (κ × V))(k:κ)(v:V):(putK kvs k v).length<=kvs.length+1:=by
 unfold putK;split
 ·rw[List.length_map];omega
 ·rw[List.length_append,List.length_cons,List.length_nil];omega
def fj.fM(r:fj o u):o.isSome=u.isSome:=by
 cases o with
 | none=>cases u with
  | none=>rfl
  | some _=>exact(show False from r).elim
 | some _=>cases u with
  | none=>exact(show False from r).elim
  | some _=>rfl
def fj.getD(r:fj o u)(rd:RelV d d'):RelV (o.getD d) (u.getD d'):=by
 cases o with
 | none=>cases u with
  | none=>exact rd
  | some _=>exact(show False from r).elim
 | some _=>cases u with
  | none=>exact(show False from r).elim
  | some _=>exact r
def KV.val{kvs:List (κ × V)}{vs:List (κ × Value)}(r:KV kvs vs)(k:κ):fj (eO kvs k) (valueAt vs k):=by
 unfold KV at r
 induction r with
 | nil=>exact True.intro
 |@cons p q ps qs h t ih=>
  obtain⟨h1,h2⟩:=h;by_cases e:p.1=k
  ·have e':q.1=k:=h1.symm.trans e
   have b:valueAt (q::qs) k=some q.2:=by simp[valueAt,List.find?_cons,e']
   rw[jv e,b];exact h2
  ·have e':¬ q.1=k:=fun z=>e (h1.trans z)
   have b:valueAt (q::qs) k=valueAt qs k:=by simp[valueAt,List.find?_cons,e']
   rw[iW e,b];exact ih
def KV.any(r:KV kvs vs)(k:κ):(kvs.any fun kv=>decide (kv.1=k))=vs.any fun kv=>decide (kv.1=k):=by
 unfold KV at r
 induction r with
 | nil=>rfl
 | cons h t ih=>rw[List.any_cons,List.any_cons,ih,h.1]
def KV.y9(r:KV kvs vs)(k:κ)(ry:RelV y u) :
  KV (kvs.map fun kv=>if kv.1=k then(kv.1,y)else kv) (vs.map fun kv=>if kv.1=k then(kv.1,u)else kv):=by
 unfold KV at r ⊢
 induction r with
 | nil=>exact .nil
 |@cons p q ps qs h t ih=>
  rw[List.map_cons,List.map_cons];refine .cons ?_ ih;obtain⟨h1,h2⟩:=h;by_cases e:p.1=k
  ·rw[if_pos e,if_pos (h1.symm.trans e)];exact⟨h1,ry⟩
  ·rw[if_neg e,if_neg (fun z=>e (h1.trans z))];exact⟨h1,h2⟩
def KV.put(r:KV kvs vs)(k:κ)(ry:RelV y u):KV (putK kvs k y) (stored vs k u):=by
 unfold putK stored;rw[r.any k];by_cases e:(vs.any fun kv=>decide (kv.1=k))=true
 ·rw[if_pos e,if_pos e];exact r.y9 k ry
 ·rw[if_neg e,if_neg e];exact Paired.snoc r ⟨rfl,ry⟩
def KV.length(r:KV kvs vs):kvs.length=vs.length:=Paired.length r
end
def jg(r:RelV (kV k) u):(bu P w).is k u=true:=by
 cases k with
 | inl i=>obtain⟨t,e⟩:=(show ∃ t,u=Value.int i t from r);subst e;exact rB P w i t
 | inr x=>obtain⟨t,e⟩:=(show ∃ t,u=Value.str x t from r);subst e;exact rJ P w x t
def nF:∀ {ks:List Key} {us:List Value},Vals (ks.map kV) us->ItemsAre (bu P w) ks us
 | [],_,r=>by rw[List.map_nil]at r;cases r;exact .nil
 | k::ks,_,r=>by
  rw[List.map_cons]at r
  cases r with
  | cons h t=>exact .cons (jg h) (nF t)
@[reducible]noncomputable def KT(H:Hp):List (List Key × V)->List (List Key × Addr × Value)->Prop:=Paired fun p q=>p.1=q.1/\H q.2.1=some (.tup (p.1.map kV))/\RelV p.2 q.2.2
def KT.val{H:Hp}{kvs:List (List Key × V)}{xs:List (List Key × Addr × Value)}(r:KT H kvs xs)(k:List Key):fj (eO kvs k) ((atKey xs k).map (·.2)):=by
 induction r with
 | nil=>exact True.intro
 |@cons p q ps qs h t ih=>
  obtain⟨h1,_,h2⟩:=h;by_cases e:p.1=k
  ·have e':q.1=k:=h1.symm.trans e
   have b:atKey (q::qs) k=some q.2:=by simp[atKey,List.find?_cons,e']
   rw[jv e,b];exact h2
  ·have e':¬ q.1=k:=fun z=>e (h1.trans z)
   have b:atKey (q::qs) k=atKey qs k:=by simp[atKey,List.find?_cons,e']
   rw[iW e,b];exact ih
def KT.y9(r:KT H kvs xs)(k:List Key)(ry:RelV y u) :
  KT H (kvs.map fun kv=>if kv.1=k then(kv.1,y)else kv) (xs.map (putAt k u)):=by
 induction r with
 | nil=>exact .nil
 |@cons p q ps qs h t ih=>
  rw[List.map_cons,List.map_cons];refine .cons ?_ ih;obtain⟨h1,h2,h3⟩:=h;unfold putAt;by_cases e:p.1=k
  ·rw[if_pos e,if_pos (h1.symm.trans e)];exact⟨h1,h2,ry⟩
  ·rw[if_neg e,if_neg (fun z=>e (h1.trans z))];exact⟨h1,h2,h3⟩
def KT.put(r:KT H kvs xs)(k:List Key)(hb:H b=some (.tup (k.map kV)))(ry:RelV y u) :
  KT H (putK kvs k y) (storedH xs k b u):=by
 have e:(kvs.any fun kv=>decide (kv.1=k))=(atKey xs k).isSome:=by
  rw[pJ,(r.val k).fM,Option.isSome_map]
 unfold putK storedH;rw[e];by_cases q:(atKey xs k).isSome=true
 ·rw[if_pos q,if_pos q];exact r.y9 k ry
 ·rw[if_neg q,if_neg q];exact Paired.snoc r ⟨rfl,hb,ry⟩
def KT.keeps(r:KT H kvs xs)(ht:∀ b ys,H b=some (.tup ys)->H' b=some (.tup ys)):KT H' kvs xs :=
 Paired.yJ r fun _ _ z=>⟨z.1,ht _ _ z.2.1,z.2.2⟩
section
variable{P:Program}{w:World}{H:Hp}{h:Heap}{a:Addr}
def zD(ok:HOk P w H h)(e:Rd H a u):bj P w H h a u:=e.ok ok
def gY(ok:HOk P w H h)(e:Rd H a (.dK kvs)):kvs.length<=sizeLine/\(a == sysModules)=false/\∃ vs,KV kvs vs/\h.DictOf (bu P w) a vs :=
 show bj P w H h a (.dK kvs)from zD ok e
def zA(ok:HOk P w H h)(e:H a=some (.dK kvs)):kvs.length<=sizeLine/\(a == sysModules)=false/\∃ vs,KV kvs vs/\h.DictOf (bu P w) a vs:=gY ok (.inl e)
def i0(ok:HOk P w H h)(e:H a=some (.tup (ks.map kV))):(tupleKind (bu P w)).is h ks a:=by
 obtain⟨_,its,r,o,h1,h2,n,h3⟩:=(show bj P w H h a (.tup (ks.map kV))from ok a _ e)
 exact⟨o,its.toArray,n,h1,h2,h3,by simpa using nF r⟩
def iY(ok:HOk P w H h)(e:Rd H a (.dT kvs)):kvs.length<=sizeLine/\(a == sysModules)=false /\
  ∃ xs,KT H kvs xs/\h.DictOfH (tupleKind (bu P w)) a xs:=by
 obtain⟨z,y,xs,r,o,es,ep,h1,h2,h3,h4,h5⟩:=(show bj P w H h a (.dT kvs)from zD ok e)
 refine⟨z,y,xs,r,o,es,ep,h1,h2,h3,h4,fun x hx=>?_,h5⟩
 have all:∀ {l:List (List Key × V)} {m:List (List Key × Addr × Value)},KT H l m->∀ x∈m,(tupleKind (bu P w)).is h x.1 x.2.1:=by
  intro l m q
  induction q with
  | nil=>intro x hx;exact nomatch hx
  |@cons p q ps qs hq t ih=>
   intro x hx;rcases List.mem_cons.mp hx with e | hx
   ·subst e;exact i0 ok (by rw[<-hq.1];exact hq.2.1)
   ·exact ih x hx
 exact all r x hx
def zB(ok:HOk P w H h)(e:H a=some (.dT kvs)):kvs.length<=sizeLine/\(a == sysModules)=false /\
  ∃ xs,KT H kvs xs/\h.DictOfH (tupleKind (bu P w)) a xs:=iY ok (.inl e)
end
abbrev dR(H:Hp)(a:Addr)(y:V)(r:Option V):Prop :=
 (∃ kvs k,Rd H a (.dK kvs)/\y=kV k/\r=eO kvs k)\/∃ kvs k b,Rd H a (.dT kvs)/\y=.ref b/\H b=some (.tup (k.map kV))/\r=eO kvs k
abbrev jC(H:Hp)(a:Addr)(y v:V)(H':Hp):Prop :=
 (∃ kvs k,H a=some (.dK kvs)/\y=kV k/\kvs.length<sizeLine/\H'=upd H a (.dK (putK kvs k v))) \/
 ∃ kvs k b,H a=some (.dT kvs)/\y=.ref b/\H b=some (.tup (k.map kV))/\kvs.length<sizeLine/\H'=upd H a (.dT (putK kvs k v))
def dR.k{H:Hp}{a:Addr}{kvs:List (Key × V)}{k:Key}(e:H a=some (.dK kvs)):dR H a (kV k) (eO kvs k):=.inl ⟨kvs,k,.inl e,rfl,rfl⟩
def dR.t{H:Hp}{a b:Addr}{kvs:List (List Key × V)}{k:List Key}(e:H a=some (.dT kvs))(eb:H b=some (.tup (k.map kV))):dR H a (.ref b) (eO kvs k):=.inr ⟨kvs,k,b,.inl e,rfl,eb,rfl⟩
def jC.k{H:Hp}{a:Addr}{kvs:List (Key × V)}{k:Key}{v:V}(e:H a=some (.dK kvs))(hl:kvs.length<sizeLine):jC H a (kV k) v (upd H a (.dK (putK kvs k v))):=.inl ⟨kvs,k,e,rfl,hl,rfl⟩
def jC.t{H:Hp}{a b:Addr}{kvs:List (List Key × V)}{k:List Key}{v:V}(e:H a=some (.dT kvs))(eb:H b=some (.tup (k.map kV)))(hl:kvs.length<sizeLine) :
  jC H a (.ref b) v (upd H a (.dT (putK kvs k v))):=.inr ⟨kvs,k,b,e,rfl,eb,hl,rfl⟩
section
variable{X:Cx}{pins:List (Addr × Obj)}{σ:St}{H:Hp}{s:Shared}{a:Addr}{y v:V}{u r:Value}{o:Option V}{A:Around}{E:Value->Shared->Prop}
def Inv.big(I:Inv X pins σ H s):sysModules<s.heap.objs.size:=by
 have h:mainGlobals<s.heap.objs.size:=(I.mod.glob.keeps I.bk).lt;exact Nat.lt_trans (by decide) h
def vi(hu:A.units+1<cLine)(I:Inv X pins σ H s)(g:dR H a y (some v))(ry:RelV y u)(h:∀ w' s',Inv X pins σ H s'->RelV v w'->Q w' s') :
  wpAny (model X.prog X.w) A (getItem (.ref a) u) Q E s:=by
 rcases g with⟨kvs,k,e,ey,l⟩ | ⟨kvs,k,b,e,ey,eb,l⟩
 ·subst ey;obtain⟨z,hd,vs,rel,dd⟩:=gY I.hok e;obtain⟨w',hw,rw'⟩:=fj.some_of (v:=v) (o:=valueAt vs k) (by rw[l];exact rel.val k);exact wpAny_getItem_of (jg ry) dd.mapOf hw (h w' _ (I.tok _) rw')
 ·subst ey;cases(show u=Value.ref b from ry);obtain⟨z,hd,xs,rel,dd⟩:=iY I.hok e;obtain⟨w',hw,rw'⟩:=fj.some_of (v:=v) (o:=(atKey xs k).map (·.2)) (by rw[l];exact rel.val k);obtain⟨p,hp,hp2⟩:=Option.map_eq_some_iff.mp hw;refine wpAny_getItem_heap (tupleKind_room_in1 hu) (i0 I.hok eb) dd hp ?_;rw[hp2];exact h w' _ (I.tok _) rw'
def Gd(hu:A.units+1<cLine)(I:Inv X pins σ H s)(g:dR H a y o)(ry:RelV y u)(h:∀ s',Inv X pins σ H s'->Q (.bool o.isSome) s') :
  wpAny (model X.prog X.w) A (compareOp .In u (.ref a)) Q E s:=by
 rcases g with⟨kvs,k,e,ey,l⟩ | ⟨kvs,k,b,e,ey,eb,l⟩
 ·subst ey;obtain⟨z,hd,vs,rel,dd⟩:=gY I.hok e;refine wpAny_in_of (jg ry) hd dd.mapOf ?_;rw[<-(rel.val k).fM,<-l];exact h _ (I.tok _)
 ·subst ey;cases(show u=Value.ref b from ry);obtain⟨z,hd,xs,rel,dd⟩:=iY I.hok e;refine wpAny_in_heap (tupleKind_room_in1 hu) (i0 I.hok eb) hd dd ?_;have q:=(rel.val k).fM;rw[Option.isSome_map]at q;rw[<-q,<-l];exact h _ (I.tok _)
def AO(hu:A.units+1<cLine)(I:Inv X pins σ H s)(g:dR H a y o)(ry:RelV y u)(h:∀ s',Inv X pins σ H s'->Q (.bool (!o.isSome)) s') :
  wpAny (model X.prog X.w) A (compareOp .NotIn u (.ref a)) Q E s:=by
 rcases g with⟨kvs,k,e,ey,l⟩ | ⟨kvs,k,b,e,ey,eb,l⟩
 ·subst ey;obtain⟨z,hd,vs,rel,dd⟩:=gY I.hok e;refine wpAny_notIn_of (jg ry) hd dd.mapOf ?_;rw[<-(rel.val k).fM,<-l];exact h _ (I.tok _)
 ·subst ey;cases(show u=Value.ref b from ry);obtain⟨z,hd,xs,rel,dd⟩:=iY I.hok e;refine wpAny_notIn_heap (tupleKind_room_in1 hu) (i0 I.hok eb) hd dd ?_;have q:=(rel.val k).fM;rw[Option.isSome_map]at q;rw[<-q,<-l];exact h _ (I.tok _)
def ma(I:Inv X pins σ H s)(mu:Mut (H a))(hs:Heap.SameBut a s.heap h')(he:∃ q,h'.get? a=some q)(new:bj X.prog X.w (upd H a ob) h' a ob) :
  Inv X pins σ (upd H a ob) { s with heap:=h',toks:=t' } :=
 I.write (x:=a) (e:=a) mu (.inl rfl) (fun b q hb z=>(hs.2 b hb).trans z) he new
def vt(z:kvs.length<=sizeLine)(hd:(a == sysModules)=false)(rel:KV kvs vs)(dd:h'.DictOf (bu P w) a vs) :
  bj P w H' h' a (.dK kvs):=⟨z,hd,vs,rel,dd⟩
def vg(hu:A.units+1<cLine)(I:Inv X pins σ H s)(g:jC H a y v H')(ry:RelV y u)(rv:RelV v r)(h:∀ s',Inv X pins σ H' s'->Q () s') :
  wpAny (model X.prog X.w) A (setItem (.ref a) u r) Q E s:=by
 rcases g with⟨kvs,k,e,ey,l,eH⟩ | ⟨kvs,k,b,e,ey,eb,l,eH⟩
 ·subst ey eH;obtain⟨z,hd,vs,rel,dd⟩:=zA I.hok e
  have hz:vs.length<=sizeLine:=by rw[<-rel.length];exact z
  have hl:(putK kvs k v).length<=sizeLine:=by have:=ig kvs k v;omega
  refine wpAny_setItem_pairs (hsz:=hz) (jg ry) dd fun h' dd' hs=>h _ ?_;have he:∃ q,h'.get? a=some q:=let ⟨q,_,_,hq,_⟩:=dd';⟨q,hq⟩;exact ma I (by rw[e];exact True.intro) hs he (vt hl hd (rel.put k rv) dd')
 ·subst ey eH;cases(show u=Value.ref b from ry);obtain⟨z,hd,xs,rel,dd⟩:=zB I.hok e
  have hz:xs.length<=sizeLine:=by rw[<-Paired.length rel];exact z
  have hl:(putK kvs k v).length<=sizeLine:=by have:=ig kvs k v;omega
  refine wpAny_setItem_heap (hsz:=hz) (tupleKind_room_in1 hu) (i0 I.hok eb) dd fun h' dd' hs=>h _ ?_;obtain⟨q,es,ep,hq,h2,h3,h4,_,h5⟩:=dd';refine ma I (by rw[e];exact True.intro) hs ⟨q,hq⟩ ⟨hl,hd,_,(rel.put k eb rv).keeps fun c ys ec=>?_,q,es,ep,hq,h2,h3,h4,h5⟩;rw[aJ (oO ec e (fun z=>nomatch z))];exact ec
end
section
variable{X:Cx}{pins:List (Addr × Obj)}{σ:St}{H:Hp}{s:Shared}{a:Addr}{kvs:List (Key × V)}{k:Key}{u:Value}{A:Around}{E:Value->Shared->Prop}
def Fw(I:Inv X pins σ H s)(e:Rd H a (.dK kvs))(h:∀ t s',Inv X pins σ H s'->Q (.int kvs.length t) s'):wpAny (model X.prog X.w) A (call (.builtin "len") [.ref a]) Q E s:=by
 obtain⟨z,hd,vs,rel,dd⟩:=gY I.hok e;refine call_len_dict hd dd (by rw[<-rel.length];rw[sizeLine_eq]at z;omega) ?_;rw[<-rel.length];exact h _ _ (I.tok _)
end
abbrev uv(i:Expr):Prop:=∀ ov iv,subscripted i false ov iv=operate [ov,iv] (getItem ov iv)
def Bn{prog:Program}{w:World}{A:Around}{E:Value->Shared->Prop}{s:Shared}{env:Env}{value slice:Expr}{pos:Pos}{T id:String}{Q:Value->Shared->Prop}
 (hl:typeLookup (.type T) "__getitem__" = pure (some (.builtin id)))(hs:uv slice)
 (h:wpAny (model prog w) A (eval value env) (fun o s₁=>wpAny (model prog w) A (eval slice env) (fun i s₂=>s₂.TypeIs o T/\wpAny (model prog w) A (getItem o i) Q E s₂) E s₁) E s) :
  wpAny (model prog w) A (eval (.Subscript value slice pos) env) Q E s:=by
 refine Subscript_ (wpAny_mono h (fun o s₁ h₁=>wpAny_mono h₁ (fun i s₂ h₂=>?_) fun _ _ x=>x) fun _ _ x=>x);obtain⟨hT,h₂⟩:=h₂;unfold subscriptTail;refine wpAny_bind ?_;rw[getitemInPython_of_ne hT.not_modules];refine wpAny_bind (wpAny_specialOf hT hl ?_)
 have fin:wpAny (model prog w) A (subscripted slice false o i) (fun r s₃=>wpAny (model prog w) A (letTemporaryGo value o r >>= fun _=>pure r) Q E s₃) E s₂:=by
  rw[hs o i];exact wpAny_operating (wpAny_mono h₂ (fun r s₃ h₃=>wpAny_bind (wpAny_letTemporaryGo (wpAny_pure h₃))) fun _ _ x=>x)
 first
  | exact wpAny_pure (wpAny_bind fin)
  | exact wpAny_bind (wpAny_pure (wpAny_bind fin))
  | exact wpAny_bind fin
def rG(I:Inv X pins σ H s)(g:dR H a y o):s.TypeIs (.ref a) "dict" := by
 rcases g with⟨kvs,k,e,_,_⟩ | ⟨kvs,k,b,e,_,_,_⟩
 ·obtain⟨_,_,vs,_,dd⟩:=gY I.hok e;exact dd.typeIs
 ·obtain⟨_,_,xs,_,dd⟩:=iY I.hok e;exact dd.typeIs
abbrev EO(td ty:TE):TE:=fun σ H Q=>td σ H fun x H1=>ty σ H1 fun y H2=>∃ a v,x=.ref a/\dR H2 a y (some v)/\Q v H2
abbrev CT(ty td:TE):TE:=fun σ H Q=>ty σ H fun y H1=>td σ H1 fun x H2=>∃ a o,x=.ref a/\dR H2 a y o/\Q (.bl o.isSome) H2
abbrev rY(ty td:TE):TE:=fun σ H Q=>ty σ H fun y H1=>td σ H1 fun x H2=>∃ a o,x=.ref a/\dR H2 a y o/\Q (.bl (!o.isSome)) H2
abbrev tJ(td ty tv:TE):TS:=fun D σ H=>tv σ H fun v H1=>td σ H1 fun x H2=>ty σ H2 fun y H3=>∃ a H4,x=.ref a/\jC H3 a y v H4/\D.nx σ H4
section
variable{X:Cx}{o i e value:Expr}{pos pos' tpos:Pos}{td ty tv:TE}
def Bp(hu:X.A.units+1<cLine)(ho:PE X o td)(hi:PE X i ty)(hs:uv i):PE X (.Subscript o i pos) (EO td ty):=by
 intro pins s σ H Q I h;refine Bn PySem.F.slot_dict_getitem.lookup hs (thn (ho pins s σ H _ I h) fun u s1 ⟨x,H1,I1,rx,q1⟩=>thn (hi pins s1 σ H1 _ I1 q1) fun iv s2 ⟨y,H2,I2,ry,a,v,ex,g,q2⟩=>?_);subst ex;obtain rfl:u=Value.ref a:=rx;exact⟨rG I2 g,vi hu I2 g ry fun w' s3 I3 rw'=>⟨v,H2,I3,rw',q2⟩⟩
def Et(hu:X.A.units+1<cLine)(hi:PE X i ty)(ho:PE X o td):PC X .In i o (CT ty td):=by
 intro pins s σ H Q I h;refine thn (hi pins s σ H _ I h) fun iv s1 ⟨y,H1,I1,ry,q1⟩=>thn (ho pins s1 σ H1 _ I1 q1) fun u s2 ⟨x,H2,I2,rx,a,ov,ex,g,q2⟩=>?_;subst ex;obtain rfl:u=Value.ref a:=rx
 exact Gd hu I2 g ry fun s3 I3=>⟨.bl ov.isSome,H2,I3,rfl,q2⟩
def wW(hu:X.A.units+1<cLine)(hi:PE X i ty)(ho:PE X o td):PC X .NotIn i o (rY ty td):=by
 intro pins s σ H Q I h;refine thn (hi pins s σ H _ I h) fun iv s1 ⟨y,H1,I1,ry,q1⟩=>thn (ho pins s1 σ H1 _ I1 q1) fun u s2 ⟨x,H2,I2,rx,a,ov,ex,g,q2⟩=>?_;subst ex;obtain rfl:u=Value.ref a:=rx
 exact AO hu I2 g ry fun s3 I3=>⟨.bl (!ov.isSome),H2,I3,rfl,q2⟩
def A7(hu:X.A.units+1<cLine)(ho:PE X o td)(hi:PE X i ty)(hv:PE X value tv)(hs:swapsWith value (some (.Subscript o i pos')) pos.line X.env=pure false) :
  PS X (.Assign [.Subscript o i pos'] value pos) (tJ td ty tv):=by
 intro pins s σ H D I h;refine wpAny_Assign_Subscript (thn (hv pins s σ H _ I h) fun r s1 ⟨v,H1,I1,rv,q1⟩=>thn (ho pins s1 σ H1 _ I1 q1) fun u s2 ⟨x,H2,I2,rx,q2⟩=>thn (hi pins s2 σ H2 _ I2 q2) fun iv s3 ⟨y,H3,I3,ry,a,H4,ex,g,q3⟩=>?_) hs;subst ex;obtain rfl:u=Value.ref a:=rx
 exact vg hu I3 g ry rv fun s4 I4=>⟨σ,H4,I4,q3⟩
end
def pL(h:Heap)(hb:sysModules<h.objs.size):bj P w H (h.push { cls:=.type "dict",data:=.dict #[] }) h.objs.size (.dK []) :=
 ⟨Nat.zero_le _,beq_eq_false_iff_ne.mpr (Ne.symm (Nat.ne_of_lt hb)),[],.nil,Heap.DictOf.new h⟩
def yS(h:Heap)(hb:sysModules<h.objs.size):bj P w H (h.push { cls:=.type "dict",data:=.dict #[] }) h.objs.size (.dT []) :=
 ⟨Nat.zero_le _,beq_eq_false_iff_ne.mpr (Ne.symm (Nat.ne_of_lt hb)),[],.nil,_,#[],0,Heap.get?_push_size _ rfl,⟨rfl,rfl,rfl⟩,rfl,rfl,List.nodup_nil⟩
abbrev D8:TE:=fun _ H Q=>∀ p,H p=none->Q (.ref p) (upd H p (.dK []))
abbrev DE:TE:=fun _ H Q=>∀ p,H p=none->Q (.ref p) (upd H p (.dT []))
section
variable{X:Cx}{pos:Pos}
def x4:PE X (.Dict [] [] pos) D8:=fun pins s σ H Q I h =>
 wpAny_Dict_empty ⟨.ref s.heap.objs.size,_,I.laid (a:=s.heap.objs.size) (o:=.dK []) (t':=s.toks) (fun _ _ q=>Heap.get?_push_of_some _ q) (Nat.le_refl _) (pL s.heap I.big),rfl,h _ (I.hok.fresh (Nat.le_refl _))⟩
def x5:PE X (.Dict [] [] pos) DE:=fun pins s σ H Q I h =>
 wpAny_Dict_empty ⟨.ref s.heap.objs.size,_,I.laid (a:=s.heap.objs.size) (o:=.dT []) (t':=s.toks) (fun _ _ q=>Heap.get?_push_of_some _ q) (Nat.le_refl _) (yS s.heap I.big),rfl,h _ (I.hok.fresh (Nat.le_refl _))⟩
end
abbrev qV:List (TE × TE)->St->Hp->(List (V × V)->Hp->Prop)->Prop
 | [],_,H,Q=>Q [] H
 | (tk,tv)::r,σ,H,Q=>tk σ H fun x H1=>tv σ H1 fun y H2=>qV r σ H2 fun ps H3=>Q ((x,y)::ps) H3
@[reducible]noncomputable def VV:List (V × V)->List (Value × Value)->Prop:=Paired fun p q=>RelV p.1 q.1/\RelV p.2 q.2
abbrev PPs(X:Cx)(pos:Pos)(keys:List (Option Expr))(values:List Expr)(trs:List (TE × TE)):Prop :=
 ∀ (pins:List (Addr × Obj)) (s:Shared) (σ:St) (H:Hp) (Q:List (V × V)->Hp->Prop),Inv X pins σ H s->qV trs σ H Q ->
  wpAny (model X.prog X.w) X.A (evalPairs (pairTrees keys values X.env pos)) (fun vs s'=>∃ ps H',Inv X pins σ H' s'/\VV ps vs/\Q ps H') X.xe s
def A5:PPs X pos [] [] []:=fun pins s σ H Q I h=>pairTrees_nil_walk ⟨[],H,I,.nil,h⟩
def p8(hk:PE X k tk)(hv:PE X v tv)(hr:PPs X pos ks vs trs) :
  PPs X pos (some k::ks) (v::vs) ((tk,tv)::trs):=fun pins s σ H Q I h =>
 pairTrees_cons_walk (thn (hk pins s σ H _ I h) fun u s1 ⟨x,H1,I1,rx,q1⟩=>thn (hv pins s1 σ H1 _ I1 q1) fun w2 s2 ⟨y,H2,I2,ry,q2⟩ =>
  thn (hr pins s2 σ H2 _ I2 q2) fun ws s3 ⟨ps,H3,I3,rel,q3⟩=>⟨(x,y)::ps,H3,I3,.cons ⟨rx,ry⟩ rel,q3⟩)
abbrev gI(kvs more:List (Key × V)):List (Key × V):=more.foldl (fun acc kv=>putK acc kv.1 kv.2) kvs
def KV.merge:∀ {more:List (Key × V)} {rs:List (Key × Value)} {kvs:List (Key × V)} {vs:List (Key × Value)},KV more rs->KV kvs vs->KV (gI kvs more) (merged vs rs):=by
 intro more rs kvs vs r;unfold KV at r
 induction r generalizing kvs vs with
 | nil=>intro q;exact q
 |@cons p q ps qs h t ih=>
  intro r0
  have e:KV (putK kvs p.1 p.2) (stored vs q.1 q.2):=by
   have:=r0.put p.1 h.2;rw[<-h.1];exact this
  exact ih e
def jy:∀ (more kvs:List (Key × V)),(gI kvs more).length<=kvs.length+more.length
 | [],kvs=>by show kvs.length<=kvs.length+0;omega
 | p::r,kvs=>by
  have h1:=jy r (putK kvs p.1 p.2);have h2:=ig kvs p.1 p.2;show(gI (putK kvs p.1 p.2) r).length<=_;rw[List.length_cons];omega
def lA:∀ {kvs:List (Key × V)} {ws:List (Value × Value)},VV (kvs.map fun kv=>(kV kv.1,kv.2)) ws->∃ rs,Carries (bu P w) ws rs/\KV kvs rs
 | [],_,r=>by rw[List.map_nil]at r;cases r;exact⟨[],True.intro,.nil⟩
 | p::kvs,_,r=>by
  rw[List.map_cons]at r
  cases r with
  |@cons a b as bs h t=>
   obtain⟨rs,c,q⟩:=lA (P:=P) (w:=w) t;obtain⟨b1,b2⟩:=b;exact⟨(p.1,b2)::rs,⟨jg h.1,rfl,c⟩,.cons ⟨rfl,h.2⟩ q⟩
abbrev FA(trs:List (TE × TE)):TE:=fun σ H Q=>∀ p,H p=none->qV trs σ (upd H p (.dK [])) fun ps H2=>H2 p=some (.dK [])/\∃ kvs:List (Key × V),ps=kvs.map (fun kv=>(kV kv.1,kv.2))/\kvs.length<=15/\Q (.ref p) (upd H2 p (.dK (gI [] kvs)))
def AA(h:PPs X pos keys values trs)(hall:keys.all (·.isSome)=true)(hl:keys.length=values.length)(h0:keys≠[])
 (h15:keys.length<=15):PE X (.Dict keys values pos) (FA trs):=by
 intro pins s σ H Q I q;have hn:=I.hok.fresh (Nat.le_refl s.heap.objs.size);have I1:=I.laid (a:=s.heap.objs.size) (o:=.dK []) (h':=s.heap.push { cls:=.type "dict",data:=.dict #[] }) (t':=s.toks) (fun _ _ q=>Heap.get?_push_of_some _ q) (Nat.le_refl _) (pL s.heap I.big);refine wpAny_Dict_walk (knd:=bu X.prog X.w) hall hl h0 h15 (thn (h pins _ σ _ _ I1 (q _ hn)) fun ws s2 ⟨ps,H2,I2,rel,e,kvs,ep,lk,q2⟩=>?_);subst ep;obtain⟨rs,c,rk⟩:=lA (P:=X.prog) (w:=X.w) rel;obtain⟨z,hd,vs0,r0,dd⟩:=zA I2.hok e;cases r0;refine⟨rs,c,dd,fun h' dd' hs=>⟨.ref s.heap.objs.size,_,?_,rfl,q2⟩⟩
 have hz:(gI [] kvs).length<=sizeLine:=by
  have h1:=jy kvs [];rw[List.length_nil]at h1;rw[sizeLine_eq];omega
 have he:∃ q,h'.get? s.heap.objs.size=some q:=let ⟨q,_,_,hq,_⟩:=dd';⟨q,hq⟩;exact ma I2 (by rw[e];exact True.intro) hs he (vt hz hd (rk.merge .nil) dd')
structure M2(X:Cx)(o:Expr)(m:Str)(apos:Pos)(e f:Expr)(cpos:Pos):Prop where
 base:attributeBase o m X.env (eval o X.env)=eval o X.env
 few:((backTo cpos (starEach [e,f] X.env)).all (fun x=>!x.1)&&(backToKw cpos (keywordEach [] X.env)).all (fun x=>x.1.isSome)
  && decide (([e,f]:List Expr).length+([]:List Keyword).length+(if([]:List Keyword).isEmpty then 0 else 1)<30))=true
 line:(apos.endLine == cpos.line)=true
 trees:backTo cpos (starEach [e,f] X.env)=[(false,eval e X.env),(false,eval f X.env)]
abbrev IsD(H:Hp)(a:Addr):Prop:=(∃ kvs,Rd H a (.dK kvs))\/∃ kvs,Rd H a (.dT kvs)
def CU(I:Inv X pins σ H s)(d:IsD H a) :
  s.TypeIs (.ref a) "dict" /\ (∀ b,Value.ref a=.ref b->∃ ob,s.heap.get? b=some ob/\ob.dict=none)/\(a == sysModules)=false:=by
 rcases d with⟨kvs,e⟩ | ⟨kvs,e⟩
 ·obtain⟨_,hd,vs,_,dd⟩:=gY I.hok e;refine⟨dd.typeIs,fun b q=>?_,hd⟩;cases q;obtain⟨ob,_,_,h1,h2,_⟩:=dd;exact⟨ob,h1,h2.2.1⟩
 ·obtain⟨_,hd,xs,_,dd⟩:=iY I.hok e;refine⟨dd.typeIs,fun b q=>?_,hd⟩;cases q;obtain⟨ob,_,_,h1,h2,_⟩:=dd;exact⟨ob,h1,h2.2.1⟩
section
variable{X:Cx}{pins:List (Addr × Obj)}{σ:St}{H:Hp}{s:Shared}{a:Addr}{y d:V}{u r:Value}{o:Option V}{A:Around}{E:Value->Shared->Prop}
def D3(hu:A.units+1<cLine)(I:Inv X pins σ H s)(g:dR H a y o)(ry:RelV y u)(rd:RelV d r)(h:∀ w' s',Inv X pins σ H s'->RelV (o.getD d) w'->Q w' s') :
  wpAny (model X.prog X.w) A (call (.builtin "dict.get") [.ref a,u,r]) Q E s:=by
 rcases g with⟨kvs,k,e,ey,l⟩ | ⟨kvs,k,b,e,ey,eb,l⟩
 ·subst ey;obtain⟨z,hd,vs,rel,dd⟩:=gY I.hok e;refine call_meetsIn PySem.F.slot_dict_get dd.typeIs PySem.F.entry_dict_get (PySem.F.args_dict_get_3 _ _ _) (meets_dict_get_default (bu X.prog X.w) a (jg ry) hd r) ⟨_,dd.mapOf,h _ _ (I.tok _) ?_⟩;rw[l];exact(rel.val k).getD rd
 ·subst ey;cases(show u=Value.ref b from ry);obtain⟨z,hd,xs,rel,dd⟩:=iY I.hok e;refine call_meetsIn PySem.F.slot_dict_get dd.typeIs PySem.F.entry_dict_get (PySem.F.args_dict_get_3 _ _ _) (meetsH_dict_get_default (tupleKind (bu X.prog X.w)) a b hd r) ⟨tupleKind_room_in1 hu,k,xs,i0 I.hok eb,dd,h _ _ (I.tok _) ?_⟩;rw[l];exact(rel.val k).getD rd
end
abbrev E4(td ty tx:TE):TE:=fun σ H Q=>td σ H fun x H1=>∃ a,x=.ref a/\IsD H1 a/\ty σ H1 fun y H2=>tx σ H2 fun z H3=>∃ o,dR H3 a y o/\Q (o.getD z) H3
section
variable{X:Cx}{o e f:Expr}{apos cpos:Pos}{td ty tx:TE}
def xX(hu:X.A.units+1<cLine)(ho:PE X o td)(he:PE X e ty)(hf:PE X f tx)(m:M2 X o "get" apos e f cpos):PE X (.Call (.Attribute o "get" apos) [e,f] [] cpos) (E4 td ty tx):=by
 intro pins s σ H Q I h;refine wpAny_Call_method m.base m.few m.line PySem.F.plainAttrs_dict PySem.F.slot_dict_get PySem.F.type_dict_get (thn (ho pins s σ H _ I h) fun u s1 ⟨x,H1,I1,rx,a,ex,d,q1⟩=>?_);subst ex;obtain rfl:u=Value.ref a:=rx;obtain⟨t1,t2,_⟩:=CU I1 d;refine⟨t1,t2,?_⟩;rw[m.trees]
 refine Calls.callWith_builtin rfl (Calls.evalArgs_plain (Calls.spliced_cons (thn (he pins s1 σ H1 _ I1 q1) fun iv s2 ⟨y,H2,I2,ry,q2⟩ =>
  Calls.spliced_cons (thn (hf pins s2 σ H2 _ I2 q2) fun fv s3 ⟨z,H3,I3,rz,ov,g,q3⟩=>Calls.spliced_nil ?_))))
 exact D3 hu I3 g ry rz fun w' s4 I4 rw'=>⟨_,H3,I4,rw',q3⟩
end
section
variable{X:Cx}{pins:List (Addr × Obj)}{σ:St}{H:Hp}{s:Shared}{a:Addr}{kvs:List (Key × V)}{A:Around}{E:Value->Shared->Prop}
end
section
variable{X:Cx}{pins:List (Addr × Obj)}{σ:St}{H:Hp}{s:Shared}{a:Addr}{y:V}{u:Value}{A:Around}{E:Value->Shared->Prop}
end
end L2
namespace Att
open PySem PySem.W PySem.Calls PyProof.Rows
def lu:∀ (ns:List Int) (vs:List Value),WellAll P h vs (ns.map WData.int)->IntsAre vs ns:=by
 intro ns
 induction ns with
 |nil=>
  intro vs w;rw[List.map_nil]at w;cases w;exact .nil
 |cons n ns ih=>
  intro vs w;rw[List.map_cons]at w
  cases w with
  |cons a b=>
   cases a;exact .cons _ _ (ih _ b)
def wM{l:OpenLaw}{n:Nat}(hn:l.most=some n){P:Params}{h:Heap}{args:List WData}{vals:List Value}
 (hpre:l.row.toRowW.claim.pre args=true)(hwl:WellAll P h vals args) :
  ∃ a vs ns,vals=[Value.ref a]/\args=[WData.list (ns.map WData.int)]/\h.get? a=some { cls:=.type "list",data:=.seq vs.toArray }/\IntsAre vs ns/\ns.length<=n:=by
 have hsh:WShape.hasAll [] args [.list .int]=true:=(pre_splitW hpre).1;have hc:l.pre.holds [] { args:=args }=true:=(pre_splitW hpre).2;obtain⟨d,r,rfl,h1,h2⟩:=hasAllW_cons hsh;obtain rfl:=hasAllW_nil h2;obtain⟨xs,rfl,h3⟩:=hasW_list h1;obtain⟨ns,rfl⟩:=items_int h3
 have hlen:ns.length<=n:=by
  unfold OpenLaw.pre at hc
  have h4:(WTm.not (.lt (.lit (.int (n:Int))) (.len (.arg 0)))).holds [] { args:=[.list (ns.map .int)] }=true:=by
   have h4:=(holds_andW hc).1;rw[hn]at h4;exact h4
  have h5:=condW_of h4 (w_not (w_lt w_lit (w_len_list (w_arg rfl))));rw[List.length_map]at h5;refine Nat.le_of_not_lt fun q=>?_
  have q':(n:Int)<((ns.length:Nat):Int):=by omega
  first
   | (rw[decide_eq_true q']at h5;exact absurd h5 (by decide))
   | (simp at h5;omega)
 cases hwl with
 |cons w1 w2=>
  cases w2
  cases w1 with
  | list ho hall=>exact⟨_,_,ns,rfl,rfl,ho,lu ns _ hall,hlen⟩
def wy(l:OpenLaw)(args:List WData):l.row.toRowW.claim.post args (.bool true) args=true :=
 postW_of (r:=l.row.toRowW) (X:=(true == true))
  (show WShape.has [] (.bool true) .bool=true by first | rfl | decide | simp[WShape.has,WShape.arms,WShape.armsAll])
  (show(WTm.eq .res (.lit (.bool true))).value [] { args:=args,res:=some (.bool true),after:=args }=some (.bool (true == true))from w_eq_bool (w_res rfl) w_lit) rfl
def rH{l:OpenLaw}{n:Nat}{q:Program}{loose:List Str}{XP:(Str->Option Value)->Heap->Prop}{YP:World->Heap->Prop}{d:DefRec}
 (hn:l.most=some n)(hdf:d.params.defaults=[])
 (call:∀ (w:World) (s₀ s₁:Shared) (mg mb:Str->Option Value) (fa:Addr) (o:Obj) (pm cd doc:Value) (a:Addr) (vs:List Value) (ns:List Int),
   Ground q loose [] XP w s₀ mg mb s₁.heap->YP w s₁.heap ->
   s₁.heap.get? fa=some o->o.data=.func (docDef d.name d.params d.body d.scope pm cd doc)->s₁.heap.CodeRec cd d.name->mg d.name=some (.ref fa) ->
   s₁.heap.get? a=some { cls:=.type "list",data:=.seq vs.toArray }->IntsAre vs ns->ns.length<=n->s₁.gens=#[] ->
   codeAny (model l.prog w) callerA (.call (.ref fa) ⟨[.ref a],[]⟩) (fun r s'=>r=.ok (.ret (.bool true))/\OldK s₁.heap s'.heap/\s'.os=s₁.os/\AllBare s'.gens) s₁) :
  WalkO q loose XP YP l.row.toRowW d [] (fun f vs=>PySem.call f vs):=by
 intro w s₀ s₁ mg mb G Y fa o pm cd doc dV kV ho hd hcd hD hmg hg args vals as hpre hlay hrd hwl hlo;obtain rfl:dV=.none:=Dflts.none hD hdf;obtain rfl:kV=.none:=Dflts.noKw hD;obtain⟨a,vs,ns,rfl,rfl,hobj,hints,hlen⟩:=wM hn hpre hwl;refine enter_call (codeAny_mono (call w s₀ s₁ mg mb fa o pm cd doc a vs ns G Y ho (fd_plain hd) hcd hmg hobj hints hlen hg) fun r s' hq=>?_);obtain⟨rfl,h2,h3,h4⟩:=hq;exact⟨.inl ⟨.bool true,.bool true,[],rfl,fun _=>rfl,.bool true,wy l _,fun _=>⟨List.Pairwise.nil,fun _ hm=>(nomatch hm)⟩⟩,h2,h3,h4⟩
section
variable{prog:Program}{w:World}{A:Around}{E:Value->Shared->Prop}{s:Shared}{K:Frag}
end
end Att
namespace L2
open PySem PySem.Spec PyProof.Rows
def nh:∀ {vs:List Value} {ns:List Int},IntsAre vs ns->Vals (ns.map V.int) vs
 | _,_,.nil=>.nil
 | _,_,.cons n t h=>.cons ⟨t,rfl⟩ (nh h)
abbrev qe(H:Hp):Prop:=∀ b,H b=none\/∃ o xs,H b=some (.frz o (.lst xs))
def za{P:Program}{w:World}{K:PySem.W.Frag}{mg mb:Str->Option Value}{CX:CXT}{k:Nat}{fa a:Addr}{fd:FuncData}{x:Str}{sp:Sp}{s₁:Shared}{vs:List Value}{ns:List Int}
 (KX:K.In s₁.heap)(hns:s₁.heap.Ns mainGlobals mg)(hb:s₁.heap.Ns builtinsNs mb)(hbb:∀ x:Str,x ≠ "__name__" -> mb x=bootBuiltins x)(hlim:s₁.heap.NoLimit)(hg:s₁.gens=#[])
 (ha:s₁.heap.get? a=some { cls:=.type "list",data:=.seq vs.toArray })(hi:IntsAre vs ns)(hl:ns.length<=sizeLine)(hr:cq k callerA)
 (F:∀ base:Heap,K.In base->base.Ns mainGlobals mg->dO P w K mg base CX k fa fd [x] sp)(hbind:∀ (s:Shared) (u:Value),BindsTo s fd ⟨[u],[]⟩ [(x,u)])
 (hsp:∀ H:Hp,qe H->SqL K H a (ns.map V.int)->sp [.ref a] H (fun v _=>v=.bl true) fun _ _ _=>False)
 (hCX:∀ H e s',CX [] H s₁ (fun _ _ _=>False) e s'->False) :
  codeAny (model P w) callerA (.call (.ref fa) ⟨[.ref a],[]⟩) (fun r s'=>r=.ok (.ret (.bool true))/\OldK s₁.heap s'.heap/\s'.os=s₁.os/\AllBare s'.gens) s₁:=by
 have rv:=nh hi;have lenV:=hi.length
 have core:∀ H:Hp,qe H->SqL K H a (ns.map V.int)->HOk P w H s₁.heap->(∀ b,H b≠none->b=a)->(H a≠none->K.lookup a=none) ->
   codeAny (model P w) callerA (.call (.ref fa) ⟨[.ref a],[]⟩) (fun r s'=>r=.ok (.ret (.bool true))/\OldK s₁.heap s'.heap/\s'.os=s₁.os/\AllBare s'.gens) s₁:=by
  intro H hO hS hok hA hK;have base_of:∀ {b:Addr} {o:Obj},s₁.heap.get? b=some o->H b=none->(jb s₁.heap H).get? b=some o:=fun e n=>xT e n
  have noA:∀ {b:Addr} {o:Obj} {es:Array DictEntry} {ep:Nat},s₁.heap.get? b=some o->o.data=.dict es ep->H b=none:=fun {b o es ep} e d=>by
   cases q:H b with
   | none=>rfl
   |some u=>
    have e':b=a:=hA b (by rw[q];simp);subst e';rw[ha]at e;cases e;have d':Data.seq vs.toArray _=Data.dict es ep:=d;cases d'
  have nsK:∀ {b:Addr} {m:Str->Option Value},s₁.heap.Ns b m->(jb s₁.heap H).Ns b m:=fun {b m} ⟨o,es,ep,e,d,r⟩=>⟨o,es,ep,base_of e (noA e d),d,r⟩
  have hKb:K.In (jb s₁.heap H):=fun b o e=>base_of (KX b o e) (by
   cases q:H b with
   | none=>rfl
   |some u=>
    have e':b=a:=hA b (by rw[q];simp);subst e'
    rw[hK (by rw[q];simp)]at e;cases e)
  have hM:Mod K mg (jb s₁.heap H):=⟨hKb,nsK hns,⟨mb,nsK hb,hbb⟩,let ⟨mc,h1,h2⟩:=hlim;⟨mc,nsK h1,h2⟩⟩
  have e0:qc P w K mg (jb s₁.heap H) callerA [] s₁ H:=⟨rfl,hM,fun b o e=>AH e,Nat.le_of_eq (vI _ _),trivial,fun b hb=>absurd (show b∈([]:List Addr)from hb) (by simp),hok,.of_eq hg⟩
  refine codeAny_mono ((F _ hKb (nsK hns)).run callerA [] s₁ H ⟨[.ref a],[]⟩ [.ref a] [.ref a] _ _ hr e0 (hbind s₁ (.ref a)) (.cons rfl .nil) (hsp H hO hS)) fun r s' h=>?_
  cases r with
  | error e=>exact(hCX H e s' h).elim
  |ok fl=>
   cases fl with
   | next=>exact False.elim h
   | brk=>exact False.elim h
   | cont=>exact False.elim h
   |ret u=>
    obtain⟨v,H',os,bare,un,hok',r',q⟩:=h;have q':v=.bl true:=q;subst q';obtain rfl:u=Value.bool true:=r';refine⟨rfl,OldK.of_keep fun b o e=>?_,os,bare⟩
    cases q:H b with
    | none=>exact un.keep b o e q (by intro z;exact absurd (show b∈([]:List Addr)from z) (by simp)) (by simp)
    |some u=>
     rcases hO b with z | ⟨ob,xs,z⟩
     ·rw[q]at z;cases z
     ·have z2:=un.cK b ob _ z;obtain⟨e1,_⟩:=hok b _ z;obtain⟨e2,_⟩:=hok' b _ z2;rw[e]at e1;cases e1;exact e2
 cases hk:K.lookup a with
 |some o=>
  have e:=KX a o hk;rw[ha]at e;cases e;refine core (fun _=>none) (fun _=>.inl rfl) (.inr ⟨_,vs.toArray,_,hk,rfl,rfl,rfl,by rw[List.size_toArray,lenV];exact hl,by simpa using rv⟩) (fun b u z=>by have z':(none:Option HO)=some u:=z;cases z') (fun b z=>absurd rfl z) fun z=>absurd rfl z
 |none=>
  refine core (fun b=>if b=a then some (.frz { cls:=.type "list",data:=.seq vs.toArray } (.lst (ns.map V.int)))else none) (fun b=>?_) (.inl (.inr ⟨{ cls:=.type "list",data:=.seq vs.toArray },if_pos rfl⟩)) (fun b u z=>?_) (fun b z=>?_) fun _=>hk
  ·by_cases hb:b=a
   ·exact .inr ⟨_,_,if_pos hb⟩
   ·exact .inl (if_neg hb)
  ·by_cases hb:b=a
   ·have z':=(if_pos hb).symm.trans z;cases z';subst hb;exact⟨ha,by rw[List.length_map];exact hl,vs,_,rv,ha⟩
   ·have z':=(if_neg hb).symm.trans z;cases z'
  ·by_cases hb:b=a
   ·exact hb
   ·exact absurd (if_neg hb) z
@[reducible]noncomputable def KOf{K:PySem.W.Frag}{h:Heap}(_:K.In h):PySem.W.Frag:=K
def sT{l:PySem.W.OpenLaw}{n k:Nat}{q:Program}{loose:List Str}{XP:(Str->Option Value)->Heap->Prop}{YP:World->Heap->Prop}{d:DefRec}{K:Params->PySem.W.Frag}{CX:World->CXT}{sp:World->Sp}{x:Str}
 (hn:l.most=some n)(hn2:n<=sizeLine)(hdf:d.params.defaults=[])(hr:cq k callerA)
 (hY:∀ (w:World) (h:Heap),YP w h->(K w.params).In h)
 (F:∀ (w:World) (mg:Str->Option Value) (fa:Addr) (h:Heap),(K w.params).In h->h.Ns mainGlobals mg->mg d.name=some (.ref fa) ->
   ∃ fd:FuncData,(∀ (s:Shared) (u:Value),BindsTo s fd ⟨[u],[]⟩ [(x,u)]) /\
    ∀ base:Heap,(K w.params).In base->base.Ns mainGlobals mg->dO l.prog w (K w.params) mg base (CX w) k fa fd [x] (sp w))
 (hsp:∀ (w:World) (H:Hp) (a:Addr) (ns:List Int),ns.length<=n->qe H->SqL (K w.params) H a (ns.map V.int)->sp w [.ref a] H (fun v _=>v=.bl true) fun _ _ _=>False)
 (hCX:∀ (w:World) (H:Hp) (s:Shared) (e:Value) (s':Shared),CX w [] H s (fun _ _ _=>False) e s'->False) :
  PySem.W.WalkO q loose XP YP l.row.toRowW d [] (fun f vs=>PySem.call f vs):=by
 refine Att.rH hn hdf fun w s₀ s₁ mg mb fa o pm cd doc a vs ns G Y ho hd hcd hmg hobj hints hlen hg=>?_;have KX:=hY w _ Y;obtain⟨fd,hb,hF⟩:=F w mg fa _ KX G.T.g hmg;exact za KX G.T.g G.T.b G.T.builtins G.T.nolimit hg hobj hints (Nat.le_trans hlen hn2) hr hF hb (fun H hO hS=>hsp w H a ns hlen hO hS) fun H e s'=>hCX w H s₁ e s'
def xC{l:PySem.W.OpenLaw}{n k:Nat}{q:Program}{loose:List Str}{XP:(Str->Option Value)->Heap->Prop}{YP:World->Heap->Prop}{d:DefRec}{K:Params->PySem.W.Frag}{CX:CXT}{sp:PySem.W.Frag->Sp}{x:Str}
 (hn:l.most=some n)(hn2:n<=sizeLine)(hdf:d.params.defaults=[])(hr:cq k callerA)
 (hY:∀ (w:World) (h:Heap),YP w h->(K w.params).In h)
 (F:∀ (w:World) (mg:Str->Option Value) (fa:Addr) (h:Heap),(K w.params).In h->h.Ns mainGlobals mg->mg d.name=some (.ref fa) ->
   ∃ fd:FuncData,(∀ (s:Shared) (u:Value),BindsTo s fd ⟨[u],[]⟩ [(x,u)]) /\
    ∀ base:Heap,(K w.params).In base->base.Ns mainGlobals mg->dO l.prog w (K w.params) mg base CX k fa fd [x] (sp (K w.params)))
 (hsp:∀ (K:PySem.W.Frag) (H:Hp) (a:Addr) (ns:List Int),ns.length<=n->qe H->SqL K H a (ns.map V.int)->sp K [.ref a] H (fun v _=>v=.bl true) fun _ _ _=>False)
 (hCX:∀ (H:Hp) (s:Shared) (e:Value) (s':Shared),CX [] H s (fun _ _ _=>False) e s'->False) :
  PySem.W.WalkO q loose XP YP l.row.toRowW d [] (fun f vs=>PySem.call f vs) :=
 sT (K:=K) (CX:=fun _=>CX) (sp:=fun w=>sp (K w.params)) hn hn2 hdf hr hY F (fun w H a ns h1 h2 h3=>hsp (K w.params) H a ns h1 h2 h3) fun _ H s e s'=>hCX H s e s'
abbrev iI(s:Stmt):Arguments:=match s with
 | .FunctionDef _ a _ _ _ _ _ _ _ _=>a
 | _=>{ posonlyargs:=[],args:=[],vararg:=none,kwonlyargs:=[],kw_defaults:=[],kwarg:=none,defaults:=[] }
abbrev cu(s:Stmt):List Stmt:=match s with
 | .FunctionDef _ _ b _ _ _ _ _ _ _=>b
 | _=>[]
abbrev aN(s:Stmt):Scope:=match s with
 | .FunctionDef _ _ _ _ _ _ sc _ _ _=>sc
 | _=>{ kind:=.function,names:=[],isGenerator:=false,isCoroutine:=false }
@[reducible]noncomputable def CX0:CXT:=fun _ _ _ _ _ _=>False
@[reducible]noncomputable def E0:XK:=fun _ _ _=>False
def zy:Passes CX0 X E0:=fun _ _ _ _ _ _ _ h=>h.elim
structure Fun(K:PySem.W.Frag)(x qual:Str)(st:Stmt)(f:Addr)(fd:FuncData):Prop where
 ex:∃ (oc:Value) (od:Option Addr) (kV doc pm:Value) (an:Option Addr) (cdv ct:Value) (osl:Array (Option Value)),
  fd=PySem.W.fnOf x qual (iI st) (cu st) (aN st) .none kV doc pm an cdv ct/\K.lookup f=some ⟨oc,od,.func fd,osl⟩/\PySem.W.codeIn K cdv qual=true
 kp:PySem.W.keepIn K (.ref f)=true
section
variable{P:Program}{w:World}{K:PySem.W.Frag}{mg:Str->Option Value}{base:Heap}
def Fun.ok{x qual:Str}{st:Stmt}{f:Addr}{fd:FuncData}{N ps:List Str}{k:Nat}{sp:Sp}(F:Fun K x qual st f fd)(S:fh N ps (aN st))(len:∀ vs H Q E,sp vs H Q E->vs.length=ps.length)
 (hbody:∀ (cdv:Value) (A:Around) (outer:List Env) (s:Shared) (H:Hp) (vs:List V) (Q:VK) (E:XK),cq k (A.deeper (envOfC qual (aN st) s.heap.objs.size f cdv))->sp vs H Q E ->
   ∃ t,PSs (gM CX0 P w K mg base N qual (aN st) f cdv A outer s H E).nox (cu st) t/\t { nx:=fun _ H'=>Q .non H',rt:=Q } (start N vs) H):dO P w K mg base CX0 (k+1) f fd ps sp:=by
 obtain⟨oc,od,kV,doc,pm,an,cdv,ct,osl,rfl,lk,hcd⟩:=F.ex;refine zH lk hcd S len fun A outer s H vs Q E hr hsp=>?_;obtain⟨t,h,q⟩:=hbody cdv A outer s H vs Q E hr hsp;exact⟨t,h.nox,q⟩
def Fun.binds{x qual:Str}{st:Stmt}{f:Addr}{fd:FuncData}{ps:List Str}(F:Fun K x qual st f fd)
 (h:∀ (kV doc pm:Value) (an:Option Addr) (cdv ct:Value) (us:List Value),us.length=ps.length->bindArgs (PySem.W.fnOf x qual (iI st) (cu st) (aN st) .none kV doc pm an cdv ct) ⟨us,[]⟩=pure (ps.zip us)):Binds K fd ps []:=by
 obtain⟨oc,od,kV,doc,pm,an,cdv,ct,osl,rfl,lk,hcd⟩:=F.ex;exact .all (h kV doc pm an cdv ct)
def Dv{x qual:Str}{st:Stmt}{f:Addr}{oc:Value}{od an:Option Addr}{osl:Array (Option Value)}{kV doc pm cdv ct:Value}(l:K.lookup f=some ⟨oc,od,.func (PySem.W.fnOf x qual (iI st) (cu st) (aN st) .none kV doc pm an cdv ct),osl⟩)
 (c:PySem.W.codeIn K cdv qual=true)(k:PySem.W.keepIn K (.ref f)=true):Fun K x qual st f (PySem.W.fnOf x qual (iI st) (cu st) (aN st) .none kV doc pm an cdv ct):=⟨⟨oc,od,kV,doc,pm,an,cdv,ct,osl,rfl,l,c⟩,k⟩
end
def nI(h:n<=1000):n<sizeLine:=Nat.lt_of_le_of_lt h (by decide)
section
variable{X:Cx}
end
def ff{A B:Prop}(h:B):if false=true then A else B:=by
 rw[if_neg Bool.false_ne_true];exact h
def eJ{A B:Prop}(h:A):if true=true then A else B:=by
 rw[if_pos rfl];exact h
abbrev au(H H':Hp):Prop:=∀ b o,H b=some o->H' b=some o
def au.refl(H:Hp):au H H:=fun _ _ h=>h
def au.trans(a:au H H1)(b:au H1 H2):au H H2:=fun c o h=>b c o (a c o h)
def au.free(e:au H H')(h:H' l=Option.none):H l=Option.none:=by
 cases q:H l with
 | none=>rfl
 |some o=>
  rw[e l o q]at h;cases h
section
variable{X:Cx}
def xq:bx X (.builtin "len") (fun xs H Q=>∃ a kvs,xs=[V.ref a]/\H a=some (.dK kvs)/\Q (.int kvs.length) H):=by
 intro pins s σ H xs us Q I r h;obtain⟨a,kvs,rfl,ha,q⟩:=h;obtain⟨u,rfl,ru⟩:=vals1 r;cases ru
 exact Fw I (.inl ha) fun t s' I'=>⟨.int kvs.length,H,I',⟨t,rfl⟩,q⟩
end
section
variable{κ:Type} [DecidableEq κ]
end
end L2
namespace RS
open PySem PySem.Spec PyProof.Rows L2
@[reducible]def VE:List Value:=[.type "ValueError",.type "Exception",.type "BaseException",.type "object"]
abbrev cX:List Str:=["RibbonError", "BadPegs", "BadFrame", "BadHalf", "BadHook", "BadName", "NoNumber", "NoFrame", "NoStack", "NoPlace", "Taken", "Full", "NothingThere", "BadTrade", "Hangs", "BadPage"]
abbrev rm(f:Option PySem.Builtin.ObjectAttr.Found):Bool:=match f with
 | some (.bind (.builtin a) (.builtin b))=>a == "getset_descriptor.__get__" && b == "object.__class__"
 | _=>false
abbrev fV(K:PySem.W.Frag)(x:Str)(C:Addr):Bool :=
 PySem.W.excIn K C VE "ValueError.__new__" && PySem.W.findIn K (.ref C) "__getattribute__" == some (some (.builtin "BaseException.__getattribute__"))&&PySem.W.findIn K (.ref C) "__getattr__" == some none&&rm (PySem.W.findObj K C none "__class__") &&
 PySem.W.mroIn K C (.type "object") == some true&&PySem.W.subIn K (.ref C) (.type "BaseException") == some true&&(PySem.W.clsIn K C).isSome&&PySem.W.kitOne K (.ref C) (.type "ValueError") == some true &&
 cX.all fun c=>match PySem.W.nsIn K mainGlobals c with
  | some (some (.ref D))=>PySem.W.kitOne K (.ref C) (.ref D) == some (RL.cD x c)&&PySem.W.subIn K (.ref C) (.ref D) == some (RL.cD x c)
  | _=>true
structure Cls(K:PySem.W.Frag)(x:Str)(C:Addr):Prop where
 ns:PySem.W.nsIn K mainGlobals x=some (some (.ref C))
 ok:fV K x C=true
section
variable{K:PySem.W.Frag}
def Cls.exc(h:Cls K x C):PySem.W.excIn K C VE "ValueError.__new__" = true:=by
 have:=h.ok;simp only[fV,Bool.and_eq_true]at this;exact this.1.1.1.1.1.1.1.1
def Cls.ref(h:Cls K x C)(hc:c∈cX)(hD:PySem.W.nsIn K mainGlobals c=some (some (.ref D))):PySem.W.kitOne K (.ref C) (.ref D)=some (RL.cD x c)/\PySem.W.subIn K (.ref C) (.ref D)=some (RL.cD x c):=by
 have:=h.ok;simp only[fV,Bool.and_eq_true]at this;have q:=List.all_eq_true.mp this.2 c hc;rw[hD]at q;simp only[Bool.and_eq_true,beq_iff_eq]at q;exact q
def Cls.val(h:Cls K x C):PySem.W.kitOne K (.ref C) (.type "ValueError")=some true:=by
 have:=h.ok;simp only[fV,Bool.and_eq_true,beq_iff_eq]at this;exact this.1.2
end
structure bK(K:PySem.W.Frag)(x:Str)(C:Addr)(c:Str):Prop where
 ex:∃ D b,PySem.W.nsIn K mainGlobals c=some (some (.ref D))/\PySem.W.kitOne K (.ref C) (.ref D)=some b/\PySem.W.subIn K (.ref C) (.ref D)=some b/\RL.cD x c=b
def wK{K:PySem.W.Frag}(n:PySem.W.nsIn K mainGlobals c=some (some (.ref D)))(k:PySem.W.kitOne K (.ref C) (.ref D)=some b)(s:PySem.W.subIn K (.ref C) (.ref D)=some b)(e:RL.cD x c=b):bK K x C c:=⟨D,b,n,k,s,e⟩
structure CJ(K:PySem.W.Frag)(x:Str)(C:Addr):Prop where
 a1:PySem.W.excIn K C VE "ValueError.__new__" = true
 a2:PySem.W.findIn K (.ref C) "__getattribute__" = some (some (.builtin "BaseException.__getattribute__"))
 a3:PySem.W.findIn K (.ref C) "__getattr__" = some none
 a4:PySem.W.findIn K (.ref C) "__class__" = some (some (.builtin "object.__class__"))
 a5:PySem.W.specialIn K (.builtin "object.__class__") "__get__" = some (some (.builtin "getset_descriptor.__get__"))
 a6:PySem.W.takesIn K (.builtin "object.__class__")=some true
 a7:PySem.W.mroIn K C (.type "object")=some true
 a8:PySem.W.subIn K (.ref C) (.type "BaseException")=some true
 a9:PySem.W.kitOne K (.ref C) (.type "ValueError")=some true
 b1:bK K x C "RibbonError"
 b2:bK K x C "BadPegs"
 b3:bK K x C "BadFrame"
 b4:bK K x C "BadHalf"
 b5:bK K x C "BadHook"
 b6:bK K x C "BadName"
 b7:bK K x C "NoNumber"
 b8:bK K x C "NoFrame"
 b9:bK K x C "NoStack"
 b10:bK K x C "NoPlace"
 b11:bK K x C "Taken"
 b12:bK K x C "Full"
 b13:bK K x C "NothingThere"
 b14:bK K x C "BadTrade"
 b15:bK K x C "Hangs"
 b16:bK K x C "BadPage"
def vm{K:PySem.W.Frag}(h:CJ K x C):fV K x C=true:=by
 obtain⟨cd,ec,_⟩:=Option.bind_eq_some_iff.mp h.a7
 have fo:rm (PySem.W.findObj K C none "__class__")=true:=by
  unfold PySem.W.findObj;rw[ec,Option.bind_some,h.a4,Option.bind_some];dsimp only;rw[h.a5,Option.bind_some];dsimp only;rw[h.a6,Option.bind_some];rfl
 have one:∀ {c:Str},bK K x C c->(match PySem.W.nsIn K mainGlobals c with
  | some (some (.ref D))=>PySem.W.kitOne K (.ref C) (.ref D) == some (RL.cD x c)&&PySem.W.subIn K (.ref C) (.ref D) == some (RL.cD x c)
  | _=>true)=true:=fun⟨D,b,e1,e2,e3,e4⟩=>by
  rw[e1];dsimp only;rw[e2,e3,e4,beq_self_eq_true];rfl
 unfold fV;rw[h.a1,h.a2,h.a3,fo,h.a7,h.a8,ec,h.a9];simp only[beq_self_eq_true,Option.isSome_some,Bool.and_self,Bool.true_and];rw[List.all_eq_true];intro c hc;simp only[cX,List.mem_cons,List.mem_nil_iff,or_false]at hc;rcases hc with rfl | rfl | rfl | rfl | rfl | rfl | rfl | rfl | rfl | rfl | rfl | rfl | rfl | rfl | rfl | rfl
 ·exact one h.b1
 ·exact one h.b2
 ·exact one h.b3
 ·exact one h.b4
 ·exact one h.b5
 ·exact one h.b6
 ·exact one h.b7
 ·exact one h.b8
 ·exact one h.b9
 ·exact one h.b10
 ·exact one h.b11
 ·exact one h.b12
 ·exact one h.b13
 ·exact one h.b14
 ·exact one h.b15
 ·exact one h.b16
abbrev nP:Addr->Prop:=fun _=>False
abbrev jI(K:PySem.W.Frag)(H:Hp)(a:Addr)(xs:List V):Prop:=(∃ o,H a=some (.frz o (.lst xs)))\/SqL K (fun _=>none) a xs
def jI.seq{K:PySem.W.Frag}(h:jI K H a xs):SqL K H a xs:=by
 rcases h with⟨o,h⟩ | (h | ⟨o,h⟩) | h
 ·exact .inl (.inr ⟨o,h⟩)
 ·cases h
 ·cases h
 ·exact .inr h
def jI.same{K:PySem.W.Frag}(e:au H H')(h:jI K H a xs):jI K H' a xs:=by
 rcases h with⟨o,h⟩ | h
 ·exact .inl ⟨o,e _ _ h⟩
 ·exact .inr h
abbrev ExV(K:PySem.W.Frag)(H:Hp)(c:Str)(v:V):Prop:=∃ a o u D vs,v=.ref a/\H a=some (.frz o u)/\(o.cls=.ref D/\o.dict=none)/\o.data=.fields vs/\vs[2]?=some .none/\Cls K c D
def ExV.keep{K:PySem.W.Frag}(h:ExV K H c v)(k:∀ b o u,H b=some (.frz o u)->H' b=some (.frz o u)):ExV K H' c v :=
 let ⟨a,o,u,D,vs,h1,h2,r⟩:=h;⟨a,o,u,D,vs,h1,k _ _ _ h2,r⟩
mutual
noncomputable def Rep(P:Addr->Prop)(K:PySem.W.Frag)(H:Hp):RL.D->V->Prop
 | .non,v=>v=.non
 | .bl b,v=>v=.bl b
 | .int i,v=>v=.int i
 | .str x,v=>v=.str x
 | .tup ds,v=>∃ a xs,v=.ref a/\H a=some (.tup xs)/\ah P K H ds xs
 | .lst ds,v=>∃ a xs,v=.ref a/\¬ P a/\H a=some (.lst xs)/\ah P K H ds xs
 | .dK ks ds,v=>∃ a xs,v=.ref a/\¬ P a/\H a=some (.dK (ks.zip xs))/\ks.length=ds.length/\ah P K H ds xs
 | .dT ks ds,v=>∃ a xs,v=.ref a/\¬ P a/\H a=some (.dT (ks.zip xs))/\ks.length=ds.length/\ah P K H ds xs
 | .scr ds,v=>∃ a xs,v=.ref a/\jI K H a xs/\ah P K H ds xs
 | .exc c,v=>ExV K H c v
noncomputable def ah(P:Addr->Prop)(K:PySem.W.Frag)(H:Hp):List RL.D->List V->Prop
 | [],xs=>xs=[]
 | d::r,xs=>∃ x t,xs=x::t/\Rep P K H d x/\ah P K H r t
end
mutual
theorem Rep.same{P:Addr->Prop}{K:PySem.W.Frag}{H H':Hp}(e:au H H'):∀ {d:RL.D} {v:V},Rep P K H d v->Rep P K H' d v
 | .non,v,h=>by simpa[Rep]using h
 | .bl _,v,h=>by simpa[Rep]using h
 | .int _,v,h=>by simpa[Rep]using h
 | .str _,v,h=>by simpa[Rep]using h
 | .tup ds,v,h=>by
  rw[Rep]at h ⊢;obtain⟨a,xs,e1,e2,e3⟩:=h;exact⟨a,xs,e1,e _ _ e2,ah.same e e3⟩
 | .lst ds,v,h=>by
  rw[Rep]at h ⊢;obtain⟨a,xs,e1,e0,e2,e3⟩:=h;exact⟨a,xs,e1,e0,e _ _ e2,ah.same e e3⟩
 | .dK ks ds,v,h=>by
  rw[Rep]at h ⊢;obtain⟨a,xs,e1,e0,e2,el,e3⟩:=h;exact⟨a,xs,e1,e0,e _ _ e2,el,ah.same e e3⟩
 | .dT ks ds,v,h=>by
  rw[Rep]at h ⊢;obtain⟨a,xs,e1,e0,e2,el,e3⟩:=h;exact⟨a,xs,e1,e0,e _ _ e2,el,ah.same e e3⟩
 | .scr ds,v,h=>by
  rw[Rep]at h ⊢;obtain⟨a,xs,e1,e2,e3⟩:=h;exact⟨a,xs,e1,jI.same e e2,ah.same e e3⟩
 | .exc c,v,h=>by rw[Rep]at h ⊢;exact h.keep fun _ _ _ q=>e _ _ q
theorem ah.same{P:Addr->Prop}{K:PySem.W.Frag}{H H':Hp}(e:au H H'):∀ {ds:List RL.D} {xs:List V},ah P K H ds xs->ah P K H' ds xs
 | [],xs,h=>by rw[ah]at h ⊢;exact h
 | d::r,xs,h=>by
  rw[ah]at h ⊢;obtain⟨x,t,e1,e2,e3⟩:=h;exact⟨x,t,e1,Rep.same e e2,ah.same e e3⟩
end
mutual
theorem Rep.weak{P P':Addr->Prop}{K:PySem.W.Frag}{H:Hp}(e:∀ a,P' a->P a):∀ {d:RL.D} {v:V},Rep P K H d v->Rep P' K H d v
 | .non,v,h=>by simpa[Rep]using h
 | .bl _,v,h=>by simpa[Rep]using h
 | .int _,v,h=>by simpa[Rep]using h
 | .str _,v,h=>by simpa[Rep]using h
 | .tup ds,v,h=>by
  rw[Rep]at h ⊢;obtain⟨a,xs,e1,e2,e3⟩:=h;exact⟨a,xs,e1,e2,ah.weak e e3⟩
 | .lst ds,v,h=>by
  rw[Rep]at h ⊢;obtain⟨a,xs,e1,e0,e2,e3⟩:=h;exact⟨a,xs,e1,fun z=>e0 (e a z),e2,ah.weak e e3⟩
 | .dK ks ds,v,h=>by
  rw[Rep]at h ⊢;obtain⟨a,xs,e1,e0,e2,el,e3⟩:=h;exact⟨a,xs,e1,fun z=>e0 (e a z),e2,el,ah.weak e e3⟩
 | .dT ks ds,v,h=>by
  rw[Rep]at h ⊢;obtain⟨a,xs,e1,e0,e2,el,e3⟩:=h;exact⟨a,xs,e1,fun z=>e0 (e a z),e2,el,ah.weak e e3⟩
 | .scr ds,v,h=>by
  rw[Rep]at h ⊢;obtain⟨a,xs,e1,e2,e3⟩:=h;exact⟨a,xs,e1,e2,ah.weak e e3⟩
 | .exc c,v,h=>by rw[Rep]at h ⊢;exact h
theorem ah.weak{P P':Addr->Prop}{K:PySem.W.Frag}{H:Hp}(e:∀ a,P' a->P a):∀ {ds:List RL.D} {xs:List V},ah P K H ds xs->ah P' K H ds xs
 | [],xs,h=>by rw[ah]at h ⊢;exact h
 | d::r,xs,h=>by
  rw[ah]at h ⊢;obtain⟨x,t,e1,e2,e3⟩:=h;exact⟨x,t,e1,Rep.weak e e2,ah.weak e e3⟩
end
def Rep.none{P:Addr->Prop}{K:PySem.W.Frag}(h:Rep P K H d v):Rep nP K H d v:=h.weak fun _ z=>z.elim
mutual
theorem Rep.imm{P P':Addr->Prop}{K:PySem.W.Frag}{H:Hp}:∀ {d:RL.D} {v:V},d.imm=true->Rep P K H d v->Rep P' K H d v
 | .non,v,_,h=>by simpa[Rep]using h
 | .bl _,v,_,h=>by simpa[Rep]using h
 | .int _,v,_,h=>by simpa[Rep]using h
 | .str _,v,_,h=>by simpa[Rep]using h
 | .tup ds,v,i,h=>by
  rw[Rep]at h ⊢;rw[RL.D.imm]at i;obtain⟨a,xs,e1,e2,e3⟩:=h;exact⟨a,xs,e1,e2,ah.imm i e3⟩
 | .lst ds,v,i,h=>by rw[RL.D.imm]at i;cases i
 | .dK ks ds,v,i,h=>by rw[RL.D.imm]at i;cases i
 | .dT ks ds,v,i,h=>by rw[RL.D.imm]at i;cases i
 | .scr ds,v,i,h=>by
  rw[Rep]at h ⊢;rw[RL.D.imm]at i;obtain⟨a,xs,e1,e2,e3⟩:=h;exact⟨a,xs,e1,e2,ah.imm i e3⟩
 | .exc c,v,i,h=>by rw[Rep]at h ⊢;exact h
theorem ah.imm{P P':Addr->Prop}{K:PySem.W.Frag}{H:Hp}:∀ {ds:List RL.D} {xs:List V},RL.ax ds=true->ah P K H ds xs->ah P' K H ds xs
 | [],xs,_,h=>by rw[ah]at h ⊢;exact h
 | d::r,xs,i,h=>by
  rw[ah]at h ⊢;rw[RL.ax,Bool.and_eq_true]at i;obtain⟨x,t,e1,e2,e3⟩:=h;exact⟨x,t,e1,Rep.imm i.1 e2,ah.imm i.2 e3⟩
end
abbrev cN(o:HO):Prop:=(∃ xs,o=.lst xs)\/(∃ kvs,o=.dK kvs)\/(∃ kvs,o=.dT kvs)
mutual
theorem Rep.upd{P:Addr->Prop}{K:PySem.W.Frag}{H:Hp}{a:Addr}{o o':HO}(ha:H a=some o)(m:cN o)(p:P a):∀ {d:RL.D} {v:V},Rep P K H d v->Rep P K (upd H a o') d v
 | .non,v,h=>by simpa[Rep]using h
 | .bl _,v,h=>by simpa[Rep]using h
 | .int _,v,h=>by simpa[Rep]using h
 | .str _,v,h=>by simpa[Rep]using h
 | .tup ds,v,h=>by
  rw[Rep]at h ⊢;obtain⟨b,xs,e1,e2,e3⟩:=h;have n:b≠a:=oO e2 ha (by rcases m with⟨z,rfl⟩ | ⟨z,rfl⟩ | ⟨z,rfl⟩<;>(intro q;cases q));exact⟨b,xs,e1,by rw[L2.aJ n];exact e2,ah.upd ha m p e3⟩
 | .lst ds,v,h=>by
  rw[Rep]at h ⊢;obtain⟨b,xs,e1,e0,e2,e3⟩:=h;have n:b≠a:=fun z=>e0 (z▸p);exact⟨b,xs,e1,e0,by rw[L2.aJ n];exact e2,ah.upd ha m p e3⟩
 | .dK ks ds,v,h=>by
  rw[Rep]at h ⊢;obtain⟨b,xs,e1,e0,e2,el,e3⟩:=h;have n:b≠a:=fun z=>e0 (z▸p);exact⟨b,xs,e1,e0,by rw[L2.aJ n];exact e2,el,ah.upd ha m p e3⟩
 | .dT ks ds,v,h=>by
  rw[Rep]at h ⊢;obtain⟨b,xs,e1,e0,e2,el,e3⟩:=h;have n:b≠a:=fun z=>e0 (z▸p);exact⟨b,xs,e1,e0,by rw[L2.aJ n];exact e2,el,ah.upd ha m p e3⟩
 | .scr ds,v,h=>by
  rw[Rep]at h ⊢;obtain⟨b,xs,e1,e2,e3⟩:=h;refine⟨b,xs,e1,?_,ah.upd ha m p e3⟩;rcases e2 with⟨q,e2⟩ | e2
  ·have n:b≠a:=oO e2 ha (by rcases m with⟨z,rfl⟩ | ⟨z,rfl⟩ | ⟨z,rfl⟩<;>(intro q;cases q));exact .inl ⟨q,by rw[L2.aJ n];exact e2⟩
  ·exact .inr e2
 | .exc c,v,h=>by
  rw[Rep]at h ⊢;refine h.keep fun b ob u q=>?_;have n:b≠a:=oO q ha (by rcases m with⟨z,rfl⟩ | ⟨z,rfl⟩ | ⟨z,rfl⟩<;>(intro q;cases q));rw[L2.aJ n];exact q
theorem ah.upd{P:Addr->Prop}{K:PySem.W.Frag}{H:Hp}{a:Addr}{o o':HO}(ha:H a=some o)(m:cN o)(p:P a):∀ {ds:List RL.D} {xs:List V},ah P K H ds xs->ah P K (upd H a o') ds xs
 | [],xs,h=>by rw[ah]at h ⊢;exact h
 | d::r,xs,h=>by
  rw[ah]at h ⊢;obtain⟨x,t,e1,e2,e3⟩:=h;exact⟨x,t,e1,Rep.upd ha m p e2,ah.upd ha m p e3⟩
end
section lists
variable{K:PySem.W.Frag}
def ah.nil:ah P K H [] []:=by rw[ah]
def ah.cons{d:RL.D}{ds:List RL.D}{x:V}{xs:List V}(h:Rep P K H d x)(t:ah P K H ds xs):ah P K H (d::ds) (x::xs):=by rw[ah];exact⟨x,xs,rfl,h,t⟩
def ah.length:∀ {ds:List RL.D} {xs:List V},ah P K H ds xs->ds.length=xs.length
 | [],xs,h=>by rw[ah]at h;rw[h];rfl
 | d::r,xs,h=>by
  rw[ah]at h;obtain⟨x,t,rfl,_,e3⟩:=h;rw[List.length_cons,List.length_cons,ah.length e3]
def ah.append:∀ {ds es:List RL.D} {xs ys:List V},ah P K H ds xs->ah P K H es ys->ah P K H (ds++es) (xs++ys)
 | [],_,xs,_,h,k=>by rw[ah]at h;rw[h];exact k
 | d::r,_,xs,_,h,k=>by
  rw[ah]at h;obtain⟨x,t,rfl,e2,e3⟩:=h;exact ah.cons e2 (ah.append e3 k)
def ah.get:∀ {ds:List RL.D} {xs:List V} {i:Nat} {d:RL.D},ah P K H ds xs->ds[i]?=some d->∃ x,xs[i]?=some x/\Rep P K H d x
 | [],_,i,d,_,e=>by simp at e
 | d::r,xs,0,d',h,e=>by
  rw[ah]at h;obtain⟨x,t,rfl,e2,_⟩:=h;simp at e;subst e;exact⟨x,rfl,e2⟩
 | d::r,xs,i+1,d',h,e=>by
  rw[ah]at h;obtain⟨x,t,rfl,_,e3⟩:=h;obtain⟨y,h1,h2⟩:=ah.get (i:=i) e3 (by simpa using e);exact⟨y,by simpa using h1,h2⟩
def ah.set:∀ {ds:List RL.D} {xs:List V} (i:Nat) {d:RL.D} {x:V},ah P K H ds xs->Rep P K H d x->ah P K H (ds.set i d) (xs.set i x)
 | [],xs,_,_,_,h,_=>by rw[ah]at h;rw[h];exact ah.nil
 | d::r,xs,0,_,_,h,k=>by
  rw[ah]at h;obtain⟨x,t,rfl,_,e3⟩:=h;exact ah.cons k e3
 | d::r,xs,i+1,_,_,h,k=>by
  rw[ah]at h;obtain⟨x,t,rfl,e2,e3⟩:=h;exact ah.cons e2 (ah.set i e3 k)
def ah.take:∀ {ds:List RL.D} {xs:List V} (n:Nat),ah P K H ds xs->ah P K H (ds.take n) (xs.take n)
 | _,_,0,_=>by simpa using ah.nil
 | [],xs,n+1,h=>by rw[ah]at h;rw[h];simpa using ah.nil
 | d::r,xs,n+1,h=>by
  rw[ah]at h;obtain⟨x,t,rfl,e2,e3⟩:=h;exact ah.cons e2 (ah.take n e3)
def ah.rep(h:ah P K H ds xs):∀ n:Nat,ah P K H (List.replicate n ds).flatten (List.replicate n xs).flatten
 | 0=>ah.nil
 | n+1=>by
  rw[List.replicate_succ,List.replicate_succ,List.flatten_cons,List.flatten_cons];exact ah.append h (ah.rep h n)
end lists
abbrev RV0(K:PySem.W.Frag)(σD:RL.St)(σ:L2.St)(H:Hp):Prop:=σD.length<=σ.length/\∀ (i:Nat) (d:RL.D),σD[i]?=some (some d)->∃ v,σ[i]?=some (some v)/\Rep nP K H d v
def RV0.same{K:PySem.W.Frag}(h:RV0 K σD σ H)(e:au H H'):RV0 K σD σ H':=⟨h.1,fun i d q=>by
 obtain⟨v,h1,h2⟩:=h.2 i d q
 exact⟨v,h1,h2.same e⟩⟩
abbrev mX:RL.D->Bool
 | .lst _=>true
 | .dK _ _=>true
 | .dT _ _=>true
 | _=>false
structure Res(K:PySem.W.Frag)(σD:RL.St)(σ:L2.St)(H:Hp)(e:RL.E)(d:RL.D)(v:V)(H':Hp):Prop where
 same:au H H'
 rep:Rep nP K H' d v
 fresh:RL.aS e=true->mX d=true->∀ a,v=.ref a->H a=none
 av:∀ M,RL.avE M e=true->∀ P:Addr->Prop,(∀ a,P a->H a≠none)->(∀ (j:Nat) (dj:RL.D) (vj:V),M.contains j=false->σD[j]?=some (some dj)->σ[j]?=some (some vj)->Rep P K H dj vj)->Rep P K H' d v
abbrev tE(K:PySem.W.Frag)(cl:RL.Cl)(e:RL.E):TE:=fun σ H Q=>∃ σD d,RV0 K σD σ H/\RL.ev cl σD e=some d/\∀ v H',Res K σD σ H e d v H'->Q v H'
abbrev SE(X:Cx)(cl:RL.Cl)(e:Expr)(e':RL.E):Prop:=PE X e (tE X.K cl e')
def PE.weak(h:PE X e t)(w:∀ σ H Q,t' σ H Q->t σ H Q):PE X e t':=fun pins s σ H Q I q=>h pins s σ H Q I (w σ H Q q)
abbrev tEs(K:PySem.W.Frag)(cl:RL.Cl)(es:RL.Es):TA:=fun σ H Q=>∃ σD ds,RV0 K σD σ H/\RL.evs cl σD es=some ds/\∀ vs H',au H H'->ah nP K H' ds vs->Q vs H'
abbrev SEs(X:Cx)(cl:RL.Cl)(es:List Expr)(es':RL.Es):Prop:=PA X es (tEs X.K cl es')
section rules
variable{X:Cx}
def two{σD:RL.St}{σ:L2.St}{H:Hp}{x y:RL.D}{R:V->V->Hp->Prop}(rv:RV0 X.K σD σ H)(ea:RL.ev cl σD a'=some x)(eb:RL.ev cl σD b'=some y)
 (k:∀ v u H1 H2,au H H1->au H1 H2->Rep nP X.K H2 x v->Rep nP X.K H2 y u->Res X.K σD σ H a' x v H1->Res X.K σD σ H1 b' y u H2->R v u H2) :
  tE X.K cl a' σ H fun v H1=>tE X.K cl b' σ H1 fun u H2=>R v u H2 :=
 ⟨σD,x,rv,ea,fun v H1 r1=>⟨σD,y,rv.same r1.same,eb,fun u H2 r2=>k v u H1 H2 r1.same r2.same (r1.rep.same r2.same) r2.rep r1 r2⟩⟩
def bind_some(h:o.bind f=some y):∃ x,o=some x/\f x=some y:=by
 cases o with
 | none=>cases h
 | some x=>exact⟨x,rfl,h⟩
def map_some(h:o.map f=some y):∃ x,o=some x/\f x=y:=by
 cases o with
 | none=>cases h
 | some x=>exact⟨x,rfl,Option.some.inj h⟩
def bI:RL.most<=sizeLine:=by decide
def au.bH(hn:H p=none):au H (upd H p o):=fun b u e=>by rw[aJ (aK e hn)];exact e
def CN(hN:X.N[i]?=some x)(hv:Vis X.env.scope x)(hd:(x == ("__debug__" : Str))=false)(hcd:(x == ("__classdict__" : Str))=false):SE X cl (.Name x pos) (.var i):=by
 refine PE.weak (eP hN hv hd hcd) fun σ H Q h=>?_;obtain⟨σD,d,rv,e,k⟩:=h
 have e':σD[i]?=some (some d):=by
  obtain⟨o,h1,h2⟩:=bind_some e
  cases o with
  | none=>cases h2
  | some z=>cases h2;exact h1
 obtain⟨v,h1,h2⟩:=rv.2 i d e';refine⟨v,h1,k v H ⟨au.refl H,h2,fun z=>(by cases z),fun M z P hP av=>?_⟩⟩;rw[RL.avE]at z;exact av i d v (by simpa using z) e' h1
def lO(h:PE X (.Constant k j pos) (tC v))(r:∀ P H,Rep P X.K H d v)(hm:mX d=false):SE X cl (.Constant k j pos) (.cst d):=by
 refine PE.weak h fun σ H Q q=>?_;obtain⟨σD,d',rv,e,k⟩:=q;cases e;exact k v H ⟨au.refl H,r _ _,fun z=>(by cases z),fun M z=>nomatch (show false=true from z)⟩
def Dk{x:Str}{i:Int}{u:Value}(h:PE X (.Name x pos) (tC (.int i))):SE X cl (.Name x pos) (.glb x i):=by
 refine PE.weak h fun σ H Q q=>?_;obtain⟨σD,d',rv,e,k⟩:=q;cases e;exact k _ H ⟨au.refl H,(by rw[Rep]),fun z=>(by cases z),fun M z=>nomatch (show false=true from z)⟩
end rules
section rules
variable{X:Cx}
def bZ(sm:au H H')(r:Rep nP X.K H' d v)(im:d.imm=true):Res X.K σD σ H e d v H' where
 same:=sm
 rep:=r
 fresh:=fun _ m=>by
  cases d with
  | lst _=>cases im
  | dK _ _=>cases im
  | dT _ _=>cases im
  | _=>cases m
 av:=fun M _ P _ _=>r.imm im
def yZ:OpR X (binaryOp .FloorDiv) (rI (fun _ j=>0<j/\j<2 ^ 200) fun i j=>.int (i / j)):=opI fun i j _ _ _ _ _ hc q=>by
 refine floordiv_int (by lia) ?_ (.inl (PyProof.noPylong_of_log2 ?_))
 ·rw[Int.fdiv_eq_ediv_of_nonneg _ (by lia)];exact q
 ·have h0:j.natAbs≠0:=by lia
  have h1:j.natAbs<2 ^ 200:=by
   have:=hc.2;omega
  have h2:j.natAbs.log2<200:=(Nat.log2_lt h0).mpr h1;lia
def fz(sm:au H H1)(hn:H1 p=none)(r:ah nP X.K H1 ds xs)(hav:∀ M,RL.avE M e=false):Res X.K σD σ H e (.lst ds) (.ref p) (upd H1 p (.lst xs)) where
 same:=sm.trans (au.bH hn)
 rep:=by
  rw[Rep];exact⟨p,xs,rfl,fun z=>z,aP,r.same (au.bH hn)⟩
 fresh:=fun _ _ a z=>by
  cases z;exact sm.free hn
 av:=fun M z=>by rw[hav M]at z;cases z
def jw(sm:au H H1)(hn:H1 p=none)(r:ah nP X.K H1 ds xs)(hav:∀ M,RL.avE M e=false):Res X.K σD σ H e (.tup ds) (.ref p) (upd H1 p (.tup xs)) where
 same:=sm.trans (au.bH hn)
 rep:=by
  rw[Rep];exact⟨p,xs,rfl,aP,r.same (au.bH hn)⟩
 fresh:=fun _ m=>by cases m
 av:=fun M z=>by rw[hav M]at z;cases z
abbrev pj:RL.Bop->Operator
 | .add=>.Add
 | .sub=>.Sub
 | .mul=>.Mult
 | .fdiv=>.FloorDiv
 | .mod=>.Mod
 | .pow=>.Pow
def bb{P:Addr->Prop}{K:PySem.W.Frag}:Rep P K H (.int i) (.int i):=by rw[Rep]
def qd{P:Addr->Prop}{K:PySem.W.Frag}:Rep P K H (.bl i) (.bl i):=by rw[Rep]
def df{P:Addr->Prop}{K:PySem.W.Frag}:Rep P K H (.str i) (.str i):=by rw[Rep]
def aq{P:Addr->Prop}{K:PySem.W.Frag}(h:Rep P K H (.int i) v):v=.int i:=by rw[Rep]at h;exact h
def aZ{P:Addr->Prop}{K:PySem.W.Frag}(h:Rep P K H (.bl i) v):v=.bl i:=by rw[Rep]at h;exact h
def aD{P:Addr->Prop}{K:PySem.W.Frag}(h:Rep P K H (.str i) v):v=.str i:=by rw[Rep]at h;exact h
abbrev lr(X:Cx)(o:RL.Bop)(r:R2):Prop :=
 ∀ (σD:RL.St) (σ:L2.St) (H H2:Hp) (e:RL.E) (x y d:RL.D) (v u:V) (Q:VK),au H H2->Rep nP X.K H2 x v->Rep nP X.K H2 y u->RL.aB o x y=some d->(∀ M,RL.avE M e=false) ->
  (∀ w H',Res X.K σD σ H e d w H'->Q w H')->r v u H2 Q
def gy(ho:OpR X (binaryOp (pj o)) r)(ok:lr X o r)(ha:SE X cl a a')(hb:SE X cl b b'):SE X cl (.BinOp a (pj o) b pos) (.bin o a' b'):=by
 refine PE.weak (zo ho ha hb) fun σ H Q h=>?_;obtain⟨σD,d,rv,e,k⟩:=h;obtain⟨x,ea,e⟩:=bind_some e;obtain⟨y,eb,e⟩:=bind_some e;refine two rv ea eb fun v u H1 H2 s1 s2 rx ry _ _=>?_;exact ok σD σ H H2 _ x y d v u Q (s1.trans s2) rx ry e (fun _=>rfl) k
end rules
section rules
variable{X:Cx}{cl:RL.Cl}{a b c:Expr}{a' b' c':RL.E}{pos:Pos}
def cC{α:Type}{c:Prop} [Decidable c]{a d:α}(h:(if c then some a else none)=some d):c/\d=a:=by
 by_cases hc:c
 ·rw[if_pos hc]at h;exact⟨hc,(Option.some.inj h).symm⟩
 ·rw[if_neg hc]at h;cases h
def noN{α:Type}{o:Option α}{d:α}{p:Prop}(e:o=none)(h:o=some d):p:=by rw[e]at h;cases h
def yG{x y d:RL.D}(h:RL.aB .add x y=some d):(∃ i j,x=.int i/\y=.int j/\d=.int (i+j))\/(∃ i j:Str,x=.str i/\y=.str j/\i.length+j.length<=RL.most/\d=.str (i++j)) \/
  (∃ i j,x=.lst i/\y=.lst j/\i.length+j.length<=RL.most/\d=.lst (i++j)) \/
  (∃ i j,x=.tup i/\y=.tup j/\(i.length+j.length<=RL.most/\0<i.length)/\d=.tup (i++j)):=by
 cases x with
 | int i=>cases y with
  | int j=>cases h;exact .inl ⟨i,j,rfl,rfl,rfl⟩
  | _=>exact noN rfl h
 | str i=>cases y with
  |str j=>
   obtain⟨hc,e⟩:=cC h;exact .inr (.inl ⟨i,j,rfl,rfl,hc,e⟩)
  | _=>exact noN rfl h
 | lst i=>cases y with
  |lst j=>
   obtain⟨hc,e⟩:=cC h;exact .inr (.inr (.inl ⟨i,j,rfl,rfl,hc,e⟩))
  | _=>exact noN rfl h
 | tup i=>cases y with
  |tup j=>
   obtain⟨hc,e⟩:=cC h;exact .inr (.inr (.inr ⟨i,j,rfl,rfl,hc,e⟩))
  | _=>exact noN rfl h
 | _=>exact noN rfl h
def x9{x y d:RL.D}(h:RL.aB .mul x y=some d):(∃ i j,x=.int i/\y=.int j/\tX i j/\d=.int (i*j)) \/
  (∃ i j,x=.lst i/\y=.int j/\(0<=j/\j<=RL.most/\i.length*j.toNat<=RL.most)/\d=.lst (List.replicate j.toNat i).flatten):=by
 cases x with
 | int i=>cases y with
  |int j=>
   obtain⟨hc,e⟩:=cC h;exact .inl ⟨i,j,rfl,rfl,hc,e⟩
  | _=>exact noN rfl h
 | lst i=>cases y with
  |int j=>
   obtain⟨hc,e⟩:=cC h;exact .inr ⟨i,j,rfl,rfl,hc,e⟩
  | _=>exact noN rfl h
 | _=>exact noN rfl h
def hW{o:RL.Bop}{x y d:RL.D}(h:RL.aB o x y=some d)(ho:o≠.add)(hm:o≠.mul):∃ i j,x=.int i/\y=.int j/\RL.aB o (.int i) (.int j)=some d:=by
 have no:∀ {a b:RL.D},RL.aB .sub a b=none->RL.aB .fdiv a b=none->RL.aB .mod a b=none->RL.aB .pow a b=none->RL.aB o a b=some d->False:=fun e1 e2 e3 e4 h=>by
  cases o with
  | add=>exact ho rfl
  | mul=>exact hm rfl
  | sub=>rw[e1]at h;cases h
  | fdiv=>rw[e2]at h;cases h
  | mod=>rw[e3]at h;cases h
  | pow=>rw[e4]at h;cases h
 cases x with
 | int i=>cases y with
  | int j=>exact⟨i,j,rfl,rfl,h⟩
  | _=>exact(no rfl rfl rfl rfl h).elim
 | _=>exact(no rfl rfl rfl rfl h).elim
def yU{x y d:RL.D}(h:RL.aB .sub x y=some d):∃ i j,x=.int i/\y=.int j/\d=.int (i-j):=by
 obtain⟨i,j,e1,e2,h⟩:=hW h (by decide) (by decide);cases h;exact⟨i,j,e1,e2,rfl⟩
def wC{x y d:RL.D}(h:RL.aB .fdiv x y=some d):∃ i j,x=.int i/\y=.int j/\(0<j/\j<2 ^ 200)/\d=.int (i / j):=by
 obtain⟨i,j,e1,e2,h⟩:=hW h (by decide) (by decide);obtain⟨hc,e⟩:=cC h;exact⟨i,j,e1,e2,hc,e⟩
def y8{x y d:RL.D}(h:RL.aB .mod x y=some d):∃ i j,x=.int i/\y=.int j/\0<j/\d=.int (i%j):=by
 obtain⟨i,j,e1,e2,h⟩:=hW h (by decide) (by decide);obtain⟨hc,e⟩:=cC h;exact⟨i,j,e1,e2,hc,e⟩
def yC{x y d:RL.D}(h:RL.aB .pow x y=some d):∃ i j,x=.int i/\y=.int j/\(0<=j/\j<=1000/\i.natAbs<2 ^ 64)/\d=.int (i ^ j.toNat):=by
 obtain⟨i,j,e1,e2,h⟩:=hW h (by decide) (by decide);obtain⟨hc,e⟩:=cC h;exact⟨i,j,e1,e2,hc,e⟩
def aH{P:Addr->Prop}{K:PySem.W.Frag}{H:Hp}{ds:List RL.D}{v:V}(h:Rep P K H (.lst ds) v):∃ a xs,v=.ref a/\¬ P a/\H a=some (.lst xs)/\ah P K H ds xs:=by rw[Rep]at h;exact h
def bq{P:Addr->Prop}{K:PySem.W.Frag}{H:Hp}{ds:List RL.D}{v:V}(h:Rep P K H (.tup ds) v):∃ a xs,v=.ref a/\H a=some (.tup xs)/\ah P K H ds xs:=by rw[Rep]at h;exact h
def DP:lr X .sub (rI0 fun i j=>.int (i-j)):=by
 intro σD σ H H2 e x y d v u Q sm rx ry h hav k;obtain⟨i,j,rfl,rfl,rfl⟩:=yU h;exact⟨i,j,aq rx,aq ry,k _ _ (bZ sm bb rfl)⟩
def Ax:lr X .fdiv (rI (fun _ j=>0<j/\j<2 ^ 200) fun i j=>.int (i / j)):=by
 intro σD σ H H2 e x y d v u Q sm rx ry h hav k;obtain⟨i,j,rfl,rfl,hc,rfl⟩:=wC h;exact⟨i,j,aq rx,aq ry,hc,k _ _ (bZ sm bb rfl)⟩
def Ep:lr X .mod (rI (fun _ j=>0<j) fun i j=>.int (i%j)):=by
 intro σD σ H H2 e x y d v u Q sm rx ry h hav k;obtain⟨i,j,rfl,rfl,hc,rfl⟩:=y8 h;exact⟨i,j,aq rx,aq ry,hc,k _ _ (bZ sm bb rfl)⟩
def Ek:lr X .pow (rI B7 fun i j=>.int (i ^ j.toNat)):=by
 intro σD σ H H2 e x y d v u Q sm rx ry h hav k;obtain⟨i,j,rfl,rfl,hc,rfl⟩:=yC h;exact⟨i,j,aq rx,aq ry,⟨hc.1,Int.le_trans hc.2.1 (by decide),hc.2.2⟩,k _ _ (bZ sm bb rfl)⟩
def Cb(ha:SE X cl a a')(hb:SE X cl b b'):SE X cl (.BinOp a .Add b pos) (.bin .add a' b'):=by
 refine gy (o:=.add) (EH.or (u5.or (BP.or Ak))) ?_ ha hb;intro σD σ H H2 e x y d v u Q sm rx ry h hav k
 rcases yG h with⟨i,j,rfl,rfl,rfl⟩ | ⟨i,j,rfl,rfl,hc,rfl⟩ | ⟨i,j,rfl,rfl,hc,rfl⟩ | ⟨i,j,rfl,rfl,⟨hc,ha⟩,rfl⟩
 ·exact .inl ⟨i,j,aq rx,aq ry,k _ _ (bZ sm bb rfl)⟩
 ·exact .inr (.inl ⟨i,j,aD rx,aD ry,Nat.le_trans hc bI,k _ _ (bZ sm df rfl)⟩)
 ·obtain⟨p,xs,e1,_,e2,e3⟩:=aH rx;obtain⟨q,ys,f1,_,f2,f3⟩:=aH ry;refine .inr (.inr (.inl ⟨p,q,xs,ys,e1,f1,e2,f2,?_,fun l hl=>k _ _ (fz sm hl (e3.append f3) hav)⟩));rw[<-e3.length,<-f3.length];exact Nat.le_trans hc bI
 ·obtain⟨p,xs,e1,e2,e3⟩:=bq rx;obtain⟨q,ys,f1,f2,f3⟩:=bq ry;refine .inr (.inr (.inr ⟨p,q,xs,ys,e1,f1,SqT.of e2,SqT.of f2,fun z=>?_,?_,fun z=>?_,fun _ l hl=>k _ _ (jw sm hl (e3.append f3) hav)⟩))
  ·rw[e3.length,z]at ha;exact absurd ha (by decide)
  ·rw[<-e3.length,<-f3.length];exact Nat.le_trans hc bI
  ·have hj:j=[]:=by
    have:=f3.length;rw[z]at this;exact List.length_eq_zero_iff.mp this
   subst hj;rw[List.append_nil]at k;exact k _ _ ⟨sm,e1▸rx,fun _ m=>(by cases m),fun M z=>by rw[hav M]at z;cases z⟩
def C5(ha:SE X cl a a')(hb:SE X cl b b'):SE X cl (.BinOp a .Mult b pos) (.bin .mul a' b'):=by
 refine gy (o:=.mul) (Dw.or Ci) ?_ ha hb;intro σD σ H H2 e x y d v u Q sm rx ry h hav k
 rcases x9 h with⟨i,j,rfl,rfl,hc,rfl⟩ | ⟨i,j,rfl,rfl,hc,rfl⟩
 ·exact .inl ⟨i,j,aq rx,aq ry,hc,k _ _ (bZ sm bb rfl)⟩
 ·obtain⟨p,xs,e1,_,e2,e3⟩:=aH rx;refine .inr ⟨p,j,xs,e1,aq ry,e2,?_,?_,?_,fun l hl=>k _ _ (fz sm hl (e3.rep _) hav)⟩
  ·exact Int.le_trans (by decide) hc.1
  ·exact Int.lt_of_le_of_lt hc.2.1 (by decide)
  ·rw[<-e3.length];exact Nat.le_trans hc.2.2 bI
def Cy{o:RL.Bop}(ha:SE X cl a a')(hb:SE X cl b b'):SE X cl (.BinOp a (pj o) b pos) (.bin o a' b'):=by
 cases o with
 | add=>exact Cb ha hb
 | mul=>exact C5 ha hb
 | sub=>exact gy (o:=.sub) C3 DP ha hb
 | fdiv=>exact gy (o:=.fdiv) yZ Ax ha hb
 | mod=>exact gy (o:=.mod) Ez Ep ha hb
 | pow=>exact gy (o:=.pow) B6 Ek ha hb
def dn{σD:RL.St}{σ:L2.St}{H H':Hp}{e:RL.E}{k:Bool}(sm:au H H'):Res X.K σD σ H e (.bl k) (.bl k) H':=bZ sm qd rfl
def C2{rest:List Expr}(ha:SE X cl a a')(hb:SE X cl (.BoolOp .And (b::rest) pos) b'):SE X cl (.BoolOp .And (a::b::rest) pos) (.and a' b'):=by
 refine PE.weak (DS ha hb) fun σ H Q h=>?_;obtain⟨σD,d,rv,e,k⟩:=h;obtain⟨x,ea,e⟩:=bind_some e;refine⟨σD,x,rv,ea,fun v H1 r1=>?_⟩
 cases x with
 |bl t=>
  refine⟨t,aZ r1.rep,?_⟩
  cases t with
  |true=>
   refine eJ ?_;refine⟨σD,d,rv.same r1.same,e,fun w H2 r2=>k w H2 ?_⟩;exact⟨r1.same.trans r2.same,r2.rep,fun z=>(by cases z),fun M z=>nomatch (show false=true from z)⟩
  |false=>
   refine ff ?_;cases e;exact k _ _ (dn r1.same)
 | _=>cases e
def Fd{rest:List Expr}(ha:SE X cl a a')(hb:SE X cl (.BoolOp .Or (b::rest) pos) b'):SE X cl (.BoolOp .Or (a::b::rest) pos) (.or a' b'):=by
 refine PE.weak (EM ha hb) fun σ H Q h=>?_;obtain⟨σD,d,rv,e,k⟩:=h;obtain⟨x,ea,e⟩:=bind_some e;refine⟨σD,x,rv,ea,fun v H1 r1=>?_⟩
 cases x with
 |bl t=>
  refine⟨t,aZ r1.rep,?_⟩
  cases t with
  |false=>
   refine ff ?_;refine⟨σD,d,rv.same r1.same,e,fun w H2 r2=>k w H2 ?_⟩;exact⟨r1.same.trans r2.same,r2.rep,fun z=>(by cases z),fun M z=>nomatch (show false=true from z)⟩
  |true=>
   refine eJ ?_;cases e;exact k _ _ (dn r1.same)
 | _=>cases e
def wG{op}(ha:SE X cl a a'):SE X cl (.BoolOp op [a] pos) a':=BM ha
abbrev tT(K:PySem.W.Frag)(cl:RL.Cl)(e:RL.E):TT:=fun σ H Q=>∃ σD k,RV0 K σD σ H/\(RL.ev cl σD e).bind RL.truth=some k/\∀ H',au H H'->Q k H'
abbrev ST(X:Cx)(cl:RL.Cl)(e:Expr)(e':RL.E):Prop:=PT X e (tT X.K cl e')
abbrev SW(X:Cx)(cl:RL.Cl)(e:Expr)(e':RL.E):Prop:=PW X e (tT X.K cl e')
def PT.weak{e:Expr}{t t':TT}(h:PT X e t)(w:∀ σ H Q,t' σ H Q->t σ H Q):PT X e t':=fun pins s σ H Q I q=>h pins s σ H Q I (w σ H Q q)
def PW.weak{e:Expr}{t t':TT}(h:PW X e t)(w:∀ σ H Q,t' σ H Q->t σ H Q):PW X e t':=fun wh pins s σ H Q I q=>h wh pins s σ H Q I (w σ H Q q)
def ah.isEmpty{P:Addr->Prop}{K:PySem.W.Frag}{H:Hp}{ds:List RL.D}{xs:List V}(h:ah P K H ds xs):ds.isEmpty=xs.isEmpty:=by
 cases ds with
 | nil=>rw[ah]at h;rw[h];rfl
 |cons d r=>
  rw[ah]at h;obtain⟨x,t,rfl,_⟩:=h;rfl
def EF{K:PySem.W.Frag}{H:Hp}{d:RL.D}{v:V}{k:Bool}(r:Rep nP K H d v)(h:RL.truth d=some k):tK K v H k:=by
 cases d<;>simp only[RL.truth]at h<;>first | (cases h;done) | skip
 case bl t=>cases h;rw[aZ r];exact rfl
 case int t =>
  cases h;rw[aq r];simp[tK]
 case tup ds =>
  obtain⟨a,xs,rfl,e,rs⟩:=bq r;cases h;exact .inr (.inl ⟨xs,SqT.of e,by rw[rs.isEmpty]⟩)
 case lst ds =>
  obtain⟨a,xs,rfl,_,e,rs⟩:=aH r;cases h;exact .inl ⟨xs,SqL.of e,by rw[rs.isEmpty]⟩
def yN(ha:SE X cl a a')(he:∀ whole,isTrue a X.env whole=(do let v <- whole;standAt a.pos;holding [v] (truthy v))):ST X cl a a':=by
 refine PT.weak (yz ha he) fun σ H Q h=>?_;obtain⟨σD,k,rv,e,q⟩:=h;obtain⟨d,e1,e2⟩:=bind_some e;exact⟨σD,d,rv,e1,fun v H1 r1=>⟨k,EF r1.rep e2,q H1 r1.same⟩⟩
def xf{op:BoolOp}(ha:ST X cl a a'):SW X cl (.BoolOp op [a] pos) a':=by
 cases op with
 | And=>exact Ap ha
 | Or=>exact Dt ha
def xh{σD:RL.St}{k:Bool}(h:(RL.ev cl σD (.and a' b')).bind RL.truth=some k):∃ t,(RL.ev cl σD a').bind RL.truth=some t/\(if t=true then(RL.ev cl σD b').bind RL.truth=some k else k=false):=by
 rw[RL.ev]at h
 cases ea:RL.ev cl σD a' with
 | none=>rw[ea]at h;cases h
 |some x=>
  rw[ea]at h
  cases x with
  |bl t=>
   cases t with
   | true=>exact⟨true,rfl,eJ h⟩
   | false=>exact⟨false,rfl,ff (by cases h;rfl)⟩
  | _=>exact noN rfl h
def xD{σD:RL.St}{k:Bool}(h:(RL.ev cl σD (.or a' b')).bind RL.truth=some k):∃ t,(RL.ev cl σD a').bind RL.truth=some t/\(if t=true then k=true else(RL.ev cl σD b').bind RL.truth=some k):=by
 rw[RL.ev]at h
 cases ea:RL.ev cl σD a' with
 | none=>rw[ea]at h;cases h
 |some x=>
  rw[ea]at h
  cases x with
  |bl t=>
   cases t with
   | true=>exact⟨true,rfl,eJ (by cases h;rfl)⟩
   | false=>exact⟨false,rfl,ff h⟩
  | _=>exact noN rfl h
def D4{rest:List Expr}(ha:ST X cl a a')(hb:SW X cl (.BoolOp .And (b::rest) pos) b'):SW X cl (.BoolOp .And (a::b::rest) pos) (.and a' b'):=by
 refine PW.weak (Dd ha hb) fun σ H Q h=>?_;obtain⟨σD,k,rv,e,q⟩:=h;obtain⟨t,e1,e2⟩:=xh e;refine⟨σD,t,rv,e1,fun H1 s1=>?_⟩
 cases t with
 | true=>exact eJ ⟨σD,k,rv.same s1,e2,fun H2 s2=>q H2 (s1.trans s2)⟩
 |false=>
  have e2:k=false:=e2;subst e2;exact ff (q H1 s1)
def Fu{rest:List Expr}(ha:ST X cl a a')(hb:SW X cl (.BoolOp .Or (b::rest) pos) b'):SW X cl (.BoolOp .Or (a::b::rest) pos) (.or a' b'):=by
 refine PW.weak (Ft ha hb) fun σ H Q h=>?_;obtain⟨σD,k,rv,e,q⟩:=h;obtain⟨t,e1,e2⟩:=xD e;refine⟨σD,t,rv,e1,fun H1 s1=>?_⟩
 cases t with
 |true=>
  have e2:k=true:=e2;subst e2;exact eJ (q H1 s1)
 | false=>exact ff ⟨σD,k,rv.same s1,e2,fun H2 s2=>q H2 (s1.trans s2)⟩
def DO(ha:ST X cl a a'):ST X cl (.UnaryOp .Not a pos) (.not a'):=by
 refine PT.weak (Cj ha) fun σ H Q h=>?_;obtain⟨σD,k,rv,e,q⟩:=h;obtain⟨d,e1,e2⟩:=bind_some e;obtain⟨t,e3,e4⟩:=map_some e1;subst e4;cases e2;exact⟨σD,t,rv,e3,fun H1 s1=>q H1 s1⟩
def E5(hc:ST X cl c c')(ha:SE X cl a a')(hb:SE X cl b b'):SE X cl (.IfExp c a b pos) (.ifx c' a' b'):=by
 refine PE.weak (xB hc ha hb) fun σ H Q h=>?_;obtain⟨σD,d,rv,e,q⟩:=h;obtain⟨t,e1,e2⟩:=bind_some e;refine⟨σD,t,rv,e1,fun H1 s1=>?_⟩;have fin:∀ (a':RL.E) (v:V) (H2:Hp),(∀ M,RL.avE M (.ifx c' a' b')=true->RL.avE M a'=true)->True:=fun _ _ _ _=>trivial
 cases t with
 |true=>
  refine eJ ⟨σD,d,rv.same s1,e2,fun v H2 r2=>q v H2 ⟨s1.trans r2.same,r2.rep,fun z=>(by cases z),fun M z P hP av=>?_⟩⟩;have z:(RL.avE M a'&&RL.avE M b')=true:=z;rw[Bool.and_eq_true]at z;exact r2.av M z.1 P (fun a p=>(Option.ne_none_iff_exists'.mpr (by obtain⟨o,ho⟩:=Option.ne_none_iff_exists'.mp (hP a p);exact⟨o,s1 _ _ ho⟩))) fun j dj vj h1 h2 h3=>(av j dj vj h1 h2 h3).same s1
 |false=>
  refine ff ⟨σD,d,rv.same s1,e2,fun v H2 r2=>q v H2 ⟨s1.trans r2.same,r2.rep,fun z=>(by cases z),fun M z P hP av=>?_⟩⟩;have z:(RL.avE M a'&&RL.avE M b')=true:=z;rw[Bool.and_eq_true]at z;exact r2.av M z.2 P (fun a p=>(Option.ne_none_iff_exists'.mpr (by obtain⟨o,ho⟩:=Option.ne_none_iff_exists'.mp (hP a p);exact⟨o,s1 _ _ ho⟩))) fun j dj vj h1 h2 h3=>(av j dj vj h1 h2 h3).same s1
end rules
section rules
variable{X:Cx}
def D0(ha:SE X cl a a'):SE X cl (.UnaryOp .Not a pos) (.not a'):=by
 intro pins s σ H Q I h;obtain⟨σD,d,rv,e,k⟩:=h;obtain⟨t,e1,e2⟩:=map_some e;obtain⟨x,e3,e4⟩:=bind_some e1;subst e2;refine UnaryOp_ (thn (ha pins s σ H (fun v H1=>au H H1/\Rep nP X.K H1 x v) I ⟨σD,x,rv,e3,fun v H1 r1=>⟨r1.same,r1.rep⟩⟩) fun v s1 ⟨y,H1,I1,r1,sm,rp⟩=>?_);refine not_of (thn (wV pins s1 σ H1 y v (fun k H2=>k=t/\H2=H1) I1 r1 ⟨t,EF rp e4,rfl,rfl⟩) fun k2 s2 ⟨H2,I2,q1,q2⟩=>?_);subst q1;subst q2;exact⟨.bl (!k2),H2,I2,rfl,k _ _ (dn sm)⟩
abbrev noStar:Expr->Bool
 | .Starred _ _=>false
 | _=>true
def ay(es:List Expr)(h:noStar e=true):starEach (e::es) X.env=(false,eval e X.env)::starEach es X.env:=by
 cases e<;>first | rfl | (cases h)
def dC:∀ {es:List Expr} {pos:Pos},es.all noStar=true->(backTo pos (starEach es X.env)).any (·.1)=false
 | [],_,_=>rfl
 | e::es,pos,h=>by
  rw[List.all_cons,Bool.and_eq_true]at h;rw[ay es h.1];show(false || (backTo pos (starEach es X.env)).any (·.1))=false;rw[dC h.2];rfl
def dH:SEs X cl [] .nil:=by
 intro pos pins s σ H Q I h;obtain⟨σD,ds,rv,e,k⟩:=h;cases e;exact cL pos pins s σ H Q I (k [] H (au.refl H) ah.nil)
def cj(he:SE X cl e e')(hr:SEs X cl es es')(hn:noStar e=true):SEs X cl (e::es) (.cons e' es'):=by
 intro pos pins s σ H Q I h;refine ba he hr (ay es hn) pos pins s σ H Q I ?_;obtain⟨σD,ds,rv,e,k⟩:=h;obtain⟨d,e1,e2⟩:=bind_some e;obtain⟨r,e3,e4⟩:=map_some e2;subst e4;refine⟨σD,d,rv,e1,fun v H1 r1=>⟨σD,r,rv.same r1.same,e3,fun vs H2 s2 r2=>k (v::vs) H2 (r1.same.trans s2) (ah.cons (r1.rep.same s2) r2)⟩⟩
abbrev dY:RL.Es->Nat
 | .nil=>0
 | .cons _ r=>dY r+1
def kI:∀ {es:RL.Es} {ds:List RL.D},RL.evs cl σD es=some ds->ds.length=dY es
 | .nil,ds,h=>by rw[RL.evs]at h;cases h;rfl
 | .cons e r,ds,h=>by
  obtain⟨d,e1,e2⟩:=bind_some h;obtain⟨t,e3,e4⟩:=map_some e2;subst e4;rw[List.length_cons,kI e3,dY]
def CA(h:SEs X cl es es')(hl:dY es'<=1000):SE X cl (.Tuple es x1 pos) (.tup es'):=by
 refine PE.weak (Cu h) fun σ H Q q=>?_;obtain⟨σD,d,rv,e,k⟩:=q;obtain⟨ds,e1,e2⟩:=map_some e;subst e2;refine⟨σD,ds,rv,e1,fun vs H1 s1 r1=>⟨?_,fun p hp=>k _ _ (jw s1 hp r1 fun _=>rfl)⟩⟩;rw[<-r1.length,kI e1];exact Nat.le_of_lt (nI hl)
def Cc(h:SEs X cl es es')(hl:dY es'<=1000):SE X cl (.List es pos) (.lst es'):=by
 refine PE.weak (EA h) fun σ H Q q=>?_;obtain⟨σD,d,rv,e,k⟩:=q;obtain⟨ds,e1,e2⟩:=map_some e;subst e2;refine⟨σD,ds,rv,e1,fun vs H1 s1 r1=>⟨?_,fun p hp=>k _ _ (fz s1 hp r1 fun _=>rfl)⟩⟩;rw[<-r1.length,kI e1];exact Nat.le_of_lt (nI hl)
def mQ(h:RL.cQ xs i=some x):atI xs i=some x:=by
 unfold RL.cQ at h;unfold atI ixN;by_cases h0:0<=i
 ·rw[if_pos h0]at h;rw[if_pos h0];obtain⟨h1,_⟩:=List.getElem?_eq_some_iff.mp h;rw[if_pos (by lia)];exact h
 ·rw[if_neg h0]at h;rw[if_neg h0];by_cases h1:-(xs.length:Int)<=i
  ·rw[if_pos h1]at h;rw[if_pos h1];exact h
  ·rw[if_neg h1]at h;cases h
def ic{P:Addr->Prop}{K:PySem.W.Frag}(r:ah P K H ds xs)(h:RL.cQ ds i=some d):∃ x,RL.cQ xs i=some x/\Rep P K H d x:=by
 unfold RL.cQ at h ⊢;rw[<-r.length];by_cases h0:0<=i
 ·rw[if_pos h0]at h ⊢;exact r.get h
 ·rw[if_neg h0]at h ⊢;by_cases h1:-(ds.length:Int)<=i
  ·rw[if_pos h1]at h ⊢;exact r.get h
  ·rw[if_neg h1]at h;cases h
abbrev kL:Expr->Bool
 | .Slice _ _ _ _=>false
 | _=>true
def sW(h:kL b=true):sH b:=by
 intro o i
 cases b<;>first | rfl | (cases h)
def wu(h:RL.ixV x y=some d):(∃ xs i,x=.lst xs/\y=.int i/\RL.cQ xs i=some d)\/(∃ xs i,x=.tup xs/\y=.int i/\RL.cQ xs i=some d) \/
  (∃ (z:Str) (i:Int) (c:Nat),x=.str z/\y=.int i/\z.length<=RL.most/\RL.cQ z.cps.toList i=some c/\d=.str ⟨#[c]⟩):=by
 have no:∀ {o:Option RL.D},o=none->o=some d->False:=fun e h=>by rw[e]at h;cases h
 cases x with
 | lst xs=>cases y with
  | int i=>exact .inl ⟨xs,i,rfl,rfl,h⟩
  | _=>exact(no rfl h).elim
 | tup xs=>cases y with
  | int i=>exact .inr (.inl ⟨xs,i,rfl,rfl,h⟩)
  | _=>exact(no rfl h).elim
 | str z=>cases y with
  |int i=>
   by_cases hc:z.length<=RL.most
   ·obtain⟨c,e1,e2⟩:=map_some (show(RL.cQ z.cps.toList i).map (fun c=>RL.D.str ⟨#[c]⟩)=some d from(if_pos hc).symm.trans h);exact .inr (.inr ⟨z,i,c,rfl,rfl,hc,e1,e2.symm⟩)
   ·exact(no (if_neg hc) h).elim
  | _=>exact(no rfl h).elim
 | _=>exact(no rfl h).elim
def Fs(ha:SE X cl a a')(hb:SE X cl b b')(hs:kL b=true):SE X cl (.Subscript a b pos) (.ix a' b'):=by
 refine PE.weak (zN vD ha hb (sW hs)) fun σ H Q h=>?_;obtain⟨σD,d,rv,e,k⟩:=h;obtain⟨x,ea,e⟩:=bind_some e;obtain⟨y,eb,e⟩:=bind_some e;refine two rv ea eb fun v u H1 H2 s1 s2 rx ry ra rb=>?_
 have fin:∀ (w:V),Rep nP X.K H2 d w->(∀ P:Addr->Prop,Rep P X.K H2 x v->Rep P X.K H2 d w)->Res X.K σD σ H (.ix a' b') d w H2:=fun w h1 h2=>{
  same:=s1.trans s2
  rep:=h1
  fresh:=fun z=>by cases z
  av:=fun M z P hP av=>h2 P ((ra.av M z P hP av).same s2) }
 rcases wu e with⟨xs,i,rfl,rfl,hd⟩ | ⟨xs,i,rfl,rfl,hd⟩ | ⟨z,i,c,rfl,rfl,hz,hd,rfl⟩
 ·obtain⟨p,ys,rfl,_,e2,e3⟩:=aH rx;obtain⟨w,h1,h2⟩:=ic e3 hd;refine .inl ⟨p,ys,i,w,rfl,aq ry,SqL.of e2,mQ h1,k _ _ (fin w h2 fun P rp=>?_)⟩;obtain⟨p',ys',q1,_,q2,q3⟩:=aH rp;cases q1;rw[e2]at q2;cases q2;obtain⟨w',h3,h4⟩:=ic q3 hd;rw[h1]at h3;cases h3;exact h4
 ·obtain⟨p,ys,rfl,e2,e3⟩:=bq rx;obtain⟨w,h1,h2⟩:=ic e3 hd;refine .inr (.inl ⟨p,ys,i,w,rfl,aq ry,SqT.of e2,mQ h1,k _ _ (fin w h2 fun P rp=>?_)⟩);obtain⟨p',ys',q1,q2,q3⟩:=bq rp;cases q1;rw[e2]at q2;cases q2;obtain⟨w',h3,h4⟩:=ic q3 hd;rw[h1]at h3;cases h3;exact h4
 ·exact .inr (.inr ⟨z,i,c,aD rx,aq ry,Nat.le_trans hz bI,mQ hd,k _ _ (fin _ df fun P _=>df)⟩)
end rules
section rules
def gm:∀ {as bs:List RL.D} {k:Bool},RL.eqs f as bs=some k ->
  ∃ e:Nat->Bool,k=(List.range (min as.length bs.length)).all e/\∀ j x y,as[j]?=some x->bs[j]?=some y->f x y=some (e j)
 | [],bs,k,h=>by
  have h:some true=some k:=by simpa[RL.eqs]using h
  cases h;exact⟨fun _=>true,by simp,fun j x y h1=>by simp at h1⟩
 | a::r,[],k,h=>by
  have h:some true=some k:=by simpa[RL.eqs]using h
  cases h;exact⟨fun _=>true,by simp,fun j x y h1 h2=>by simp at h2⟩
 | a::r,b::s,k,h=>by
  rw[RL.eqs]at h;obtain⟨e0,h1,h2⟩:=bind_some h;obtain⟨k',h3,h4⟩:=map_some h2;obtain⟨e,h5,h6⟩:=gm h3;refine⟨fun j=>match j with | 0=>e0 | j+1=>e j,?_,fun j x y hx hy=>?_⟩
  ·rw[<-h4,h5,List.length_cons,List.length_cons,Nat.succ_min_succ,List.range_succ_eq_map,List.all_cons,List.all_map];rfl
  ·cases j with
   |zero=>
    simp at hx hy;subst hx hy;exact h1
   | succ j=>exact h6 j x y (by simpa using hx) (by simpa using hy)
def fL(h:RL.eqD n x y=some k):(∃ i j,x=.bl i/\y=.bl j/\(i == j)=k)\/(∃ i j,x=.int i/\y=.int j/\(i == j)=k)\/(∃ i j,x=.str i/\y=.str j/\(i == j)=k) \/
  (∃ m i j,n=m+1/\x=.tup i/\y=.tup j/\Option.map (fun k=>k&&i.length == j.length) (RL.eqs (RL.eqD m) i j)=some k)\/(∃ m i j,n=m+1/\x=.lst i/\y=.lst j/\Option.map (fun k=>k&&i.length == j.length) (RL.eqs (RL.eqD m) i j)=some k):=by
 cases n with
 | zero=>cases x with
  | bl i=>cases y with
   | bl j=>exact .inl ⟨i,j,rfl,rfl,Option.some.inj h⟩
   | _=>exact noN rfl h
  | int i=>cases y with
   | int j=>exact .inr (.inl ⟨i,j,rfl,rfl,Option.some.inj h⟩)
   | _=>exact noN rfl h
  | str i=>cases y with
   | str j=>exact .inr (.inr (.inl ⟨i,j,rfl,rfl,Option.some.inj h⟩))
   | _=>exact noN rfl h
  | _=>exact noN rfl h
 | succ m=>cases x with
  | bl i=>cases y with
   | bl j=>exact .inl ⟨i,j,rfl,rfl,Option.some.inj h⟩
   | _=>exact noN rfl h
  | int i=>cases y with
   | int j=>exact .inr (.inl ⟨i,j,rfl,rfl,Option.some.inj h⟩)
   | _=>exact noN rfl h
  | str i=>cases y with
   | str j=>exact .inr (.inr (.inl ⟨i,j,rfl,rfl,Option.some.inj h⟩))
   | _=>exact noN rfl h
  | tup i=>cases y with
   | tup j=>exact .inr (.inr (.inr (.inl ⟨m,i,j,rfl,rfl,rfl,h⟩)))
   | _=>exact noN rfl h
  | lst i=>cases y with
   | lst j=>exact .inr (.inr (.inr (.inr ⟨m,i,j,rfl,rfl,rfl,h⟩)))
   | _=>exact noN rfl h
  | _=>exact noN rfl h
def nD{K:PySem.W.Frag}:∀ (n:Nat) (x y:RL.D) (v:V) (k:Bool),Rep nP K H x v->Rep nP K H y v->RL.eqD n x y=some k->k=true:=by
 intro n
 induction n with
 |zero=>
  intro x y v k rx ry h
  rcases fL h with⟨i,j,rfl,rfl,rfl⟩ | ⟨i,j,rfl,rfl,rfl⟩ | ⟨i,j,rfl,rfl,rfl⟩ | ⟨m,i,j,hn,hx,hy,h⟩ | ⟨m,i,j,hn,hx,hy,h⟩
  ·have:=aZ rx;rw[aZ ry]at this;cases this;simp
  ·have:=aq rx;rw[aq ry]at this;cases this;simp
  ·have:=aD rx;rw[aD ry]at this;cases this;simp
  ·cases hn
  ·cases hn
 |succ n ih=>
  intro x y v k rx ry h
  have seq:∀ (i j:List RL.D) (xs:List V) (k:Bool),ah nP K H i xs->ah nP K H j xs->Option.map (fun k=>k&&i.length == j.length) (RL.eqs (RL.eqD n) i j)=some k->k=true:=by
   intro i j xs k e3 f3 h;obtain⟨k',h1,h2⟩:=map_some h;obtain⟨e,h3,h4⟩:=gm h1;have hl:i.length=j.length:=e3.length.trans f3.length.symm
   have hk:k'=true:=by
    rw[h3,List.all_eq_true];intro m hm;rw[List.mem_range]at hm;obtain⟨w,w1,w2⟩:=e3.get (i:=m) (d:=i[m]'(by lia)) (by simp);obtain⟨w',w1',w2'⟩:=f3.get (i:=m) (d:=j[m]'(by lia)) (by simp);rw[w1]at w1';cases w1';exact ih _ _ w (e m) w2 w2' (h4 m _ _ (by simp) (by simp))
   rw[<-h2,hk,hl];simp
  rcases fL h with⟨i,j,rfl,rfl,rfl⟩ | ⟨i,j,rfl,rfl,rfl⟩ | ⟨i,j,rfl,rfl,rfl⟩ | ⟨m,i,j,hn,hx,hy,h⟩ | ⟨m,i,j,hn,hx,hy,h⟩
  ·have:=aZ rx;rw[aZ ry]at this;cases this;simp
  ·have:=aq rx;rw[aq ry]at this;cases this;simp
  ·have:=aD rx;rw[aD ry]at this;cases this;simp
  ·cases hn;subst hx;subst hy;obtain⟨p,xs,rfl,e2,e3⟩:=bq rx;obtain⟨q,ys,q1,f2,f3⟩:=bq ry;cases q1;rw[e2]at f2;cases f2;exact seq i j xs k e3 f3 h
  ·cases hn;subst hx;subst hy;obtain⟨p,xs,rfl,_,e2,e3⟩:=aH rx;obtain⟨q,ys,q1,_,f2,f3⟩:=aH ry;cases q1;rw[e2]at f2;cases f2;exact seq i j xs k e3 f3 h
open SeqAt in
def deep(I:Inv X pins σ H s):∀ (n:Nat) (A:Around) (x y:RL.D) (v u:V) (va ua:Value) (k:Bool),A.units+n<cLine->Rep nP X.K H x v->Rep nP X.K H y u->RelV v va->RelV u ua ->
  RL.eqD n x y=some k->RcAt A s va ua k/\EqAt A s va ua k:=by
 intro n
 induction n with
 |zero=>
  intro A x y v u va ua k hu rx ry qx qy h
  rcases fL h with⟨i,j,rfl,rfl,rfl⟩ | ⟨i,j,rfl,rfl,rfl⟩ | ⟨i,j,rfl,rfl,rfl⟩ | ⟨m,i,j,hn,hx,hy,h⟩ | ⟨m,i,j,hn,hx,hy,h⟩
  ·rw[aZ rx]at qx;rw[aZ ry]at qy;cases qx;cases qy;exact⟨RcAt.bool_bool i j,EqAt.bool_bool i j⟩
  ·rw[aq rx]at qx;rw[aq ry]at qy;obtain⟨t,rfl⟩:=qx;obtain⟨t',rfl⟩:=qy;exact⟨RcAt.int_int i t j t',EqAt.int_int i t j t'⟩
  ·rw[aD rx]at qx;rw[aD ry]at qy;obtain⟨t,rfl⟩:=qx;obtain⟨t',rfl⟩:=qy;exact⟨RcAt.str_str i t j t',EqAt.str_str i t j t'⟩
  ·cases hn
  ·cases hn
 |succ n ih=>
  intro A x y v u va ua k hu rx ry qx qy h
  rcases fL h with⟨i,j,rfl,rfl,rfl⟩ | ⟨i,j,rfl,rfl,rfl⟩ | ⟨i,j,rfl,rfl,rfl⟩ | ⟨m,i,j,hn,hx,hy,h⟩ | ⟨m,i,j,hn,hx,hy,h⟩
  ·rw[aZ rx]at qx;rw[aZ ry]at qy;cases qx;cases qy;exact⟨RcAt.bool_bool i j,EqAt.bool_bool i j⟩
  ·rw[aq rx]at qx;rw[aq ry]at qy;obtain⟨t,rfl⟩:=qx;obtain⟨t',rfl⟩:=qy;exact⟨RcAt.int_int i t j t',EqAt.int_int i t j t'⟩
  ·rw[aD rx]at qx;rw[aD ry]at qy;obtain⟨t,rfl⟩:=qx;obtain⟨t',rfl⟩:=qy;exact⟨RcAt.str_str i t j t',EqAt.str_str i t j t'⟩
  ·cases hn;subst hx;subst hy;obtain⟨p,xs,rfl,e2,e3⟩:=bq rx;obtain⟨q,ys,rfl,f2,f3⟩:=bq ry;cases qx;cases qy;obtain⟨its,r1,t1,z1⟩:=I.tuple (SqT.of e2);obtain⟨jts,r2,t2,z2⟩:=I.tuple (SqT.of f2);obtain⟨k',h1,h2⟩:=map_some h;obtain⟨e,h3,h4⟩:=gm h1;have l1:i.length=its.length:=e3.length.trans r1.length;have l2:j.length=jts.length:=f3.length.trans r2.length
   have he:∀ m (g1:m<its.toArray.size) (g2:m<jts.toArray.size),EqAt A.in1 s its.toArray[m] jts.toArray[m] (e m):=fun m g1 g2=>by
    rw[List.size_toArray]at g1 g2;obtain⟨w,w1,w2⟩:=e3.get (i:=m) (d:=i[m]'(by lia)) (by simp);obtain⟨w',w1',w2'⟩:=f3.get (i:=m) (d:=j[m]'(by lia)) (by simp);obtain⟨uu,b1,b2⟩:=r1.get w1;obtain⟨uu',b1',b2'⟩:=r2.get w1'
    have c1:its.toArray[m]=uu:=by simpa using(List.getElem?_eq_some_iff.mp b1).2
    have c2:jts.toArray[m]=uu':=by simpa using(List.getElem?_eq_some_iff.mp b1').2
    rw[c1,c2];exact(ih A.in1 _ _ w w' uu uu' (e m) (by show A.units+1+n<cLine;lia) w2 w2' b2 b2' (h4 m _ _ (by simp) (by simp))).2
   have main:RcAt A s (.ref p) (.ref q) k:=by
    have z:=RcAt.tuples (e:=e) t1 t2 (by lia) he;rw[List.size_toArray,List.size_toArray,<-l1,<-l2,<-h3,h2]at z;exact z
   refine⟨main,?_⟩;by_cases z:p=q
   ·subst z;rw[nD (n+1) _ _ _ k rx ry h];exact EqAt.same _
   ·exact EqAt.of_refs z main
  ·cases hn;subst hx;subst hy;obtain⟨p,xs,rfl,_,e2,e3⟩:=aH rx;obtain⟨q,ys,rfl,_,f2,f3⟩:=aH ry;cases qx;cases qy;obtain⟨its,r1,t1,z1⟩:=I.list (SqL.of e2);obtain⟨jts,r2,t2,z2⟩:=I.list (SqL.of f2);obtain⟨k',h1,h2⟩:=map_some h;obtain⟨e,h3,h4⟩:=gm h1;have l1:i.length=its.length:=e3.length.trans r1.length;have l2:j.length=jts.length:=f3.length.trans r2.length
   have he:∀ m (g1:m<its.toArray.size) (g2:m<jts.toArray.size),EqAt A.in1 s its.toArray[m] jts.toArray[m] (e m):=fun m g1 g2=>by
    rw[List.size_toArray]at g1 g2;obtain⟨w,w1,w2⟩:=e3.get (i:=m) (d:=i[m]'(by lia)) (by simp);obtain⟨w',w1',w2'⟩:=f3.get (i:=m) (d:=j[m]'(by lia)) (by simp);obtain⟨uu,b1,b2⟩:=r1.get w1;obtain⟨uu',b1',b2'⟩:=r2.get w1'
    have c1:its.toArray[m]=uu:=by simpa using(List.getElem?_eq_some_iff.mp b1).2
    have c2:jts.toArray[m]=uu':=by simpa using(List.getElem?_eq_some_iff.mp b1').2
    rw[c1,c2];exact(ih A.in1 _ _ w w' uu uu' (e m) (by show A.units+1+n<cLine;lia) w2 w2' b2 b2' (h4 m _ _ (by simp) (by simp))).2
   have main:RcAt A s (.ref p) (.ref q) k:=by
    by_cases hl:its.length=jts.length
    ·have z:=RcAt.lists (e:=e) t1.isList t2.isList (by rw[List.size_toArray,List.size_toArray];exact hl) (by lia) he;rw[List.size_toArray]at z
     have hk:k=(List.range its.length).all e:=by
      rw[<-h2,h3,l1,l2,hl];simp
     rw[hk];exact z
    ·have hk:k=false:=by
      rw[<-h2,l1,l2];simp[hl]
     rw[hk];exact RcAt.lists_lengths t1.isList t2.isList (by rw[List.size_toArray,List.size_toArray];simpa using hl) (by lia)
   refine⟨main,?_⟩;by_cases z:p=q
   ·subst z;rw[nD (n+1) _ _ _ k rx ry h];exact EqAt.same _
   ·exact EqAt.of_refs z main
end rules
section rules
variable{X:Cx}
open SeqAt in
def DJ(I:Inv X pins σ H s)(n:Nat)(A:Around)(x y:RL.D)(v u:V)(va ua:Value)(k:Bool)(hu:A.units+n<cLine)(rx:Rep nP X.K H x v)(ry:Rep nP X.K H y u)(qx:RelV v va)(qy:RelV u ua)
 (h:RL.eqD n x y=some k):RcNeAt A s va ua (!k):=by
 rcases fL h with⟨i,j,rfl,rfl,rfl⟩ | ⟨i,j,rfl,rfl,rfl⟩ | ⟨i,j,rfl,rfl,rfl⟩ | ⟨nn,i,j,hn,hx,hy,h⟩ | ⟨nn,i,j,hn,hx,hy,h⟩
 ·rw[aZ rx]at qx;rw[aZ ry]at qy;cases qx;cases qy;exact RcNeAt.bool_bool i j
 ·rw[aq rx]at qx;rw[aq ry]at qy;obtain⟨t,rfl⟩:=qx;obtain⟨t',rfl⟩:=qy;exact RcNeAt.int_int i t j t'
 ·rw[aD rx]at qx;rw[aD ry]at qy;obtain⟨t,rfl⟩:=qx;obtain⟨t',rfl⟩:=qy;exact RcNeAt.str_str i t j t'
 ·subst hn;subst hx;subst hy;obtain⟨p,xs,rfl,e2,e3⟩:=bq rx;obtain⟨q,ys,rfl,f2,f3⟩:=bq ry;cases qx;cases qy;obtain⟨its,r1,t1,z1⟩:=I.tuple (SqT.of e2);obtain⟨jts,r2,t2,z2⟩:=I.tuple (SqT.of f2);obtain⟨k',h1,h2⟩:=map_some h;obtain⟨e,h3,h4⟩:=gm h1;have l1:i.length=its.length:=e3.length.trans r1.length;have l2:j.length=jts.length:=f3.length.trans r2.length
  have he:∀ m (g1:m<its.toArray.size) (g2:m<jts.toArray.size),EqAt A.in1 s its.toArray[m] jts.toArray[m] (e m):=fun m g1 g2=>by
   rw[List.size_toArray]at g1 g2;obtain⟨w,w1,w2⟩:=e3.get (i:=m) (d:=i[m]'(by lia)) (by simp);obtain⟨w',w1',w2'⟩:=f3.get (i:=m) (d:=j[m]'(by lia)) (by simp);obtain⟨uu,b1,b2⟩:=r1.get w1;obtain⟨uu',b1',b2'⟩:=r2.get w1'
   have c1:its.toArray[m]=uu:=by simpa using(List.getElem?_eq_some_iff.mp b1).2
   have c2:jts.toArray[m]=uu':=by simpa using(List.getElem?_eq_some_iff.mp b1').2
   rw[c1,c2];exact(deep I nn A.in1 _ _ w w' uu uu' (e m) (by show A.units+1+nn<cLine;lia) w2 w2' b2 b2' (h4 m _ _ (by simp) (by simp))).2
  have z:=RcNeAt.tuples (e:=e) t1 t2 (by lia) he;rw[List.size_toArray,List.size_toArray,<-l1,<-l2,<-h3,h2]at z;exact z
 ·subst hn;subst hx;subst hy;obtain⟨p,xs,rfl,_,e2,e3⟩:=aH rx;obtain⟨q,ys,rfl,_,f2,f3⟩:=aH ry;cases qx;cases qy;obtain⟨its,r1,t1,z1⟩:=I.list (SqL.of e2);obtain⟨jts,r2,t2,z2⟩:=I.list (SqL.of f2);obtain⟨k',h1,h2⟩:=map_some h;obtain⟨e,h3,h4⟩:=gm h1;have l1:i.length=its.length:=e3.length.trans r1.length;have l2:j.length=jts.length:=f3.length.trans r2.length
  have he:∀ m (g1:m<its.toArray.size) (g2:m<jts.toArray.size),EqAt A.in1 s its.toArray[m] jts.toArray[m] (e m):=fun m g1 g2=>by
   rw[List.size_toArray]at g1 g2;obtain⟨w,w1,w2⟩:=e3.get (i:=m) (d:=i[m]'(by lia)) (by simp);obtain⟨w',w1',w2'⟩:=f3.get (i:=m) (d:=j[m]'(by lia)) (by simp);obtain⟨uu,b1,b2⟩:=r1.get w1;obtain⟨uu',b1',b2'⟩:=r2.get w1'
   have c1:its.toArray[m]=uu:=by simpa using(List.getElem?_eq_some_iff.mp b1).2
   have c2:jts.toArray[m]=uu':=by simpa using(List.getElem?_eq_some_iff.mp b1').2
   rw[c1,c2];exact(deep I nn A.in1 _ _ w w' uu uu' (e m) (by show A.units+1+nn<cLine;lia) w2 w2' b2 b2' (h4 m _ _ (by simp) (by simp))).2
  by_cases hl:its.length=jts.length
  ·have z:=RcNeAt.lists (e:=e) t1.isList t2.isList (by rw[List.size_toArray,List.size_toArray];exact hl) (by lia) he;rw[List.size_toArray]at z
   have hk:k=(List.range its.length).all e:=by
    rw[<-h2,h3,l1,l2,hl];simp
   rw[hk];exact z
  ·have hk:k=false:=by
    rw[<-h2,l1,l2];simp[hl]
   rw[hk];exact RcNeAt.lists_lengths t1.isList t2.isList (by rw[List.size_toArray,List.size_toArray];simpa using hl) (by lia)
abbrev du:RL.Cop->CmpOp
 | .lt=>.Lt
 | .le=>.LtE
 | .gt=>.Gt
 | .ge=>.GtE
 | .eq=>.Eq
 | .ne=>.NotEq
abbrev tD(K:PySem.W.Frag)(c:RL.Cop):R2:=fun v u H Q=>∃ x y k,Rep nP K H x v/\Rep nP K H y u/\RL.bw c x y=some k/\Q (.bl k) H
def jd{c:RL.Cop}(hc:c≠.eq)(hc2:c≠.ne)(h:RL.bw c x y=some k):∃ i j,x=.int i/\y=.int j:=by
 have no:∀ {a b:RL.D},RL.bw .lt a b=none->RL.bw .le a b=none->RL.bw .gt a b=none->RL.bw .ge a b=none->RL.bw c a b=some k->False:=fun e1 e2 e3 e4 h=>by
  cases c with
  | eq=>exact hc rfl
  | ne=>exact hc2 rfl
  | lt=>rw[e1]at h;cases h
  | le=>rw[e2]at h;cases h
  | gt=>rw[e3]at h;cases h
  | ge=>rw[e4]at h;cases h
 cases x with
 | int i=>cases y with
  | int j=>exact⟨_,_,rfl,rfl⟩
  | _=>exact(no rfl rfl rfl rfl h).elim
 | _=>exact(no rfl rfl rfl rfl h).elim
def i8{c:RL.Cop}(hu:X.A.units+100<cLine):OpR X (compareOp (du c)) (tD X.K c):=by
 intro pins s σ H x y v u Q I rx ry h;obtain⟨dx,dy,k,ex,ey,e,q⟩:=h
 have fin:EP X pins σ Q (.bool k) s:=⟨.bl k,H,I,rfl,q⟩
 cases c with
 |eq=>
  have e:RL.eqD 8 dx dy=some k:=e;exact(deep I 8 X.A dx dy x y v u k (by lia) ex ey rx ry e).1 X.prog X.w X.xe _ fin
 |ne=>
  obtain⟨k',e1,e2⟩:=map_some (show(RL.eqD 8 dx dy).map not=some k from e);subst e2;exact DJ I 8 X.A dx dy x y v u k' (by lia) ex ey rx ry e1 X.prog X.w X.xe _ fin
 |lt=>
  obtain⟨i,j,rfl,rfl⟩:=jd (by decide) (by decide) e;cases e;rw[aq ex]at rx;rw[aq ey]at ry;obtain⟨t,rfl⟩:=rx;obtain⟨t',rfl⟩:=ry;exact lt_int fin
 |le=>
  obtain⟨i,j,rfl,rfl⟩:=jd (by decide) (by decide) e;cases e;rw[aq ex]at rx;rw[aq ey]at ry;obtain⟨t,rfl⟩:=rx;obtain⟨t',rfl⟩:=ry;exact le_int fin
 |gt=>
  obtain⟨i,j,rfl,rfl⟩:=jd (by decide) (by decide) e;cases e;rw[aq ex]at rx;rw[aq ey]at ry;obtain⟨t,rfl⟩:=rx;obtain⟨t',rfl⟩:=ry;exact gt_int fin
 |ge=>
  obtain⟨i,j,rfl,rfl⟩:=jd (by decide) (by decide) e;cases e;rw[aq ex]at rx;rw[aq ey]at ry;obtain⟨t,rfl⟩:=rx;obtain⟨t',rfl⟩:=ry;exact ge_int fin
def jq{c:RL.Cop}(b:Expr):behindInMarks (du c) b=false:=by cases c<;>exact pK b
def wN{c:RL.Cop}(h:∃ σD d,RV0 X.K σD σ H/\RL.ev cl σD (.cmp c a' b')=some d/\∀ H',au H H'->∃ k,d=.bl k/\Q (.bl k) H'):tOp (tD X.K c) (tE X.K cl a') (tE X.K cl b') σ H Q:=by
 obtain⟨σD,d,rv,e,k⟩:=h;obtain⟨x,ea,e⟩:=bind_some e;obtain⟨y,eb,e⟩:=bind_some e;obtain⟨t,e1,e2⟩:=map_some e;refine two rv ea eb fun v u H1 H2 s1 s2 rx ry _ _=>?_;obtain⟨k',h1,h2⟩:=k H2 (s1.trans s2);rw[h1]at e2;cases e2;exact⟨x,y,t,rx,ry,e1,h2⟩
def nr{c:RL.Cop}(e:RL.ev cl σD (.cmp c a' b')=some d):∃ k,d=.bl k:=by
 obtain⟨x,ea,e⟩:=bind_some e;obtain⟨y,eb,e⟩:=bind_some e;obtain⟨t,e1,e2⟩:=map_some e;exact⟨t,e2.symm⟩
def Dx{c:RL.Cop}(hu:X.A.units+100<cLine)(ha:SE X cl a a')(hb:SE X cl b b'):SE X cl (.Compare a [du c] [b] pos) (.cmp c a' b'):=by
 refine PE.weak (mj (i8 hu) ha hb (jq b)) fun σ H Q h=>?_;obtain⟨σD,d,rv,e,k⟩:=h;obtain⟨t,rfl⟩:=nr e;exact wN ⟨σD,_,rv,e,fun H' sm=>⟨t,rfl,k _ _ (dn sm)⟩⟩
def B4{c:RL.Cop}(hu:X.A.units+100<cLine)(ha:SE X cl a a')(hb:SE X cl b b'):ST X cl (.Compare a [du c] [b] pos) (.cmp c a' b'):=by
 refine PT.weak (jW (i8 hu) ha hb (jq b)) fun σ H Q h=>?_;obtain⟨σD,k,rv,e,q⟩:=h;obtain⟨d,e1,e2⟩:=bind_some e;obtain⟨t,rfl⟩:=nr e1;cases e2;exact wN ⟨σD,_,rv,e1,fun H' sm=>⟨k,rfl,k,rfl,q H' sm⟩⟩
def zF{c c':RL.Cop}(b e:Expr):lastMarks [du c,du c'] [b,e]=false:=by
 show behindInMarks (du c') e=false;exact jq e
def k6{c c':RL.Cop}(h:RL.ev cl σD (.chain c c' a' b' e')=some d):∃ k,d=.bl k:=by
 obtain⟨x,ea,h⟩:=bind_some h;obtain⟨y,eb,h⟩:=bind_some h;obtain⟨t,e1,h⟩:=bind_some h
 cases t with
 |true=>
  obtain⟨z,ec,h⟩:=bind_some (show(RL.ev cl σD e').bind _=some d from h);obtain⟨t,e1,e2⟩:=map_some h;exact⟨t,e2.symm⟩
 | false=>exact⟨false,(Option.some.inj (show some (RL.D.bl false)=some d from h)).symm⟩
def pV{c c':RL.Cop}(h:∃ σD k,RV0 X.K σD σ H/\RL.ev cl σD (.chain c c' a' b' e')=some (.bl k)/\∀ H',au H H'->Q (.bl k) H') :
  qW (tD X.K c) (tD X.K c') (tE X.K cl a') (tE X.K cl b') (tE X.K cl e') σ H Q:=by
 obtain⟨σD,k,rv,h,q⟩:=h;obtain⟨x,ea,h⟩:=bind_some h;obtain⟨y,eb,h⟩:=bind_some h;obtain⟨t,e1,h⟩:=bind_some h;refine two rv ea eb fun v u H1 H2 s1 s2 rx ry _ _=>?_;refine⟨x,y,t,rx,ry,e1,t,rfl,?_⟩;have sm:=s1.trans s2
 cases t with
 |true=>
  rw[if_pos rfl]at h;obtain⟨z,ec,h⟩:=bind_some h;obtain⟨t,e3,e2⟩:=map_some h;cases e2;exact eJ ⟨σD,z,rv.same sm,ec,fun w H3 r3=>⟨y,z,k,ry.same r3.same,r3.rep,e3,q H3 (sm.trans r3.same)⟩⟩
 |false=>
  rw[if_neg (by decide)]at h;cases h;exact ff (q H2 sm)
def yc{c c':RL.Cop}(hu:X.A.units+100<cLine)(ha:SE X cl a a')(hb:SE X cl b b')(he:SE X cl e e'):SE X cl (.Compare a [du c,du c'] [b,e] pos) (.chain c c' a' b' e'):=by
 refine PE.weak (xH (i8 hu) (i8 hu) ha hb he (zF b e)) fun σ H Q h=>?_;obtain⟨σD,d,rv,h,k⟩:=h;obtain⟨t,rfl⟩:=k6 h;exact pV ⟨σD,t,rv,h,fun H' sm=>k _ _ (dn sm)⟩
def ym{c c':RL.Cop}(hu:X.A.units+100<cLine)(ha:SE X cl a a')(hb:SE X cl b b')(he:SE X cl e e'):ST X cl (.Compare a [du c,du c'] [b,e] pos) (.chain c c' a' b' e'):=by
 refine PT.weak (xR (i8 hu) (i8 hu) ha hb he (zF b e)) fun σ H Q h=>?_;obtain⟨σD,k,rv,h,q⟩:=h;obtain⟨d,e1,e2⟩:=bind_some h;obtain⟨t,rfl⟩:=k6 e1;cases e2;exact pV ⟨σD,k,rv,e1,fun H' sm=>⟨k,rfl,q H' sm⟩⟩
end rules
section rules
variable{X:Cx}
def nq{neg:Bool}(b:Expr):behindInMarks (if neg then .IsNot else .Is) b=false:=by cases neg<;>exact pK b
def rS{neg:Bool}:OpR X (compareOp (if neg then .IsNot else .Is)) (fun x y H Q=>y=.non/\Q (.bl (if neg then !decide (x=.non)else decide (x=.non))) H):=by
 cases neg with
 | true=>exact AK
 | false=>exact D5
def wc(h:RL.ev cl σD (.isN neg a')=some d):∃ x,RL.ev cl σD a'=some x/\∀ v (H:Hp),Rep nP X.K H x v->d=.bl (if neg then !decide (v=.non)else decide (v=.non)):=by
 obtain⟨x,ea,h⟩:=bind_some h;refine⟨x,ea,fun v H r=>?_⟩
 cases x with
 | non=>cases h;rw[Rep]at r;subst r;cases neg<;>rfl
 | bl k=>cases h;rw[aZ r];cases neg<;>rfl
 | int k=>cases h;rw[aq r];cases neg<;>rfl
 | str k=>cases h;rw[aD r];cases neg<;>rfl
 | tup k=>cases h;obtain⟨p,xs,rfl,_⟩:=bq r;cases neg<;>rfl
 | lst k=>cases h;obtain⟨p,xs,rfl,_⟩:=aH r;cases neg<;>rfl
 | scr k=>cases h;rw[Rep]at r;obtain⟨p,xs,rfl,_⟩:=r;cases neg<;>rfl
 | exc k=>cases h;rw[Rep]at r;obtain⟨p,_,_,_,_,rfl,_⟩:=r;cases neg<;>rfl
 | dK _ _=>cases h
 | dT _ _=>cases h
def BB(ha:SE X cl a a'):SE X cl (.Compare a [if neg then .IsNot else .Is] [.Constant .none j p] pos) (.isN neg a'):=by
 refine PE.weak (mj rS ha qk (nq _)) fun σ H Q h=>?_;obtain⟨σD,d,rv,e,q⟩:=h;obtain⟨x,ea,hx⟩:=wc (X:=X) e;refine⟨σD,_,rv,ea,fun v H1 r1=>⟨rfl,?_⟩⟩;have hd:=hx v H1 r1.rep;subst hd;exact q _ _ (dn r1.same)
def BH(ha:SE X cl a a'):ST X cl (.Compare a [if neg then .IsNot else .Is] [.Constant .none j p] pos) (.isN neg a'):=by
 refine PT.weak (jW rS ha qk (nq _)) fun σ H Q h=>?_;obtain⟨σD,k,rv,e,q⟩:=h;obtain⟨d,e1,e2⟩:=bind_some e;obtain⟨x,ea,hx⟩:=wc (X:=X) e1;refine⟨σD,_,rv,ea,fun v H1 r1=>⟨rfl,?_⟩⟩;have hd:=hx v H1 r1.rep;subst hd;cases e2;exact⟨_,rfl,q _ r1.same⟩
def eY{P:Addr->Prop}{K:PySem.W.Frag}(h:RL.items d=some ds)(r:Rep P K H d v):∃ p xs,v=.ref p/\((H p=some (.lst xs)/\d=.lst ds)\/(H p=some (.tup xs)/\d=.tup ds))/\ah P K H ds xs:=by
 cases d<;>simp only[RL.items]at h<;>first | (cases h;done) | skip
 case lst ys=>cases h;obtain⟨p,xs,e1,_,e2,e3⟩:=aH r;exact⟨p,xs,e1,.inl ⟨e2,rfl⟩,e3⟩
 case tup ys=>cases h;obtain⟨p,xs,e1,e2,e3⟩:=bq r;exact⟨p,xs,e1,.inr ⟨e2,rfl⟩,e3⟩
def rT{P:Addr->Prop}{K:PySem.W.Frag}(h:RL.flat d=true)(r:Rep P K H d v):fF v=true/\∀ d' v',RL.flat d'=true->Rep P K H d' v'->RL.eqF d d'=eqV v v':=by
 cases d<;>simp only[RL.flat]at h<;>first | (cases h;done) | skip
 case int i =>
  rw[aq r];refine⟨rfl,fun d' v' h' r'=>?_⟩
  cases d'<;>simp only[RL.flat]at h'<;>first | (cases h';done) | skip
  case int j=>rw[aq r'];simp[RL.eqF,eqV]
  case str j=>rw[aD r'];simp[RL.eqF,eqV]
 case str i =>
  rw[aD r];refine⟨rfl,fun d' v' h' r'=>?_⟩
  cases d'<;>simp only[RL.flat]at h'<;>first | (cases h';done) | skip
  case int j=>rw[aq r'];simp[RL.eqF,eqV]
  case str j=>rw[aD r'];simp[RL.eqF,eqV]
def qg{P:Addr->Prop}{K:PySem.W.Frag}(hf:RL.flat d=true)(r:Rep P K H d v):∀ {ds:List RL.D} {xs:List V},ds.all RL.flat=true->ah P K H ds xs->xs.all fF=true/\(ds.any fun x=>RL.eqF x d)=inV v xs
 | [],xs,_,h=>by rw[ah]at h;subst h;exact⟨rfl,rfl⟩
 | e::t,xs,ha,h=>by
  rw[ah]at h;obtain⟨x,ys,rfl,e2,e3⟩:=h;rw[List.all_cons,Bool.and_eq_true]at ha;obtain⟨h1,h2⟩:=qg hf r ha.2 e3;obtain⟨h3,h4⟩:=rT ha.1 e2;refine⟨by rw[List.all_cons,h3,h1];rfl,?_⟩;rw[List.any_cons,h2,h4 d v hf r];rfl
def uS:OpR X (compareOp (if neg then .NotIn else .In)) (rIn X.K neg):=by
 cases neg with
 | true=>exact qh
 | false=>exact vf
def we(rv:RV0 X.K σD σ H)(e:RL.ev cl σD (.inn neg a' b')=some d)(k:∀ t H',d=.bl t->au H H'->Q (.bl t) H'):tOp (rIn X.K neg) (tE X.K cl a') (tE X.K cl b') σ H Q:=by
 obtain⟨x,ea,e⟩:=bind_some e;obtain⟨y,eb,e⟩:=bind_some e;obtain⟨t,e1,e2⟩:=map_some e;unfold RL.inV at e1;obtain⟨ds,e3,e4⟩:=bind_some e1;by_cases hc:(RL.flat x&&ds.all RL.flat)=true
 ·rw[if_pos hc]at e4;cases e4;rw[Bool.and_eq_true]at hc;refine two rv ea eb fun v u H1 H2 s1 s2 rx ry _ _=>?_;obtain⟨p,xs,rfl,hp,rs⟩:=eY e3 ry;obtain⟨h1,h2⟩:=qg hc.1 rx hc.2 rs;refine⟨p,xs,rfl,?_,(rT hc.1 rx).1,h1,?_⟩
  ·rcases hp with⟨z,_⟩ | ⟨z,_⟩
   ·exact .inl (SqL.of z)
   ·exact .inr (SqT.of z)
  ·refine k _ _ ?_ (s1.trans s2);rw[<-e2,h2]
 ·rw[if_neg hc]at e4;cases e4
abbrev kQ:Expr->Bool
 | .Set _ _ _=>false
 | _=>true
def hV(h:kQ b=true):behindInMarks op b=false:=by
 cases b<;>first | rfl | (cases h)
def Ct(ha:SE X cl a a')(hb:SE X cl b b')(hm:kQ b=true):SE X cl (.Compare a [if neg then .NotIn else .In] [b] pos) (.inn neg a' b'):=by
 refine PE.weak (mj uS ha hb (hV hm)) fun σ H Q h=>?_;obtain⟨σD,d,rv,e,q⟩:=h
 exact we rv e fun t H' hd sm=>by subst hd;exact q _ _ (dn sm)
def Er(ha:SE X cl a a')(hb:SE X cl b b')(hm:kQ b=true):ST X cl (.Compare a [if neg then .NotIn else .In] [b] pos) (.inn neg a' b'):=by
 refine PT.weak (jW uS ha hb (hV hm)) fun σ H Q h=>?_;obtain⟨σD,k,rv,e,q⟩:=h;obtain⟨d,e1,e2⟩:=bind_some e;refine we rv e1 fun t H' hd sm=>?_;subst hd;cases e2;exact⟨_,rfl,q _ sm⟩
abbrev spF(K:PySem.W.Frag)(cl:RL.Cl)(f:Nat):Sp:=fun vs H Q _=>∃ ds d,ah nP K H ds vs/\cl f ds=some d/\∀ v H',au H H'->Rep (fun p=>H p≠none) K H' d v->Q v H'
def AR(F:dO X.prog X.w X.K X.mg X.base CX0 k fa fd ps (spF X.K cl f))(hr:cq k X.A)(hg:Gl X x)
 (hm:X.mg x=some (.ref fa))(hk:PySem.W.keepIn X.K (.ref fa)=true)(hb:Binds X.K fd ps [])(he:SEs X cl (e::es) (.cons e' es'))(hdb:(x == ("__debug__" : Str))=false)(hn:noStar e=true)(hns:es.all noStar=true) :
  SE X cl (.Call (.Name x p) (e::es) [] pos) (.call f (.cons e' es')):=by
 refine PE.weak (sP F hr hg hm hk hb .nil zy he hdb (ay es hn) (dC hns)) fun σ H Q h=>?_;obtain⟨σD,d,rv,ev,q⟩:=h;obtain⟨ds,e1,e2⟩:=bind_some ev;refine⟨σD,ds,rv,e1,fun vs H1 s1 r1=>?_⟩;show spF X.K cl f (vs++[]) H1 Q E0;rw[List.append_nil];refine⟨ds,d,r1,e2,fun v H2 s2 r2=>q v H2 ⟨s1.trans s2,r2.none,fun _ m a z=>?_,fun M _ P hP _=>?_⟩⟩
 ·subst z
  have hh:H1 a=none:=by
   cases d with
   | lst ds=>obtain⟨p,xs,e1,e2,_⟩:=aH r2;cases e1;exact Classical.byContradiction e2
   | dK ks ds=>rw[Rep]at r2;obtain⟨p,xs,e1,e2,_⟩:=r2;cases e1;exact Classical.byContradiction e2
   | dT ks ds=>rw[Rep]at r2;obtain⟨p,xs,e1,e2,_⟩:=r2;cases e1;exact Classical.byContradiction e2
   | _=>cases m
  exact s1.free hh
 ·refine r2.weak fun a z=>?_;obtain⟨o,ho⟩:=Option.ne_none_iff_exists'.mp (hP a z);rw[s1 _ _ ho]
  exact fun q=>nomatch q
end rules
abbrev Off(P:Addr->Prop)(H H':Hp):Prop:=∀ b o,¬ P b->H b=some o->H' b=some o
def Off.same{H H':Hp}(h:au H H'){P:Addr->Prop}:Off P H H':=fun b o _ e=>h b o e
mutual
theorem Rep.off{P:Addr->Prop}{K:PySem.W.Frag}{H H':Hp}(hm:∀ b o,P b->H b=some o->cN o)(k:Off P H H'):∀ {d:RL.D} {v:V},Rep P K H d v->Rep P K H' d v
 | .non,v,h=>by simpa[Rep]using h
 | .bl _,v,h=>by simpa[Rep]using h
 | .int _,v,h=>by simpa[Rep]using h
 | .str _,v,h=>by simpa[Rep]using h
 | .tup ds,v,h=>by
  rw[Rep]at h ⊢;obtain⟨b,xs,e1,e2,e3⟩:=h
  have n:¬ P b:=fun p=>by rcases hm b _ p e2 with⟨z,q⟩ | ⟨z,q⟩ | ⟨z,q⟩<;>cases q
  exact⟨b,xs,e1,k _ _ n e2,ah.off hm k e3⟩
 | .lst ds,v,h=>by
  rw[Rep]at h ⊢;obtain⟨b,xs,e1,e0,e2,e3⟩:=h;exact⟨b,xs,e1,e0,k _ _ e0 e2,ah.off hm k e3⟩
 | .dK ks ds,v,h=>by
  rw[Rep]at h ⊢;obtain⟨b,xs,e1,e0,e2,el,e3⟩:=h;exact⟨b,xs,e1,e0,k _ _ e0 e2,el,ah.off hm k e3⟩
 | .dT ks ds,v,h=>by
  rw[Rep]at h ⊢;obtain⟨b,xs,e1,e0,e2,el,e3⟩:=h;exact⟨b,xs,e1,e0,k _ _ e0 e2,el,ah.off hm k e3⟩
 | .scr ds,v,h=>by
  rw[Rep]at h ⊢;obtain⟨b,xs,e1,e2,e3⟩:=h;refine⟨b,xs,e1,?_,ah.off hm k e3⟩;rcases e2 with⟨q,e2⟩ | e2
  ·have n:¬ P b:=fun p=>by rcases hm b _ p e2 with⟨z,q⟩ | ⟨z,q⟩ | ⟨z,q⟩<;>cases q
   exact .inl ⟨q,k _ _ n e2⟩
  ·exact .inr e2
 | .exc c,v,h=>by
  rw[Rep]at h ⊢;exact h.keep fun b ob u q=>k _ _ (fun p=>by rcases hm b _ p q with⟨z,y⟩ | ⟨z,y⟩ | ⟨z,y⟩<;>cases y) q
theorem ah.off{P:Addr->Prop}{K:PySem.W.Frag}{H H':Hp}(hm:∀ b o,P b->H b=some o->cN o)(k:Off P H H'):∀ {ds:List RL.D} {xs:List V},ah P K H ds xs->ah P K H' ds xs
 | [],xs,h=>by rw[ah]at h ⊢;exact h
 | d::r,xs,h=>by
  rw[ah]at h ⊢;obtain⟨x,t,e1,e2,e3⟩:=h;exact⟨x,t,e1,Rep.off hm k e2,ah.off hm k e3⟩
end
structure gN(K:PySem.W.Frag)(J:L2.It)(ds:List RL.D)(P:Addr->Prop)(H:Hp):Prop where
 go:∀ H' i,Off P H H'->i<ds.length->J.go i H'
 stop:∀ H',Off P H H'->J.stop ds.length H'
 yld:∀ H' i d x H2,Off P H H'->ds[i]?=some d->J.yld i H' x H2->au H' H2/\(d.imm=true\/au H H'->Rep nP K H2 d x)
abbrev zL(K:PySem.W.Frag)(σD:RL.St)(σ:L2.St)(H:Hp)(it:RL.It)(J:L2.It)(ds:List RL.D)(H1:Hp):Prop :=
 gN K J ds nP H1/\∀ (M:List Nat) (P:Addr->Prop),RL.qv M it=true->(∀ b,P b->∃ o,H b=some o/\cN o)->(∀ (j:Nat) (dj:RL.D) (vj:V),M.contains j=false->σD[j]?=some (some dj)->σ[j]?=some (some vj)->Rep P K H dj vj)->gN K J ds P H1
abbrev tI(K:PySem.W.Frag)(cl:RL.Cl)(it:RL.It):TI:=fun σ H R=>∃ σD ds,RV0 K σD σ H/\RL.bp cl σD it=some ds/\∀ J H1,au H H1->zL K σD σ H it J ds H1->R J H1
abbrev SI(X:Cx)(cl:RL.Cl)(tg iter:Expr)(it:RL.It):Prop:=PI X tg iter (tI X.K cl it)
def PI.weak{X:Cx}{tg iter:Expr}{t t':TI}(h:PI X tg iter t)(w:∀ σ H R,t' σ H R->t σ H R):PI X tg iter t':=fun pins s σ H R I q=>h pins s σ H R I (w σ H R q)
def gA{K:PySem.W.Frag}{P:Addr->Prop}{H H':Hp}{d:RL.D}{v:V}(hm:∀ b o,P b->H b=some o->cN o)(k:Off P H H')(r:Rep nP K H d v)(i:d.imm=true):Rep nP K H' d v :=
 ((r.imm i).off hm k).imm i
def se{K:PySem.W.Frag}{H:Hp}{a:Addr}{ds:List RL.D}{xs:List V}{P:Addr->Prop}(h:H a=some (.lst xs))(r:ah nP K H ds xs)(hp:¬ P a)(hm:∀ b o,P b->H b=some o->cN o):gN K (Itl K a) ds P H where
 go:=fun H' i k hi=>by
  obtain⟨x,e,_⟩:=r.get (i:=i) (d:=ds[i]) (by simp[hi]);exact⟨xs,x,SqL.of (k _ _ hp h),e⟩
 stop:=fun H' k=>⟨xs,SqL.of (k _ _ hp h),by rw[r.length];exact Nat.le_refl _⟩
 yld:=fun H' i d x H2 k e y=>by
  obtain⟨z,y⟩:=y;subst z;have hx:=y xs (SqL.of (k _ _ hp h));obtain⟨x',e1,e2⟩:=r.get e;rw[hx]at e1;cases e1;refine⟨au.refl _,fun q=>?_⟩;rcases q with q | q
  ·exact gA hm k e2 q
  ·exact e2.same q
def uP{K:PySem.W.Frag}{H:Hp}{a:Addr}{ds:List RL.D}{xs:List V}{P:Addr->Prop}(h:H a=some (.tup xs))(r:ah nP K H ds xs)(hm:∀ b o,P b->H b=some o->cN o):gN K (Itt K a) ds P H:=by
 have hp:¬ P a:=fun p=>by rcases hm a _ p h with⟨z,q⟩ | ⟨z,q⟩ | ⟨z,q⟩<;>cases q
 exact {
  go:=fun H' i k hi=>by
   obtain⟨x,e,_⟩:=r.get (i:=i) (d:=ds[i]) (by simp[hi]);exact⟨xs,x,SqT.of (k _ _ hp h),e⟩
  stop:=fun H' k=>⟨xs,SqT.of (k _ _ hp h),by rw[r.length];exact Nat.le_refl _⟩
  yld:=fun H' i d x H2 k e y=>by
   obtain⟨z,y⟩:=y;subst z;have hx:=y xs (SqT.of (k _ _ hp h));obtain⟨x',e1,e2⟩:=r.get e;rw[hx]at e1;cases e1;refine⟨au.refl _,fun q=>?_⟩;rcases q with q | q
   ·exact gA hm k e2 q
   ·exact e2.same q }
def l8:∀ (n:Nat) (lo:Int) (i:Nat) (d:RL.D),(RL.cw lo n)[i]?=some d->d=.int (lo+i)
 | 0,lo,i,d,h=>by simp[RL.cw]at h
 | n+1,lo,0,d,h=>by simp[RL.cw]at h;simp[h]
 | n+1,lo,i+1,d,h=>by
  rw[RL.cw,List.getElem?_cons_succ]at h;rw[l8 n (lo+1) i d h];congr 1;lia
def iU:∀ (n:Nat) (lo:Int),(RL.cw lo n).length=n
 | 0,_=>rfl
 | n+1,lo=>by rw[RL.cw,List.length_cons,iU n]
def vE{K:PySem.W.Frag}{H:Hp}{lo:Int}{n:Nat}{P:Addr->Prop}:gN K (Itr lo n) (RL.cw lo n) P H where
 go:=fun H' i k hi=>by rw[iU]at hi;exact hi
 stop:=fun H' k=>by rw[iU];exact Nat.le_refl _
 yld:=fun H' i d x H2 k e y=>by
  obtain⟨z,y⟩:=y;subst z;refine⟨au.refl _,fun _=>?_⟩;rw[l8 n lo i d e,y];exact bb
section rules
variable{X:Cx}{cl:RL.Cl}{tg a b l:Expr}{a' b' e':RL.E}{pos p:Pos}
def Fy{t t':TE}{l:Expr}(hl:PE X l t):PI X tg l (fun σ H R=>t σ H fun x H1=>(∃ a,x=.ref a/\(∃ xs,SqL X.K H1 a xs)/\R (Itl X.K a) H1)\/(∃ a,x=.ref a/\(∃ xs,SqT X.K H1 a xs)/\R (Itt X.K a) H1)):=by
 intro pins s σ H R I h;refine thn (hl pins s σ H _ I h) fun v s1 ⟨x,H1,I1,r1,q1⟩=>?_
 rcases q1 with⟨a,e,⟨xs,hq⟩,q⟩ | ⟨a,e,⟨xs,hq⟩,q⟩
 ·subst e;cases r1;obtain⟨its,rv,p,hz⟩:=I1.list hq;refine wpAny_pyIter_list p.isList ⟨s1.heap.objs.size,[s1.heap.objs.size],_,_,H1,rfl,I1.kept (t':=s1.toks) fun b o e=>Heap.get?_push_of_some _ e,vC a _,⟨_,Heap.get?_push_size _ rfl,rfl,rfl⟩,fun b hb=>?_,q⟩;rw[show b=s1.heap.objs.size by simpa using hb];exact I1.kN (Nat.le_refl _) (I1.hok.fresh (Nat.le_refl _))
 ·subst e;cases r1;obtain⟨its,rv,p,hz⟩:=I1.tuple hq;refine wpAny_pyIter_tuple (show s1.heap.IsTuple a its.toArray from p) ⟨s1.heap.objs.size,[s1.heap.objs.size],_,_,H1,rfl,I1.kept (t':=s1.toks) fun b o e=>Heap.get?_push_of_some _ e,tZ a _,⟨_,Heap.get?_push_size _ rfl,rfl,rfl⟩,fun b hb=>?_,q⟩;rw[show b=s1.heap.objs.size by simpa using hb];exact I1.kN (Nat.le_refl _) (I1.hok.fresh (Nat.le_refl _))
def lF{σD:RL.St}{σ:L2.St}{H H1:Hp}{d:RL.D}{v:V}{M:List Nat}{P:Addr->Prop}(r1:Res X.K σD σ H e' d v H1)(z:(RL.avE M e' || RL.aS e')=true)(hP:∀ b,P b->∃ o,H b=some o/\cN o)
 (av:∀ (j:Nat) (dj:RL.D) (vj:V),M.contains j=false->σD[j]?=some (some dj)->σ[j]?=some (some vj)->Rep P X.K H dj vj):∀ ds a,d=.lst ds->v=.ref a->¬ P a:=by
 intro ds a hd hv;subst hd hv;rw[Bool.or_eq_true]at z;rcases z with z | z
 ·obtain⟨p,xs,e1,e2,_⟩:=aH (r1.av M z P (fun b q=>by obtain⟨o,ho,_⟩:=hP b q;rw[ho];exact fun z=>nomatch z) av);cases e1;exact e2
 ·intro q;obtain⟨o,ho,_⟩:=hP a q;rw[r1.fresh z rfl a rfl]at ho;cases ho
def eB{P:Addr->Prop}{H H1:Hp}(s:au H H1)(hP:∀ b,P b->∃ o,H b=some o/\cN o):∀ b o,P b->H1 b=some o->cN o:=fun b o q e=>by
 obtain⟨o',ho,m⟩:=hP b q;rw[s _ _ ho]at e;cases e;exact m
def gP{H1:Hp}:∀ b o,nP b->H1 b=some o->cN o:=fun b o q=>q.elim
def DT(hl:SE X cl l e')(hs:True):PI X tg l (fun σ H R=>∃ σD d ds,RV0 X.K σD σ H/\RL.ev cl σD e'=some d/\RL.items d=some ds/\∀ J H1,au H H1->zL X.K σD σ H (.seq e') J ds H1->R J H1):=by
 refine PI.weak (Fy (t':=tE X.K cl e') hl) fun σ H R h=>?_;obtain⟨σD,d,ds,rv,e,ei,k⟩:=h;refine⟨σD,d,rv,e,fun v H1 r1=>?_⟩;obtain⟨p,xs,rfl,hp,rs⟩:=eY ei r1.rep
 rcases hp with⟨hp,rfl⟩ | ⟨hp,rfl⟩
 ·refine .inl ⟨p,rfl,⟨xs,SqL.of hp⟩,k _ _ r1.same ⟨se hp rs (fun z=>z) gP,fun M P z hP av=>se hp rs (lF r1 z hP av _ _ rfl rfl) (eB r1.same hP)⟩⟩
 ·exact .inr ⟨p,rfl,⟨xs,SqT.of hp⟩,k _ _ r1.same ⟨uP hp rs gP,fun M P z hP av=>uP hp rs (eB r1.same hP)⟩⟩
def vJ{x y:RL.D}{ds:List RL.D}(h:RL.fE x y=some ds):∃ i j:Int,x=.int i/\y=.int j/\(-(2 ^ 62)<=i/\i<2 ^ 62/\-(2 ^ 62)<=j/\j<2 ^ 62)/\(j-i).toNat<=RL.most/\ds=RL.cw i (j-i).toNat:=by
 have no:∀ {o:Option (List RL.D)},o=none->o=some ds->False:=fun e h=>by rw[e]at h;cases h
 cases x with
 | int i=>cases y with
  |int j=>
   obtain⟨hc,e⟩:=cC h
   have lo:-(2 ^ 62:Int)<=-(2 ^ 60):=by decide
   have hi:(2 ^ 60:Int)<2 ^ 62:=by decide
   exact⟨i,j,rfl,rfl,⟨Int.le_trans lo hc.2.1,Int.lt_trans hc.2.2.1 hi,Int.le_trans lo hc.2.2.2.1,Int.lt_trans hc.2.2.2.2 hi⟩,hc.1,e⟩
  | _=>exact(no rfl h).elim
 | _=>exact(no rfl h).elim
def zZ(hg:Gl X "range")(hm:X.mg "range" = none)(ha:SE X cl a a')(hn:noStar a=true):SI X cl tg (.Call (.Name "range" p) [a] [] pos) (.rng1 a'):=by
 refine PI.weak (wq hg hm (cj (cl:=cl) ha dH hn) (ay [] hn)) fun σ H R h=>?_;obtain⟨σD,ds,rv,e,k⟩:=h;obtain⟨x,ea,e⟩:=bind_some e;obtain⟨i,j,e1,rfl,hb,_,rfl⟩:=vJ e;cases e1;refine⟨σD,[.int j],rv,by rw[RL.evs,ea];rfl,fun vs H1 s1 r1=>?_⟩;rw[ah]at r1;obtain⟨v,t,rfl,r2,r3⟩:=r1;rw[ah]at r3;subst r3;refine⟨j,by rw[aq r2],hb.2.2.1,hb.2.2.2,?_⟩
 have hz:(j-0).toNat=j.toNat:=by simp
 rw[hz]at k;exact k _ _ s1 ⟨vE,fun _ _ _ _ _=>vE⟩
end rules
end RS
namespace L2
open PySem PySem.Spec PyProof.Rows
abbrev gO(ifs:List Expr)(env:Env):Sem Bool:=forIn ifs true fun c r=>if r=true then do let ok <- isTrue c env (eval c env);pure (ForInStep.yield ok)else pure (ForInStep.yield r)
section
def D7(h:wpAny M A m P (fun _ _=>False) s):wpAny M A m P E s :=
 wpAny_mono h (fun _ _ q=>q) fun _ _ z=>z.elim
def dm(h:wpAny M A m (fun a s1=>wpAny M A (k a) P E s1) (fun _ _=>False) s):wpAny M A (m >>= k) P E s:=wpAny_bind (D7 h)
end
section
abbrev nG(prog:Program)(w:World)(A:Around)(elt tg:Expr)(ifs:List Expr)(it acc:Value)(env:Env)(stop next:Shared->Prop)(s:Shared):Prop :=
 wpAny (model prog w) A (pyNext it) (fun r s1=>match r with
  | none=>stop s1
  | some v=>wpAny (model prog w) A (letOwnedTupleGo tg it v) (fun _ s2=>wpAny (model prog w) A (assign tg env v) (fun _ s3=>wpAny (model prog w) A (gO ifs env) (fun ok s4 =>
     if ok=true then wpAny (model prog w) A (eval elt env) (fun x s5=>wpAny (model prog w) A (call (.builtin "list.append") [acc,x]) (fun _ s6=>next s6) (fun _ _=>False) s5) (fun _ _=>False) s4
     else next s4) (fun _ _=>False) s3) (fun _ _=>False) s2) (fun _ _=>False) s1) (fun _ _=>False) s
def xG(h:nG prog w A elt tg ifs it acc env stop next s) :
  wpAny (model prog w) A (compTurn (.ListComp elt [⟨tg,iter,ifs,0⟩] scope pos) 0 it acc env) (fun fin s'=>match fin with
   | .done f=>f=.next/\stop s'
   | .again c=>c=.compLoop (.ListComp elt [⟨tg,iter,ifs,0⟩] scope pos) 0 it acc env/\next s') E s:=by
 rw[compTurn_list];apply wpAny_bind;apply wpAny_standAt;apply dm;refine thn h fun r s1 h1=>?_
 cases r with
 |none=>
  apply wpAny_pure;exact⟨rfl,h1⟩
 |some v=>
  apply dm;refine thn h1 fun _ s2 h2=>?_;apply dm;refine thn h2 fun _ s3 h3=>?_;apply dm;refine thn h3 fun ok s4 h4=>?_;cases ok
  ·apply wpAny_pure;exact⟨rfl,h4⟩
  ·apply wpAny_bind;apply dm;refine thn h4 fun x s5 h5=>?_;apply dm;refine thn h5 fun _ s6 h6=>?_;apply wpAny_pure;apply wpAny_pure;exact⟨rfl,h6⟩
def vb(I:Nat->Shared->Prop)(turn:∀ n s,I n s->nG prog w A elt tg ifs it acc env (R (.ok .next)) (fun s'=>∃ m,m<n/\I m s') s)
 (n:Nat)(h:I n s):codeAny (model prog w) A (.compLoop (.ListComp elt [⟨tg,iter,ifs,0⟩] scope pos) 0 it acc env) R s :=
 codeAny_loop (M:=model prog w) rfl I (fun n s hI=>wpAny_noted (thn (xG (turn n s hI)) fun fin s' q=>by
  cases fin with
  |done f=>
   obtain⟨rfl,q⟩:=q;exact q
  | again c=>exact q)) n h
end
def jS:∀ (names:List (Str × NameKind)) (n:Nat) (acc:List (Str × Addr)) (x:Str) (c:Addr),(cellsFrom n names acc).lookup x=some c->(acc.lookup x=some c/\(x,NameKind.cell)∉names)\/(n<=c/\(x,NameKind.cell)∈names)
 | [],n,acc,x,c,h=>.inl ⟨h,by simp⟩
 | (nm,k)::r,n,acc,x,c,h=>by
  unfold cellsFrom at h;by_cases hk:(k == NameKind.cell)=true
  ·rw[if_pos hk]at h
   have ek:k=.cell:=by simpa using hk
   subst ek
   rcases jS r (n+1) ((nm,n)::acc) x c h with⟨a,b⟩ | ⟨a,b⟩
   ·rw[List.lookup_cons]at a
    cases hx:x == nm with
    |true=>
     rw[hx]at a;cases a
     have:x=nm:=by simpa using hx
     subst this;exact .inr ⟨Nat.le_refl _,List.mem_cons_self ..⟩
    |false=>
     rw[hx]at a;refine .inl ⟨a,fun z=>?_⟩;rcases List.mem_cons.mp z with z | z
     ·cases z;simp at hx
     ·exact b z
   ·exact .inr ⟨Nat.le_of_succ_le a,List.mem_cons_of_mem _ b⟩
  ·rw[if_neg hk]at h
   rcases jS r n acc x c h with⟨a,b⟩ | ⟨a,b⟩
   ·refine .inl ⟨a,fun z=>?_⟩;rcases List.mem_cons.mp z with z | z
    ·cases z;exact hk (by simp)
    ·exact b z
   ·exact .inr ⟨a,List.mem_cons_of_mem _ b⟩
def mC:∀ (names:List (Str × NameKind)) (n:Nat) (acc:List (Str × Addr)) (x:Str),(x,NameKind.cell)∉names->(cellsFrom n names acc).lookup x=acc.lookup x
 | [],n,acc,x,_=>rfl
 | (nm,k)::r,n,acc,x,h=>by
  have hr:(x,NameKind.cell)∉r:=fun z=>h (List.mem_cons_of_mem _ z);unfold cellsFrom;by_cases hk:(k == NameKind.cell)=true
  ·rw[if_pos hk,mC r (n+1) _ x hr,List.lookup_cons]
   have ek:k=.cell:=by simpa using hk
   subst ek
   have:(x == nm)=false:=by
    rw[beq_eq_false_iff_ne];intro z;subst z;exact h (List.mem_cons_self ..)
   rw[this]
  ·rw[if_neg hk];exact mC r n acc x hr
def pW:∀ (names:List (Str × NameKind)) (n:Nat) (acc:List (Str × Addr)),(∀ x c,acc.lookup x=some c->c<n)->(∀ x y c,acc.lookup x=some c->acc.lookup y=some c->x=y)->∀ x y c,(cellsFrom n names acc).lookup x=some c->(cellsFrom n names acc).lookup y=some c->x=y
 | [],n,acc,_,hi,x,y,c,h1,h2=>hi x y c h1 h2
 | (nm,k)::r,n,acc,hl,hi,x,y,c,h1,h2=>by
  unfold cellsFrom at h1 h2;by_cases hk:(k == NameKind.cell)=true
  ·rw[if_pos hk]at h1 h2;refine pW r (n+1) ((nm,n)::acc) (fun x c e=>?_) (fun x y c e1 e2=>?_) x y c h1 h2
   ·rw[List.lookup_cons]at e
    cases hx:x == nm with
    | true=>rw[hx]at e;cases e;exact Nat.lt_succ_self _
    | false=>rw[hx]at e;exact Nat.lt_succ_of_lt (hl x c e)
   ·rw[List.lookup_cons]at e1 e2
    cases hx:x == nm with
    |true=>
     rw[hx]at e1;cases e1
     cases hy:y == nm with
     |true=>
      have a:x=nm:=by simpa using hx
      have b:y=nm:=by simpa using hy
      rw[a,b]
     |false=>
      rw[hy]at e2;exact absurd (hl y n e2) (Nat.lt_irrefl _)
    |false=>
     rw[hx]at e1
     cases hy:y == nm with
     |true=>
      rw[hy]at e2;cases e2;exact absurd (hl x n e1) (Nat.lt_irrefl _)
     |false=>
      rw[hy]at e2;exact hi x y c e1 e2
  ·rw[if_neg hk]at h1 h2;exact pW r n acc hl hi x y c h1 h2
def lZ:∀ (names:List (Str × NameKind)) (h:Heap) (acc:List (Str × Addr)) (x:Str) (c:Addr),(cellsFrom h.objs.size names acc).lookup x=some c->acc.lookup x=some c\/(pushCells h names).IsCell c none
 | [],h,acc,x,c,e=>.inl e
 | (nm,k)::r,h,acc,x,c,e=>by
  unfold cellsFrom at e;unfold pushCells;by_cases hk:(k == NameKind.cell)=true
  ·rw[if_pos hk]at e ⊢
   have e':(cellsFrom (h.push { cls:=.type "cell",data:=.cell none }).objs.size r ((nm,h.objs.size)::acc)).lookup x=some c:=by rw[Heap.size_push];exact e
   rcases lZ r (h.push { cls:=.type "cell",data:=.cell none }) ((nm,h.objs.size)::acc) x c e' with a | a
   ·rw[List.lookup_cons]at a
    cases hx:x == nm with
    |true=>
     rw[hx]at a;cases a;exact .inr ⟨_,pushCells_keeps r _ _ _ (Heap.get?_push_size _ rfl),rfl⟩
    |false=>
     rw[hx]at a;exact .inl a
   ·exact .inr a
  ·rw[if_neg hk]at e ⊢;exact lZ r h acc x c e
def Al{M:Model}{A:Around}{E:Value->Shared->Prop}{s:Shared}{scope:Scope}{globals:Addr}{closure:List (Str × Addr)}{qual:Str}{func:Option Addr}{code:Value}{outer:Env}{builtins:Addr}{Q:Env->Shared->Prop}
 (hQ:Q (newEnv scope s.heap.objs.size globals (cellsFrom (s.heap.objs.size+1) scope.names closure) qual func code (some outer) builtins) { s with heap:=pushCells (s.heap.push { cls:=.type "dict",data:=.dict #[] }) scope.names }) :
  wpAny M A (newFunctionEnv scope globals closure [] qual func code (some outer) builtins) Q E s:=by
 simp only[newFunctionEnv,Option.isSome_some,if_true];refine wpAny_bind (wpAny_alloc ?_);refine wpAny_bind (wpAny_layCells _ (fun name kind cells=>by cases hkc:kind == NameKind.cell<;>simp[hkc]) _ _ _ _ ?_);rw[show({ s with heap:=s.heap.push { cls:=.type "dict",data:=.dict #[] } }:Shared).heap.objs.size=s.heap.objs.size+1 from Heap.size_push ..];refine wpAny_bind ?_;rw[List.forIn_nil];exact wpAny_pure (wpAny_pure hQ)
abbrev blk(X:Cx)(scope:Scope)(cls:List (Str × Addr))(C:Addr)(fp:List Addr)(s:Shared)(H:Hp):Cx where
 prog:=X.prog
 w:=X.w
 K:=X.K
 mg:=X.mg
 base:=X.base
 A:=X.A
 N:=X.N
 s₀:=s
 H₀:=H
 env:=compEnvC scope cls C X.env
 outer:=X.stack
 stack:=X.stack
 ex:=fp
 fn:=fun x=>scope.names.lookup x == some .cell
 calm:=X.calm
 pn:=[]
 xe:=fun _ _=>False
structure fH(scope:Scope)(sc:Scope)(cls:List (Str × Addr))(cells:List (Str × Addr)):Prop where
 kind:scope.kind=.function
 own:∀ x∈scope.names,x.2=.cell->scope.names.lookup x.1=some .cell
 loc:∀ x∈scope.names,x.2=.local->scope.names.lookup x.1=some .local
 sub:∀ x c,cls.lookup x=some c->cells.lookup x=some c
 has:∀ x,scope.names.lookup x=some .free->∃ c,cls.lookup x=some c
 vis:∀ x,scope.names.lookup x=some .free->sc.names.lookup x=some .cell\/sc.names.lookup x=some .free
def bL{env:Env}:∀ {names:List (Str × NameKind)} {x:Str} {k:NameKind},
  (names.map fun(n,k)=>if(k == NameKind.free&&env.scope.kind == .function&&env.kindOf n == some .cell)then(n,NameKind.cell)else(n,k)).lookup x=some k ->
  names.lookup x=some k\/(k=.cell/\names.lookup x=some .free/\env.kindOf x=some .cell)
 | [],x,k,h=>by simp at h
 | (n,k')::r,x,k,h=>by
  have ih:=@bL env r x k;rw[List.map_cons]at h
  cases hx:x == n with
  |true=>
   have en:x=n:=by simpa using hx
   subst en;by_cases hc:(k' == NameKind.free&&env.scope.kind == .function&&env.kindOf x == some .cell)=true
   ·simp only[hc,if_true]at h;rw[List.lookup_cons,hx]at h;cases h;simp only[Bool.and_eq_true,beq_iff_eq]at hc;refine .inr ⟨rfl,?_,hc.2⟩;rw[List.lookup_cons,hx,hc.1.1]
   ·simp only[Bool.not_eq_true]at hc;simp only[hc,Bool.false_eq_true,if_false]at h;rw[List.lookup_cons,hx]at h;cases h;exact .inl (by rw[List.lookup_cons,hx])
  |false=>
   have h':(r.map fun(n,k)=>if(k == NameKind.free&&env.scope.kind == .function&&env.kindOf n == some .cell)then(n,NameKind.cell)else(n,k)).lookup x=some k:=by
    by_cases hc:(k' == NameKind.free&&env.scope.kind == .function&&env.kindOf n == some .cell)=true
    ·simp only[hc,if_true]at h;rw[List.lookup_cons,hx]at h;exact h
    ·simp only[Bool.not_eq_true]at hc;simp only[hc,Bool.false_eq_true,if_false]at h;rw[List.lookup_cons,hx]at h;exact h
   rcases ih h' with q | ⟨q1,q2,q3⟩
   ·exact .inl (by rw[List.lookup_cons,hx];exact q)
   ·exact .inr ⟨q1,by rw[List.lookup_cons,hx];exact q2,q3⟩
abbrev zP(X:Cx)(scope:Scope)(σ σB:St):Prop:=σB.length=σ.length/\∀ (i:Nat) (x:Str) (v:V),X.N[i]?=some x->σB[i]?=some (some v)->σ[i]?=some (some v)/\scope.names.lookup x≠some .local/\scope.names.lookup x≠some .cell
section
def Inv.hxb(I:Inv X pins σ H s):HX (blk X scope cls C fp s H):=by
 rcases I.ok.hd.2 with z | ⟨h,o,u,vs,h1,h2,h3⟩
 ·exact .inl z
 ·exact .inr ⟨h,o,u,vs,h1,I.base.cK _ _ _ h2,h3⟩
def Bh(I:Inv X pins σ H s)(S:fH scope X.env.scope cls X.env.cells)(hf:∀ b∈fp,iR X pins H b/\b<s.heap.objs.size)(ho:zP X scope σ σB)
 (hns:h'.Ns s.heap.objs.size (fun _=>none))(hk:∀ b o,s.heap.get? b=some o->h'.get? b=some o)(hcl:∀ x c,(cellsFrom (s.heap.objs.size+1) scope.names cls).lookup x=some c->cls.lookup x=some c\/h'.IsCell c none) :
  Inv (blk X scope (cellsFrom (s.heap.objs.size+1) scope.names cls) s.heap.objs.size fp s H) [] σB H { s with heap:=h',toks:=t }:=by
 have hC:H s.heap.objs.size=none:=I.hok.fresh (Nat.le_refl _)
 have clt:∀ x c,cls.lookup x=some c->c<s.heap.objs.size:=fun x c e=>by
  obtain⟨v,q⟩:=I.cell x c (S.sub x c e);exact q.lt
 have cas:∀ x c,(cellsFrom (s.heap.objs.size+1) scope.names cls).lookup x=some c->(X.env.cells.lookup x=some c/\c<s.heap.objs.size)\/(s.heap.objs.size+1<=c/\scope.names.lookup x=some .cell):=fun x c e=>by
  rcases jS _ _ _ _ _ e with⟨a,_⟩ | ⟨a,b⟩
  ·exact .inl ⟨S.sub x c a,clt x c a⟩
  ·exact .inr ⟨a,S.own _ b rfl⟩
 have fre:∀ x c,cls.lookup x=some c->scope.names.lookup x=some .free->(cellsFrom (s.heap.objs.size+1) scope.names cls).lookup x=some c:=fun x c e f=>by
  rw[mC _ _ _ _ fun z=>by rw[S.own _ z rfl]at f;cases f];exact e
 refine⟨⟨I.ok.mod,?_,I.ok.glob,I.ok.blt,Nat.le_refl _,fun x y c h1 h2=>pW _ _ _ (fun x c e=>Nat.lt_succ_of_lt (clt x c e)) (fun x y c e1 e2=>I.ok.inj x y c (S.sub x c e1) (S.sub y c e2)) x y c h1 h2,fun x hx=>?_,fun x c z e=>?_,⟨I.ok.hd.1,I.hxb⟩,I.ok.frames,.inl rfl,fun b hb=>?_,fun b o e=>I.bs b o e,Nat.le_trans I.ok.bsz I.sz,fun b o e hb=>?_,fun b hb=>?_,I.stack,I.kd⟩,
  rfl,I.bare,Un.kept hk,⟨_,hns,fun i x v h1 h2 h3=>?_⟩,fun x c e=>?_,hC,fun x c e=>?_,fun p hp=>absurd hp (by simp[blk]),I.hok.kept hk,ho.1.trans I.len⟩
 ·exact S.kind
 ·have hx:(relabel scope X.env).names.lookup x=some .cell\/(relabel scope X.env).names.lookup x=some .free:=hx
  have key:scope.names.lookup x=some .cell\/scope.names.lookup x=some .free:=by
   rcases hx with hx | hx
   ·rcases bL hx with q | ⟨_,q,_⟩
    ·exact .inl q
    ·exact .inr q
   ·rcases bL hx with q | ⟨q,_⟩
    ·exact .inr q
    ·cases q
  rcases key with q | q
  ·have:=PySem.W.cellsFrom_some scope.names (s.heap.objs.size+1) cls (.inl q);exact Option.isSome_iff_exists.mp this
  ·obtain⟨c,hc⟩:=S.has x q;exact⟨c,fre x c hc q⟩
 ·have z:(scope.names.lookup x == some .cell)=true:=z
  rcases jS _ _ _ _ _ (show(cellsFrom (s.heap.objs.size+1) scope.names cls).lookup x=some c from e)with⟨_,b⟩ | ⟨b,_⟩
  ·exact absurd (PySem.mem_of_lookup (by simpa using z)) b
  ·exact Nat.le_of_succ_le b
 ·obtain⟨⟨f0,f1,f2,f3,f4,f5⟩,f6⟩:=hf b hb;refine⟨Nat.ne_of_lt f6,fun x c e=>?_⟩
  rcases cas x c e with⟨a,_⟩ | ⟨a,_⟩
  ·exact f4 x c a
  ·exact Nat.ne_of_gt (Nat.lt_trans f6 a)
 ·obtain⟨⟨f0,f1,f2,f3,f4,f5⟩,f6⟩:=hf b hb;rcases f3 with z | z
  ·exact I.ok.jc b o e z
  ·exact absurd (Nat.lt_of_lt_of_le (Heap.lt_size e) I.ok.bsz) (Nat.not_lt.mpr z)
 ·obtain⟨⟨f0,f1,f2,f3,f4,f5⟩,f6⟩:=hf b hb;intro z;rcases List.mem_cons.mp (I.qM b z)with e | e
  ·exact f1 e
  ·exact f2 e
 ·obtain⟨h4,h5,h6⟩:=ho.2 i x v h1 h2;have h3:(relabel scope X.env).names.lookup x=some .local\/(relabel scope X.env).names.lookup x=some .cell\/(relabel scope X.env).names.lookup x=some .free:=h3
  have key:scope.names.lookup x=some .free:=by
   rcases h3 with z | z | z
   ·rcases bL z with q | ⟨q,_⟩
    ·exact absurd q h5
    ·cases q
   ·rcases bL z with q | ⟨_,q,_⟩
    ·exact absurd q h6
    ·exact q
   ·rcases bL z with q | ⟨q,_⟩
    ·exact q
    ·cases q
  obtain⟨c,hc⟩:=S.has x key;have hcx:=S.sub x c hc;obtain⟨m,hn,hl⟩:=I.loc;have hv:Vis X.env.scope x:=.inr (S.vis x key);obtain⟨u,ru,lk⟩:=hl i x v h1 h4 hv;refine⟨u,ru,.inr ⟨?_,c,fre x c hc key,?_⟩⟩
  ·rcases h3 with z | z
   ·rcases bL z with q | ⟨q,_⟩
    ·exact absurd q h5
    ·cases q
   ·exact z
  ·rcases lk with⟨z,_⟩ | ⟨_,c',e',q⟩
   ·have z:X.env.scope.names.lookup x=some .local:=z;rcases S.vis x key with z' | z'<;>(rw[z]at z';cases z')
   ·rw[hcx]at e';cases e';obtain⟨o,g1,g2⟩:=q;exact⟨o,hk _ _ g1,g2⟩
 ·rcases hcl x c e with a | a
  ·obtain⟨v,q⟩:=I.cell x c (S.sub x c a);obtain⟨o,h1,h2⟩:=q;exact⟨v,o,hk _ _ h1,h2⟩
  ·exact⟨none,a⟩
 ·rcases cas x c e with⟨a,_⟩ | ⟨a,_⟩
  ·exact I.c8 x c a
  ·exact I.hok.fresh (Nat.le_of_succ_le a)
abbrev iG(wi:TI)(clr:St->St)(g:TG)(tc:TT)(te:TE):TE:=fun σ H Q=>wi σ H fun J H1=>∀ l,H1 l=none->∃ W:Nat->Nat->List V->Hp->Prop,(∃ m,W 0 m [] (upd H1 l (.lst []))) /\
 ∀ i m ys H2,W i m ys H2->H2 l=some (.lst ys)/\((J.stop i H2/\Q (.ref l) H2)\/(J.go i H2/\∀ x H3,J.yld i H2 x H3->g x (clr σ) H3 fun σ4 H4=>tc σ4 H4 fun k H5 =>
  if k=true then te σ4 H5 fun y H6=>H6 l=some (.lst ys)/\ys.length<sizeLine/\∃ m',m'<m/\W (i+1) m' (ys++[y]) (upd H6 l (.lst (ys++[y])))else ∃ m',m'<m/\W (i+1) m' ys H5))
structure oA(X:Cx)(scope:Scope)(tg:Expr)(ifs:List Expr)(elt:Expr)(clr:St->St)(g:TG)(tc:TT)(te:TE):Prop where
 htg:∀ cls C fp s H,PG (blk X scope cls C fp s H) tg g
 htc:∀ cls C fp s H pins s' σ H' Q,Inv (blk X scope cls C fp s H) pins σ H' s'->tc σ H' Q->wpAny (model X.prog X.w) X.A (gO ifs (compEnvC scope cls C X.env)) (TP (blk X scope cls C fp s H) pins σ Q) (fun _ _=>False) s'
 hte:∀ cls C fp s H,PE (blk X scope cls C fp s H) elt te
 DU:∀ σ:St,σ.length=X.N.length->zP X scope σ (clr σ)
 zE:∀ (x:V) (σ:St) (H:Hp) (Q:St->Hp->Prop),g x (clr σ) H Q->g x (clr σ) H fun σ2 H2=>Q σ2 H2/\(clr σ).length=σ2.length/\∀ (i:Nat) v,(clr σ)[i]?=some (some v)->σ2[i]?=some (some v)
def nJ{elt tg iter:Expr}{ifs:List Expr}{pos:Pos}{wi:TI}{clr:St->St}{g:TG}{tc:TT}{te:TE}{Q:VK}{RR:Value->Addr->Result->Shared->Prop}{CM:Cx->Prop}(hc:∀ {pins:List (Addr × Obj)} {σ:St} {H:Hp} {s:Shared} (cls:List (Str × Addr)) (C:Addr) (fp:List Addr),Inv X pins σ H s->CM (blk X scope cls C fp s H))(S:fH scope X.env.scope cls X.env.cells)
 (hi:PI' CM X tg iter wi)(B:oA X scope tg ifs elt clr g tc te)(I:Inv X pins σ H s)(h:iG wi clr g tc te σ H Q)
 (hRR:∀ l C H' s',Inv X pins σ H' s'->(∃ m,s'.heap.Ns C m)->H' C=none->C≠X.env.locals->X.s₀.heap.objs.size<=C->(∀ x c,X.env.cells.lookup x=some c->c≠C)->(∀ p∈X.pn++pins,p.1≠C)->Q (.ref l) H'->RR (.ref l) C (.ok .next) s') :
  wpAny (model X.prog X.w) X.A (eval iter X.env) (fun x s1=>wpAny (model X.prog X.w) X.A (pyIter x) (fun it s2=>wpAny (model X.prog X.w) X.A (newList []) (fun acc s3 =>
   wpAny (model X.prog X.w) X.A (newFunctionEnv scope X.env.globals cls [] X.env.qual none .none (some X.env)) (fun cenv s4 =>
    codeAny (model X.prog X.w) X.A (.compStart (.ListComp elt [⟨tg,iter,ifs,0⟩] scope pos) 0 it acc { cenv with scope:=relabel scope X.env }) (RR acc cenv.locals) s4) X.xe s3) X.xe s2) X.xe s1) X.xe s:=by
 refine thn (hi pins s σ H _ I h) fun x s1 h1=>thn h1 fun itv s2 h2=>?_;obtain⟨it,fp,tn,J,H2,e,I2,T,st2,f2,h3⟩:=h2;subst e
 have flt:∀ b∈fp,b<s2.heap.objs.size:=fun b hb=>by
  obtain⟨o,e,_⟩:=T.obj _ _ st2 b hb;exact Heap.lt_size e
 refine wpAny_newObj_type ?_
 have I3:Inv X pins σ (upd H2 s2.heap.objs.size (.lst [])) { s2 with heap:=s2.heap.push { cls:=.type "list",dict:=none,data:=.seq ([]:List Value).toArray } } :=
  I2.laid (t':=s2.toks) (fun b u e=>Heap.get?_push_of_some _ e) (Nat.le_refl _) ⟨Nat.zero_le _,[],0,.nil,Heap.get?_push_size _ rfl⟩
 have hl2:H2 s2.heap.objs.size=none:=I2.hok.fresh (Nat.le_refl _);obtain⟨W,⟨m0,w0⟩,turn⟩:=h3 s2.heap.objs.size hl2
 have f3:∀ b∈fp,iR X pins (upd H2 s2.heap.objs.size (.lst [])) b/\b<(s2.heap.push { cls:=.type "list",dict:=none,data:=.seq ([]:List Value).toArray }).objs.size:=fun b hb=>by
  obtain⟨z0,z⟩:=f2 b hb;refine⟨⟨?_,z⟩,?_⟩
  ·rw[aJ (Nat.ne_of_lt (flt b hb))];exact z0
  ·rw[Heap.size_push];exact Nat.lt_succ_of_lt (flt b hb)
 generalize hs3:({ s2 with heap:=s2.heap.push { cls:=.type "list",dict:=none,data:=.seq ([]:List Value).toArray } }:Shared)=s3 at I3
 have hs3h:s3.heap=s2.heap.push { cls:=.type "list",dict:=none,data:=.seq ([]:List Value).toArray }:=by rw[<-hs3]
 rw[<-hs3h]at f3
 have st3:tn 0 s3.heap:=T.keep _ _ _ st2 fun b hb o e=>by rw[hs3h];exact Heap.get?_push_of_some _ e
 refine Al ?_;have k4:∀ b o,s3.heap.get? b=some o->(pushCells (s3.heap.push { cls:=.type "dict",data:=.dict #[] }) scope.names).get? b=some o:=fun b o e=>pushCells_keeps _ _ b o (Heap.get?_push_of_some _ e);have hns4:(pushCells (s3.heap.push { cls:=.type "dict",data:=.dict #[] }) scope.names).Ns s3.heap.objs.size (fun _=>none):=(Heap.Ns.new s3.heap (.type "dict")).keeps (pushCells_keeps _ _);have hcl4:∀ x c,(cellsFrom (s3.heap.objs.size+1) scope.names cls).lookup x=some c->cls.lookup x=some c\/(pushCells (s3.heap.push { cls:=.type "dict",data:=.dict #[] }) scope.names).IsCell c none:=fun x c e=>lZ scope.names (s3.heap.push { cls:=.type "dict",data:=.dict #[] }) cls x c (by rw[Heap.size_push];exact e);generalize pushCells (s3.heap.push { cls:=.type "dict",data:=.dict #[] }) scope.names=h4 at k4 hns4 hcl4
 have I4:Inv (blk X scope (cellsFrom (s3.heap.objs.size+1) scope.names cls) s3.heap.objs.size fp s3 (upd H2 s2.heap.objs.size (.lst []))) [] (clr σ) (upd H2 s2.heap.objs.size (.lst [])) { s3 with heap:=h4 } :=
  Bh (t:=s3.toks) I3 S f3 (B.DU σ I.len) hns4 k4 hcl4
 generalize hs4:({ s3 with heap:=h4 }:Shared)=s4 at I4
 have hs4h:s4.heap=h4:=by rw[<-hs4]
 generalize hH3:upd H2 s2.heap.objs.size (.lst [])=H3 at I3 I4 w0
 have st4:tn 0 s4.heap:=T.keep _ _ _ st3 fun b hb o e=>by rw[hs4h];exact k4 b o e
 have fn4:∀ b∈fp,H3 b=none:=fun b hb=>by rw[<-hH3];exact(f3 b hb).1.1
 have stat:∀ {H':Hp} {σ':St} {s':Shared},Inv (blk X scope (cellsFrom (s3.heap.objs.size+1) scope.names cls) s3.heap.objs.size fp s3 H3) [] σ' H' s'->(∀ b∈fp,H' b=none)->∀ b∈fp,iR (blk X scope (cellsFrom (s3.heap.objs.size+1) scope.names cls) s3.heap.objs.size fp s3 H3) [] H' b :=
  fun {H' σ' s'} J hn b hb=>⟨hn b hb,(J.ok.exf b hb).1,J.ok.iS b hb,.inl hb,(J.ok.exf b hb).2,fun p hp=>absurd hp (by simp[blk])⟩
 have fin:∀ {H':Hp} {s':Shared},Inv (blk X scope (cellsFrom (s3.heap.objs.size+1) scope.names cls) s3.heap.objs.size fp s3 H3) [] (clr σ) H' s'->Q (.ref s2.heap.objs.size) H'->RR (.ref s2.heap.objs.size) s3.heap.objs.size (.ok .next) s':=fun {H' s'} J q=>by
  obtain⟨m,hn,_⟩:=J.loc
  have J1:Inv X pins σ H' s':=I3.tu (s':=s') (ch:=fp) (J.os.trans rfl) J.base J.hok J.bare fun b hb=>by
   obtain⟨⟨g0,g1,g2,g3,g4,g5⟩,_⟩:=f3 b hb;exact⟨g3,g1,g4,g5⟩
  refine hRR _ _ H' s' J1 ⟨m,hn⟩ J.free (Nat.ne_of_gt I3.lt) I3.sz (fun x c e=>?_) (fun p hp=>?_) q
  ·obtain⟨v,z⟩:=I3.cell x c e;exact Nat.ne_of_lt z.lt
  ·exact Nat.ne_of_lt (Heap.lt_size (I3.pin p hp).1)
 have loop:codeAny (model X.prog X.w) X.A (.compLoop (.ListComp elt [⟨tg,iter,ifs,0⟩] scope pos) 0 (.ref it) (.ref s2.heap.objs.size) (compEnvC scope (cellsFrom (s3.heap.objs.size+1) scope.names cls) s3.heap.objs.size X.env))
   (RR (.ref s2.heap.objs.size) s3.heap.objs.size) s4:=by
  refine vb (fun n s'=>∃ i ys H',Inv (blk X scope (cellsFrom (s3.heap.objs.size+1) scope.names cls) s3.heap.objs.size fp s3 H3) [] (clr σ) H' s'/\tn i s'.heap/\(∀ b∈fp,H' b=none)/\W i n ys H') ?_ m0 ⟨0,[],H3,I4,st4,fn4,w0⟩;rintro n s5 ⟨i,ys,H5,I5,st5,fr5,w5⟩;obtain⟨hl5,tr⟩:=turn i n ys H5 w5
  rcases tr with⟨stop,qn⟩ | ⟨go,step⟩
  ·refine thn (T.done (blk X scope (cellsFrom (s3.heap.objs.size+1) scope.names cls) s3.heap.objs.size fp s3 H3) rfl rfl rfl (hc _ _ _ I3) i [] s5 (clr σ) H5 (fun _ _=>False) I5 (stat I5 fr5) st5 stop) fun r s6 ⟨hr,I6⟩=>?_;subst hr;exact fin I6 qn
  ·refine thn (T.item (blk X scope (cellsFrom (s3.heap.objs.size+1) scope.names cls) s3.heap.objs.size fp s3 H3) rfl rfl rfl (hc _ _ _ I3) i [] s5 (clr σ) H5 (fun _ _=>False) I5 (stat I5 fr5) st5 go) fun r s6 ⟨u,hr,h6⟩=>?_;subst hr;refine thn h6 fun _ s7 ⟨x,H7,I7,r7,y7,st7,fr7⟩=>?_;have I7':=I7.pinned (stat I7 fr7) (T.obj _ _ st7)
   have back:∀ {σ':St} {H':Hp} {s':Shared},Inv (blk X scope (cellsFrom (s3.heap.objs.size+1) scope.names cls) s3.heap.objs.size fp s3 H3) ([]++j4 fp s7.heap) σ' H' s'->(clr σ).length=σ'.length->(∀ (i:Nat) v,(clr σ)[i]?=some (some v)->σ'[i]?=some (some v))->(∃ m ys',m<n/\W (i+1) m ys' H') ->
     ∃ m,m<n/\∃ i ys H',Inv (blk X scope (cellsFrom (s3.heap.objs.size+1) scope.names cls) s3.heap.objs.size fp s3 H3) [] (clr σ) H' s'/\tn i s'.heap/\(∀ b∈fp,H' b=none)/\W i m ys H':=fun {σ' H' s'} J el ew hw=>by
    obtain⟨m,ys',hm,w8⟩:=hw;refine⟨m,hm,i+1,ys',H',J.iP.weak el ew,T.keep _ _ _ st7 fun b hb o e=>(J.pin (b,o) (List.mem_append_right _ (List.mem_append_right _ (fW hb e)))).1,fun b hb=>?_,w8⟩;obtain⟨o,e,d⟩:=T.obj _ _ st7 b hb;exact(J.pin (b,o) (List.mem_append_right _ (List.mem_append_right _ (fW hb e)))).2.1
   refine thn (B.htg _ s3.heap.objs.size fp s3 H3 _ s7 (clr σ) H7 x u _ I7' r7 (B.zE x σ H7 _ (step x H7 y7))) fun _ s8 ⟨σ8,H8,I8,q8,el8,ew8⟩=>?_;refine thn (B.htc _ s3.heap.objs.size fp s3 H3 _ s8 σ8 H8 _ I8 q8) fun ok s9 ⟨H9,I9,q9⟩=>?_
   cases ok with
   |false=>
    have q9:∃ m',m'<n/\W (i+1) m' ys H9:=q9;obtain⟨m',hm,w9⟩:=q9;exact back I9 el8 ew8 ⟨m',ys,hm,w9⟩
   |true=>
    refine thn (B.hte _ s3.heap.objs.size fp s3 H3 _ s9 σ8 H9 _ I9 q9) fun v s10 ⟨y,H10,I10,r10,hl10,hz,m',hm,w10⟩=>?_;refine thn (nY (X:=blk X scope (cellsFrom (s3.heap.objs.size+1) scope.names cls) s3.heap.objs.size fp s3 H3) _ s10 σ8 H10 (.ref s2.heap.objs.size) [y] (.ref s2.heap.objs.size) [v] (fun _ H'=>H'=upd H10 s2.heap.objs.size (.lst (ys++[y]))) I10 rfl (.cons r10 .nil) ⟨_,ys,y,rfl,rfl,hl10,hz,rfl⟩) fun _ s11 ⟨_,H11,I11,_,e11⟩=>?_;subst e11;exact back I11 el8 ew8 ⟨m',_,hm,w10⟩
 exact codeAny_compStart_list loop (T.self _ 0 _ _ _ st4 loop)
def sv{elt tg iter:Expr}{ifs:List Expr}{pos:Pos}{wi:TI}{clr:St->St}{g:TG}{tc:TT}{te:TE}{CM:Cx->Prop}(hc:∀ {pins:List (Addr × Obj)} {σ:St} {H:Hp} {s:Shared} (cls:List (Str × Addr)) (C:Addr) (fp:List Addr),Inv X pins σ H s->CM (blk X scope cls C fp s H))(S:fH scope X.env.scope cls X.env.cells)(hclos:closureFor scope X.env=pure cls)
 (hi:PI' CM X tg iter wi)(B:oA X scope tg ifs elt clr g tc te)(hs:∀ x,foldedSetIterable iter X.env x=pure x):PE X (.ListComp elt [⟨tg,iter,ifs,0⟩] scope pos) (iG wi clr g tc te):=by
 intro pins s σ H Q I h;rw[eval_ListComp];refine wpAny_comprehension_free (use:=none) rfl hs hclos S.kind S.loc (nJ (RR:=fun acc C=>compPost (model X.prog X.w) X.A X.xe none (EP X pins σ Q) acc C) hc S hi B I h ?_);intro l C H' s' J hn c0 c1 c2 c3 c4 q;obtain⟨m,hn⟩:=hn;exact⟨m,hn,fun h' sb=>⟨.ref l,H',J.turned (it:=C) (h':=h') (t':=s'.toks) (fun b o hb e=>(sb.2 b hb).trans e) c0 (Ne.symm (Ne.symm c1)) (.inr c2) c3 c4,rfl,q⟩⟩
abbrev Fh(i:Nat)(t:TE):TS:=fun D σ H=>t σ H fun v H1=>D.nx (σ.set i (some v)) H1
def sL(hc:X.calm=true)(hN:X.N.Nodup)(hiy:X.N[i]?=some y)(hy:X.env.scope.names.lookup y=some .local)
 (S:fH scope X.env.scope cls X.env.cells)(hclos:closureFor scope X.env=pure cls)
 (hi:PI X tg iter wi)(B:oA X scope tg ifs elt clr g tc te)(hs:∀ x,foldedSetIterable iter X.env x=pure x)
 (hsw:swapsWith (.ListComp elt [⟨tg,iter,ifs,0⟩] scope pos) (some (.Name y py)) spos.line X.env=pure true) :
  PS X (.Assign [.Name y py] (.ListComp elt [⟨tg,iter,ifs,0⟩] scope pos) spos) (Fh i (iG wi clr g tc te)):=by
 intro pins s σ H D I h
 have back:∀ (l C:Addr) (H':Hp) (s':Shared),Inv X pins σ H' s'->(∃ m,s'.heap.Ns C m)->H' C=none->C≠X.env.locals->X.s₀.heap.objs.size<=C->(∀ x c,X.env.cells.lookup x=some c->c≠C)->(∀ p∈X.pn++pins,p.1≠C)->D.nx (σ.set i (some (.ref l))) H' ->
   compPost (model X.prog X.w) X.A X.xe (some (assign (.Name y py) X.env)) (fun _ s'=>SP X pins D .next s') (.ref l) C (.ok .next) s':=by
  intro l C H' s' J hn c0 c1 c2 c3 c4 q;obtain⟨m,hn⟩:=hn;show wpAny _ X.A (assign (.Name y py) X.env (.ref l)) _ _ s';refine wpAny_assign_Name (nV (v:=.ref l) J hN hiy (.inl hy) rfl (fun s2 J2 ⟨a,sb,ha⟩=>?_) (.inr hy))
  have hne:C≠a:=by
   rcases ha with z | z
   ·rw[z];exact c1
   ·exact(c3 _ _ z).symm
  exact⟨m,hn.sameBut sb hne,fun h' sb'=>⟨σ.set i (some (.ref l)),H',J2.turned (it:=C) (h':=h') (t':=s2.toks) (fun b o hb e=>(sb'.2 b hb).trans e) c0 c1 (.inr c2) c3 c4,q⟩⟩
 have core:=nJ (RR:=fun acc C=>compPost (model X.prog X.w) X.A X.xe (some (assign (.Name y py) X.env)) (fun _ s'=>SP X pins D .next s') acc C) (pos:=pos) (fun _ _ _ _=>hc) S hi B I h back;have whole:=wpAny_comprehension_free (e:=.ListComp elt [⟨tg,iter,ifs,0⟩] scope pos) (newAcc:=newList []) (use:=some (assign (.Name y py) X.env)) (Q:=fun _ s'=>SP X pins D .next s') (pos:=iter.pos) rfl hs hclos S.kind S.loc core;rw[exec_Assign_Name_used (hs:=hsw)];apply wpAny_bind;apply wpAny_standAt;apply wpAny_bind;apply wpAny_bind;refine thn whole fun _ s' hq=>?_;apply wpAny_pure;apply wpAny_pure;exact hq
end
end L2
namespace RS
open PySem PySem.Spec PyProof.Rows L2
def jr:∀ (names:List (Str × NameKind)) (acc:List (Str × Addr)),(∀ x,(x,NameKind.free)∈names->∃ c,env.cells.lookup x=some c)->(∀ x c,acc.lookup x=some c->env.cells.lookup x=some c) ->
  ∃ cls,(forIn names acc fun(p:Str × NameKind) cs=>match p with | (name,kind)=>if(kind == NameKind.free)=true then do let c <- cellOf env name;pure (ForInStep.yield ((name,c)::cs))else pure (ForInStep.yield cs):Sem (List (Str × Addr)))=pure cls /\
   (∀ x c,cls.lookup x=some c->env.cells.lookup x=some c)/\(∀ x,(acc.lookup x).isSome=true\/(x,NameKind.free)∈names->∃ c,cls.lookup x=some c)
 | [],acc,_,ha=>⟨acc,rfl,ha,fun x hx=>by
   rcases hx with h | h
   ·exact Option.isSome_iff_exists.mp h
   ·simp at h⟩
 | (n,k)::r,acc,hn,ha=>by
  by_cases hk:k=.free
  ·subst hk;obtain⟨c,hc⟩:=hn n List.mem_cons_self
   have ha':∀ x c',((n,c)::acc).lookup x=some c'->env.cells.lookup x=some c':=fun x c' e=>by
    rw[List.lookup_cons]at e
    cases hx:x == n with
    |true=>
     rw[hx]at e;cases e;rw[show x=n by simpa using hx];exact hc
    |false=>
     rw[hx]at e;exact ha x c' e
   obtain⟨cls,h1,h2,h3⟩:=jr r ((n,c)::acc) (fun x hx=>hn x (List.mem_cons_of_mem _ hx)) ha';refine⟨cls,?_,h2,fun x hx=>h3 x ?_⟩
   ·rw[List.forIn_cons]
    have hcell:cellOf env n=pure c:=by unfold cellOf;rw[hc]
    simp only[beq_self_eq_true,if_true,hcell];exact h1
   ·rcases hx with h | h
    ·left;rw[List.lookup_cons];split<;>simp_all
    ·rcases List.mem_cons.mp h with e | e
     ·cases e;left;simp[List.lookup_cons]
     ·exact .inr e
  ·obtain⟨cls,h1,h2,h3⟩:=jr r acc (fun x hx=>hn x (List.mem_cons_of_mem _ hx)) ha;refine⟨cls,?_,h2,fun x hx=>h3 x ?_⟩
   ·rw[List.forIn_cons]
    have:(k == NameKind.free)=false:=by simpa using hk
    simp only[this,Bool.false_eq_true,if_false];exact h1
   ·rcases hx with h | h
    ·exact .inl h
    ·rcases List.mem_cons.mp h with e | e
     ·cases e;exact absurd rfl hk
     ·exact .inr e
def t5(h:∀ x,(x,NameKind.free)∈scope.names->∃ c,env.cells.lookup x=some c) :
  ∃ cls,closureFor scope env=pure cls/\(∀ x c,cls.lookup x=some c->env.cells.lookup x=some c)/\(∀ x,scope.names.lookup x=some .free->∃ c,cls.lookup x=some c):=by
 obtain⟨cls,h1,h2,h3⟩:=jr (env:=env) scope.names [] h (fun x c e=>by simp at e);refine⟨cls,?_,h2,fun x hx=>h3 x (.inr (PySem.mem_of_lookup hx))⟩;unfold closureFor;simp only[bind_pure_comp]at h1 ⊢;rw[h1];rfl
section
abbrev mL(K:PySem.W.Frag)(n:Nat)(t:TGs):TG:=fun v σ H Q=>∃ a xs,v=.ref a/\SqL K H a xs/\xs.length=n/\t xs σ H Q
end
section
def qf(h:PG X tgE t)(h':PG X tgE t'):PG X tgE (fun v σ H Q=>t v σ H Q\/t' v σ H Q):=by
 intro pins s σ H v u Q I r hw;rcases hw with q | q
 ·exact h pins s σ H v u Q I r q
 ·exact h' pins s σ H v u Q I r q
end
abbrev gs:List Nat->TGs
 | []=>DK
 | i::r=>zM (ly i) (gs r)
abbrev gT(K:PySem.W.Frag):List Nat->TG
 | [i]=>ly i
 | is=>fun v σ H Q=>me K is.length (gs is) v σ H Q\/mL K is.length (gs is) v σ H Q
abbrev cM:List Nat->List V->L2.St->L2.St
 | i::is,v::vs,σ=>cM is vs (σ.set i (some v))
 | _,_,σ=>σ
abbrev ef:List Nat->List RL.D->RL.St->RL.St
 | i::is,d::ds,σ=>ef is ds (σ.set i (some d))
 | _,_,σ=>σ
def hX:∀ {is:List Nat} {ds:List RL.D} {σ σ1:RL.St},RL.bV is ds σ=some σ1->is.length=ds.length/\σ1=ef is ds σ
 | [],[],σ,σ1,h=>by cases h;exact⟨rfl,rfl⟩
 | [],d::ds,σ,σ1,h=>by cases h
 | i::is,[],σ,σ1,h=>by cases h
 | i::is,d::ds,σ,σ1,h=>by
  obtain⟨h1,h2⟩:=hX (is:=is) (ds:=ds) (σ:=σ.set i (some d)) h;exact⟨by simp[h1],h2⟩
def iM:∀ {is:List Nat} {vs:List V} {σ:L2.St} {H:Hp} {Q:L2.St->Hp->Prop},is.length=vs.length->Q (cM is vs σ) H->gs is vs σ H Q
 | [],[],σ,H,Q,_,q=>⟨rfl,q⟩
 | [],_::_,_,_,_,h,_=>by simp at h
 | _::_,[],_,_,_,h,_=>by simp at h
 | i::is,v::vs,σ,H,Q,h,q=>⟨v,vs,rfl,iM (is:=is) (by simpa using h) q⟩
def tG{K:PySem.W.Frag}(h:RL.aF tg d σD=some σD1)(r:Rep nP K H d v) :
  ∃ ds vs,σD1=ef tg ds σD/\tg.length=ds.length/\ah nP K H ds vs/\(d.imm=true->RL.ax ds=true)/\∀ (σ:L2.St) (Q:L2.St->Hp->Prop),Q (cM tg vs σ) H->gT K tg v σ H Q:=by
 unfold RL.aF at h;split at h
 ·rename_i i;cases h;exact⟨[d],[v],rfl,rfl,ah.cons r ah.nil,fun z=>by simp[RL.ax,z],fun σ Q q=>q⟩
 ·rename_i hne
  have key:gT K tg=fun v σ H Q=>me K tg.length (gs tg) v σ H Q\/mL K tg.length (gs tg) v σ H Q:=by
   unfold gT;split
   ·rename_i i;exact absurd rfl (hne i)
   ·rfl
  rw[key];split at h
  ·rename_i ds;obtain⟨h1,h2⟩:=hX h;obtain⟨p,xs,rfl,e2,e3⟩:=bq r;exact⟨ds,xs,h2,h1,e3,fun z=>by rw[RL.D.imm]at z;exact z,fun σ Q q=>.inl ⟨p,xs,rfl,SqT.of e2,by rw[<-e3.length,h1],iM (h1.trans e3.length) q⟩⟩
  ·rename_i ds;obtain⟨h1,h2⟩:=hX h;obtain⟨p,xs,rfl,_,e2,e3⟩:=aH r;exact⟨ds,xs,h2,h1,e3,fun z=>(by cases z),fun σ Q q=>.inr ⟨p,xs,rfl,SqL.of e2,by rw[<-e3.length,h1],iM (h1.trans e3.length) q⟩⟩
  ·cases h
def ph:∀ (is:List Nat) (vs:List V) (σ:L2.St),(cM is vs σ).length=σ.length
 | [],_,_=>rfl
 | _::_,[],_=>rfl
 | i::is,v::vs,σ=>by rw[cM,ph is vs,List.length_set]
def m5:∀ (is:List Nat) (vs:List V) (σ:L2.St) (j:Nat),is.contains j=false->(cM is vs σ)[j]?=σ[j]?
 | [],_,_,_,_=>rfl
 | _::_,[],_,_,_=>rfl
 | i::is,v::vs,σ,j,h=>by
  rw[List.contains_cons,Bool.or_eq_false_iff]at h;rw[cM,m5 is vs _ j h.2,List.getElem?_set_ne (by intro e;subst e;simp at h)]
def la:∀ (is:List Nat) (vs:List RL.D) (σ:RL.St),(ef is vs σ).length=σ.length
 | [],_,_=>rfl
 | _::_,[],_=>rfl
 | i::is,v::vs,σ=>by rw[ef,la is vs,List.length_set]
def kr:∀ (is:List Nat) (vs:List RL.D) (σ:RL.St) (j:Nat),is.contains j=false->(ef is vs σ)[j]?=σ[j]?
 | [],_,_,_,_=>rfl
 | _::_,[],_,_,_=>rfl
 | i::is,v::vs,σ,j,h=>by
  rw[List.contains_cons,Bool.or_eq_false_iff]at h;rw[ef,kr is vs _ j h.2,List.getElem?_set_ne (by intro e;subst e;simp at h)]
abbrev RVx(T:List Nat)(K:PySem.W.Frag)(σD:RL.St)(σ:L2.St)(H:Hp):Prop:=σD.length<=σ.length/\∀ (i:Nat) (d:RL.D),T.contains i=false->σD[i]?=some (some d)->∃ v,σ[i]?=some (some v)/\Rep nP K H d v
def RVx.set{K:PySem.W.Frag}(h:RVx (i::T) K σD σ H)(r:Rep nP K H d v):RVx T K (σD.set i (some d)) (σ.set i (some v)) H:=⟨by simpa using h.1,fun j dj hT e=>by
 by_cases hj:j=i
 ·subst hj
  have hlt:j<σD.length:=by
   have:=(List.getElem?_eq_some_iff.mp e).1;simpa using this
  rw[List.getElem?_set_self hlt]at e;cases e;exact⟨v,by rw[List.getElem?_set_self (Nat.lt_of_lt_of_le hlt h.1)],r⟩
 ·rw[List.getElem?_set_ne (Ne.symm hj)]at e ⊢
  exact h.2 j dj (by rw[List.contains_cons,hT,Bool.or_false];simpa using hj) e⟩
def RVx.bV{K:PySem.W.Frag}:∀ {is:List Nat} {ds:List RL.D} {vs:List V} {σD:RL.St} {σ:L2.St},RVx is K σD σ H->is.length=ds.length->ah nP K H ds vs->RV0 K (ef is ds σD) (cM is vs σ) H
 | [],_,_,_,_,h,_,_=>⟨h.1,fun i d e=>h.2 i d rfl e⟩
 | i::is,[],_,_,_,_,hl,_=>by simp at hl
 | i::is,d::ds,vs,σD,σ,h,hl,r=>by
  rw[ah]at r;obtain⟨v,t,rfl,r1,r2⟩:=r;rw[ef,cM];exact RVx.bV (h.set r1) (by simpa using hl) r2
def CW{K:PySem.W.Frag}(h:gT K tg v σ H Q):∃ vs,tg.length=vs.length/\Q (cM tg vs σ) H/\∀ Q':L2.St->Hp->Prop,Q' (cM tg vs σ) H->gT K tg v σ H Q':=by
 have inv:∀ (is:List Nat) (xs:List V) (σ:L2.St) (Q:L2.St->Hp->Prop),gs is xs σ H Q->is.length=xs.length/\Q (cM is xs σ) H:=by
  intro is
  induction is with
  | nil=>intro xs σ Q h;obtain⟨rfl,q⟩:=h;exact⟨rfl,q⟩
  |cons i r ih=>
   intro xs σ Q h;obtain⟨v,t,rfl,q⟩:=h;obtain⟨h1,h2⟩:=ih t _ Q q;exact⟨by simp[h1],h2⟩
 unfold gT at h;split at h
 ·rename_i i;exact⟨[v],rfl,h,fun Q' q=>q⟩
 ·rename_i hne
  have key:gT K tg=fun v σ H Q=>me K tg.length (gs tg) v σ H Q\/mL K tg.length (gs tg) v σ H Q:=by
   unfold gT;split
   ·rename_i i;exact absurd rfl (hne i)
   ·rfl
  rw[key]
  rcases h with⟨a,xs,rfl,hq,hl,hg⟩ | ⟨a,xs,rfl,hq,hl,hg⟩
  ·obtain⟨h1,h2⟩:=inv _ _ _ _ hg;exact⟨xs,h1,h2,fun Q' q=>.inl ⟨a,xs,rfl,hq,hl,iM h1 q⟩⟩
  ·obtain⟨h1,h2⟩:=inv _ _ _ _ hg;exact⟨xs,h1,h2,fun Q' q=>.inr ⟨a,xs,rfl,hq,hl,iM h1 q⟩⟩
abbrev fT(tg:List Nat)(σ:L2.St):L2.St:=σ.mapIdx fun i o=>if tg.contains i then none else o
def qH(tg:List Nat)(σ:L2.St):(fT tg σ).length=σ.length:=by simp[fT]
def sJ(h:tg.contains i=false):(fT tg σ)[i]?=σ[i]?:=by
 unfold fT;rw[List.getElem?_mapIdx]
 cases σ[i]? with
 | none=>rfl
 | some o=>simp only[Option.map_some,h,Bool.false_eq_true,if_false]
def rW(h:tg.contains i=true):(fT tg σ)[i]?≠some (some v):=by
 unfold fT;rw[List.getElem?_mapIdx]
 cases σ[i]? with
 | none=>simp
 | some o=>simp only[Option.map_some,h,if_true];intro z;cases z
section comp
variable{X:Cx}
structure jf(X:Cx)(cl:RL.Cl)(scope:Scope)(tgE:Expr)(tg:List Nat)(elt:Expr)(e':RL.E)(tcs:TT)(ifs:List Expr):Prop where
 htg:∀ cls C fp s H,PG (blk X scope cls C fp s H) tgE (gT X.K tg)
 htc:∀ cls C fp s H pins s' σ H' Q,Inv (blk X scope cls C fp s H) pins σ H' s'->tcs σ H' Q->wpAny (model X.prog X.w) X.A (gO ifs (compEnvC scope cls C X.env)) (TP (blk X scope cls C fp s H) pins σ Q) (fun _ _=>False) s'
 hte:∀ cls C fp s H,SE (blk X scope cls C fp s H) cl elt e'
 cover:∀ (i:Nat) (x:Str),X.N[i]?=some x->scope.names.lookup x=some .local\/scope.names.lookup x=some .cell->tg.contains i=true
def jf.blk{tcs:TT}(B:jf X cl scope tgE tg elt e' tcs ifs):oA X scope tgE ifs elt (fT tg) (gT X.K tg) tcs (tE X.K cl e') where
 htg:=B.htg
 htc:=B.htc
 hte:=B.hte
 DU:=fun σ hl=>⟨qH tg σ,fun i x v h1 h2=>by
  by_cases hc:tg.contains i=true
  ·exact absurd h2 (rW hc)
  ·simp only[Bool.not_eq_true]at hc;rw[sJ hc]at h2;refine⟨h2,fun z=>?_,fun z=>?_⟩
   ·rw[B.cover i x h1 (.inl z)]at hc;cases hc
   ·rw[B.cover i x h1 (.inr z)]at hc
    cases hc⟩
 zE:=fun x σ H Q h=>by
  obtain⟨vs,h1,h2,h3⟩:=CW h;refine h3 _ ⟨h2,(ph _ _ _).symm,fun i v e=>?_⟩;by_cases hc:tg.contains i=true
  ·exact absurd e (rW hc)
  ·simp only[Bool.not_eq_true]at hc;rw[m5 _ _ _ _ hc];exact e
def vV(h:RL.cJ f tg σ (d::r)=some ys):∃ σ1 y ys',RL.aF tg d σ=some σ1/\f σ1=some y/\RL.cJ f tg σ r=some ys'/\RL.j7 y ys'=some ys:=by
 rw[RL.cJ]at h;obtain⟨σ1,h1,h⟩:=bind_some h;obtain⟨y,h2,h⟩:=bind_some h;obtain⟨ys',h3,h⟩:=bind_some h;exact⟨σ1,y,ys',h1,h2,h3,h⟩
def sU(rv:RV0 X.K σD σ H)(ei:RL.bp cl σD it=some ds)(hz:ds.length<=RL.most)(hm:RL.cJ f tg σD ds=some total)
 (ht:∀ σ1 σV H y (Q:Bool->Hp->Prop),RV0 X.K σ1 σV H->f σ1=some y->(∀ k H',au H H'->(if k=true then ∃ d,y=some d/\RL.ev cl σ1 e'=some d else y=none)->Q k H')->tcs σV H Q)
 (k:∀ l H',au H H'->H l=none->(∃ xs,H' l=some (.lst xs)/\ah nP X.K H' total xs)->Q (.ref l) H'):iG (tI X.K cl it) (fT tg) (gT X.K tg) tcs (tE X.K cl e') σ H Q:=by
 refine⟨σD,ds,rv,ei,fun J H1 s1 src l hl=>?_⟩;obtain⟨ok,_⟩:=src
 refine⟨fun i m xs H2=>∃ don rest,m=ds.length-i/\i<=ds.length/\au H1 H2/\H2 l=some (.lst xs)/\ah (fun p=>p=l) X.K H2 don xs/\RL.cJ f tg σD (ds.drop i)=some rest/\don++rest=total/\don.length<=i,
  ⟨_,[],total,rfl,Nat.zero_le _,au.bH hl,aP,ah.nil,hm,rfl,Nat.le_refl _⟩,?_⟩
 rintro i m xs H2 ⟨don,rest,rfl,hi,s2,hl2,rs,hr,htot,hdn⟩;refine⟨hl2,?_⟩;have off:Off nP H1 H2:=Off.same s2;by_cases hlt:i<ds.length
 ·refine .inr ⟨ok.go H2 i off hlt,fun x H3 y=>?_⟩
  have hd:ds[i]?=some ds[i]:=by simp[hlt]
  obtain⟨s3,rp⟩:=ok.yld H2 i ds[i] x H3 off hd y;have rp:=rp (.inr s2);rw[List.drop_eq_getElem_cons hlt]at hr;obtain⟨σ1,y1,ys',h1,h2,h3,h4⟩:=vV hr;obtain⟨dv,vs,e1,e2,e3,_,e5⟩:=tG h1 rp;refine e5 _ _ ?_;have rv3:RV0 X.K σD σ H3:=rv.same ((s1.trans s2).trans s3)
  have rvx:RVx tg X.K σD (fT tg σ) H3:=⟨by rw[qH];exact rv3.1,fun j d hT e=>by rw[sJ hT];exact rv3.2 j d e⟩
  have rv1:RV0 X.K σ1 (cM tg vs (fT tg σ)) H3:=by rw[e1];exact rvx.bV e2 e3
  refine ht σ1 _ H3 y1 _ rv1 h2 fun t H5 s5 hy=>?_;have hl5:H5 l=some (.lst xs):=s5 _ _ (s3 _ _ hl2);have rs5:ah (fun p=>p=l) X.K H5 don xs:=(rs.same s3).same s5
  cases t with
  |true=>
   obtain⟨d,rfl,hv⟩:=(show ∃ d,y1=some d/\RL.ev cl σ1 e'=some d from hy)
   have him:d.imm=true/\rest=d::ys':=by
    unfold RL.j7 at h4;dsimp only at h4;split at h4
    ·rename_i hh;cases h4;exact⟨hh,rfl⟩
    ·cases h4
   refine eJ ⟨σ1,d,rv1.same s5,hv,fun v H6 r6=>⟨r6.same _ _ hl5,?_,ds.length-(i+1),by lia,don++[d],ys',rfl,hlt,?_,aP,?_,h3,?_,?_⟩⟩
   ·rw[<-rs.length];exact Nat.lt_of_lt_of_le (Nat.lt_of_le_of_lt hdn (Nat.lt_of_lt_of_le hlt hz)) (Nat.le_of_lt (by decide))
   ·intro b o e;have hb:b≠l:=aK e hl;rw[aJ hb];exact r6.same _ _ (s5 _ _ (s3 _ _ (s2 _ _ e)))
   ·exact ah.upd (P:=fun p=>p=l) (r6.same _ _ hl5) (.inl ⟨_,rfl⟩) rfl (ah.append (rs5.same r6.same) (ah.cons (r6.rep.imm him.1) ah.nil))
   ·rw[<-htot,him.2,List.append_assoc];rfl
   ·rw[List.length_append,List.length_singleton];lia
  |false=>
   have hy:y1=none:=hy;subst hy
   have hr2:rest=ys':=by
    unfold RL.j7 at h4;dsimp only at h4;cases h4;rfl
   refine ff ⟨ds.length-(i+1),by lia,don,ys',rfl,hlt,(s2.trans s3).trans s5,hl5,rs5,h3,by rw[<-htot,hr2],by lia⟩
 ·have e:i=ds.length:=by lia
  subst e;refine .inl ⟨ok.stop H2 off,k l H2 (s1.trans s2) (s1.free hl) ⟨xs,hl2,?_⟩⟩;rw[List.drop_length,RL.cJ]at hr;cases hr;rw[List.append_nil]at htot;rw[<-htot];exact ah.weak (fun _ z=>z.elim) rs
end comp
section comp
variable{X:Cx}
structure mr(scope sc:Scope):Prop where
 kind:scope.kind=.function
 own:∀ x∈scope.names,x.2=.cell->scope.names.lookup x.1=some .cell
 loc:∀ x∈scope.names,x.2=.local->scope.names.lookup x.1=some .local
 vis:∀ x∈scope.names,x.2=.free->sc.names.lookup x.1=some .cell\/sc.names.lookup x.1=some .free
def gi(S:mr scope X.env.scope)(I:Inv X pins σ H s):∃ cls,closureFor scope X.env=pure cls/\fH scope X.env.scope cls X.env.cells:=by
 obtain⟨cls,h1,h2,h3⟩:=t5 (env:=X.env) (scope:=scope) fun x hx=>I.ok.has x (S.vis _ hx rfl);exact⟨cls,h1,S.kind,S.own,S.loc,h2,h3,fun x hx=>S.vis _ (PySem.mem_of_lookup hx) rfl⟩
def pN(sm:au H H')(hl:H l=none)(h:∃ xs,H' l=some (.lst xs)/\ah nP X.K H' total xs)(hav:∀ M,RL.avE M e=false):Res X.K σD σ H e (.lst total) (.ref l) H' where
 same:=sm
 rep:=by
  obtain⟨xs,h1,h2⟩:=h;rw[Rep];exact⟨l,xs,rfl,fun z=>z,h1,h2⟩
 fresh:=fun _ _ a z=>by cases z;exact hl
 av:=fun M z=>by rw[hav M]at z;cases z
abbrev lC:TT:=fun _ H Q=>Q true H
def qB(h:tE X.K cl (.compA e' tg it) σ H Q):iG (tI X.K cl it) (fT tg) (gT X.K tg) lC (tE X.K cl e') σ H Q:=by
 obtain⟨σD,d,rv,e,k⟩:=h;obtain⟨ds,e1,e⟩:=bind_some e;obtain⟨ds',e2,e⟩:=bind_some e;obtain⟨total,e3,e4⟩:=map_some e;unfold RL.fits at e2;split at e2
 ·rename_i hz;cases e2;subst e4;refine sU (f:=fun σ1=>(RL.ev cl σ1 e').map some) rv e1 hz e3 (fun σ1 σV H y Q rv1 hy q=>?_) fun l H' sm hl hx=>k _ _ (pN sm hl hx fun _=>rfl);obtain⟨d,h1,h2⟩:=map_some hy;exact q true H (au.refl H) (eJ ⟨d,h2.symm,h1⟩)
 ·cases e2
def qA(h:tE X.K cl (.comp e' tg it c') σ H Q):iG (tI X.K cl it) (fT tg) (gT X.K tg) (tT X.K cl c') (tE X.K cl e') σ H Q:=by
 obtain⟨σD,d,rv,e,k⟩:=h;obtain⟨ds,e1,e⟩:=bind_some e;obtain⟨ds',e2,e⟩:=bind_some e;obtain⟨total,e3,e4⟩:=map_some e;unfold RL.fits at e2;split at e2
 ·rename_i hz;cases e2;subst e4;refine sU rv e1 hz e3 (fun σ1 σV H y Q rv1 hy q=>?_) fun l H' sm hl hx=>k _ _ (pN sm hl hx fun _=>rfl);obtain⟨t,h1,h2⟩:=bind_some hy;refine⟨σ1,t,rv1,h1,fun H' sm=>q t H' sm ?_⟩
  cases t with
  |true=>
   obtain⟨d,h3,h4⟩:=map_some (show(RL.ev cl σ1 e').map some=some y from h2);exact eJ ⟨d,h4.symm,h3⟩
  |false=>
   cases(show(some none:Option (Option RL.D))=some y from h2);exact ff rfl
 ·cases e2
def xI(hc:X.calm=true)(S:mr scope X.env.scope)(hi:SI X cl tgE iter it)(B:jf X cl scope tgE tg elt e' lC [])(hs:∀ x,foldedSetIterable iter X.env x=pure x):SE X cl (.ListComp elt [⟨tgE,iter,[],0⟩] scope pos) (.compA e' tg it):=by
 intro pins s σ H Q I h;obtain⟨cls,h1,h2⟩:=gi S I;exact sv (fun _ _ _ _=>hc) h2 h1 hi B.blk hs pins s σ H Q I (qB h)
def pd(hc:∀ {pins:List (Addr × Obj)} {σ:L2.St} {H:Hp} {s:Shared} (cls:List (Str × Addr)) (C:Addr) (fp:List Addr),Inv X pins σ H s->CM (blk X scope cls C fp s H))(S:mr scope X.env.scope)(hi:PI' CM X tgE iter (tI X.K cl it))(B:jf X cl scope tgE tg elt e' (tT X.K cl c') [c])(hs:∀ x,foldedSetIterable iter X.env x=pure x):SE X cl (.ListComp elt [⟨tgE,iter,[c],0⟩] scope pos) (.comp e' tg it c'):=by
 intro pins s σ H Q I h;obtain⟨cls,h1,h2⟩:=gi S I;exact sv hc h2 h1 hi B.blk hs pins s σ H Q I (qA h)
abbrev SA(X:Cx)(cl:RL.Cl)(st:Stmt)(i:Nat)(e':RL.E):Prop:=PS X st (fun D σ H=>tE X.K cl e' σ H fun v H1=>D.nx (σ.set i (some v)) H1)
def PS.weak{st:Stmt}(h:PS X st t)(w:∀ D σ H,t' D σ H->t D σ H):PS X st t':=fun pins s σ H D I q=>h pins s σ H D I (w D σ H q)
def PSs.weak{st:List Stmt}(h:PSs X st t)(w:∀ D σ H,t' D σ H->t D σ H):PSs X st t':=fun pins s σ H D I q=>h pins s σ H D I (w D σ H q)
def xv(hc:X.calm=true)(hN:X.N.Nodup)(hiy:X.N[i]?=some y)(hy:X.env.scope.names.lookup y=some .local)(S:mr scope X.env.scope)(hi:SI X cl tgE iter it)(B:jf X cl scope tgE tg elt e' lC [])(hs:∀ x,foldedSetIterable iter X.env x=pure x)
 (hsw:swapsWith (.ListComp elt [⟨tgE,iter,[],0⟩] scope pos) (some (.Name y py)) spos.line X.env=pure true):SA X cl (.Assign [.Name y py] (.ListComp elt [⟨tgE,iter,[],0⟩] scope pos) spos) i (.compA e' tg it):=by
 intro pins s σ H D I h;obtain⟨cls,h1,h2⟩:=gi S I;exact sL hc hN hiy hy h2 h1 hi B.blk hs hsw pins s σ H D I (qB h)
def xS(hc:X.calm=true)(hN:X.N.Nodup)(hiy:X.N[i]?=some y)(hy:X.env.scope.names.lookup y=some .local)(S:mr scope X.env.scope)(hi:SI X cl tgE iter it)(B:jf X cl scope tgE tg elt e' (tT X.K cl c') [c])(hs:∀ x,foldedSetIterable iter X.env x=pure x)
 (hsw:swapsWith (.ListComp elt [⟨tgE,iter,[c],0⟩] scope pos) (some (.Name y py)) spos.line X.env=pure true):SA X cl (.Assign [.Name y py] (.ListComp elt [⟨tgE,iter,[c],0⟩] scope pos) spos) i (.comp e' tg it c'):=by
 intro pins s σ H D I h;obtain⟨cls,h1,h2⟩:=gi S I;exact sL hc hN hiy hy h2 h1 hi B.blk hs hsw pins s σ H D I (qA h)
def xN(hN:X.N.Nodup)(hiy:X.N[i]?=some y)(hx:Loc X.env.scope y)(he:SE X cl e e')(hf:X.fn y=true\/X.env.scope.names.lookup y=some .local)(hs:swapsWith e (some (.Name y py)) spos.line X.env=pure false)(hf2:True):SA X cl (.Assign [.Name y py] e spos) i e':=by
 exact oR hN hiy hx he hs hf
end comp
abbrev bh(M:List Nat)(σ:L2.St):Addr->Prop:=fun a=>∃ i,M.contains i=true/\σ[i]?=some (some (.ref a))
abbrev Own(K:PySem.W.Frag)(H:Hp)(d:RL.D)(v:V):Prop:=mX d=true/\RL.aV d=true/\Rep nP K H d v
structure RVm(K:PySem.W.Frag)(M:List Nat)(σD:RL.St)(σ:L2.St)(H:Hp):Prop where
 len:σD.length=σ.length
 val:∀ (i:Nat) (d:RL.D),σD[i]?=some (some d)->∃ v,σ[i]?=some (some v)/\(if M.contains i=true then Own K H d v else Rep (bh M σ) K H d v)
 non:∀ (i:Nat) (v:V),σ[i]?=some (some v)->∃ d,σD[i]?=some (some d)
 sep:∀ (i j:Nat) (a:Addr),M.contains i=true->M.contains j=true->σ[i]?=some (some (.ref a))->σ[j]?=some (some (.ref a))->i=j
abbrev Fr'(M:List Nat)(σ:L2.St)(H:Hp)(σ':L2.St)(H':Hp):Prop:=(∀ b o,H b=some o->¬ bh M σ b->H' b=some o/\¬ bh M σ' b)/\∀ j,2<=M.count j->σ'[j]?=σ[j]?
def Fr'.trans(a:Fr' M σ H σ1 H1)(b:Fr' M σ1 H1 σ2 H2):Fr' M σ H σ2 H2:=⟨fun c o e n=>b.1 c o (a.1 c o e n).1 (a.1 c o e n).2,fun j hj=>(b.2 j hj).trans (a.2 j hj)⟩
def Fr'.same(s:au H H1):Fr' M σ H σ H1:=⟨fun c o e n=>⟨s _ _ e,n⟩,fun _ _=>rfl⟩
def iB{M:List Nat}(h:2<=M.count j):M.contains j=true:=by
 have:0<M.count j:=by lia
 simpa using List.count_pos_iff.mp this
section st
variable{K:PySem.W.Frag}
def Own.ref(h:Own K H d v):∃ a o,v=.ref a/\H a=some o/\cN o:=by
 obtain⟨m,_,r⟩:=h
 cases d with
 | lst ds=>obtain⟨a,xs,e1,_,e2,_⟩:=aH r;exact⟨a,_,e1,e2,.inl ⟨_,rfl⟩⟩
 | dK ks ds=>rw[Rep]at r;obtain⟨a,xs,e1,_,e2,_⟩:=r;exact⟨a,_,e1,e2,.inr (.inl ⟨_,rfl⟩)⟩
 | dT ks ds=>rw[Rep]at r;obtain⟨a,xs,e1,_,e2,_⟩:=r;exact⟨a,_,e1,e2,.inr (.inr ⟨_,rfl⟩)⟩
 | _=>cases m
def RVm.rv0(h:RVm K M σD σ H):RV0 K σD σ H:=⟨Nat.le_of_eq h.len,fun i d e=>by
 obtain⟨v,h1,h2⟩:=h.val i d e;refine⟨v,h1,?_⟩;by_cases hm:M.contains i=true
 ·rw[if_pos hm]at h2;exact h2.2.2
 ·rw[if_neg hm]at h2
  exact h2.none⟩
def RVm.t8(h:RVm K M σD σ H):∀ a,bh M σ a->∃ o,H a=some o/\cN o:=fun a ⟨i,hi,e⟩=>by
 obtain⟨d,hd⟩:=h.non i _ e;obtain⟨v,h1,h2⟩:=h.val i d hd;rw[if_pos hi]at h2;obtain⟨b,o,e1,e2,e3⟩:=h2.ref;rw[e]at h1;cases h1;cases e1;exact⟨o,e2,e3⟩
def RVm.yO(h:RVm K M σD σ H):∀ a,bh M σ a->H a≠none:=fun a p=>by
 obtain⟨o,e,_⟩:=h.t8 a p;rw[e]
 exact fun z=>nomatch z
def Own.same(h:Own K H d v)(s:au H H1):Own K H1 d v:=⟨h.1,h.2.1,h.2.2.same s⟩
def RVm.same(h:RVm K M σD σ H)(s:au H H1):RVm K M σD σ H1:=⟨h.len,fun i d e=>by
 obtain⟨v,h1,h2⟩:=h.val i d e;refine⟨v,h1,?_⟩;by_cases hm:M.contains i=true
 ·rw[if_pos hm]at h2 ⊢;exact h2.same s
 ·rw[if_neg hm]at h2 ⊢
  exact h2.same s,h.non,h.sep⟩
def bh.set(hi:M.contains i=false):bh M (σ.set i (some v))=bh M σ:=by
 funext a;apply propext;constructor
 ·rintro⟨j,hj,e⟩
  have hne:i≠j:=fun z=>by subst z;rw[hi]at hj;cases hj
  rw[List.getElem?_set_ne hne]at e;exact⟨j,hj,e⟩
 ·rintro⟨j,hj,e⟩
  have hne:i≠j:=fun z=>by subst z;rw[hi]at hj;cases hj
  exact⟨j,hj,by rw[List.getElem?_set_ne hne];exact e⟩
def RVm.bind(h:RVm K M σD σ H)(hi:M.contains i=false)(r:Rep (bh M σ) K H d v):RVm K M (σD.set i (some d)) (σ.set i (some v)) H where
 len:=by simpa using h.len
 val:=fun j dj e=>by
  rw[bh.set hi];by_cases hj:j=i
  ·subst hj
   have hlt:j<σD.length:=by
    have:=(List.getElem?_eq_some_iff.mp e).1;simpa using this
   rw[List.getElem?_set_self hlt]at e;cases e;refine⟨v,by rw[List.getElem?_set_self (by rw[<-h.len];exact hlt)],?_⟩;rw[if_neg (by rw[hi];decide)];exact r
  ·rw[List.getElem?_set_ne (Ne.symm hj)]at e ⊢;exact h.val j dj e
 non:=fun j w e=>by
  by_cases hj:j=i
  ·subst hj
   have hlt:j<σ.length:=by
    have:=(List.getElem?_eq_some_iff.mp e).1;simpa using this
   exact⟨d,by rw[List.getElem?_set_self (by rw[h.len];exact hlt)]⟩
  ·rw[List.getElem?_set_ne (Ne.symm hj)]at e ⊢;exact h.non j w e
 sep:=fun j k a hj hk e1 e2=>by
  have n1:i≠j:=fun z=>by subst z;rw[hi]at hj;cases hj
  have n2:i≠k:=fun z=>by subst z;rw[hi]at hk;cases hk
  rw[List.getElem?_set_ne n1]at e1;rw[List.getElem?_set_ne n2]at e2;exact h.sep j k a hj hk e1 e2
def Fr'.bind{i:Nat}(hi:M.contains i=false)(s:au H H1):Fr' M σ H (σ.set i (some v)) H1:=⟨fun b o e n=>⟨s _ _ e,by rw[bh.set hi];exact n⟩,fun j hj=>List.getElem?_set_ne (fun z=>by subst z;rw[iB hj]at hi;cases hi)⟩
end st
mutual
theorem Rep.eS{P:Addr->Prop}{K:PySem.W.Frag}{H:Hp}{a:Addr}(ha:H a=none):∀ {d:RL.D} {v:V},Rep P K H d v->Rep (fun p=>P p\/p=a) K H d v
 | .non,v,h=>by simpa[Rep]using h
 | .bl _,v,h=>by simpa[Rep]using h
 | .int _,v,h=>by simpa[Rep]using h
 | .str _,v,h=>by simpa[Rep]using h
 | .tup ds,v,h=>by
  rw[Rep]at h ⊢;obtain⟨b,xs,e1,e2,e3⟩:=h;exact⟨b,xs,e1,e2,ah.eS ha e3⟩
 | .lst ds,v,h=>by
  rw[Rep]at h ⊢;obtain⟨b,xs,e1,e0,e2,e3⟩:=h;exact⟨b,xs,e1,fun z=>z.elim e0 (fun q=>aK e2 ha q),e2,ah.eS ha e3⟩
 | .dK ks ds,v,h=>by
  rw[Rep]at h ⊢;obtain⟨b,xs,e1,e0,e2,el,e3⟩:=h;exact⟨b,xs,e1,fun z=>z.elim e0 (fun q=>aK e2 ha q),e2,el,ah.eS ha e3⟩
 | .dT ks ds,v,h=>by
  rw[Rep]at h ⊢;obtain⟨b,xs,e1,e0,e2,el,e3⟩:=h;exact⟨b,xs,e1,fun z=>z.elim e0 (fun q=>aK e2 ha q),e2,el,ah.eS ha e3⟩
 | .scr ds,v,h=>by
  rw[Rep]at h ⊢;obtain⟨b,xs,e1,e2,e3⟩:=h;exact⟨b,xs,e1,e2,ah.eS ha e3⟩
 | .exc c,v,h=>by rw[Rep]at h ⊢;exact h
theorem ah.eS{P:Addr->Prop}{K:PySem.W.Frag}{H:Hp}{a:Addr}(ha:H a=none):∀ {ds:List RL.D} {xs:List V},ah P K H ds xs->ah (fun p=>P p\/p=a) K H ds xs
 | [],xs,h=>by rw[ah]at h ⊢;exact h
 | d::r,xs,h=>by
  rw[ah]at h ⊢;obtain⟨x,t,e1,e2,e3⟩:=h;exact⟨x,t,e1,Rep.eS ha e2,ah.eS ha e3⟩
end
section st
variable{K:PySem.W.Frag}
def RVm.own(h:RVm K M σD σ H)(s:au H H1)(hi:M.contains i=true)(hi2:M.count i<2)(ha:H a=none)(r:Own K H1 d (.ref a)):RVm K M (σD.set i (some d)) (σ.set i (some (.ref a))) H1/\Fr' M σ H (σ.set i (some (.ref a))) H1:=by
 have sub:∀ b,bh M (σ.set i (some (.ref a))) b->bh M σ b\/b=a:=fun b ⟨j,hj,e⟩=>by
  by_cases hji:j=i
  ·subst hji
   have hlt:j<σ.length:=by
    have:=(List.getElem?_eq_some_iff.mp e).1;simpa using this
   rw[List.getElem?_set_self hlt]at e;cases e;exact .inr rfl
  ·rw[List.getElem?_set_ne (Ne.symm hji)]at e;exact .inl ⟨j,hj,e⟩
 have old:∀ b,bh M σ b->b≠a:=fun b p z=>h.yO b p (z▸ha);refine⟨⟨by simpa using h.len,fun j dj e=>?_,fun j w e=>?_,fun j k b hj hk e1 e2=>?_⟩,⟨fun b o e n=>⟨s _ _ e,fun z=>(sub b z).elim n fun q=>aK e ha q⟩,fun j hj=>List.getElem?_set_ne (fun z=>by subst z;lia)⟩⟩
 ·by_cases hj:j=i
  ·subst hj
   have hlt:j<σD.length:=by
    have:=(List.getElem?_eq_some_iff.mp e).1;simpa using this
   rw[List.getElem?_set_self hlt]at e;cases e;refine⟨.ref a,by rw[List.getElem?_set_self (by rw[<-h.len];exact hlt)],?_⟩;rw[if_pos hi];exact r
  ·rw[List.getElem?_set_ne (Ne.symm hj)]at e ⊢;obtain⟨v,h1,h2⟩:=h.val j dj e;refine⟨v,h1,?_⟩;by_cases hm:M.contains j=true
   ·rw[if_pos hm]at h2 ⊢;exact h2.same s
   ·rw[if_neg hm]at h2 ⊢;exact((h2.eS ha).weak sub).same s
 ·by_cases hj:j=i
  ·subst hj
   have hlt:j<σ.length:=by
    have:=(List.getElem?_eq_some_iff.mp e).1;simpa using this
   exact⟨d,by rw[List.getElem?_set_self (by rw[h.len];exact hlt)]⟩
  ·rw[List.getElem?_set_ne (Ne.symm hj)]at e ⊢;exact h.non j w e
 ·by_cases h1:j=i
  ·by_cases h2:k=i
   ·rw[h1,h2]
   ·subst h1
    have hlt:j<σ.length:=by
     have:=(List.getElem?_eq_some_iff.mp e1).1;simpa using this
    rw[List.getElem?_set_self hlt]at e1;rw[List.getElem?_set_ne (Ne.symm h2)]at e2;cases e1;exact absurd rfl (old _ ⟨k,hk,e2⟩)
  ·rw[List.getElem?_set_ne (Ne.symm h1)]at e1;by_cases h2:k=i
   ·subst h2
    have hlt:k<σ.length:=by
     have:=(List.getElem?_eq_some_iff.mp e2).1;simpa using this
    rw[List.getElem?_set_self hlt]at e2;cases e2;exact absurd rfl (old _ ⟨j,hj,e1⟩)
   ·rw[List.getElem?_set_ne (Ne.symm h2)]at e2;exact h.sep j k b hj hk e1 e2
def RVm.gQ(h:RVm K M σD σ H)(hi:M.contains i=true)(e:σ[i]?=some (some (.ref a)))(ha:H a=some o)(m:cN o)(r:Own K (upd H a o') d' (.ref a)):RVm K M (σD.set i (some d')) σ (upd H a o')/\Fr' M σ H σ (upd H a o'):=by
 have pa:bh M σ a:=⟨i,hi,e⟩
 refine⟨⟨by simpa using h.len,fun j dj e'=>?_,fun j w e'=>?_,h.sep⟩,⟨fun b u eb n=>⟨?_,n⟩,fun _ _=>rfl⟩⟩
 ·by_cases hj:j=i
  ·subst hj
   have hlt:j<σD.length:=by
    have:=(List.getElem?_eq_some_iff.mp e').1;simpa using this
   rw[List.getElem?_set_self hlt]at e';cases e';refine⟨.ref a,e,?_⟩;rw[if_pos hi];exact r
  ·rw[List.getElem?_set_ne (Ne.symm hj)]at e';obtain⟨v,h1,h2⟩:=h.val j dj e';refine⟨v,h1,?_⟩;by_cases hm:M.contains j=true
   ·rw[if_pos hm]at h2 ⊢;obtain⟨b,ob,rfl,hb,_⟩:=h2.ref
    have hne:b≠a:=fun z=>by subst z;exact hj (h.sep j i b hm hi h1 e)
    obtain⟨q1,q2,q3⟩:=h2;refine⟨q1,q2,?_⟩;have im:∀ {ds:List RL.D} {xs:List V},RL.ax ds=true->ah nP K H ds xs->ah nP K (L2.upd H a o') ds xs:=fun hi r=>(ah.upd (P:=fun p=>p=a) ha m rfl (r.imm hi)).imm hi
    cases dj with
    | lst ds=>obtain⟨b',xs,e1,e0,e2,e3⟩:=aH q3;cases e1;rw[Rep];exact⟨b,xs,rfl,fun z=>z,by rw[L2.aJ hne];exact e2,im q2 e3⟩
    | dK ks ds=>rw[Rep]at q3 ⊢;obtain⟨b',xs,e1,e0,e2,el,e3⟩:=q3;cases e1;exact⟨b,xs,rfl,fun z=>z,by rw[L2.aJ hne];exact e2,el,im q2 e3⟩
    | dT ks ds=>rw[Rep]at q3 ⊢;obtain⟨b',xs,e1,e0,e2,el,e3⟩:=q3;cases e1;exact⟨b,xs,rfl,fun z=>z,by rw[L2.aJ hne];exact e2,el,im q2 e3⟩
    | _=>cases q1
   ·rw[if_neg hm]at h2 ⊢;exact Rep.upd ha m pa h2
 ·obtain⟨dj,hd⟩:=h.non j w e';by_cases hj:j=i
  ·subst hj;have hlt:=(List.getElem?_eq_some_iff.mp hd).1;exact⟨d',by rw[List.getElem?_set_self hlt]⟩
  ·exact⟨dj,by rw[List.getElem?_set_ne (Ne.symm hj)];exact hd⟩
 ·have hb:b≠a:=fun z=>n (z▸pa);rw[L2.aJ hb];exact eb
end st
abbrev qt(K:PySem.W.Frag)(M:List Nat)(D:Ends)(σ:L2.St)(H:Hp):RL.Out->RL.St->Prop
 | .nx,σD'=>∀ σ' H',RVm K M σD' σ' H'->Fr' M σ H σ' H'->D.nx σ' H'
 | .rt d,σD'=>∀ σ1 H1 v H',RVm K M σD' σ1 H1->Fr' M σ H σ1 H1->au H1 H'->(∀ P:Addr->Prop,(∀ p,P p->H1 p≠none/\¬ bh M σ1 p)->Rep P K H' d v)->D.rt v H'
def qt.from{K:PySem.W.Frag}(h:qt K M D σ H r σD')(f:Fr' M σ H σ1 H1):qt K M D σ1 H1 r σD':=by
 cases r with
 | nx=>exact fun σ2 H2 rv2 fr2=>h σ2 H2 rv2 (f.trans fr2)
 | rt d=>exact fun σ1 H1 v H2 rv2 fr2 sm rp=>h σ1 H1 v H2 rv2 (f.trans fr2) sm rp
abbrev tS(K:PySem.W.Frag)(M:List Nat)(f:RL.St->Option (RL.Out × RL.St)):TS:=fun D σ H=>∃ σD r σD',RVm K M σD σ H/\f σD=some (r,σD')/\qt K M D σ H r σD'
abbrev SS(X:Cx)(cl:RL.Cl)(M:List Nat)(st:Stmt)(s:RL.S):Prop:=PS X st (tS X.K M (RL.evS cl M s))
abbrev SSs(X:Cx)(cl:RL.Cl)(M:List Nat)(st:List Stmt)(s:RL.Ss):Prop:=PSs X st (tS X.K M (RL.aj cl M s))
section rules
variable{st:Stmt}{i j:Nat}
def Aw:SSs X cl M [] .nil:=by
 refine PSs.weak AF fun D σ H h=>?_;obtain⟨σD,r,σD',rv,e,k⟩:=h;rw[RL.aj]at e;cases e;exact k σ H rv (Fr'.same (au.refl H))
def xM(h1:SS X cl M st s)(h2:SSs X cl M sts r):SSs X cl M (st::sts) (.cons s r):=by
 refine PSs.weak (kU h1 h2) fun D σ H h=>?_;obtain⟨σD,o,σD',rv,e,k⟩:=h;rw[RL.aj]at e;obtain⟨p,e1,e2⟩:=bind_some e;obtain⟨o1,σ1⟩:=p;refine⟨σD,o1,σ1,rv,e1,?_⟩
 cases o1 with
 |rt d=>
  cases e2;exact k
 |nx=>
  exact fun σ' H' rv' fr'=>⟨σ1,o,σD',rv',e2,k.from fr'⟩
def Dp(h:SA X cl st i e')(hi:M.contains i=false):SS X cl M st (.asg i e'):=by
 refine PS.weak h fun D σ H h=>?_;obtain⟨σD,o,σD',rv,e,k⟩:=h;obtain⟨d,e1,e2⟩:=bind_some e;split at e2
 ·rename_i ok;cases e2;refine⟨σD,d,rv.rv0,e1,fun v H1 r1=>k _ _ ?_ (Fr'.bind hi r1.same)⟩;refine(rv.same r1.same).bind hi ?_;unfold RL.bN at ok;rw[Bool.or_eq_true,Bool.or_eq_true,Bool.and_eq_true]at ok;rcases ok with(q | ⟨q1,q2⟩) | q
  ·exact r1.rep.imm q
  ·have rp:=r1.rep;have fr:mX d=true->∀ a,v=.ref a->¬ bh M σ a:=fun m a z p=>rv.yO a p (r1.fresh q2 m a z)
   cases d with
   | lst ds=>obtain⟨a,xs,e1,e0,e2,e3⟩:=aH rp;rw[Rep];exact⟨a,xs,e1,fr rfl a e1,e2,e3.imm q1⟩
   | dK ks ds=>rw[Rep]at rp ⊢;obtain⟨a,xs,e1,e0,e2,el,e3⟩:=rp;exact⟨a,xs,e1,fr rfl a e1,e2,el,e3.imm q1⟩
   | dT ks ds=>rw[Rep]at rp ⊢;obtain⟨a,xs,e1,e0,e2,el,e3⟩:=rp;exact⟨a,xs,e1,fr rfl a e1,e2,el,e3.imm q1⟩
   | _=>cases q1
  ·refine r1.av M q _ rv.yO fun j dj vj hj h1 h2=>?_;obtain⟨v',h3,h4⟩:=rv.val j dj h1;rw[h2]at h3;cases h3;rw[if_neg (by rw[hj];decide)]at h4;exact h4
 ·cases e2
def E7(h:SA X cl st i e')(hi:M.contains i=true)(hi2:M.count i<2):SS X cl M st (.own i e'):=by
 refine PS.weak h fun D σ H h=>?_;obtain⟨σD,o,σD',rv,e,k⟩:=h;obtain⟨d,e1,e2⟩:=bind_some e;split at e2
 ·rename_i ok;cases e2;rw[Bool.and_eq_true]at ok;refine⟨σD,d,rv.rv0,e1,fun v H1 r1=>?_⟩
  have m:mX d=true:=by
   cases d with
   | lst _=>rfl
   | dK _ _=>rfl
   | dT _ _=>rfl
   | _=>cases ok.1
  have ow:Own X.K H1 d v:=⟨m,ok.1,r1.rep⟩
  obtain⟨a,ob,rfl,_,_⟩:=ow.ref;obtain⟨h1,h2⟩:=rv.own r1.same hi hi2 (r1.fresh ok.2 m a rfl) ow;exact k _ _ h1 h2
 ·cases e2
def EZ{c:Expr}(hc:ST X cl c c')(ha:SSs X cl M a a')(hb:SSs X cl M b b'):SS X cl M (.If c a b pos) (.ife c' a' b'):=by
 refine PS.weak (uE hc ha hb) fun D σ H h=>?_;obtain⟨σD,o,σD',rv,e,k⟩:=h;obtain⟨t,e1,e2⟩:=bind_some e;refine⟨σD,t,rv.rv0,e1,fun H1 s1=>?_⟩;have k1:=k.from (Fr'.same (σ:=σ) s1)
 cases t with
 | true=>exact eJ ⟨σD,o,σD',rv.same s1,e2,k1⟩
 | false=>exact ff ⟨σD,o,σD',rv.same s1,e2,k1⟩
def Eg(he:SE X cl e e')(hv:∀ i,e'=.var i->M.contains i=false):SS X cl M (.Return (some e) pos) (.ret e'):=by
 refine PS.weak (qI he) fun D σ H h=>?_;obtain⟨σD,o,σD',rv,ev,k⟩:=h;obtain⟨d,e1,e2⟩:=bind_some ev;split at e2
 ·rename_i ok;cases e2;refine⟨σD,d,rv.rv0,e1,fun v H1 r1=>k σ H v H1 rv (Fr'.same (au.refl H)) r1.same fun P hP=>?_⟩;unfold RL.bz at ok;rw[Bool.or_eq_true,Bool.and_eq_true,Bool.or_eq_true]at ok
  rcases ok with q | ⟨q1,q2⟩
  ·exact r1.rep.imm q
  ·have rp:=r1.rep
   have fr:mX d=true->∀ a,v=.ref a->¬ P a:=fun m a z p=>by
    rcases q2 with q | q
    ·exact(hP a p).1 (r1.fresh q m a z)
    ·cases e' with
     |var i=>
      have hi:M.contains i=true:=q;rw[hv i rfl]at hi;cases hi
     | _=>cases q
   cases d with
   | lst ds=>obtain⟨a,xs,e1,e0,e2,e3⟩:=aH rp;rw[Rep];exact⟨a,xs,e1,fr rfl a e1,e2,e3.imm q1⟩
   | dK ks ds=>rw[Rep]at rp ⊢;obtain⟨a,xs,e1,e0,e2,el,e3⟩:=rp;exact⟨a,xs,e1,fr rfl a e1,e2,el,e3.imm q1⟩
   | dT ks ds=>rw[Rep]at rp ⊢;obtain⟨a,xs,e1,e0,e2,el,e3⟩:=rp;exact⟨a,xs,e1,fr rfl a e1,e2,el,e3.imm q1⟩
   | _=>cases q1
 ·cases e2
def Ai(hN:X.N[i]?=some x)(hv:Vis X.env.scope x)(hd:(x == ("__debug__" : Str))=false)(hcd:(x == ("__classdict__" : Str))=false)(hi:M.contains i=true):SS X cl M (.Return (some (.Name x p)) pos) (.ret (.var i)):=by
 refine PS.weak (qI (eP hN hv hd hcd)) fun D σ H h=>?_;obtain⟨σD,o,σD',rv,e,k⟩:=h;obtain⟨d,e1,e2⟩:=bind_some e;split at e2
 ·cases e2
  have e3:σD[i]?=some (some d):=by
   obtain⟨o,h1,h2⟩:=bind_some e1
   cases o with
   | none=>cases h2
   | some z=>cases h2;exact h1
  obtain⟨v,h1,h2⟩:=rv.val i d e3;rw[if_pos hi]at h2;refine⟨v,h1,k σ H v H rv (Fr'.same (au.refl H)) (au.refl H) fun P hP=>?_⟩;obtain⟨a,o,rfl,_,_⟩:=h2.ref;have np:¬ P a:=fun p=>(hP a p).2 ⟨i,hi,h1⟩;obtain⟨q1,q2,q3⟩:=h2
  cases d with
  | lst ds=>obtain⟨b,xs,e1,e0,e2,e3⟩:=aH q3;cases e1;rw[Rep];exact⟨a,xs,rfl,np,e2,e3.imm q2⟩
  | dK ks ds=>rw[Rep]at q3 ⊢;obtain⟨b,xs,e1,e0,e2,el,e3⟩:=q3;cases e1;exact⟨a,xs,rfl,np,e2,el,e3.imm q2⟩
  | dT ks ds=>rw[Rep]at q3 ⊢;obtain⟨b,xs,e1,e0,e2,el,e3⟩:=q3;cases e1;exact⟨a,xs,rfl,np,e2,el,e3.imm q2⟩
  | _=>cases q1
 ·cases e2
def slot_get{σD:RL.St}(h:(σD[i]?).bind id=some d):σD[i]?=some (some d):=by
 obtain⟨o,h1,h2⟩:=bind_some h
 cases o with
 | none=>cases h2
 | some z=>cases h2;exact h1
def Dc(h:PS X st (oG (tBM X.K "list" sF (gE i) (tEs X.K cl (.cons e' .nil)))))(hi:M.contains i=true):SS X cl M st (.app i e'):=by
 refine PS.weak h fun D σ H h=>?_;obtain⟨σD,o,σD',rv,e,k⟩:=h;obtain⟨d,e1,e2⟩:=bind_some e;obtain⟨l,e3,e4⟩:=bind_some e2
 cases l with
 |lst ds=>
  dsimp only at e4;split at e4
  ·rename_i ok;cases e4;rw[Bool.and_eq_true,decide_eq_true_eq]at ok;obtain⟨v,h1,h2⟩:=rv.val i _ (slot_get e3);rw[if_pos hi]at h2;obtain⟨q1,q2,q3⟩:=h2;obtain⟨a,xs,rfl,_,f2,f3⟩:=aH q3;refine⟨.ref a,h1,.inl ⟨rfl,xs,SqL.of f2⟩,σD,[d],rv.rv0,by rw[RL.evs,e1];rfl,fun vs H1 s1 r1=>?_⟩;rw[ah]at r1;obtain⟨y,t,rfl,r2,r3⟩:=r1;rw[ah]at r3;subst r3
   have hl:xs.length<sizeLine:=by rw[<-f3.length];exact Nat.lt_of_lt_of_le ok.2 bI
   refine⟨a,xs,y,rfl,rfl,s1 _ _ f2,hl,?_⟩
   have im:RL.ax (ds++[d])=true:=by
    have:∀ l:List RL.D,RL.ax l=true->RL.ax (l++[d])=true:=fun l=>by
     induction l with
     | nil=>intro _;simp[RL.ax,ok.1]
     | cons z r ih=>intro h;rw[RL.ax,Bool.and_eq_true]at h;rw[List.cons_append,RL.ax,h.1,ih h.2];rfl
    exact this ds q2
   have rs:ah nP X.K (upd H1 a (.lst (xs++[y]))) (ds++[d]) (xs++[y]):=(ah.upd (P:=fun p=>p=a) (s1 _ _ f2) (.inl ⟨_,rfl⟩) rfl ((ah.append (f3.same s1) (ah.cons r2 ah.nil)).imm im)).imm im;obtain⟨g1,g2⟩:=(rv.same s1).gQ (d':=.lst (ds++[d])) (o':=.lst (xs++[y])) hi h1 (s1 _ _ f2) (.inl ⟨_,rfl⟩) ⟨rfl,im,by rw[Rep];exact⟨a,_,rfl,fun z=>z,aP,rs⟩⟩;exact k _ _ g1 ((Fr'.same s1).trans g2)
  ·cases e4
 | _=>cases e4
end rules
def RVm.bV{K:PySem.W.Frag}{M:List Nat}{H:Hp}:∀ {tg:List Nat} {ds:List RL.D} {vs:List V} {σD:RL.St} {σ:L2.St},RVm K M σD σ H->(∀ i∈tg,M.contains i=false)->tg.length=ds.length->RL.ax ds=true->ah nP K H ds vs ->
  RVm K M (ef tg ds σD) (cM tg vs σ) H/\bh M (cM tg vs σ)=bh M σ
 | [],_,_,_,_,h,_,_,_,_=>⟨h,rfl⟩
 | i::is,[],_,_,_,_,_,hl,_,_=>by simp at hl
 | i::is,d::ds,vs,σD,σ,h,hM,hl,him,r=>by
  rw[ah]at r;obtain⟨v,t,rfl,r1,r2⟩:=r;rw[RL.ax,Bool.and_eq_true]at him;rw[ef,cM];have hi:=hM i List.mem_cons_self;obtain⟨g1,g2⟩:=RVm.bV (h.bind hi (r1.imm him.1)) (fun j hj=>hM j (List.mem_cons_of_mem _ hj)) (by simpa using hl) him.2 r2;exact⟨g1,g2.trans (bh.set hi)⟩
def kO{M tg:List Nat}{vs:List V}{σ:L2.St}{j:Nat}(hM:∀ i∈tg,M.contains i=false)(hj:2<=M.count j):(cM tg vs σ)[j]?=σ[j]?:=by
 refine m5 tg vs σ j ?_
 cases hc:tg.contains j with
 | false=>rfl
 |true=>
  have:=hM j (by simpa using hc);rw[iB hj]at this;cases this
section rules
variable{X:Cx}{cl:RL.Cl}{M:List Nat}{st:Stmt}{tgE iter:Expr}{body:List Stmt}{b:RL.Ss}{it:RL.It}{tg:List Nat}{e' k' a' b':RL.E}{i j:Nat}{pos:Pos}
def t6{f:RL.St->Option (RL.Out × RL.St)}{d:RL.D}{ds:List RL.D}{σ:RL.St}{p:RL.Out × RL.St}(h:RL.bo f tg (d::ds) σ=some p):d.imm=true/\∃ σ1 o σ2,RL.aF tg d σ=some σ1/\f σ1=some (o,σ2) /\
  (match o with | .nx=>RL.bo f tg ds σ2=some p | .rt d=>p=(.rt d,σ2)):=by
 rw[RL.bo]at h;split at h
 ·rename_i him;obtain⟨σ1,h1,h⟩:=bind_some h;obtain⟨⟨o,σ2⟩,h2,h⟩:=bind_some h;refine⟨him,σ1,o,σ2,h1,h2,?_⟩
  cases o with
  | nx=>exact h
  | rt d=>exact(Option.some.inj h).symm
 ·cases h
def Eb(hx:X.xe=fun _ _=>False)(hc:X.calm=true)(hi:SI X cl tgE iter it)(hg:PG X tgE (gT X.K tg))(hb:SSs X cl M body b)(hs:∀ x,foldedSetIterable iter X.env x=pure x)(hav:RL.qv M it=true)(hM:∀ i∈tg,M.contains i=false) :
  SS X cl M (.For tgE iter body [] pos) (.forr tg it b):=by
 refine PS.weak (vX (by rw[hx];exact PassesOwn.never) hc hi hg hb hs) fun D σ H h=>?_;obtain⟨σD,r,σD',rv,e,k⟩:=h;obtain⟨ds,e1,e2⟩:=bind_some e;refine⟨σD,ds,rv.rv0,e1,fun J H1 s1 src=>?_⟩
 have ok:gN X.K J ds (bh M σ) H1:=src.2 M (bh M σ) hav rv.t8 fun j dj vj hj h1 h2=>by
  obtain⟨v',h3,h4⟩:=rv.val j dj h1;rw[h2]at h3;cases h3;rw[if_neg (by rw[hj];decide)]at h4;exact h4
 have k1:=k.from (Fr'.same (σ:=σ) s1);refine⟨fun i m σ2 H2=>∃ σD2,m=ds.length-i/\i<=ds.length/\RVm X.K M σD2 σ2 H2/\Fr' M σ H1 σ2 H2/\RL.bo (RL.aj cl M b) tg (ds.drop i) σD2=some (r,σD'),⟨_,σD,rfl,Nat.zero_le _,rv.same s1,Fr'.same (au.refl _),e2⟩,?_⟩;rintro i m σ2 H2 ⟨σD2,rfl,hi2,rv2,fr2,hl⟩;have off:Off (bh M σ) H1 H2:=fun b o n e=>(fr2.1 b o e n).1;by_cases hlt:i<ds.length
 ·refine .inr ⟨ok.go H2 i off hlt,fun σ' H'=>∃ m',m'<ds.length-i/\∃ σD2,m'=ds.length-(i+1)/\i+1<=ds.length/\RVm X.K M σD2 σ' H'/\Fr' M σ H1 σ' H'/\RL.bo (RL.aj cl M b) tg (ds.drop (i+1)) σD2=some (r,σD'),fun σ' H' z=>z,fun x H3 y=>?_⟩;rw[List.drop_eq_getElem_cons hlt]at hl;obtain⟨him,σ3,o,σ4,h1,h2,h3⟩:=t6 hl;obtain⟨s3,rp⟩:=ok.yld H2 i ds[i] x H3 off (by simp[hlt]) y;obtain⟨dv,vs,q1,q2,q3,q4,q5⟩:=tG h1 (rp (.inl him));refine q5 _ _ ?_;obtain⟨rv3,as3⟩:=(rv2.same s3).bV hM q2 (q4 him) q3
  have fr3:Fr' M σ H1 (cM tg vs σ2) H3:=⟨fun b o e n=>⟨s3 _ _ (fr2.1 b o e n).1,by rw[as3];exact(fr2.1 b o e n).2⟩,fun j hj=>(kO hM hj).trans (fr2.2 j hj)⟩
  refine⟨σ3,o,σ4,by rw[q1];exact rv3,h2,?_⟩
  cases o with
  | nx=>exact fun σ' H' rv' fr'=>⟨_,by lia,σ4,rfl,hlt,rv',fr3.trans fr',h3⟩
  |rt d=>
   cases h3;exact fun σ' H' v H4 rv' fr' sm rp=>k1 σ' H' v H4 rv' (fr3.trans fr') sm rp
 ·have e:i=ds.length:=by lia
  subst e;rw[List.drop_length,RL.bo]at hl;cases hl;exact .inl ⟨ok.stop H2 off,k1 σ2 H2 rv2 fr2⟩
def xw{n:Nat}{k:Int}{j:Nat}(h:RL.m7 n k=some j):ixN n k=some j:=h
def wb:∀ {ds:List RL.D} {d:RL.D} (j:Nat),RL.ax ds=true->d.imm=true->RL.ax (ds.set j d)=true
 | [],d,j,_,_=>by simp[RL.ax]
 | x::r,d,0,h,hd=>by rw[RL.ax,Bool.and_eq_true]at h;rw[List.set_cons_zero,RL.ax,hd,h.2];rfl
 | x::r,d,j+1,h,hd=>by rw[RL.ax,Bool.and_eq_true]at h;rw[List.set_cons_succ,RL.ax,h.1,wb j h.2 hd];rfl
def ke{H:Hp}{a:Addr}{ds:List RL.D}{xs ys:List V}{ds':List RL.D}(f2:H a=some (.lst xs))(im:RL.ax ds'=true)(rs:ah nP X.K H ds' ys):Own X.K (upd H a (.lst ys)) (.lst ds') (.ref a) :=
 ⟨rfl,im,by rw[Rep];exact⟨a,_,rfl,fun z=>z,aP,(ah.upd (P:=fun p=>p=a) f2 (.inl ⟨_,rfl⟩) rfl (rs.imm im)).imm im⟩⟩
def E6(h:PS X st (mT (tE X.K cl e') (yL (gE i) (tE X.K cl k') uG)))(hi:M.contains i=true)(hl:True):PS X st (tS X.K M fun σD=>(RL.ev cl σD e').bind fun d=>(RL.ev cl σD k').bind fun kk=>((σD[i]?).bind id).bind fun l=>match l with
  | .lst _=>if d.imm then(RL.dD l kk d).map fun l'=>(.nx,σD.set i (some l'))else none
  | _=>none):=by
 refine PS.weak h fun D σ H h=>?_;obtain⟨σD,o,σD',rv,e,k⟩:=h;obtain⟨d,e1,e⟩:=bind_some e;obtain⟨kk,e2,e⟩:=bind_some e;obtain⟨l,e3,e⟩:=bind_some e
 cases l with
 |lst ds=>
  dsimp only at e;split at e
  ·rename_i him;obtain⟨l',e4,e5⟩:=map_some e;cases e5;obtain⟨v,h1,h2⟩:=rv.val i _ (slot_get e3);rw[if_pos hi]at h2;obtain⟨q1,q2,q3⟩:=h2;obtain⟨a,xs,rfl,_,f2,f3⟩:=aH q3
   cases kk with
   |int kk=>
    obtain⟨jx,e6,e7⟩:=map_some (show(RL.m7 ds.length kk).map (fun j=>RL.D.lst (ds.set j d))=some l' from e4);subst e7;refine⟨σD,d,rv.rv0,e1,fun y H1 r1=>⟨.ref a,h1,σD,.int kk,rv.rv0.same r1.same,e2,fun z H2 r2=>?_⟩⟩;have sm:=r1.same.trans r2.same;refine⟨a,xs,kk,jx,rfl,aq r2.rep,sm _ _ f2,?_,?_⟩
    ·rw[<-f3.length];exact xw e6
    ·have im:=wb jx q2 him;obtain⟨g1,g2⟩:=(rv.same sm).gQ (d':=.lst (ds.set jx d)) (o':=.lst (xs.set jx y)) hi h1 (sm _ _ f2) (.inl ⟨_,rfl⟩) (ke (ds:=ds) (sm _ _ f2) im (ah.set jx (f3.same sm) (r1.rep.same r2.same)));exact k _ _ g1 ((Fr'.same sm).trans g2)
   | _=>cases e4
  ·cases e
 | _=>cases e
def kh:∀ {ds:List RL.D},RL.ax ds=true->RL.ax ds.dropLast=true
 | [],_=>rfl
 | [x],_=>rfl
 | x::y::r,h=>by rw[RL.ax,Bool.and_eq_true]at h;rw[List.dropLast_cons_cons,RL.ax,h.1,kh h.2];rfl
def p6:∀ {ds:List RL.D} {i:Nat} {d:RL.D},RL.ax ds=true->ds[i]?=some d->d.imm=true
 | [],i,d,_,e=>by simp at e
 | x::r,0,d,h,e=>by rw[RL.ax,Bool.and_eq_true]at h;simp at e;subst e;exact h.1
 | x::r,i+1,d,h,e=>by rw[RL.ax,Bool.and_eq_true]at h;exact p6 (i:=i) h.2 (by simpa using e)
def ah.dropLast{P:Addr->Prop}{K:PySem.W.Frag}{H:Hp}{ds:List RL.D}{xs:List V}(h:ah P K H ds xs):ah P K H ds.dropLast xs.dropLast:=by
 rw[List.dropLast_eq_take,List.dropLast_eq_take,<-h.length];exact h.take _
def CZ(h:PS X st (mT (uw X.K "list" t7 (gE i)) (ly j)))(hi:M.contains i=true)(hj:M.contains j=false):SS X cl M st (.pop i j):=by
 refine PS.weak h fun D σ H h=>?_;obtain⟨σD,o,σD',rv,e,k⟩:=h;obtain⟨l,e3,e⟩:=bind_some e
 cases l with
 |lst ds=>
  obtain⟨d,e4,e5⟩:=map_some e;cases e5;obtain⟨v,h1,h2⟩:=rv.val i _ (slot_get e3);rw[if_pos hi]at h2;obtain⟨q1,q2,q3⟩:=h2;obtain⟨a,xs,rfl,_,f2,f3⟩:=aH q3;obtain⟨y,f4,f5⟩:=f3.get e4;refine⟨.ref a,h1,.inl ⟨rfl,xs,SqL.of f2⟩,a,xs,y,rfl,rfl,f2,by rw[<-f3.length];exact f4,?_⟩;have im:=kh q2;obtain⟨g1,g2⟩:=rv.gQ (d':=.lst ds.dropLast) (o':=.lst xs.dropLast) hi h1 f2 (.inl ⟨_,rfl⟩) (ke (ds:=ds) f2 im f3.dropLast);have hdi:d.imm=true:=p6 q2 e4;have rd:Rep (bh M σ) X.K (upd H a (.lst xs.dropLast)) d y:=Rep.imm hdi (Rep.upd (P:=fun p=>p=a) f2 (.inl ⟨_,rfl⟩) rfl (f5.imm hdi));exact k _ _ (g1.bind hj rd) (g2.trans (Fr'.bind hj (au.refl _)))
 | _=>cases e
def EC(h:PS X st (C1 i j (tEs X.K cl (.cons a' (.cons b' .nil)))))(hi:M.contains i=false)(hj:M.contains j=false):SS X cl M st (.par i j a' b'):=by
 refine PS.weak h fun D σ H h=>?_;obtain⟨σD,o,σD',rv,e,k⟩:=h;obtain⟨x,e1,e⟩:=bind_some e;obtain⟨y,e2,e⟩:=bind_some e;split at e
 ·rename_i him;cases e;rw[Bool.and_eq_true]at him;refine⟨σD,[x,y],rv.rv0,by rw[RL.evs,e1,RL.evs,e2];rfl,fun vs H1 s1 r1=>?_⟩;rw[ah]at r1;obtain⟨v,t,rfl,r2,r3⟩:=r1;rw[ah]at r3;obtain⟨u,t,rfl,r4,r5⟩:=r3;rw[ah]at r5;subst r5;refine⟨v,u,rfl,k _ _ ?_ ?_⟩
  ·refine((rv.same s1).bind hi (r2.imm him.1)).bind hj (r4.imm him.2)
  ·exact(Fr'.bind hi s1).trans (Fr'.bind hj (au.refl _))
 ·cases e
def Dq(h:PS X st (oG (tE X.K cl e'))):SS X cl M st (.exc e'):=by
 refine PS.weak h fun D σ H h=>?_;obtain⟨σD,o,σD',rv,e,k⟩:=h;obtain⟨d,e1,e2⟩:=map_some e;cases e2;exact⟨σD,d,rv.rv0,e1,fun v H1 r1=>k _ _ (rv.same r1.same) (Fr'.same r1.same)⟩
end rules
section rules
variable{st:Stmt}
def zQ(h:PS X st (mT (tE X.K cl e') (fun v σ H Q=>me X.K is.length (gs is) v σ H Q\/mL X.K is.length (gs is) v σ H Q)))(hM:∀ i∈is,M.contains i=false):SS X cl M st (.unp is e'):=by
 refine PS.weak h fun D σ H h=>?_;obtain⟨σD,o,σD',rv,e,k⟩:=h;obtain⟨d,e1,e⟩:=bind_some e;obtain⟨ds,e2,e⟩:=bind_some e;split at e
 ·rename_i him;obtain⟨σ1,e3,e4⟩:=map_some e;cases e4;obtain⟨q1,q2⟩:=hX e3;refine⟨σD,d,rv.rv0,e1,fun v H1 r1=>?_⟩;obtain⟨p,xs,rfl,hp,rs⟩:=eY e2 r1.rep;obtain⟨g1,g2⟩:=(rv.same r1.same).bV (vs:=xs) hM q1 him rs;have fin:D.nx (cM is xs σ) H1:=k _ _ (by rw[q2];exact g1) ⟨fun b o e n=>⟨r1.same _ _ e,by rw[g2];exact n⟩,fun j hj=>kO hM hj⟩
  have hl:xs.length=is.length:=by rw[<-rs.length,q1]
  rcases hp with⟨hp,_⟩ | ⟨hp,_⟩
  ·exact .inr ⟨p,xs,rfl,SqL.of hp,hl,iM hl.symm fin⟩
  ·exact .inl ⟨p,xs,rfl,SqT.of hp,hl,iM hl.symm fin⟩
 ·cases e
def kA(xs:List α)(k:Int):(xs.drop (HT.sIx xs.length 0 none)).take (HT.sIx xs.length xs.length (some k)-HT.sIx xs.length 0 none)=xs.take (RL.cutAt xs.length k):=by
 rw[HT.yh,List.drop_zero,Nat.sub_zero];congr 1;have h:=HT.ku k xs.length xs.length;unfold RL.cutAt;split at h
 ·rename_i h0;rw[if_neg (by lia)];lia
 ·rename_i h0;rw[if_pos (by lia)];lia
end rules
section rules
variable{X:Cx}
def one(rv:RV0 X.K σD σ H)(ea:RL.ev cl σD a'=some d)(k:∀ v H1,au H H1->Rep nP X.K H1 d v->R [v] H1):tEs X.K cl (.cons a' .nil) σ H R :=
 ⟨σD,[d],rv,by rw[RL.evs,ea];rfl,fun vs H1 s1 r1=>by
  rw[ah]at r1;obtain⟨v,t,rfl,r2,r3⟩:=r1;rw[ah]at r3;subst r3
  exact k v H1 s1 r2⟩
def pair(rv:RV0 X.K σD σ H)(ea:RL.ev cl σD a'=some d)(eb:RL.ev cl σD b'=some d')(k:∀ v u H1,au H H1->Rep nP X.K H1 d v->Rep nP X.K H1 d' u->R [v,u] H1):tEs X.K cl (.cons a' (.cons b' .nil)) σ H R :=
 ⟨σD,[d,d'],rv,by rw[RL.evs,ea,RL.evs,eb];rfl,fun vs H1 s1 r1=>by
  rw[ah]at r1;obtain⟨v,t,rfl,r2,r3⟩:=r1;rw[ah]at r3;obtain⟨u,t,rfl,r4,r5⟩:=r3;rw[ah]at r5;subst r5
  exact k v u H1 s1 r2 r4⟩
def nR{id:String}{r:List V->Hp->VK->Prop}{b:RL.Bi}(hc:bx X (.builtin id) r)(hg:Gl X x)(hm:X.mg x=none)(hv:bootBuiltins x=some (.builtin id))(ha:SE X cl a a')(hn:noStar a=true)(h1:x ≠ "__name__")(h2:(x == ("__debug__" : Str))=false)
 (ok:∀ (σD:RL.St) (σ:L2.St) (H H1:Hp) (y d:RL.D) (v:V) (Q:VK),RL.biV b y=some d->au H H1->Rep nP X.K H1 y v->(∀ w H',Res X.K σD σ H (.bi b a') d w H'->Q w H')->r [v] H1 Q):SE X cl (.Call (.Name x p) [a] [] pos) (.bi b a'):=by
 refine PE.weak (eZ hc hg hm hv (cj (cl:=cl) ha dH hn) h1 h2 (ay [] hn) rfl) fun σ H Q h=>?_;obtain⟨σD,d,rv,e,k⟩:=h;obtain⟨y,ea,e⟩:=bind_some e;exact one rv ea fun v H1 s1 r1=>ok σD σ H H1 y d v Q e s1 r1 k
def jB{T:String}{r:List V->Hp->VK->Prop}{b:RL.Bi}(hc:bx X (.type T) r)(hg:Gl X x)(hm:X.mg x=none)(hv:bootBuiltins x=some (.type T))(ha:SE X cl a a')(hn:noStar a=true)(h1:x ≠ "__name__")(h2:(x == ("__debug__" : Str))=false)
 (ok:∀ (σD:RL.St) (σ:L2.St) (H H1:Hp) (y d:RL.D) (v:V) (Q:VK),RL.biV b y=some d->au H H1->Rep nP X.K H1 y v->(∀ w H',Res X.K σD σ H (.bi b a') d w H'->Q w H')->r [v] H1 Q):SE X cl (.Call (.Name x p) [a] [] pos) (.bi b a'):=by
 refine PE.weak (d9 hc hg hm hv (cj (cl:=cl) ha dH hn) h1 h2 (ay [] hn) rfl) fun σ H Q h=>?_;obtain⟨σD,d,rv,e,k⟩:=h;obtain⟨y,ea,e⟩:=bind_some e;exact one rv ea fun v H1 s1 r1=>ok σD σ H H1 y d v Q e s1 r1 k
def Ac(hg:Gl X "list")(hm:X.mg "list" = none)(ha:SE X cl a a')(hn:noStar a=true):SE X cl (.Call (.Name "list" p) [a] [] pos) (.bi .list a'):=by
 refine jB pT hg hm (by decide +kernel) ha hn (by decide) (by decide) fun σD σ H H1 y d v Q e s1 r1 k=>?_;obtain⟨ds,e1,e2⟩:=map_some (show(RL.items y).map RL.D.lst=some d from e);subst e2;obtain⟨q,xs,rfl,hp,rs⟩:=eY e1 r1;refine⟨q,xs,rfl,?_,fun l hl=>k _ _ (fz s1 hl rs fun _=>rfl)⟩
 rcases hp with⟨z,_⟩ | ⟨z,_⟩
 ·exact .inl (SqL.of z)
 ·exact .inr (SqT.of z)
def yg(hg:Gl X "tuple")(hm:X.mg "tuple" = none)(ha:SE X cl a a')(hn:noStar a=true):SE X cl (.Call (.Name "tuple" p) [a] [] pos) (.bi .tuple a'):=by
 refine jB oi hg hm (by decide +kernel) ha hn (by decide) (by decide) fun σD σ H H1 y d v Q e s1 r1 k=>?_;obtain⟨ds,e1,e2⟩:=map_some (show(RL.items y).map RL.D.tup=some d from e);subst e2;obtain⟨q,xs,rfl,hp,rs⟩:=eY e1 r1
 rcases hp with⟨z,_⟩ | ⟨z,_⟩
 ·exact⟨q,xs,rfl,.inl ⟨SqL.of z,fun l hl=>k _ _ (jw s1 hl rs fun _=>rfl)⟩⟩
 ·refine⟨q,xs,rfl,.inr ⟨SqT.of z,k _ _ ⟨s1,?_,fun _ m=>(by cases m),fun M z=>nomatch (show false=true from z)⟩⟩⟩;rw[Rep];exact⟨q,xs,rfl,z,rs⟩
def DZ(hg:Gl X "int")(hm:X.mg "int" = none)(ha:SE X cl a a')(hn:noStar a=true):SE X cl (.Call (.Name "int" p) [a] [] pos) (.bi .int a'):=by
 refine jB ve hg hm (by decide +kernel) ha hn (by decide) (by decide) fun σD σ H H1 y d v Q e s1 r1 k=>?_
 cases y<;>simp only[RL.biV]at e<;>first | (cases e;done) | skip
 case bl t=>cases e;exact .inr ⟨t,by rw[aZ r1],k _ _ (bZ s1 bb rfl)⟩
 case int t=>cases e;exact .inl ⟨t,by rw[aq r1],k _ _ (bZ s1 bb rfl)⟩
def tq{prog:Program}{w:World}{K:Type} [DecidableEq K]{knd:HeapKind prog w K}(hd:(d == sysModules)=false) :
  MeetsIn prog w (Builtin.«dict.__len__» ⟨[.ref d],[]⟩) (fun _ R s=>∃ xs,s.heap.DictOfH knd d xs/\R (.ok (.ret (.int xs.length s.toks))) { s with toks:=s.toks+1 }) :=
 .of_wp fun A R s ⟨xs,hm,h⟩=>by
  obtain⟨o,es,ep,ho,hc,hdat,hk,_,_⟩:=hm;show wpAny _ _ (dictSize d >>= _) _ _ s;unfold dictSize;refine wpAny_bind (wpAny_bind (wpAny_dictEntries ho hdat (wpAny_pure ?_)));show wpAny _ _ (Builtin.Dict.pendingCount d >>= _) _ _ s;refine wpAny_bind (wpAny_pendingCount_other hd ?_);refine wpAny_ret_mkInt ?_;rw[Nat.add_zero,size_of_entries hk];exact h
def m4{prog:Program}{w:World}{K:Type} [DecidableEq K]{knd:HeapKind prog w K}{A:Around}{E:Value->Shared->Prop}{s:Shared}{d:Addr}{xs:List (K × Addr × Value)}{Q:Value->Shared->Prop}(hd:(d == sysModules)=false)(hm:s.heap.DictOfH knd d xs)(hfit:(xs.length:Int)<2 ^ 63)
 (h:Q (.int xs.length (s.toks+1)) { s with toks:=s.toks+1+1 }):wpAny (model prog w) A (call (.builtin "len") [.ref d]) Q E s:=by
 refine Calls.call_function_entry kind_len plain_len entry_len (args_len1 _) ?_;unfold Builtin.«len»;refine wpAny_bind (m:=oneArg "len" _) (wpAny_pure ?_)
 refine wpAny_bind (m:=callSpecial? (.ref d) (Str.ofString "__len__")) (wpAny_callSpecial?_slot (name:=Str.ofString "__len__") hm.typeIs F.slot_dict_len
  (call_meetsIn F.slot_dict_len hm.typeIs F.entry_dict_len (F.args_dict_len_1 _) (tq hd) ⟨xs,hm,?_⟩))
 show wpAny _ _ _ _ _ { s with toks:=s.toks+1 };refine wpAny_bind (wpAny_holding (wpAny_pure ?_));refine wpAny_bind (wpAny_letGo ?_);show wpAny _ _ (if((xs.length:Nat):Int)<0 then _ else _) _ _ _;rw[if_neg (by omega)];show wpAny _ _ (if((xs.length:Nat):Int)≥2 ^ 63 then _ else _) _ _ _;rw[if_neg (by omega)];exact wpAny_bind (wpAny_mkInt (wpAny_pure ⟨_,rfl,h⟩))
def vc:bx X (.builtin "len") (fun xs H Q=>∃ a kvs,xs=[V.ref a]/\H a=some (.dT kvs)/\Q (.int kvs.length) H):=by
 intro pins s σ H xs us Q I r h;obtain⟨a,kvs,rfl,ha,q⟩:=h;obtain⟨u,rfl,ru⟩:=vals1 r;cases ru;obtain⟨z,hd,xs,rel,dd⟩:=zB I.hok ha;have hl:kvs.length=xs.length:=Paired.length rel;refine m4 hd dd (by rw[<-hl];rw[sizeLine_eq]at z;omega) ?_;rw[<-hl];exact⟨.int kvs.length,H,I.tok _,⟨_,rfl⟩,q⟩
def wo:bx X (.builtin "len") (fun xs H Q=>(∃ y n,xs=[y]/\CQ X.K y H n/\Q (.int n) H)\/(∃ q kvs,xs=[V.ref q]/\H q=some (.dK kvs)/\Q (.int kvs.length) H)\/∃ q kvs,xs=[V.ref q]/\H q=some (.dT kvs)/\Q (.int kvs.length) H):=bx.or yY (bx.or xq vc)
def B8(hg:Gl X "len")(hm:X.mg "len" = none)(ha:SE X cl a a')(hn:noStar a=true):SE X cl (.Call (.Name "len" p) [a] [] pos) (.bi .len a'):=by
 refine nR wo hg hm PySem.boot_len ha hn (by decide) (by decide) fun σD σ H H1 y d v Q e s1 r1 k=>?_
 cases y<;>simp only[RL.biV,RL.items,Option.map_some,Option.map_none]at e<;>first | (cases e;done) | skip
 case str t =>
  split at e
  ·rename_i hz;cases e;rw[aD r1];exact .inl ⟨_,_,rfl,⟨Nat.le_trans hz bI,rfl⟩,k _ _ (bZ s1 bb rfl)⟩
  ·cases e
 case tup t =>
  cases e;obtain⟨q,xs,rfl,f2,f3⟩:=bq r1;rw[f3.length]at k;exact .inl ⟨_,_,rfl,.inr ⟨xs,SqT.of f2,rfl⟩,k _ _ (bZ s1 bb rfl)⟩
 case lst t =>
  cases e;obtain⟨q,xs,rfl,_,f2,f3⟩:=aH r1;rw[f3.length]at k;exact .inl ⟨_,_,rfl,.inl ⟨xs,SqL.of f2,rfl⟩,k _ _ (bZ s1 bb rfl)⟩
 case dK ks t =>
  cases e;rw[Rep]at r1;obtain⟨q,xs,rfl,_,f2,fl,f3⟩:=r1;refine .inr (.inl ⟨q,_,rfl,f2,?_⟩)
  have:(ks.zip xs).length=ks.length:=by rw[List.length_zip,<-f3.length,fl,Nat.min_self]
  rw[this];exact k _ _ (bZ s1 bb rfl)
 case dT ks t =>
  cases e;rw[Rep]at r1;obtain⟨q,xs,rfl,_,f2,fl,f3⟩:=r1;refine .inr (.inr ⟨q,_,rfl,f2,?_⟩)
  have:(ks.zip xs).length=ks.length:=by rw[List.length_zip,<-f3.length,fl,Nat.min_self]
  rw[this];exact k _ _ (bZ s1 bb rfl)
def BV(hc:X.calm=true)(hg:Gl X "max")(hm:X.mg "max" = none)(ha:SE X cl a a')(hb:SE X cl b b')(hn:noStar a=true)(hn2:noStar b=true):SE X cl (.Call (.Name "max" p) [a,b] [] pos) (.max a' b'):=by
 refine PE.weak (eZ (wa hc) hg hm (by decide +kernel) (cj (cl:=cl) ha (cj hb dH hn2) hn) (by decide) (by decide) (ay _ hn) (dC (by simp[hn2]))) fun σ H Q h=>?_;obtain⟨σD,d,rv,e,k⟩:=h;obtain⟨u,ea,e⟩:=bind_some e;obtain⟨v,eb,e⟩:=bind_some e
 cases u with
 |int i=>
  cases v with
  |int j=>
   cases e
   exact pair rv ea eb fun v u H1 s1 r1 r2=>⟨i,j,by rw[aq r1,aq r2],k _ _ (bZ s1 bb rfl)⟩
  | _=>cases e
 | _=>cases e
abbrev tyN:RL.Ty->String
 | .int => "int"
 | .bool => "bool"
 | .list => "list"
 | .tuple => "tuple"
 | .str => "str"
def xV:bx X (.builtin "isinstance") (fun xs H Q=>∃ y t T k,xs=[y,.ty T]/\eR X.K H y t/\PySem.W.kitOne X.K t (.type T)=some k/\Q (.bl k) H):=by
 intro pins s σ H xs us Q I r h;obtain⟨y,t,T,k,rfl,ty,e,q⟩:=h;obtain⟨u,w,rfl,r1,r2⟩:=vals2 r;cases r2
 exact uJ I r1 ty e fun tk=>⟨.bl k,H,I.tok tk,rfl,q⟩
def EB(h:RL.fO t d=some k)(r:Rep nP X.K H d v):∃ ty,eR X.K H v ty/\PySem.W.kitOne X.K ty (.type (tyN t))=some k:=by
 cases d with
 | non=>rw[Rep]at r;subst r;refine⟨_,.non,?_⟩;cases t<;>(cases h;rfl)
 | bl i=>rw[aZ r];refine⟨_,.bl i,?_⟩;cases t<;>(cases h;rfl)
 | int i=>rw[aq r];refine⟨_,.int i,?_⟩;cases t<;>(cases h;rfl)
 | str i=>rw[aD r];refine⟨_,.str i,?_⟩;cases t<;>(cases h;rfl)
 | tup i=>obtain⟨q,xs,rfl,f2,f3⟩:=bq r;refine⟨_,.tup f2,?_⟩;cases t<;>(cases h;rfl)
 | lst i=>obtain⟨q,xs,rfl,_,f2,f3⟩:=aH r;refine⟨_,.lst f2,?_⟩;cases t<;>(cases h;rfl)
 | _=>cases t<;>cases h
def B5(hg:Gl X "isinstance")(hm:X.mg "isinstance" = none)(hgy:Gl X y)(hmy:X.mg y=none)(hy:bootBuiltins y=some (.type (tyN t)))(hy1:y ≠ "__name__")(hy2:(y == ("__debug__" : Str))=false)(ha:SE X cl a a')(hn:noStar a=true) :
  SE X cl (.Call (.Name "isinstance" p) [a,.Name y p2] [] pos) (.isi a' t):=by
 have hty:PE X (.Name y p2) (tC (.ty (tyN t))):=sS hgy hmy hy rfl hy1 hy2;refine PE.weak (eZ xV hg hm (by decide +kernel) (ba ha (ba hty cL) (ay _ hn)) (by decide) (by decide) (ay _ hn) rfl) fun σ H Q h=>?_;obtain⟨σD,d,rv,e,k⟩:=h;obtain⟨u,ea,e⟩:=bind_some e;obtain⟨t',e1,e2⟩:=map_some e;subst e2;refine⟨σD,u,rv,ea,fun v H1 r1=>?_⟩;obtain⟨ty,h1,h2⟩:=EB e1 r1.rep;exact⟨v,ty,_,t',rfl,h1,h2,k _ _ (dn r1.same)⟩
end rules
end RS
namespace L2
open PySem PySem.Spec PyProof.Rows
structure jX(prog:Program)(w:World):Prop where
 draws:∀ {A:Around},A.handled=none->∀ (ti tp:Addr),tp≠ti->∀ its:Array Value,Draws prog w A ti [ti,tp] its.size (fun i v=>its[i]?=some v) (fun i h=>h.IsTupleIter ti tp i/\h.IsTuple tp its)
 call:∀ {A:Around} {E:Value->Shared->Prop} {z:Shared} {tp:Addr} {its:Array Value} {Q:Value->Shared->Prop},z.heap.IsTuple tp its ->
  (∀ g,IsEnum g (z.heap.objs.size+1) z.heap.objs.size 0 .none->g.IsTupleIter z.heap.objs.size tp 0->(∀ b o,z.heap.get? b=some o->g.get? b=some o)->Q (.ref (z.heap.objs.size+1)) { z with heap:=g })->wpAny (model prog w) A (call (.type "enumerate") [.ref tp]) Q E z
section
def Inv.mh{h':Heap}{t':Nat}{fp:List Addr}(I:Inv X pins σ H s)(k:∀ b o,b∉fp->s.heap.get? b=some o->h'.get? b=some o)(hf:∀ b∈fp,H b=none/\(b∈X.ex\/X.s₀.heap.objs.size<=b)/\b≠X.env.locals/\(∀ x c,X.env.cells.lookup x=some c->c≠b)/\∀ p∈X.pn++pins,p.1≠b) :
  Inv X pins σ H { s with heap:=h',toks:=t' }:=by
 have nf:∀ b u,H b=some u->b∉fp:=fun b u e z=>by rw[(hf b z).1]at e;cases e
 refine I.tu (s':={ s with heap:=h',toks:=t' }) (ch:=fp) rfl ⟨fun b o e _ _ hx=>k b o hx e,fun b o e _ _ hx=>⟨o.slots,k b o hx e⟩,fun _ _ _ n _=>n,fun b o e hx=>⟨o,k b o hx e⟩,fun _ _ e=>e,fun _ _ _ e=>e,fun b ps e=>⟨#[],by rw[e];simp⟩⟩ (fun b u e=>?_) I.bare fun b hb=>(hf b hb).2;refine(I.hok b u e).jo (fun c v hc q=>k c v ?_ q) (fun _ q=>q) fun _ _ q=>q;rcases hc with z | z
 ·rw[z];exact nf b u e
 ·exact nf c _ z
end
abbrev Ite(cont:Hp->List V->Prop):It :=
 ⟨fun i H=>∃ xs x,cont H xs/\xs[i]?=some x,fun i H v H'=>∃ p x,H p=none/\v=.ref p/\H'=upd H p (.tup [.int i,x])/\∀ xs,cont H xs->xs[i]?=some x,fun i H=>∃ xs,cont H xs/\xs.length=i⟩
structure Src(P:Program)(w:World)(K:PySem.W.Frag)(e it:Addr)(cont:Hp->List V->Prop)(ia:Nat->Heap->Prop):Prop where
 obj:∀ i h,ia i h->∃ o,h.get? it=some o/\∀ v,o.data≠.cell v
 keep:∀ i h h',ia i h->(∀ o,h.get? it=some o->h'.get? it=some o)->ia i h'
 inj:∀ (H:Hp) xs ys,cont H xs->cont H ys->xs=ys
 dr:∀ (X:Cx),X.prog=P->X.w=w->X.K=K->X.calm=true->∀ (pins:List (Addr × Obj)) (s:Shared) (σ:St) (H:Hp) (xs:List V),Inv X pins σ H s->H e=none->H it=none->cont H xs ->
  ∃ (fp:List Addr) (Pv:Nat->Value->Prop) (St:Nat->Heap->Prop),Draws P w X.A.in1 it fp xs.length Pv St/\e∉fp/\(∀ i,ia i s.heap->St i s.heap)/\(∀ i h,St i h->ia i h)/\∀ i v,Pv i v->∃ x,xs[i]?=some x/\RelV x v
def vq{P:Program}{w:World}{K:PySem.W.Frag}(hei:e≠it)(S:Src P w K e it cont ia) :
  Turn P w K (.Tuple elts kx tp) (Ite cont) [e,it] e (fun i h=>(∃ old,IsEnum h e it i old)/\ia i h) where
 mem:=by simp
 obj:=fun i h st b hb=>by
  rcases List.mem_cons.mp hb with rfl | hb
  ·obtain⟨⟨old,he⟩,_⟩:=st;exact⟨_,he,fun v z=>by cases z⟩
  ·rw[List.mem_singleton.mp hb];exact S.obj i h st.2
 keep:=fun i h h' st k=>by
  obtain⟨⟨old,he⟩,hi⟩:=st;exact⟨⟨old,k e (by simp) _ he⟩,S.keep i h h' hi fun o q=>k it (by simp) o q⟩
 item:=by
  intro X hP hw hK hc i pins s σ H E I hf st hg;subst hP hw hK;obtain⟨⟨old,he⟩,hi⟩:=st;obtain⟨xs,x,hq,hx⟩:=hg;have fe:=hf e (by simp);have fi:=hf it (by simp);obtain⟨fp,Pv,St,D,hef,h1,h2,h3⟩:=S.dr X rfl rfl rfl hc pins s σ H xs I fe.1 fi.1 hq;have hlt:i<xs.length:=(List.getElem?_eq_some_iff.mp hx).1;refine wpAny_pyNext_enum_itemD D he (h1 i hi) hlt hei hef fun v h' tk hP ho hs' hT hsz hk=>?_;obtain⟨x',hx',rx⟩:=h3 i v hP;rw[hx]at hx';cases hx';refine⟨.ref s.heap.objs.size,rfl,wpAny_letOwnedTupleGo_enum ho fun h'' he' hs''=>?_⟩;have hn:H s.heap.objs.size=none:=I.hok.fresh (Nat.le_refl _)
  have I1:Inv X pins σ (upd H s.heap.objs.size (.tup [.int i,x])) { s with heap:=s.heap.push { cls:=.type "tuple",data:=.seq #[.int i tk,v] },toks:=tk+1 } :=
   I.laid (t':=tk+1) (fun b u q=>Heap.get?_push_of_some _ q) (Nat.le_refl _) ⟨by show 2<=sizeLine;decide,[.int i tk,v],.cons ⟨tk,rfl⟩ (.cons rx .nil),⟨_,Heap.get?_push_size _ rfl,rfl,_,rfl⟩⟩
  have hes:e<s.heap.objs.size:=Heap.lt_size he
  have hit:it<s.heap.objs.size:=by obtain⟨o,q,_⟩:=S.obj i _ hi;exact Heap.lt_size q
  have stat:∀ b∈[e,it],upd H s.heap.objs.size (.tup [.int i,x]) b=none/\(b∈X.ex\/X.s₀.heap.objs.size<=b)/\b≠X.env.locals/\(∀ x c,X.env.cells.lookup x=some c->c≠b)/\∀ p∈X.pn++pins,p.1≠b:=fun b hb=>by
   obtain⟨f0,f1,f2,f3,f4,f5⟩:=hf b hb
   have hb':b≠s.heap.objs.size:=by
    rcases List.mem_cons.mp hb with rfl | hb
    ·exact Nat.ne_of_lt hes
    ·rw[List.mem_singleton.mp hb];exact Nat.ne_of_lt hit
   exact⟨by rw[aJ hb'];exact f0,f3,f1,f4,f5⟩
  have I2:Inv X pins σ (upd H s.heap.objs.size (.tup [.int i,x])) { s with heap:=h'',toks:=tk+1 }:=by
   refine Inv.mh (s:={ s with heap:=s.heap.push { cls:=.type "tuple",data:=.seq #[.int i tk,v] },toks:=tk+1 }) (h':=h'') (t':=tk+1) (fp:=[e,it]) I1 (fun b o hb q=>?_) stat;have b1:b≠e:=fun z=>hb (by simp[z]);have b2:b≠it:=fun z=>hb (by simp[z]);refine hs''.extBut b o b1 ?_;by_cases hbT:b=s.heap.objs.size
   ·subst hbT;have q':(s.heap.push { cls:=.type "tuple",data:=.seq #[.int i tk,v] }).get? s.heap.objs.size=some o:=q;rw[Heap.get?_push_size _ rfl]at q';cases q';exact hT
   ·have q':s.heap.get? b=some o:=(Heap.get?_push_ne _ _ _ hbT).symm.trans q;exact hk b o b1 b2 q'
  refine⟨.ref s.heap.objs.size,_,I2,rfl,⟨s.heap.objs.size,x,hn,rfl,rfl,fun ys hy=>by rw[S.inj H ys xs hy hq];exact hx⟩,⟨⟨v,by simpa using he'⟩,S.keep _ h' h'' (h2 _ _ hs') fun o q=>hs''.extBut _ _ (Ne.symm hei) q⟩,fun b hb=>(stat b hb).1⟩
 done:=by
  intro X hP hw hK hc i pins s σ H E I hf st hg;subst hP hw hK;obtain⟨⟨old,he⟩,hi⟩:=st;obtain⟨xs,hq,hx⟩:=hg;have fe:=hf e (by simp);have fi:=hf it (by simp);obtain⟨fp,Pv,St,D,hef,h1,h2,h3⟩:=S.dr X rfl rfl rfl hc pins s σ H xs I fe.1 fi.1 hq;subst hx
  refine wpAny_pyNext_enum_endD D he (h1 _ hi) fun h' eb=>⟨rfl,?_⟩
  obtain⟨f0,f1,f2,f3,f4,f5⟩:=fi;exact I.turned (it:=it) (h':=h') (t':=s.toks) (fun b o hb q=>eb b o hb q) f0 f1 f3 f4 f5
 self:=fun A i s Q E st h=>by
  obtain⟨⟨old,he⟩,hi⟩:=st;exact wpAny_pyIter_enum he h
def src_list{P:Program}{w:World}{K:PySem.W.Frag}(hei:e≠it):Src P w K e it (fun H xs=>H l=some (.lst xs)) (fun i h=>h.IsListIter it l i) where
 obj:=fun i h st=>let ⟨o,ho,_,hd⟩:=st;⟨o,ho,fun v q=>by rw[hd]at q;cases q⟩
 keep:=fun i h h' st k=>st.at fun o q=>k o q
 inj:=fun H xs ys h1 h2=>by rw[h1]at h2;cases h2;rfl
 dr:=by
  intro X hP hw hK hc pins s σ H xs I he hi hx;subst hP hw hK;obtain⟨its,rv,p,hz⟩:=I.list (SqL.of hx)
  have hl:its.toArray.size=xs.length:=by rw[List.size_toArray,rv.length]
  have hh:X.A.in1.handled=none:=I.ok.hd.1 hc;have D:=Draws.list (prog:=X.prog) (w:=X.w) (A:=X.A.in1) hh it l (aK hx hi) its.toArray;rw[hl]at D;refine⟨_,_,_,D,?_,fun i st=>⟨st,p.isList⟩,fun i h st=>st.1,fun i v hv=>?_⟩
  ·intro m;rcases List.mem_cons.mp m with q | m
   ·exact hei q
   ·exact(aK hx he).symm (List.mem_singleton.mp m)
  ·have hv:its[i]?=some v:=by simpa using hv
   have hlt:i<xs.length:=by rw[rv.length];exact(List.getElem?_eq_some_iff.mp hv).1
   obtain⟨u,h1,h2⟩:=rv.get (i:=i) (x:=xs[i]) (by simp[hlt]);rw[hv]at h1;cases h1;exact⟨xs[i],by simp[hlt],h2⟩
def Aq{P:Program}{w:World}{K:PySem.W.Frag}(TE:jX P w)(hei:e≠it):Src P w K e it (fun H xs=>H l=some (.tup xs)) (fun i h=>h.IsTupleIter it l i) where
 obj:=fun i h st=>let ⟨o,ho,_,hd⟩:=st;⟨o,ho,fun v q=>by rw[hd]at q;cases q⟩
 keep:=fun i h h' st k=>let ⟨o,ho,r⟩:=st;⟨o,k o ho,r⟩
 inj:=fun H xs ys h1 h2=>by rw[h1]at h2;cases h2;rfl
 dr:=by
  intro X hP hw hK hc pins s σ H xs I he hi hx;subst hP hw hK;obtain⟨its,rv,p,hz⟩:=I.tuple (SqT.of hx)
  have hl:its.toArray.size=xs.length:=by rw[List.size_toArray,rv.length]
  have hh:X.A.in1.handled=none:=I.ok.hd.1 hc;have D:=TE.draws (A:=X.A.in1) hh it l (aK hx hi) its.toArray;rw[hl]at D;refine⟨_,_,_,D,?_,fun i st=>⟨st,p⟩,fun i h st=>st.1,fun i v hv=>?_⟩
  ·intro m;rcases List.mem_cons.mp m with q | m
   ·exact hei q
   ·exact(aK hx he).symm (List.mem_singleton.mp m)
  ·have hv:its[i]?=some v:=by simpa using hv
   have hlt:i<xs.length:=by rw[rv.length];exact(List.getElem?_eq_some_iff.mp hv).1
   obtain⟨u,h1,h2⟩:=rv.get (i:=i) (x:=xs[i]) (by simp[hlt]);rw[hv]at h1;cases h1;exact⟨xs[i],by simp[hlt],h2⟩
abbrev iA(x:Str):List V:=x.cps.toList.map fun c=>.str ⟨#[c]⟩
def AI{P:Program}{w:World}{K:PySem.W.Frag}(hei:e≠it):Src P w K e it (fun _ xs=>xs=iA x) (fun i h=>h.IsStrIter it (strIterType x) x t i) where
 obj:=fun i h st=>let ⟨o,ho,_,hd⟩:=st;⟨o,ho,fun v q=>by rw[hd]at q;cases q⟩
 keep:=fun i h h' st k=>let ⟨o,ho,r⟩:=st;⟨o,k o ho,r⟩
 inj:=fun H xs ys h1 h2=>by rw[h1,h2]
 dr:=by
  intro X hP hw hK hc pins s σ H xs I he hi hx;subst hP hw hK hx;have hh:X.A.in1.handled=none:=I.ok.hd.1 hc
  have hl:x.cps.size=(iA x).length:=by simp[iA]
  have pv:∀ (i:Nat) (v:Value),(∃ c u,x.cps[i]?=some c/\v=Value.str ⟨#[c]⟩ u)->∃ y,(iA x)[i]?=some y/\RelV y v:=fun i v hv=>by
   obtain⟨c,u,h1,h2⟩:=hv;exact⟨.str ⟨#[c]⟩,by simp[iA,h1],u,h2⟩
  have ni:e∉[it]:=fun m=>hei (List.mem_singleton.mp m)
  cases ha:x.cps.all (·<128)with
  |true=>
   have ht:strIterType x = "str_ascii_iterator" := by simp[strIterType,ha]
   have D:=Draws.strAscii (prog:=X.prog) (w:=X.w) (A:=X.A.in1) hh it x t;rw[hl]at D;exact⟨_,_,_,D,ni,fun i st=>by rw[ht]at st;exact st,fun i h st=>by rw[ht];exact st,pv⟩
  |false=>
   have ht:strIterType x = "str_iterator" := by simp[strIterType,ha]
   have D:=Draws.strWide (prog:=X.prog) (w:=X.w) (A:=X.A.in1) hh it x t;rw[hl]at D;exact⟨_,_,_,D,ni,fun i st=>by rw[ht]at st;exact st,fun i h st=>by rw[ht];exact st,pv⟩
section
abbrev Fm(ta:TA):TI:=fun σ H R=>ta σ H fun vs H1=>(∃ l xs,vs=[.ref l]/\H1 l=some (.lst xs)/\R (Ite fun H xs=>H l=some (.lst xs)) H1)\/(∃ l xs,vs=[.ref l]/\H1 l=some (.tup xs)/\R (Ite fun H xs=>H l=some (.tup xs)) H1) \/
 (∃ x,vs=[.str x]/\R (Ite fun _ xs=>xs=iA x) H1)
def kZ(I:Inv X pins σ H s)(S:Src X.prog X.w X.K (s.heap.objs.size+1) s.heap.objs.size cont ia)
 (he:IsEnum g (s.heap.objs.size+1) s.heap.objs.size 0 .none)(hi:ia 0 g)(hk:∀ b o,s.heap.get? b=some o->g.get? b=some o)(q:R (Ite cont) H) :
  wpAny (model X.prog X.w) X.A (pyIter (.ref (s.heap.objs.size+1))) (PIE X pins σ (.Tuple elts kx tp) R) E { s with heap:=g }:=by
 refine wpAny_pyIter_enum he ⟨s.heap.objs.size+1,[s.heap.objs.size+1,s.heap.objs.size],_,_,H,rfl,I.kept (t':=s.toks) hk,vq (Nat.succ_ne_self _) S,⟨⟨.none,he⟩,hi⟩,fun b hb=>?_,q⟩
 have hb':s.heap.objs.size<=b:=by
  rcases List.mem_cons.mp hb with z | z
  ·rw[z];exact Nat.le_succ _
  ·rw[List.mem_singleton.mp z];exact Nat.le_refl _
 exact I.kN hb' (I.hok.fresh hb')
def AQ(TE:jX X.prog X.w)(hg:Gl X "enumerate")(hm:X.mg "enumerate" = none)(ha:PA X [a] ta)(hs:starEach [a] X.env=[(false,eval a X.env)]):PI X (.Tuple elts kx tp) (.Call (.Name "enumerate" p) [a] [] pos) (Fm ta):=by
 intro pins s σ H R I h;refine Call_ (iE I hg hm boot_enumerate (PyProof.Rows.callWith_type1 (thn (ha pos pins s σ H _ I h) fun us s1 ⟨vs,H1,I1,r1,q1⟩=>?_) hs rfl))
 rcases q1 with⟨l,xs,rfl,hx,q⟩ | ⟨l,xs,rfl,hx,q⟩ | ⟨x,rfl,q⟩
 ·obtain⟨u,rfl,ru⟩:=vals1 r1;cases ru;obtain⟨its,rv,pl,hz⟩:=I1.list (SqL.of hx);exact call_enumerate_list pl.isList fun g he hi hsz hk=>kZ I1 (src_list (Nat.succ_ne_self _)) he hi hk q
 ·obtain⟨u,rfl,ru⟩:=vals1 r1;cases ru;obtain⟨its,rv,pl,hz⟩:=I1.tuple (SqT.of hx);exact TE.call pl fun g he hi hk=>kZ I1 (Aq TE (Nat.succ_ne_self _)) he hi hk q
 ·obtain⟨u,rfl,ru⟩:=vals1 r1;obtain⟨t,rfl⟩:=ru;exact call_enumerate_str fun g he hi hsz hk=>kZ I1 (AI (Nat.succ_ne_self _)) he hi hk q
end
end L2
namespace RS
open PySem PySem.Spec PyProof.Rows L2
def jL:∀ (ds:List RL.D) (k:Int),(RL.cT k ds).length=ds.length
 | [],_=>rfl
 | d::r,k=>by rw[RL.cT,List.length_cons,List.length_cons,jL r]
def nO:∀ (ds:List RL.D) (k:Int) (i:Nat) (d:RL.D),(RL.cT k ds)[i]?=some d->∃ e,ds[i]?=some e/\d=.tup [.int (k+i),e]
 | [],k,i,d,h=>by simp[RL.cT]at h
 | e::r,k,0,d,h=>by simp[RL.cT]at h;exact⟨e,rfl,by simp[h]⟩
 | e::r,k,i+1,d,h=>by
  rw[RL.cT,List.getElem?_cons_succ]at h;obtain⟨e',h1,h2⟩:=nO r (k+1) i d h;refine⟨e',by simpa using h1,?_⟩;rw[h2];congr 3;lia
def gu{K:PySem.W.Frag}(hc:∀ H',Off P H H'->cont H' xs)(hj:∀ H' ys,cont H' xs->cont H' ys->ys=xs)(r:ah nP K H ds xs)(hm:∀ b o,P b->H b=some o->cN o):gN K (Ite cont) (RL.cT 0 ds) P H where
 go:=fun H' i k hi=>by
  rw[jL]at hi;obtain⟨x,e,_⟩:=r.get (i:=i) (d:=ds[i]) (by simp[hi]);exact⟨xs,x,hc H' k,e⟩
 stop:=fun H' k=>⟨xs,hc H' k,by rw[jL,r.length]⟩
 yld:=fun H' i d v H2 k e y=>by
  obtain⟨p,x,hp,rfl,rfl,hx⟩:=y;obtain⟨e',h1,rfl⟩:=nO ds 0 i d e;obtain⟨x',h2,h3⟩:=r.get h1;rw[hx xs (hc H' k)]at h2;cases h2;refine⟨au.bH hp,fun q=>?_⟩
  have re:Rep nP K H' e' x:=by
   rcases q with q | q
   ·have q:(true&&(e'.imm&&true))=true:=q;simp only[Bool.true_and,Bool.and_true]at q;exact gA hm k h3 q
   ·exact h3.same q
  rw[Rep];refine⟨p,[.int i,x],rfl,aP,ah.cons ?_ (ah.cons (re.same (au.bH hp)) ah.nil)⟩;simpa using(bb (P:=nP) (K:=K) (H:=upd H' p (.tup [.int i,x])) (i:=(i:Int)))
def uL{P:Addr->Prop}{K:PySem.W.Frag}(h:RL.d6 d=some ds)(r:Rep P K H d v):(∃ p xs,v=.ref p/\H p=some (.lst xs)/\d=.lst ds/\ah P K H ds xs)\/(∃ p xs,v=.ref p/\H p=some (.tup xs)/\d=.tup ds/\ah P K H ds xs) \/
  (∃ x,v=.str x/\d=.str x/\ds=x.cps.toList.map fun c=>.str ⟨#[c]⟩):=by
 cases d<;>simp only[RL.d6]at h<;>first | (cases h;done) | skip
 case lst ys=>cases h;obtain⟨p,xs,e1,_,e2,e3⟩:=aH r;exact .inl ⟨p,xs,e1,e2,rfl,e3⟩
 case tup ys=>cases h;obtain⟨p,xs,e1,e2,e3⟩:=bq r;exact .inr (.inl ⟨p,xs,e1,e2,rfl,e3⟩)
 case str x=>cases h;exact .inr (.inr ⟨x,aD r,rfl,rfl⟩)
def jl{P:Addr->Prop}{K:PySem.W.Frag}:∀ (cs:List Nat),ah P K H (cs.map fun c=>RL.D.str ⟨#[c]⟩) (cs.map fun c=>V.str ⟨#[c]⟩)
 | []=>ah.nil
 | c::r=>ah.cons df (jl r)
section rules
def CG(TE:jX X.prog X.w)(hg:Gl X "enumerate")(hm:X.mg "enumerate" = none)(ha:SE X cl a a')(hn:noStar a=true):SI X cl (.Tuple elts kx tp) (.Call (.Name "enumerate" p) [a] [] pos) (.enm a'):=by
 intro pins s σ H R I h;obtain⟨σD,ds,rv,e,k⟩:=h;obtain⟨d,e1,e2⟩:=bind_some e;obtain⟨es,e3,e4⟩:=map_some e2;subst e4;have hpa:PA X [a] (f9 (tE X.K cl a') j9):=ba ha cL (ay [] hn);refine AQ TE hg hm hpa (ay [] hn) pins s σ H R I ⟨σD,d,rv,e1,fun v H1 r1=>?_⟩
 rcases uL e3 r1.rep with⟨l,xs,rfl,hx,rfl,rs⟩ | ⟨l,xs,rfl,hx,rfl,rs⟩ | ⟨x,rfl,rfl,rfl⟩
 ·refine .inl ⟨l,xs,rfl,hx,k _ _ r1.same ⟨gu (fun H' o=>o _ _ (fun z=>z) hx) (fun H' ys h1 h2=>by rw[h1]at h2;cases h2;rfl) rs gP,fun M P z hP av=>?_⟩⟩;exact gu (fun H' o=>o _ _ (lF r1 z hP av _ _ rfl rfl) hx) (fun H' ys h1 h2=>by rw[h1]at h2;cases h2;rfl) rs (eB r1.same hP)
 ·have np:∀ P:Addr->Prop,(∀ b o,P b->H1 b=some o->cN o)->¬ P l:=fun P hP q=>by rcases hP l _ q hx with⟨z,q⟩ | ⟨z,q⟩ | ⟨z,q⟩<;>cases q
  exact .inr (.inl ⟨l,xs,rfl,hx,k _ _ r1.same ⟨gu (fun H' o=>o _ _ (np _ gP) hx) (fun H' ys h1 h2=>by rw[h1]at h2;cases h2;rfl) rs gP,fun M P z hP av=>gu (fun H' o=>o _ _ (np P (eB r1.same hP)) hx) (fun H' ys h1 h2=>by rw[h1]at h2;cases h2;rfl) rs (eB r1.same hP)⟩⟩)
 ·exact .inr (.inr ⟨x,rfl,k _ _ r1.same ⟨gu (fun H' o=>rfl) (fun H' ys h1 h2=>h2) (jl _) gP,fun M P z hP av=>gu (fun H' o=>rfl) (fun H' ys h1 h2=>h2) (jl _) (eB r1.same hP)⟩⟩)
end rules
section rules
variable{X:Cx}
def AX{P:Addr->Prop}{K:PySem.W.Frag}(h:Rep P K H (.scr ds) v):∃ a xs,v=.ref a/\jI K H a xs/\ah P K H ds xs:=by rw[Rep]at h;exact h
def vL(n:Nat)(k:Int):HT.sIx n n (some k)=RL.cutAt n k:=by
 have h:=HT.ku k n n;unfold RL.cutAt;split at h
 ·rw[if_neg (by lia)];lia
 ·rw[if_pos (by lia)];lia
def De(ha:SE X cl a a')(hb:SE X cl b b'):SE X cl (.Subscript a (.Slice none (some b) none p2) pos) (.slT a' b'):=by
 refine PE.weak (lg (SlR.or Bx BA) ha mi (mM hb)) fun σ H Q h=>?_;obtain⟨σD,d,rv,e,k⟩:=h;obtain⟨x,ea,e⟩:=bind_some e;obtain⟨y,eb,e⟩:=bind_some e;refine⟨σD,x,rv,ea,fun v H1 r1=>⟨σD,y,rv.same r1.same,eb,fun u H2 r2=>?_⟩⟩;have rx:=r1.rep.same r2.same;have sm:=r1.same.trans r2.same
 cases y with
 |int n=>
  refine⟨n,aq r2.rep,?_⟩
  cases x with
  |lst xs=>
   cases e;obtain⟨q,ys,rfl,_,f2,f3⟩:=aH rx;refine .inl ⟨q,ys,rfl,SqL.of f2,fun l hl=>?_⟩;unfold iX;rw[kA,<-f3.length];exact k _ _ (fz sm hl (f3.take _) fun _=>rfl)
  |scr xs=>
   cases e;obtain⟨q,ys,rfl,f2,f3⟩:=AX rx;refine .inl ⟨q,ys,rfl,f2.seq,fun l hl=>?_⟩;unfold iX;rw[kA,<-f3.length];exact k _ _ (fz sm hl (f3.take _) fun _=>rfl)
  |tup xs=>
   simp only[RL.tV]at e;split at e
   ·rename_i hz;cases e;obtain⟨q,ys,rfl,f2,f3⟩:=bq rx;refine .inr ⟨q,ys,rfl,SqT.of f2,fun z=>?_,fun l hl=>?_⟩
    ·rw[vL,<-f3.length]at z;lia
    ·unfold iX;rw[kA,<-f3.length];exact k _ _ (jw sm hl (f3.take _) fun _=>rfl)
   ·cases e
  | _=>cases e
 | _=>cases x<;>cases e
abbrev qY:RL.D->RL.D->Option (Option RL.D)
 | .dK ks vs,k=>(RL.keyOf k).map (RL.aG ks vs)
 | .dT ks vs,.tup k=>(RL.keysOf k).map (RL.aG ks vs)
 | _,_=>none
abbrev Ans(P:Addr->Prop)(K:PySem.W.Frag)(H:Hp):Option RL.D->Option V->Prop
 | some d,r=>∃ w,r=some w/\Rep P K H d w
 | none,r=>r=none
def mK{κ:Type} [DecidableEq κ]{P:Addr->Prop}{K:PySem.W.Frag}{H:Hp}{x:κ}:∀ {ks:List κ} {ds:List RL.D} {xs:List V},ks.length=ds.length->ah P K H ds xs ->
  Ans P K H (RL.aG ks ds x) (eO (ks.zip xs) x)
 | [],ds,xs,hl,r=>by simp[RL.aG,eO,Ans]
 | k::ks,[],xs,hl,r=>by simp at hl
 | k::ks,d::ds,xs,hl,r=>by
  rw[ah]at r;obtain⟨v,t,rfl,r1,r2⟩:=r;by_cases hk:k=x
  ·have h1:RL.aG (k::ks) (d::ds) x=some d:=by rw[RL.aG,if_pos hk]
   rw[h1];exact⟨v,by rw[List.zip_cons_cons];exact jv hk,r1⟩
  ·have ih:=mK (x:=x) (ks:=ks) (ds:=ds) (xs:=t) (by simpa using hl) r2
   have h1:RL.aG (k::ks) (d::ds) x=RL.aG ks ds x:=by rw[RL.aG,if_neg hk]
   rw[h1,List.zip_cons_cons,iW hk];exact ih
def kB{P:Addr->Prop}{K:PySem.W.Frag}(h:RL.keyOf d=some k)(r:Rep P K H d v):v=kV k:=by
 cases d<;>simp only[RL.keyOf]at h<;>first | (cases h;done) | skip
 case int i=>cases h;exact aq r
 case str i=>cases h;exact aD r
def j6{P:Addr->Prop}{K:PySem.W.Frag}:∀ {ds:List RL.D} {k:List RL.Ky} {xs:List V},RL.keysOf ds=some k->ah P K H ds xs->xs=k.map kV
 | [],k,xs,h,r=>by cases h;rw[ah]at r;exact r
 | d::ds,k,xs,h,r=>by
  rw[RL.keysOf]at h;obtain⟨k1,h1,h⟩:=bind_some h;obtain⟨k2,h2,h3⟩:=map_some h;subst h3;rw[ah]at r;obtain⟨v,t,rfl,r1,r2⟩:=r;rw[kB h1 r1,j6 h2 r2];rfl
def km{H:Hp}{y kx:RL.D}{v u:V}{o:Option RL.D}(ry:Rep nP X.K H y v)(rk:Rep nP X.K H kx u)(h:qY y kx=some o) :
  ∃ q r,v=.ref q/\dR H q u r/\Ans nP X.K H o r:=by
 cases y with
 |dK ks vs=>
  obtain⟨k,h1,h2⟩:=map_some h;rw[Rep]at ry;obtain⟨q,xs,rfl,_,f2,fl,f3⟩:=ry;have lk:=mK (x:=k) fl f3;rw[h2]at lk;refine⟨q,_,rfl,by rw[kB h1 rk];exact dR.k f2,lk⟩
 |dT ks vs=>
  cases kx with
  |tup kk=>
   obtain⟨k,h1,h2⟩:=map_some h;rw[Rep]at ry;obtain⟨q,xs,rfl,_,f2,fl,f3⟩:=ry;obtain⟨q',ys,rfl,g2,g3⟩:=bq rk;rw[j6 h1 g3]at g2;have lk:=mK (x:=k) fl f3;rw[h2]at lk;exact⟨q,_,rfl,dR.t f2 g2,lk⟩
  | _=>cases h
 | _=>cases kx<;>cases h
def Cf(h:RL.ql y kx=some d):qY y kx=some (some d):=by
 cases y with
 | dK ks vs=>obtain⟨k,h1,h2⟩:=bind_some (show(RL.keyOf kx).bind (RL.aG ks vs)=some d from h);show(RL.keyOf kx).map (RL.aG ks vs)=_;rw[h1,Option.map_some,h2]
 |dT ks vs=>
  cases kx with
  | tup kk=>obtain⟨k,h1,h2⟩:=bind_some (show(RL.keysOf kk).bind (RL.aG ks vs)=some d from h);show(RL.keysOf kk).map (RL.aG ks vs)=_;rw[h1,Option.map_some,h2]
  | _=>cases h
 | _=>cases kx<;>cases h
def By(hu:X.A.units+100<cLine)(ha:SE X cl a a')(hb:SE X cl b b')(hs:uv b):SE X cl (.Subscript a b pos) (.ixD a' b'):=by
 refine PE.weak (Bp (by lia) ha hb hs) fun σ H Q h=>?_;obtain⟨σD,d,rv,e,k⟩:=h;obtain⟨x,ea,e⟩:=bind_some e;obtain⟨y,eb,e⟩:=bind_some e;refine⟨σD,x,rv,ea,fun v H1 r1=>⟨σD,y,rv.same r1.same,eb,fun u H2 r2=>?_⟩⟩;obtain⟨q,r,rfl,g,w,rfl,rw'⟩:=km (r1.rep.same r2.same) r2.rep (Cf e);exact⟨q,w,rfl,g,k _ _ ⟨r1.same.trans r2.same,rw',fun z=>(by cases z),fun M z=>nomatch (show false=true from z)⟩⟩
def C9:SE X cl (.Dict [] [] pos) .dk0:=by
 refine PE.weak x4 fun σ H Q h=>?_;obtain⟨σD,d,rv,e,k⟩:=h;cases e;intro q hq;refine k _ _ ⟨au.bH hq,?_,fun _ _ a z=>(by cases z;exact hq),fun M z=>nomatch (show false=true from z)⟩;rw[Rep];exact⟨q,[],rfl,fun z=>z,aP,rfl,ah.nil⟩
def CH:SE X cl (.Dict [] [] pos) .dt0:=by
 refine PE.weak x5 fun σ H Q h=>?_;obtain⟨σD,d,rv,e,k⟩:=h;cases e;intro q hq;refine k _ _ ⟨au.bH hq,?_,fun _ _ a z=>(by cases z;exact hq),fun M z=>nomatch (show false=true from z)⟩;rw[Rep];exact⟨q,[],rfl,fun z=>z,aP,rfl,ah.nil⟩
end rules
section rules
variable{X:Cx}{st:Stmt}
def ED(h:RL.yr y kx=some k):∃ o,qY y kx=some o/\k=o.isSome:=by
 cases y with
 | dK ks vs=>obtain⟨q,h1,h2⟩:=map_some (show(RL.keyOf kx).map _=some k from h);exact⟨RL.aG ks vs q,by show(RL.keyOf kx).map _=_;rw[h1];rfl,h2.symm⟩
 |dT ks vs=>
  cases kx with
  | tup kk=>obtain⟨q,h1,h2⟩:=map_some (show(RL.keysOf kk).map _=some k from h);exact⟨RL.aG ks vs q,by show(RL.keysOf kk).map _=_;rw[h1];rfl,h2.symm⟩
  | _=>cases h
 | _=>cases kx<;>cases h
def Ans.isSome{P:Addr->Prop}{K:PySem.W.Frag}(h:Ans P K H o r):r.isSome=o.isSome:=by
 cases o with
 | none=>rw[show r=none from h];rfl
 | some d=>obtain⟨w,hw,_⟩:=h;rw[hw];rfl
abbrev zi(neg:Bool)(ty td:TE):TE:=if neg then rY ty td else CT ty td
def su(hu:X.A.units+100<cLine)(ha:SE X cl a a')(hb:SE X cl b b'):PC X (if neg then .NotIn else .In) a b (zi neg (tE X.K cl a') (tE X.K cl b')):=by
 cases neg with
 | true=>exact wW (by lia) ha hb
 | false=>exact Et (by lia) ha hb
def wJ(rv:RV0 X.K σD σ H)(e:RL.ev cl σD (.inD neg a' b')=some d)(k:∀ t H',d=.bl t->au H H'->Q (.bl t) H'):zi neg (tE X.K cl a') (tE X.K cl b') σ H Q:=by
 obtain⟨x,ea,e⟩:=bind_some e;obtain⟨y,eb,e⟩:=bind_some e;obtain⟨t,e1,e2⟩:=map_some e;obtain⟨o,h1,h2⟩:=ED e1
 cases neg with
 |true=>
  refine two rv ea eb fun v u H1 H2 s1 s2 rx ry _ _=>?_;obtain⟨q,r,rfl,g,an⟩:=km ry rx h1;refine⟨q,r,rfl,g,k _ _ ?_ (s1.trans s2)⟩;rw[an.isSome,<-e2,h2];rfl
 |false=>
  refine two rv ea eb fun v u H1 H2 s1 s2 rx ry _ _=>?_;obtain⟨q,r,rfl,g,an⟩:=km ry rx h1;refine⟨q,r,rfl,g,k _ _ ?_ (s1.trans s2)⟩;rw[an.isSome,<-e2,h2];rfl
def Dm(hu:X.A.units+100<cLine)(ha:SE X cl a a')(hb:SE X cl b b')(hm:kQ b=true):SE X cl (.Compare a [if neg then .NotIn else .In] [b] pos) (.inD neg a' b'):=by
 refine PE.weak (DD (su hu ha hb) (hV hm)) fun σ H Q h=>?_;obtain⟨σD,d,rv,e,q⟩:=h
 exact wJ rv e fun t H' hd sm=>by subst hd;exact q _ _ (dn sm)
def Ei(hu:X.A.units+100<cLine)(ha:SE X cl a a')(hb:SE X cl b b')(hm:kQ b=true):ST X cl (.Compare a [if neg then .NotIn else .In] [b] pos) (.inD neg a' b'):=by
 refine PT.weak (Ec (su hu ha hb) (hV hm)) fun σ H Q h=>?_;obtain⟨σD,k,rv,e,q⟩:=h;obtain⟨d,e1,e2⟩:=bind_some e;refine wJ rv e1 fun t H' hd sm=>?_;subst hd;cases e2;exact⟨_,rfl,q _ sm⟩
def sD{κ:Type} [DecidableEq κ]{x:κ}{d:RL.D}{v:V}{P:Addr->Prop}{K:PySem.W.Frag}{H:Hp}{ks:List κ}{ds:List RL.D}{xs:List V}(hl:ks.length=ds.length)(r:ah P K H ds xs)(rv:Rep P K H d v) :
  ∃ ys,putK (ks.zip xs) x v=(RL.putD ks ds x d).1.zip ys/\(RL.putD ks ds x d).1.length=(RL.putD ks ds x d).2.length/\ah P K H (RL.putD ks ds x d).2 ys:=by
 have hx:ks.length=xs.length:=hl.trans r.length
 have any:∀ (ks:List κ) (xs:List V),ks.length=xs.length->((ks.zip xs).any fun kv=>decide (kv.1=x))=decide (x∈ks):=by
  intro ks
  induction ks with
  | nil=>intro xs _;simp
  |cons k r ih=>
   intro xs h
   cases xs with
   | nil=>simp at h
   |cons y t=>
    rw[List.zip_cons_cons,List.any_cons,ih t (by simpa using h)];by_cases hk:k=x
    ·simp[hk]
    ·simp[hk,Ne.symm hk]
 unfold putK RL.putD;rw[any ks xs hx];by_cases hm:x∈ks
 ·rw[if_pos (by simpa using hm),if_pos hm];refine⟨List.zipWith (fun k w=>if k=x then v else w) ks xs,?_,?_,?_⟩
  ·clear any hm hl r
   induction ks generalizing xs with
   | nil=>simp
   |cons k t ih=>
    cases xs with
    | nil=>simp at hx
    |cons y t'=>
     rw[List.zip_cons_cons,List.map_cons,List.zipWith_cons_cons,List.zip_cons_cons,ih (by simpa using hx)];by_cases hk:k=x<;>simp[hk]
  ·rw[List.length_zipWith,hl,Nat.min_self]
  ·clear any hm hx
   induction ks generalizing ds xs with
   | nil=>simpa using ah.nil
   |cons k t ih=>
    cases ds with
    | nil=>simp at hl
    |cons d0 ds=>
     rw[ah]at r;obtain⟨y,t',rfl,r1,r2⟩:=r;rw[List.zipWith_cons_cons,List.zipWith_cons_cons];refine ah.cons ?_ (ih (by simpa using hl) r2);by_cases hk:k=x
     ·rw[if_pos hk,if_pos hk];exact rv
     ·rw[if_neg hk,if_neg hk];exact r1
 ·rw[if_neg (by simpa using hm),if_neg hm];refine⟨xs++[v],?_,by simp[hl],ah.append r (ah.cons rv ah.nil)⟩;rw[List.zip_append hx];rfl
def vB [DecidableEq κ](hd:d.imm=true):∀ {ks:List κ} {ds:List RL.D},RL.ax ds=true->RL.ax (RL.putD ks ds x d).2=true:=by
 have app:∀ l:List RL.D,RL.ax l=true->RL.ax (l++[d])=true:=fun l=>by
  induction l with
  | nil=>intro _;simp[RL.ax,hd]
  | cons z r ih=>intro h;rw[RL.ax,Bool.and_eq_true]at h;rw[List.cons_append,RL.ax,h.1,ih h.2];rfl
 have zw:∀ (ks:List κ) (ds:List RL.D),RL.ax ds=true->RL.ax (List.zipWith (fun k w=>if k=x then d else w) ks ds)=true:=fun ks=>by
  induction ks with
  | nil=>intro ds _;simp[RL.ax]
  |cons k r ih=>
   intro ds h
   cases ds with
   | nil=>simp[RL.ax]
   |cons y t=>
    rw[RL.ax,Bool.and_eq_true]at h;rw[List.zipWith_cons_cons,RL.ax,ih t h.2,Bool.and_true];by_cases hk:k=x
    ·rw[if_pos hk];exact hd
    ·rw[if_neg hk];exact h.1
 intro ks ds h;unfold RL.putD;split
 ·exact zw ks ds h
 ·exact app ds h
def Au(h:PS X st (tJ (gE i) (tE X.K cl k') (tE X.K cl e')))(hi:M.contains i=true):PS X st (tS X.K M fun σD=>(RL.ev cl σD e').bind fun d=>(RL.ev cl σD k').bind fun kk=>((σD[i]?).bind id).bind fun l=>match l with
  | .lst _=>none
  | _=>if d.imm then(RL.dD l kk d).map fun l'=>(.nx,σD.set i (some l'))else none):=by
 refine PS.weak h fun D σ H h=>?_;obtain⟨σD,o,σD',rv,e,k⟩:=h;obtain⟨d,e1,e⟩:=bind_some e;obtain⟨kk,e2,e⟩:=bind_some e;obtain⟨l,e3,e⟩:=bind_some e;obtain⟨v,h1,h2⟩:=rv.val i _ (slot_get e3);rw[if_pos hi]at h2;obtain⟨q1,q2,q3⟩:=h2
 cases l with
 |dK ks ds=>
  dsimp only at e;split at e
  ·rename_i him;obtain⟨l',e4,e5⟩:=map_some e;cases e5;obtain⟨kx,e6,e7⟩:=bind_some (show(RL.keyOf kk).bind _=some l' from e4);split at e7
   ·rename_i hz;cases e7;rw[Rep]at q3;obtain⟨q,xs,rfl,_,f2,fl,f3⟩:=q3;refine⟨σD,d,rv.rv0,e1,fun y H1 r1=>⟨.ref q,h1,σD,kk,rv.rv0.same r1.same,e2,fun u H2 r2=>?_⟩⟩;have sm:=r1.same.trans r2.same;obtain⟨ys,p1,p2,p3⟩:=sD (x:=kx) fl (f3.same sm) (r1.rep.same r2.same)
    have hlen:(ks.zip xs).length<sizeLine:=by
     rw[List.length_zip,<-f3.length,fl,Nat.min_self,<-fl];exact Nat.lt_of_lt_of_le hz bI
    refine⟨q,_,rfl,by rw[kB e6 r2.rep];exact jC.k (sm _ _ f2) hlen,?_⟩;have im:=vB (x:=kx) him (ks:=ks) q2
    obtain⟨g1,g2⟩:=(rv.same sm).gQ (d':=.dK (RL.putD ks ds kx d).1 (RL.putD ks ds kx d).2) (o':=.dK (putK (ks.zip xs) kx y)) hi h1 (sm _ _ f2) (.inr (.inl ⟨_,rfl⟩)) ⟨rfl,im,by
     rw[Rep]
     exact⟨q,ys,rfl,fun z=>z,by rw[aP,p1],p2,(ah.upd (P:=fun p=>p=q) (sm _ _ f2) (.inr (.inl ⟨_,rfl⟩)) rfl (p3.imm im)).imm im⟩⟩
    exact k _ _ g1 ((Fr'.same sm).trans g2)
   ·cases e7
  ·cases e
 |dT ks ds=>
  dsimp only at e;split at e
  ·rename_i him;obtain⟨l',e4,e5⟩:=map_some e;cases e5
   cases kk with
   |tup kt=>
    obtain⟨kx,e6,e7⟩:=bind_some (show(RL.keysOf kt).bind _=some l' from e4);split at e7
    ·rename_i hz;cases e7;rw[Rep]at q3;obtain⟨q,xs,rfl,_,f2,fl,f3⟩:=q3;refine⟨σD,d,rv.rv0,e1,fun y H1 r1=>⟨.ref q,h1,σD,.tup kt,rv.rv0.same r1.same,e2,fun u H2 r2=>?_⟩⟩;have sm:=r1.same.trans r2.same;obtain⟨ys,p1,p2,p3⟩:=sD (x:=kx) fl (f3.same sm) (r1.rep.same r2.same)
     have hlen:(ks.zip xs).length<sizeLine:=by
      rw[List.length_zip,<-f3.length,fl,Nat.min_self,<-fl];exact Nat.lt_of_lt_of_le hz bI
     obtain⟨b,ws,rfl,g2,g3⟩:=bq r2.rep;rw[j6 e6 g3]at g2;refine⟨q,_,rfl,jC.t (sm _ _ f2) g2 hlen,?_⟩;have im:=vB (x:=kx) him (ks:=ks) q2
     obtain⟨g1,g2⟩:=(rv.same sm).gQ (d':=.dT (RL.putD ks ds kx d).1 (RL.putD ks ds kx d).2) (o':=.dT (putK (ks.zip xs) kx y)) hi h1 (sm _ _ f2) (.inr (.inr ⟨_,rfl⟩)) ⟨rfl,im,by
      rw[Rep]
      exact⟨q,ys,rfl,fun z=>z,by rw[aP,p1],p2,(ah.upd (P:=fun p=>p=q) (sm _ _ f2) (.inr (.inr ⟨_,rfl⟩)) rfl (p3.imm im)).imm im⟩⟩
     exact k _ _ g1 ((Fr'.same sm).trans g2)
    ·cases e7
   | _=>cases e4
  ·cases e
 | lst _=>cases e
 | _=>cases q1
end rules
end RS
namespace L2
open PySem PySem.Spec PyProof.Rows
abbrev Its(c lo:Int)(n:Nat):It:=⟨fun i _=>i<n,fun i H x H'=>H'=H/\x=.int (lo+i*c),fun i _=>n<=i⟩
def wH{P:Program}{w:World}{K:PySem.W.Frag}(it:Addr)(c lo:Int)(n:Nat):Turn P w K tg (Its c lo n) [it] it (fun i h=>IsRangeIter h it (lo+(i:Nat)*c) ((n:Int)-(i:Nat)) c) where
 mem:=by simp
 obj:=fun i h st b hb=>by
  rw[show b=it by simpa using hb];exact⟨_,st,fun v z=>by cases(show Data.fields _=Data.cell v from z)⟩
 keep:=fun i h h' st k=>k it (by simp) _ st
 item:=by
  intro X hP hw hK hc i pins s σ H E I hf st hg;subst hP hw hK;obtain⟨f0,f1,f2,f3,f4,f5⟩:=hf it (by simp);have W:=Walks.range (prog:=X.prog) (w:=X.w) (I.ok.hd.1 hc) it lo c n;refine W.item i s _ _ hg st fun v h' tk hv st' kk=>?_;obtain⟨t,rfl⟩:=hv;have I1:Inv X pins σ H { s with heap:=h',toks:=tk }:=I.turned (fun b o hb e=>kk b o (by simpa using hb) e) f0 f1 f3 f4 f5;exact⟨_,rfl,lT (s:={ s with heap:=h',toks:=tk }) (n := "range_iterator") st' rfl rfl (by decide) ⟨.int (lo+i*c),H,I1,⟨t,rfl⟩,⟨rfl,rfl⟩,st',fun b hb=>(hf b hb).1⟩⟩
 done:=by
  intro X hP hw hK hc i pins s σ H E I hf st hg;subst hP hw hK;obtain⟨f0,f1,f2,f3,f4,f5⟩:=hf it (by simp)
  exact wpAny_pyNext_range_end (I.ok.hd.1 hc) st (by have:n<=i:=hg;lia) fun h' eb=>⟨rfl,I.turned (t':=s.toks) (fun b o hb e=>eb b o hb e) f0 f1 f3 f4 f5⟩
 self:=fun _ _ _ _ _ st h=>wpAny_pyIter_rangeiter st h
end L2
namespace RS
open PySem PySem.Spec PyProof.Rows L2
def lN(c:Int):∀ (n:Nat) (lo:Int) (i:Nat) (d:RL.D),(RL.bU c lo n)[i]?=some d->d=.int (lo+i*c)
 | 0,lo,i,d,h=>by simp[RL.bU]at h
 | n+1,lo,0,d,h=>by simp[RL.bU]at h;simp[h]
 | n+1,lo,i+1,d,h=>by
  rw[RL.bU,List.getElem?_cons_succ]at h;rw[lN c n (lo+c) i d h];congr 1;rw[show((i+1:Nat):Int)=(i:Int)+1 by lia,Int.add_mul];lia
def iZ(c:Int):∀ (n:Nat) (lo:Int),(RL.bU c lo n).length=n
 | 0,_=>rfl
 | n+1,lo=>by rw[RL.bU,List.length_cons,iZ c n]
def rR{K:PySem.W.Frag}{H:Hp}{c lo:Int}:gN K (Its c lo n) (RL.bU c lo n) P H where
 go:=fun H' i k hi=>by rw[iZ]at hi;exact hi
 stop:=fun H' k=>by rw[iZ];exact Nat.le_refl _
 yld:=fun H' i d x H2 k e y=>by
  obtain⟨z,y⟩:=y;subst z;refine⟨au.refl _,fun _=>?_⟩;rw[lN c n lo i d e,y];exact bb
section rules
variable{st:Stmt}
def vY(hf:∀ a b,RL.aB o (.int a) (.int b)=some (.int (f a b)))(h:PS X st (BZ i (tE X.K cl e') (ipI f)))(hi:M.contains i=false):SS X cl M st (.aug i o e'):=by
 refine PS.weak h fun D σ H h=>?_;obtain⟨σD,ou,σD',rv,e,k⟩:=h;obtain⟨x,e1,e⟩:=bind_some e;obtain⟨y,e2,e⟩:=bind_some e
 cases x with
 |int a=>
  cases y with
  |int b=>
   dsimp only at e;rw[hf]at e;cases e;obtain⟨v,h1,h2⟩:=rv.val i _ (slot_get e1);rw[if_neg (by rw[hi];decide)]at h2;refine⟨v,h1,σD,.int b,rv.rv0,e2,fun u H1 r1=>⟨a,b,aq h2,aq r1.rep,?_⟩⟩;exact k _ _ ((rv.same r1.same).bind hi bb) (Fr'.bind hi r1.same)
  | _=>cases e
 | _=>cases e
end rules
abbrev my(p:Addr)(a b c:Int):HO:=.ext fun h=>∃ t u v,IsRange h p a b c t u v
def qF(a b c:Int):0<=Builtin.Range.rangeSize a b c:=by
 unfold Builtin.Range.rangeSize;split
 ·split
  ·have:=Int.ediv_nonneg (a:=b-a-1) (b:=c) (by lia) (by lia);omega
  ·lia
 ·split
  ·by_cases h0:c=0
   ·subst h0;simp
   ·have:=Int.ediv_nonneg (a:=a-b-1) (b:=-c) (by lia) (by lia);omega
  ·lia
def xF(a b c:Int):Builtin.Range.rangeSize a b c<=(if a<b then b-a else a-b)+1:=by
 unfold Builtin.Range.rangeSize;split
 ·split
  ·have:=Int.ediv_le_self (a:=b-a-1) c (by lia);lia
  ·lia
 ·split
  ·have:=Int.ediv_le_self (a:=a-b-1) (-c) (by lia);split<;>omega
  ·split<;>lia
def jG(a b c:Int):(RL.bC c a b:Int)=Builtin.Range.rangeSize a b c:=Int.toNat_of_nonneg (qF a b c)
def nS(ha:-(2 ^ 60)<=a)(ha':a<2 ^ 60)(hb:-(2 ^ 60)<=b)(hb':b<2 ^ 60)(hc:-(2 ^ 60)<=c)(hc':c<2 ^ 60):Builtin.Range.small a b c=true:=by
 have h1:=qF a b c;have h2:=xF a b c;unfold Builtin.Range.small;simp only[Builtin.Range.rangeFitsLong,Bool.and_eq_true,Bool.or_eq_true,decide_eq_true_eq,beq_iff_eq];refine⟨⟨⟨⟨?_,?_⟩,?_⟩,?_⟩,.inr ?_⟩
 ·lia
 ·lia
 ·lia
 ·split at h2<;>lia
 ·split<;>(rw[Bool.and_eq_true,decide_eq_true_eq,decide_eq_true_eq];lia)
section
variable{X:Cx}
abbrev pY(xs:List V)(a b c:Int):Prop:=(xs=[.int b]/\a=0/\c=1)\/(xs=[.int a,.int b]/\c=1)\/(xs=[.int a,.int b,.int c]/\c≠0/\c.natAbs<2 ^ 60)
def kK{pins:List (Addr × Obj)}{σ:L2.St}{H:Hp}{s:Shared}{a b c:Int}{t u v:Tok}{tk:Nat}(I:Inv X pins σ H s):Inv X pins σ (upd H s.heap.objs.size (my s.heap.objs.size a b c)) { s with heap:=s.heap.push { cls:=.type "range",data:=.fields #[.int a t,.int b u,.int c v] },toks:=tk } :=
 I.laid (fun b u e=>Heap.get?_push_of_some _ e) (Nat.le_refl _) ⟨⟨t,u,v,IsRange.new _ a b c t u v⟩,⟨_,Heap.get?_push_size _ rfl⟩,fun h1 h2 ⟨t,u,v,e⟩ k=>⟨t,u,v,k _ e⟩⟩
def lh:bx X (.type "range") (fun xs H Q=>∃ a b c,pY xs a b c/\∀ p,H p=none->Q (.ref p) (upd H p (my p a b c))):=by
 intro pins s σ H xs us Q I r h;obtain⟨a,b,c,ha,q⟩:=h;have hf:H s.heap.objs.size=none:=I.hok.fresh (Nat.le_refl _)
 rcases ha with⟨rfl,rfl,rfl⟩ | ⟨rfl,rfl⟩ | ⟨rfl,hc,hc2⟩
 ·cases r with
  |cons r rr=>
   cases rr;obtain⟨t,rfl⟩:=r;exact call_range_1 ⟨.ref _,_,kK I,rfl,q _ hf⟩
 ·cases r with
  |cons r rr=>
   cases rr with
   |cons r2 rr=>
    cases rr;obtain⟨t,rfl⟩:=r;obtain⟨t2,rfl⟩:=r2;exact call_range_2 ⟨.ref _,_,kK I,rfl,q _ hf⟩
 ·cases r with
  |cons r rr=>
   cases rr with
   |cons r2 rr=>
    cases rr with
    |cons r3 rr=>
     cases rr;obtain⟨t,rfl⟩:=r;obtain⟨t2,rfl⟩:=r2;obtain⟨t3,rfl⟩:=r3;refine call_range_3 hc ⟨.ref _,_,kK I,rfl,q _ hf⟩ (.inl (PyProof.noPylong_of_log2 ?_));have:c.natAbs.log2<60:=(Nat.log2_lt (by lia)).mpr hc2;lia
abbrev de(a c:Int)(n:Nat):List V:=(List.range n).map fun(i:Nat)=>V.int (a+(i:Int)*c)
def Am{a c:Int}{n:Nat}{acc:Array Value}(hI:ItemsOf (fun i v=>∃ t,v=.int (a+i*c) t) acc n):Vals (de a c n) acc.toList:=by
 have len:(de a c (n)).length=acc.toList.length:=by
  simp only[de,List.length_map,List.length_range,Array.length_toList,hI.1]
 have gen:∀ (xs:List V) (us:List Value),xs.length=us.length->(∀ (i:Nat) u,us[i]?=some u->∃ x,xs[i]?=some x/\RelV x u)->Vals xs us:=by
  intro xs
  induction xs with
  | nil=>intro us h _;cases us with
   | nil=>exact .nil
   | cons _ _=>cases h
  | cons x r ih=>intro us h g;cases us with
   | nil=>cases h
   |cons u us=>
    obtain⟨x',e1,e2⟩:=g 0 u rfl;cases e1
    exact .cons e2 (ih us (by simpa using h) fun i u hu=>by
     obtain⟨y,e3,e4⟩:=g (i+1) u (by simpa using hu)
     exact⟨y,by simpa using e3,e4⟩)
 refine gen _ _ len fun i u hu=>?_
 have hu':acc[i]?=some u:=by simpa using hu
 obtain⟨tk,rfl⟩:=hI.2 i u hu'
 have hi:i<n:=by
  have:=(Array.getElem?_eq_some_iff.mp hu').1;rw[hI.1]at this;exact this
 exact⟨.int (a+(i:Int)*c),by simp[de,hi],tk,rfl⟩
def jz(hc:X.calm=true):bx X (.type "list") (fun xs H Q=>∃ p a b c,xs=[.ref p]/\H p=some (my p a b c)/\Builtin.Range.small a b c=true/\RL.bC c a b<=RL.most /\
  ∀ l,H l=none->Q (.ref l) (upd H l (.lst (de a c (RL.bC c a b))))):=by
 intro pins s σ H xs us Q I r h;obtain⟨p,a,b,c,rfl,hp,hs,hn,q⟩:=h
 cases r with
 |cons r rr=>
  cases rr;cases r;obtain⟨⟨t,u,v,hR⟩,_,_⟩:=I.hok p _ hp;refine call_list_range (I.ok.hd.1 hc) hR hs (jG a b c).symm (Nat.le_trans hn (by decide)) fun h' tk acc c' hk hS hI=>?_;have hf:H s.heap.objs.size=none:=I.hok.fresh (Nat.le_refl _);refine⟨.ref s.heap.objs.size,upd H s.heap.objs.size (.lst (de a c (RL.bC c a b))),I.laid hk (Nat.le_refl _) (show _/\_ from⟨?_,acc.toList,c',?_,?_⟩),rfl,q _ hf⟩
  ·simp only[de,List.length_map,List.length_range];exact Nat.le_trans hn bI
  ·exact Am hI
  ·rw[Array.toArray_toList];exact hS
def nM{P:Addr->Prop}{K:PySem.W.Frag}:∀ (n:Nat) (a c:Int),ah P K H (RL.bU c a n) (de a c n)
 | 0,a,c=>ah.nil
 | n+1,a,c=>by
  have e:de a c (n+1)=V.int a::de (a+c) c n:=by
   simp only[de,List.range_succ_eq_map,List.map_cons,List.map_map];congr 1
   ·simp
   ·apply List.map_congr_left;intro i _;show V.int (a+((i+1:Nat):Int)*c)=V.int (a+c+(i:Int)*c);congr 1;rw[show((i+1:Nat):Int)=(i:Int)+1 by lia,Int.add_mul];lia
  rw[RL.bU,e];exact ah.cons bb (nM n (a+c) c)
def pS:∀ (n:Nat) (a:Int),RL.cw a n=RL.bU 1 a n
 | 0,_=>rfl
 | n+1,a=>by rw[RL.cw,RL.bU,pS n]
def lx(a b:Int):RL.bC 1 a b=(b-a).toNat:=by
 have h:=jG a b 1;rw[rangeSize_one]at h;split at h<;>lia
def uT{σD:RL.St}{σ:L2.St}{H H1:Hp}{e:RL.E}{Q:VK}{vs:List V}{a b c:Int}{ds:List RL.D}(hv:pY vs a b c)(hd:ds=RL.bU c a (RL.bC c a b))(hn:RL.bC c a b<=RL.most)(hs:Builtin.Range.small a b c=true)(sm:au H H1)
 (hav:∀ M,RL.avE M e=false)(k:∀ v H',Res X.K σD σ H e (.lst ds) v H'->Q v H') :
  ∃ a b c,pY vs a b c/\∀ p,H1 p=none->(fun xs H Q=>∃ p a b c,xs=[V.ref p]/\H p=some (my p a b c)/\Builtin.Range.small a b c=true/\RL.bC c a b<=RL.most/\∀ l,H l=none->Q (.ref l) (upd H l (.lst (de a c (RL.bC c a b))))) [.ref p] (upd H1 p (my p a b c)) Q:=by
 refine⟨a,b,c,hv,fun p hp=>⟨p,a,b,c,rfl,aP,hs,hn,fun l hl=>k _ _ ?_⟩⟩;subst hd;exact fz (sm.trans (au.bH hp)) hl (nM _ _ _) hav
def A4(hc:X.calm=true)(hgl:Gl X "list")(hml:X.mg "list" = none)(hg:Gl X "range")(hm:X.mg "range" = none)(ha:SE X cl a a')(hn:noStar a=true){p2 pos2:Pos}:SE X cl (.Call (.Name "list" p2) [.Call (.Name "range" p) [a] [] pos] [] pos2) (.rng1 a'):=by
 refine PE.weak (d9 (jz hc) hgl hml (by decide +kernel) (ba (d9 lh hg hm boot_range (cj (cl:=cl) ha dH hn) (by decide) (by decide) (ay [] hn) rfl) cL) (by decide) (by decide) rfl rfl) fun σ H Q h=>?_;obtain⟨σD,d,rv,e,k⟩:=h;obtain⟨x,ea,e⟩:=bind_some e;obtain⟨ds,e1,e2⟩:=map_some e;subst e2;obtain⟨i,j,e3,rfl,hb,hm2,rfl⟩:=vJ e1;cases e3
 have hb2:-(2 ^ 60)<=j/\j<2 ^ 60:=by
  simp only[RL.fE]at e1;split at e1
  ·lia
  ·cases e1
 refine one rv ea fun v H1 s1 r1=>?_;exact uT (a:=0) (b:=j) (c:=1) (.inl ⟨by rw[aq r1],rfl,rfl⟩) (by rw[pS,lx]) (by rw[lx];exact hm2) (nS (by decide) (by decide) hb2.1 hb2.2 (by decide) (by decide)) s1 (fun _=>rfl) k
abbrev gZ(c:Int):Expr->Bool
 | .Constant (.int i) _ _=>i == c
 | .UnaryOp .USub (.Constant (.int i) _ _) _=>-i == c
 | _=>false
def jT(h:gZ c e=true):PE X e (tC (.int c))/\noStar e=true:=by
 unfold gZ at h;split at h
 ·rw[beq_iff_eq]at h;subst h;exact⟨qG,rfl⟩
 ·rw[beq_iff_eq]at h;subst h;exact⟨PE.weak (zK vx qG) fun σ H Q q=>⟨_,rfl,q⟩,rfl⟩
 ·cases h
def sI(h:RL.gg c x y=some ds):∃ i j:Int,x=.int i/\y=.int j/\c≠0/\c.natAbs<2 ^ 60/\Builtin.Range.small i j c=true/\RL.bC c i j<=RL.most/\ds=RL.bU c i (RL.bC c i j):=by
 cases x<;>cases y<;>simp only[RL.gg]at h<;>first
  | (cases h;done)
  | (split at h
     ·rename_i i j hc;cases h;exact⟨i,j,rfl,rfl,hc.1,by omega,nS hc.2.2.2.2.1 hc.2.2.2.2.2.1 hc.2.2.2.2.2.2.1 hc.2.2.2.2.2.2.2 (by omega) hc.2.2.1,hc.2.2.2.1,rfl⟩
     ·cases h)
def rO(ha:SE X cl a a')(hb:SE X cl b b')(hn:noStar a=true)(hn2:noStar b=true)(h3:gZ c e3=true):PA X [a,b,e3] (fun σ H R=>tE X.K cl a' σ H fun v H1=>tE X.K cl b' σ H1 fun u H2=>R [v,u,.int c] H2) :=
 ba ha (ba hb (ba (jT h3).1 cL (ay [] (jT (X:=X) h3).2)) (ay _ hn2)) (ay _ hn)
def AN{c:Int}{e3:Expr}(hc:X.calm=true)(hgl:Gl X "list")(hml:X.mg "list" = none)(hg:Gl X "range")(hm:X.mg "range" = none)(ha:SE X cl a a')(hb:SE X cl b b')(hn:noStar a=true)(hn2:noStar b=true)(h3:gZ c e3=true){p2 pos2:Pos} :
  SE X cl (.Call (.Name "list" p2) [.Call (.Name "range" p) [a,b,e3] [] pos] [] pos2) (.rng3 c a' b'):=by
 refine PE.weak (d9 (jz hc) hgl hml (by decide +kernel) (ba (d9 lh hg hm boot_range (rO (cl:=cl) ha hb hn hn2 h3) (by decide) (by decide) (ay _ hn) (dC (by simp[hn2,(jT (X:=X) h3).2]))) cL) (by decide) (by decide) rfl rfl) fun σ H Q h=>?_;obtain⟨σD,d,rv,e,k⟩:=h;obtain⟨x,ea,e⟩:=bind_some e;obtain⟨y,eb,e⟩:=bind_some e;obtain⟨ds,e1,e2⟩:=map_some e;subst e2;obtain⟨i,j,rfl,rfl,h0,h1,h2,h3,rfl⟩:=sI e1;refine two rv ea eb fun v u H1 H2 s1 s2 rx ry _ _=>?_;exact uT (a:=i) (b:=j) (c:=c) (.inr (.inr ⟨by rw[aq rx,aq ry],h0,h1⟩)) rfl h3 h2 (s1.trans s2) (fun _=>rfl) k
def Bd(hg:Gl X "range")(hm:X.mg "range" = none)(ha:SE X cl a a')(hb:SE X cl b b')(hn:noStar a=true)(hn2:noStar b=true)(h3:gZ c e3=true) :
  SI X cl tg (.Call (.Name "range" p) [a,b,e3] [] pos) (.rng3 c a' b'):=by
 intro pins s σ H R I h;obtain⟨σD,ds,rv,e,k⟩:=h;obtain⟨x,ea,e⟩:=bind_some e;obtain⟨y,eb,e⟩:=bind_some e;obtain⟨i,j,rfl,rfl,h0,h1,hs,hl,rfl⟩:=sI e;refine thn (d9 lh hg hm boot_range (rO (cl:=cl) ha hb hn hn2 h3) (by decide) (by decide) (ay _ hn) (dC (by simp[hn2,(jT (X:=X) h3).2])) pins s σ H (fun x H2=>∃ p,x=.ref p/\H2 p=some (my p i j c)/\au H H2) I ?_) ?_
 ·exact two rv ea eb fun v u H1 H2 s1 s2 rx ry _ _=>⟨i,j,c,.inr (.inr ⟨by rw[aq rx,aq ry],h0,h1⟩),fun p hp=>⟨p,rfl,aP,(s1.trans s2).trans (au.bH hp)⟩⟩
 ·rintro v s1 ⟨x,H1,I1,r1,q,rfl,hq,sm⟩;cases r1;obtain⟨⟨t,u,v,hR⟩,_,_⟩:=I1.hok q _ hq;refine wpAny_pyIter_range hR hs ⟨s1.heap.objs.size,[s1.heap.objs.size],_,Its c i (RL.bC c i j),H1,rfl,I1.kept (t':=s1.toks) fun b o e=>Heap.get?_push_of_some _ e,wH _ c i _,?_,fun b hb=>?_,k _ _ sm ⟨rR,fun _ _ _ _ _=>rR⟩⟩
  ·have e1:i+((0:Nat):Int)*c=i:=by simp
   have e2:((RL.bC c i j:Nat):Int)-((0:Nat):Int)=Builtin.Range.rangeSize i j c:=by rw[jG];simp
   show IsRangeIter _ _ (i+((0:Nat):Int)*c) (((RL.bC c i j:Nat):Int)-((0:Nat):Int)) c;rw[e1,e2];exact Heap.get?_push_size _ rfl
  ·rw[show b=s1.heap.objs.size by simpa using hb];exact I1.kN (Nat.le_refl _) (I1.hok.fresh (Nat.le_refl _))
def Ba(hl:SE X cl l e'):SI X cl tg l (.seq e'):=by
 refine PI.weak (DT (cl:=cl) hl trivial) fun σ H R h=>?_;obtain⟨σD,ds,rv,e,k⟩:=h;obtain⟨d,e1,e2⟩:=bind_some e;exact⟨σD,d,ds,rv,e1,e2,k⟩
def Ej(ha:SE X cl a a'):SE X cl (.UnaryOp .USub a pos) (.neg a'):=by
 refine PE.weak (zK vx ha) fun σ H Q h=>?_;obtain⟨σD,d,rv,e,k⟩:=h;obtain⟨x,ea,e⟩:=bind_some e
 cases x with
 | int i=>cases e;exact⟨σD,_,rv,ea,fun v H1 r1=>⟨i,aq r1.rep,k _ _ (bZ r1.same bb rfl)⟩⟩
 | _=>cases e
end
abbrev mAt(mp:List Nat)(vs:List V):Addr->Prop:=fun a=>∃ p,p∈mp/\vs[p]?=some (.ref a)
structure BY(K:PySem.W.Frag)(mp:List Nat)(ds:List RL.D)(vs:List V)(H:Hp):Prop where
 yD:ah nP K H ds vs
 own:∀ p∈mp,∃ d a,ds[p]?=some d/\vs[p]?=some (.ref a)/\Own K H d (.ref a)
 sep:∀ p∈mp,∀ q∈mp,∀ a,vs[p]?=some (.ref a)->vs[q]?=some (.ref a)->p=q
 oth:∀ (q:Nat) d v,q∉mp->ds[q]?=some d->vs[q]?=some v->Rep (mAt mp vs) K H d v
structure GB(K:PySem.W.Frag)(mp:List Nat)(outs:List RL.D)(vs:List V)(H:Hp):Prop where
 len:outs.length=mp.length
 own:∀ (k p:Nat) o,mp[k]?=some p->outs[k]?=some o->∃ a,vs[p]?=some (.ref a)/\Own K H o (.ref a)
abbrev spM(K:PySem.W.Frag)(cl:RL.Cl)(mp:List Nat)(f:Nat):Sp:=fun vs H Q _=>∃ ds d outs,cl f ds=some (.tup (d::outs))/\BY K mp ds vs H/\∀ v H',Off (mAt mp vs) H H'->Rep nP K H' d v->d.imm=true->GB K mp outs vs H'->Q v H'
section
variable{K:PySem.W.Frag}
def Own.off(h:Own K H d (.ref a))(hm:∀ b o,P b->H b=some o->cN o)(k:Off P H H1)(n:¬ P a):Own K H1 d (.ref a):=by
 obtain⟨q1,q2,q3⟩:=h;refine⟨q1,q2,?_⟩;have im:∀ {ds:List RL.D} {xs:List V},RL.ax ds=true->ah nP K H ds xs->ah nP K H1 ds xs:=fun hi r=>((r.imm hi).off hm k).imm hi
 cases d with
 | lst ds=>obtain⟨b',xs,e1,e0,e2,e3⟩:=aH q3;cases e1;rw[Rep];exact⟨a,xs,rfl,fun z=>z,k _ _ n e2,im q2 e3⟩
 | dK ks ds=>rw[Rep]at q3 ⊢;obtain⟨b',xs,e1,e0,e2,el,e3⟩:=q3;cases e1;exact⟨a,xs,rfl,fun z=>z,k _ _ n e2,el,im q2 e3⟩
 | dT ks ds=>rw[Rep]at q3 ⊢;obtain⟨b',xs,e1,e0,e2,el,e3⟩:=q3;cases e1;exact⟨a,xs,rfl,fun z=>z,k _ _ n e2,el,im q2 e3⟩
 | _=>cases q1
def mR:∀ {ms:List Nat} {outs:List RL.D} {σD:RL.St} {k i:Nat} {o:RL.D},ms.Nodup->ms[k]?=some i->outs[k]?=some o->i<σD.length->(ef ms outs σD)[i]?=some (some o)
 | [],_,_,_,_,_,_,e,_,_=>by simp at e
 | m::ms,[],_,_,_,_,_,_,e,_=>by simp at e
 | m::ms,d::ds,σD,0,i,o,nd,e1,e2,hl=>by
  simp at e1 e2;subst e1 e2;rw[ef,kr _ _ _ _ (by simpa using(List.nodup_cons.mp nd).1),List.getElem?_set_self hl]
 | m::ms,d::ds,σD,k+1,i,o,nd,e1,e2,hl=>by
  rw[ef];exact mR (List.nodup_cons.mp nd).2 (by simpa using e1) (by simpa using e2) (by simpa using hl)
def RVm.changed(h:RVm K M σD σ H)(hms:∀ i∈ms,M.contains i=true)(nd:ms.Nodup)(len:ms.length=outs.length)(k:Off (fun a=>∃ i∈ms,σ[i]?=some (some (.ref a))) H H1)
 (ow:∀ (k i:Nat) o,ms[k]?=some i->outs[k]?=some o->∃ a,σ[i]?=some (some (.ref a))/\Own K H1 o (.ref a)):RVm K M (ef ms outs σD) σ H1/\Fr' M σ H σ H1:=by
 have sub:∀ a,(∃ i∈ms,σ[i]?=some (some (.ref a)))->bh M σ a:=fun a ⟨i,hi,e⟩=>⟨i,hms i hi,e⟩
 have offA:Off (bh M σ) H H1:=fun b o n e=>k b o (fun z=>n (sub b z)) e
 have hmA:∀ b o,bh M σ b->H b=some o->cN o:=fun b o p e=>by
  obtain⟨o',e',m⟩:=h.t8 b p;rw[e]at e';cases e';exact m
 have at_:∀ i,i∈ms->∃ (kk:Nat) (o:RL.D),ms[kk]?=some i/\outs[kk]?=some o:=fun i hi=>by
  obtain⟨kk,hk,e⟩:=List.getElem_of_mem hi;exact⟨kk,outs[kk]'(by lia),by simp[hk,e],by simp⟩
 refine⟨⟨by rw[la];exact h.len,fun i d e=>?_,fun i v e=>?_,h.sep⟩,⟨fun b o e n=>⟨offA b o n e,n⟩,fun _ _=>rfl⟩⟩
 ·by_cases hi:i∈ms
  ·obtain⟨kk,o,e1,e2⟩:=at_ i hi
   have hl:i<σD.length:=by
    have:=(List.getElem?_eq_some_iff.mp e).1;rw[la]at this;exact this
   rw[mR nd e1 e2 hl]at e;cases e;obtain⟨a,q1,q2⟩:=ow kk i _ e1 e2;exact⟨.ref a,q1,by rw[if_pos (hms i hi)];exact q2⟩
  ·rw[kr _ _ _ _ (by simpa using hi)]at e;obtain⟨v,h1,h2⟩:=h.val i d e;refine⟨v,h1,?_⟩;by_cases hm:M.contains i=true
   ·rw[if_pos hm]at h2 ⊢;obtain⟨a,o,rfl,_,_⟩:=h2.ref;refine h2.off (fun b o p e=>hmA b o (sub b p) e) k fun⟨j,hj,ej⟩=>?_;exact hi (h.sep i j a hm (hms j hj) h1 ej▸hj)
   ·rw[if_neg hm]at h2 ⊢;exact h2.off hmA offA
 ·obtain⟨d,hd⟩:=h.non i v e;by_cases hi:i∈ms
  ·obtain⟨kk,o,e1,e2⟩:=at_ i hi;exact⟨o,mR nd e1 e2 (List.getElem?_eq_some_iff.mp hd).1⟩
  ·exact⟨d,by rw[kr _ _ _ _ (by simpa using hi)];exact hd⟩
end
section rules
variable{X:Cx}{st:Stmt}
end rules
end RS
namespace L2
open PySem PySem.Spec PyProof.Rows
abbrev eh(A:Around)(h:Heap):Prop:=A.handled=none\/∃ x o vs,A.handled=some (.ref x)/\h.get? x=some o/\o.data=.fields vs/\vs[2]?=some .none
def eh.keeps(x:eh A h)(k:∀ b o vs,h.get? b=some o->o.data=.fields vs->A.handled=some (.ref b)->h'.get? b=some o):eh A h':=by
 rcases x with z | ⟨y,o,vs,h1,h2,h3,h4⟩
 ·exact .inl z
 ·exact .inr ⟨y,o,vs,h1,k _ _ _ h2 h3 h1,h3,h4⟩
section
def og:entryFor table "proto.unchain" = some Builtin.«proto.unchain»:=entryFor_of_tree (by kernel_rfl)
def xy(hd:eh A s.heap)(he:s.heap.get? e=some oe)(hf:oe.data=.fields vs)(hz:2<vs.size)(ne:A.handled≠some (.ref e))
 (k:∀ h',Heap.SameBut e s.heap h'->(∃ o,h'.get? e=some o/\o.cls=oe.cls)->E (.ref e) { s with heap:=h' }):wpAny (model prog w) A (raiseNew (.ref e):Sem α) Q E s:=by
 unfold raiseNew;refine wpAny_bind (wpAny_handled ?_)
 rcases hd with z | ⟨x,o,ws,h1,h2,h3,h4⟩
 ·rw[z];exact wpAny_bind (wpAny_pure (wpAny_throw (k s.heap (.refl ..) ⟨oe,he,rfl⟩)))
 ·rw[h1]
  have nx:(Value.ref x != Value.ref e)=true:=by
   rw[bne_iff_ne];intro q;exact ne (by rw[h1,q])
  dsimp only;rw[if_pos nx];refine wpAny_bind (wpAny_holding (wpAny_runValue (codeAny_builtin og ?_)));unfold Builtin.«proto.unchain»;refine wpAny_bind (wpAny_field h2 h3 h4 ?_);rw[if_pos (by decide)];refine wpAny_bind (wpAny_pure (wpAny_pure ?_));show wpAny _ _ _ _ _ _;refine wpAny_bind ?_;show wpAny _ _ (setField (.ref e) 2 (.ref x)) _ _ _;refine wpAny_setField he hf hz (wpAny_throw (k _ (.update ..) ⟨_,Heap.get?_update_self _ he (Obj.isFreed_of_fields (Obj.data_mapFields hf _)),Obj.cls_mapFields ..⟩))
def mV(hd:eh A s.heap)(k:∀ h' e,(∀ b o,s.heap.get? b=some o->h'.get? b=some o)->(∃ o,h'.get? e=some o/\o.cls=.type "StopIteration")->E (.ref e) { s with heap:=h' }) :
  wpAny (model prog w) A (newExc (.type "StopIteration") []) (fun e s'=>wpAny (model prog w) A (raiseNew e:Sem α) Q E s') E s:=by
 simp only[newExc,newTuple];apply wpAny_bind;refine wpAny_newObj_type ?_ (by size_fits);apply wpAny_bind (m:=firstArgMember _ _);refine wpAny_of_eq (a:=Value.none) (by first | rfl | (simp only[firstArgMember];rfl)) ?_;refine wpAny_newObj_type ?_ (by size_fits);have hs:∀ b o,s.heap.get? b=some o->b≠(s.heap.push { cls:=.type "tuple",data:=.seq ([]:List Value).toArray }).objs.size:=fun b o e=>Nat.ne_of_lt (by rw[Heap.size_push];exact Nat.lt_succ_of_lt (Heap.lt_size e));refine xy (hd.keeps fun b o vs e _ _=>Heap.get?_push_of_some _ (Heap.get?_push_of_some _ e)) (Heap.get?_push_size _ rfl) rfl (Nat.lt_of_lt_of_le (by decide:2<6) (by simp)) (fun q=>?_) fun h' sb ho=>k h' _ (fun b o e=>(sb.2 b (hs b o e)).trans (Heap.get?_push_of_some _ (Heap.get?_push_of_some _ e))) ho
 rcases hd with z | ⟨x,o,ws,h1,h2,_,_⟩
 ·rw[z]at q;cases q
 ·rw[h1]at q;cases q;exact hs _ _ h2 rfl
def j0{it l:Addr}{i:Nat}(hd:eh A s.heap)(ni:A.handled≠some (.ref it))(ho:s.heap.get? it=some o)(hdt:o.data=.fields #[.ref l,.int i 0])(hol:s.heap.get? l=some ol)(hdl:ol.data=.seq its nl)(hx:its[i]?=none)
 (k:∀ h' e,Heap.ExtBut it s.heap h'->(∃ o,h'.get? e=some o/\o.cls=.type "StopIteration")->E (.ref e) { s with heap:=h' }):wpAny (model prog w) A (Builtin.«list_iterator.__next__» ⟨[.ref it],[]⟩) Q E s:=by
 have n0:¬ ((Value.ref l == Value.none)=true):=Bool.false_ne_true;refine show wpAny _ _ (field (.ref it) 0 >>= _) _ _ s from wpAny_bind (wpAny_field ho hdt (x:=.ref l) rfl ?_);refine show wpAny _ _ (if(Value.ref l == Value.none)=true then _ else _) _ _ s from ?_;rw[if_neg n0];refine show wpAny _ _ (field (.ref it) 1 >>= _) _ _ s from wpAny_bind (wpAny_field ho hdt (x:=.int i 0) rfl ?_);refine show wpAny _ _ (seqItems? (.ref l) >>= _) _ _ s from wpAny_bind (wpAny_seqItems hol hdl ?_);simp only[Int.toNat_natCast,hx];refine wpAny_bind (wpAny_rule (wpAny_bind (wpAny_setField ho hdt (by simp) ?_)));refine show wpAny _ _ (newExc (.type "StopIteration") [] >>= _) _ _ _ from wpAny_bind ?_;have sb:=Heap.SameBut.update s.heap it (Obj.mapFields (·.setIfInBounds 0 Value.none));refine mV (hd.keeps fun b u vs e _ hb=>(sb.2 b fun z=>ni (z▸hb)).trans e) fun h' e kk he=>k h' e (fun b u hb q=>kk b u ((sb.2 b hb).trans q)) he
def oh{it l:Addr}{i:Nat}(hd:eh A s.heap)(ni:A.handled≠some (.ref it))(hit:s.heap.IsListIter it l i)(hl:s.heap.IsList l its)(hx:its[i]?=none)
 (k:∀ h' e,Heap.ExtBut it s.heap h'->(∃ o,h'.get? e=some o/\o.cls=.type "StopIteration")->E (.ref e) { s with heap:=h' }):wpAny (model prog w) A (Builtin.SmallTypes.nextOf (.ref it)) Q E s:=by
 obtain⟨o,ho,hc,hdt⟩:=id hit;obtain⟨ol,hol,_,nl,hdl⟩:=hl;unfold Builtin.SmallTypes.nextOf;apply wpAny_bind;apply wpAny_callSpecial?_slot (name:=Str.ofString "__next__") hit.typeIs slot_listiter_next;refine wpAny_call_entry slot_listiter_next hit.typeIs entry_listiter_next ?_ (args_listiter_next _);exact j0 hd ni ho hdt hol hdl hx k
def rD{it l:Addr}{i:Nat}(hd:eh A s.heap)(ni:A.handled≠some (.ref it))(hit:s.heap.IsListIter it l i)(hl:s.heap.IsList l its)(hx:its[i]?=none)
 (k:∀ h',Heap.ExtBut it s.heap h'->Q none { s with heap:=h' }):wpAny (model prog w) A (pyNext (.ref it)) Q E s:=by
 obtain⟨o,ho,hc,hdt⟩:=id hit;obtain⟨ol,hol,_,nl,hdl⟩:=hl;unfold pyNext;apply wpAny_bind;apply wpAny_attempt;apply wpAny_callSpecial?_slot (name:=Str.ofString "__next__") hit.typeIs slot_listiter_next;refine wpAny_call_entry slot_listiter_next hit.typeIs entry_listiter_next ?_ (args_listiter_next _);refine j0 hd ni ho hdt hol hdl hx fun h' e eb he=>?_;apply wpAny_bind;refine wpAny_isInstance (T := "StopIteration") (b:=true) he isSubtype_stop ?_;exact wpAny_pure (k h' eb)
end
section
def pH(hi:z.heap.IsTupleIter ti tp i)(ht:z.heap.IsTuple tp its)(hx:its[i]?=some x)
 (k:∀ g,g.IsTupleIter ti tp (i+1)->Heap.SameBut ti z.heap g->Q x { z with heap:=g }):wpAny (model prog w) A (Builtin.SmallTypes.nextOf (.ref ti)) Q E z:=by
 have hty:=hi.typeIs;obtain⟨⟨c1,d1,f1,s1⟩,g1,c1',f1'⟩:=hi;obtain⟨⟨c2,d2,f2,s2⟩,g2,c2',n2,f2'⟩:=ht;dsimp only at c1' f1' c2' f2';subst c1' f1' c2' f2';obtain⟨hp,g,d,tk,os⟩:=z;unfold Builtin.SmallTypes.nextOf;refine wpAny_bind (wpAny_callSpecial?_slot (name:=Str.ofString "__next__") hty F.slot_tuple_iterator_next (wpAny_call_entry F.slot_tuple_iterator_next hty F.entry_tuple_iterator_next ?_ (F.args_tuple_iterator_next_1 _)));unfold Builtin.«tuple_iterator.__next__»
 wp_walk using AutoSeq1.wpAny_loadPart' g1,AutoSeq1.wpAny_loadPart' g2
 have e:its[((i:Nat):Int).toNat]?=some x:=hx;rw[e];dsimp only;apply wpAny_bind;apply wpAny_setField g1 rfl (by simp);apply wpAny_pure;refine⟨x,rfl,?_⟩;apply wpAny_pure;apply k
 ·exact⟨_,Heap.get?_update_self _ g1 rfl,rfl,by simp[Obj.mapFields,rawInt]⟩
 ·exact Heap.SameBut.update ..
def sN(hd:eh A z.heap)(ni:A.handled≠some (.ref ti))(hi:z.heap.IsTupleIter ti tp i)(ht:z.heap.IsTuple tp its)(hx:its[i]?=none)
 (k:∀ g e,Heap.ExtBut ti z.heap g->(∃ o,g.get? e=some o/\o.cls=.type "StopIteration")->E (.ref e) { z with heap:=g }):wpAny (model prog w) A (Builtin.SmallTypes.nextOf (.ref ti)) Q E z:=by
 have hty:=hi.typeIs;obtain⟨⟨c1,d1,f1,s1⟩,g1,c1',f1'⟩:=hi;obtain⟨⟨c2,d2,f2,s2⟩,g2,c2',n2,f2'⟩:=ht;dsimp only at c1' f1' c2' f2';subst c1' f1' c2' f2';obtain⟨hp,g,d,tk,os⟩:=z;unfold Builtin.SmallTypes.nextOf;refine wpAny_bind (wpAny_callSpecial?_slot (name:=Str.ofString "__next__") hty F.slot_tuple_iterator_next (wpAny_call_entry F.slot_tuple_iterator_next hty F.entry_tuple_iterator_next ?_ (F.args_tuple_iterator_next_1 _)));unfold Builtin.«tuple_iterator.__next__»
 wp_walk using AutoSeq1.wpAny_loadPart' g1,AutoSeq1.wpAny_loadPart' g2
 have e:its[((i:Nat):Int).toNat]?=none:=hx;rw[e];dsimp only;apply wpAny_bind;apply wpAny_rule;apply wpAny_bind;apply wpAny_setField g1 rfl (by simp);unfold Builtin.SmallTypes.stopIteration;apply wpAny_bind;refine mV (hd.keeps fun b u vs e _ hb=>(Heap.SameBut.update ..).extBut b u (fun z=>ni (z▸hb)) e) fun g e kp hc=>k g e (fun b o hb q=>kp b o ?_) hc;exact(Heap.SameBut.update ..).extBut b o hb q
def oF(h:wpAny (model prog w) A m S (fun _ _=>False) z)(k:∀ a z1,S a z1->Q a z1):wpAny (model prog w) A m Q E z:=wpAny_mono h k fun _ _ f=>f.elim
def wA(h:∀ b,Q b z):wpAny (model prog w) A (pure b) Q E z:=wpAny_pure (h b)
def xO{x:Value}{S:Addr->Shared->Prop}(hx:∀ A:Around,wpAny (model prog w) A (pyIter x) (fun v z1=>∃ it,v=.ref it/\S it z1) (fun _ _=>False) z)
 (k:∀ it z1,S it z1->Q (.ref z1.heap.objs.size) { z1 with heap:=z1.heap.push { cls:=.type "enumerate",data:=.fields #[.none,.bool false,.ref it,rawInt 0,.none,.none] } }):wpAny (model prog w) A (call (.type "enumerate") [x]) Q E z:=by
 have body:MeetsIn prog w (Builtin.«enumerate.__new__» ⟨[.type "enumerate",x],[]⟩) (fun A R s=>s=z/\∀ it z1,S it z1->R (.ok (.ret (.ref z1.heap.objs.size))) { z1 with heap:=z1.heap.push { cls:=.type "enumerate",data:=.fields #[.none,.bool false,.ref it,rawInt 0,.none,.none] } }):=by
  rintro A R s ⟨rfl,hR⟩;have hsub:=sub_enumerate;have iter:=hx A.in1;obtain⟨hp,g,d,tk,os⟩:=s
  wp_walk
  refine wpAny_stack_any fun st=>wA fun b=>?_
  have done:∀ it z1,S it z1->wpAny (model prog w) A.in1 (do let r <- Builtin.SmallTypes.newRecord (.type "enumerate") (Builtin.SmallTypes.ownedTupleFields++[.ref it,rawInt 0,.none,.none]);ret r)
    (fun fin s'=>match fin with | .done f=>R (.ok f) s' | .again c'=>c'.quiet=true/\codeAny (model prog w) A c' R s') (fun e s'=>R (.error e) s') z1:=by
   intro it z1 h1;have:=hR it z1 h1;obtain⟨hp1,gg1,dd1,tk1,os1⟩:=z1
   wp_walk
   exact this
  cases b
  ·wp_walk using oF iter
   rintro _ z1 ⟨it,rfl,h1⟩;exact done it z1 h1
  ·wp_walk using oF iter
   rintro _ z1 ⟨it,rfl,h1⟩;exact done it z1 h1
 refine callType_newIn F.called_enumerate (by decide) (F.typeCall_enumerate_1 _) (F.newCall_enumerate_1 _) (fun obj=>F.args_object_init_2 obj _) F.entry_enumerate_new body ⟨rfl,fun it z1 h=>?_⟩;exact⟨⟨_,Heap.get?_push_size _ rfl,rfl⟩,k it z1 h⟩
def qj:jX prog w where
 draws:=fun hh ti tp hne its=>{
  live:=fun i h st=>let ⟨o,e,_⟩:=st.1;⟨o,e⟩
  frame:=fun i h h' st kp=>by
   obtain⟨⟨o1,e1,r1⟩,⟨o2,e2,r2⟩⟩:=st;exact⟨⟨o1,kp ti (by simp) _ e1,r1⟩,⟨o2,kp tp (by simp) _ e2,r2⟩⟩
  item:=fun i s Q E hi st k=>by
   refine pH st.1 st.2 (x:=its[i]) (by simp[hi]) fun g h1 h2=>k its[i] g s.toks (by simp[hi]) ⟨h1,st.2.extBut h2.extBut hne⟩ h2
  done:=fun s Q E st k=>sN (.inl hh) (by rw[hh];exact fun z=>nomatch z) st.1 st.2 (by simp) fun g e h1 h2=>k g e h1 h2 }
 call:=fun {A E z tp its Q} ht k=>by
  refine xO (S:=fun it z1=>it=z.heap.objs.size/\z1={ z with heap:=z.heap.push { cls:=.type "tuple_iterator",data:=.fields #[.ref tp,rawInt 0] } }) (fun A=>wpAny_pyIter_tuple ht ⟨_,rfl,rfl,rfl⟩) ?_;rintro it z1 ⟨rfl,rfl⟩;have hz:(z.heap.push { cls:=.type "tuple_iterator",data:=.fields #[.ref tp,rawInt 0] }).objs.size=z.heap.objs.size+1:=Heap.size_push ..;dsimp only;rw[hz];refine k _ ?_ ⟨_,Heap.get?_push_of_some _ (Heap.get?_push_size _ rfl),rfl,rfl⟩ fun b o e=>Heap.get?_push_of_some _ (Heap.get?_push_of_some _ e);have:=Heap.get?_push_size (z.heap.push { cls:=.type "tuple_iterator",data:=.fields #[.ref tp,rawInt 0] }) (o:={ cls:=.type "enumerate",data:=.fields #[.none,.bool false,.ref z.heap.objs.size,rawInt 0,.none,.none] }) rfl;rw[hz]at this;exact this
end
end L2
namespace RS
open PySem PySem.Spec PyProof.Rows L2
section
variable{X:Cx}
def sr:∀ {bs:List Bool} {us:List Value},Vals (bs.map V.bl) us->us=bs.map Value.bool
 | [],_,h=>by cases h;rfl
 | b::bs,_,h=>by
  cases h with
  |cons r t=>
   cases r;rw[sr t];rfl
def yT{A:Around}{bs:List Bool}:TruthOf X.prog X.w A (fun i v=>(bs.map Value.bool).toArray[i]?=some v) (fun i=>bs.getD i false):=by
 intro i v s Q E hP q
 have hP':(bs.map Value.bool)[i]?=some v:=by simpa using hP
 rw[List.getElem?_map]at hP';obtain⟨b,h1,h2⟩:=map_some hP';subst h2
 have:bs.getD i false=b:=by rw[List.getD_eq_getElem?_getD,h1];rfl
 have q':Q b s:=this▸q;exact wpAny_truthy_bool q'
def range_all(bs:List Bool):(List.range bs.length).all (fun i=>bs.getD i false)=bs.all id:=by
 have:bs=(List.range bs.length).map fun i=>bs.getD i false:=by
  apply List.ext_getElem
  ·simp
  ·intro i h1 h2;simp[List.getD_eq_getElem?_getD,h1]
 conv=>rhs;rw[this]
 rw[List.all_map];rfl
abbrev En(f:List Bool->Bool):List V->Hp->VK->Prop:=fun xs H Q=>∃ p bs,xs=[.ref p]/\H p=some (.lst (bs.map V.bl))/\Q (.bl (f bs)) H
def yi(hc:X.calm=true):bx X (.builtin "all") (En fun bs=>bs.all id):=by
 intro pins s σ H xs us Q I r h;obtain⟨p,bs,rfl,hp,q⟩:=h
 cases r with
 |cons r rr=>
  cases rr;cases r;obtain⟨its,rv,hl,hz⟩:=I.list (SqL.of hp);have hits:=sr rv;subst hits
  have hlt:p<s.heap.objs.size:=by obtain⟨o,ho,_⟩:=hl.isList;exact Heap.lt_size ho
  refine call_all_walk (wpAny_pyIter_list hl.isList ?_);refine⟨s.heap.objs.size,_,[s.heap.objs.size],_,_,_,_,rfl,Walks.list (A:=X.A.in1) (I.ok.hd.1 hc) s.heap.objs.size p (Nat.ne_of_lt hlt) (bs.map Value.bool).toArray,⟨⟨_,Heap.get?_push_size _ rfl,rfl,rfl⟩,hl.isList.push _⟩,yT,fun h' tk hk=>?_⟩;refine⟨.bl (bs.all id),H,I.kept (t':=tk) (fun b o e=>hk b o (fun z=>?_) (Heap.get?_push_of_some _ e)),?_,q⟩
  ·rw[List.mem_singleton.mp z]at e;exact absurd (Heap.lt_size e) (Nat.lt_irrefl _)
  ·have:=range_all bs;show Value.bool _=Value.bool _;rw[<-this];simp
def qr{P:Addr->Prop}{K:PySem.W.Frag}:∀ {ds:List RL.D} {bs:List Bool} {xs:List V},RL.d7 ds=some bs->ah P K H ds xs->xs=bs.map V.bl
 | [],bs,xs,h,r=>by rw[RL.d7]at h;cases h;rw[ah]at r;exact r
 | d::ds,bs,xs,h,r=>by
  cases d<;>simp only[RL.d7]at h<;>first | (cases h;done) | skip
  rename_i b;obtain⟨bs',h1,h2⟩:=map_some h;subst h2;rw[ah]at r;obtain⟨x,t,rfl,r1,r2⟩:=r;rw[aZ r1,qr h1 r2];rfl
def DF(hc:X.calm=true)(hg:Gl X "all")(hm:X.mg "all" = none)(ha:SE X cl a a')(hn:noStar a=true):SE X cl (.Call (.Name "all" p) [a] [] pos) (.bi .all a'):=by
 refine nR (yi hc) hg hm (by decide +kernel) ha hn (by decide) (by decide) fun σD σ H H1 y d v Q e s1 r1 k=>?_
 cases y<;>simp only[RL.biV]at e<;>first | (cases e;done) | skip
 case lst ds =>
  obtain⟨bs,e1,e2⟩:=map_some e;subst e2;obtain⟨q,xs,rfl,_,f2,f3⟩:=aH r1;rw[qr e1 f3]at f2;exact⟨q,bs,rfl,f2,k _ _ (bZ s1 qd rfl)⟩
def A1(hg:Gl X "enumerate")(hm:X.mg "enumerate" = none)(ha:SE X cl a a')(hn:noStar a=true):SI X cl (.Tuple elts kx tp) (.Call (.Name "enumerate" p) [a] [] pos) (.enm a'):=CG qj hg hm ha hn
def sX{P:Addr->Prop}{K:PySem.W.Frag}:∀ {ds:List RL.D} {is:List Int} {xs:List V},RL.fD ds=some is->ah P K H ds xs->xs=is.map V.int
 | [],is,xs,h,r=>by rw[RL.fD]at h;cases h;rw[ah]at r;exact r
 | d::ds,is,xs,h,r=>by
  cases d<;>simp only[RL.fD]at h<;>first | (cases h;done) | skip
  rename_i b;obtain⟨bs',h1,h2⟩:=map_some h;subst h2;rw[ah]at r;obtain⟨x,t,rfl,r1,r2⟩:=r;rw[aq r1,sX h1 r2];rfl
abbrev mF(ns:List Int):List Int:=firstMet (fun i=>ns.getD i 0) ns.length
def Bu(ns:List Int):mF ns=RL.iF ns:=by
 unfold mF firstMet RL.iF
 have:(List.range ns.length).map (fun i=>ns.getD i 0)=ns:=by
  apply List.ext_getElem
  ·simp
  ·intro i h1 h2;simp[List.getD_eq_getElem?_getD,h2]
 rw[this];rfl
def vG(hc:X.calm=true):bx X (.type "set") (fun xs H Q=>∃ p ns,xs=[.ref p]/\H p=some (.lst (ns.map V.int))/\ns.length<=1000/\∀ l,H l=none->Q (.ref l) (upd H l (.set (fun k=>(mF ns).any (· == k)) (mF ns).length))):=by
 intro pins s σ H xs us Q I r h;obtain⟨p,ns,rfl,hp,hn,q⟩:=h
 cases r with
 |cons r rr=>
  cases rr;cases r;obtain⟨its,rv,hl,hz⟩:=I.list (SqL.of hp)
  have hlen:its.length=ns.length:=by
   have:=rv.length;simp at this;exact this.symm
  have hf:H s.heap.objs.size=none:=I.hok.fresh (Nat.le_refl _);refine call_set_list (I.ok.hd.1 hc) hl.isList (ns:=ns) (by simpa using intsAre_of rv) (by rw[List.size_toArray,hlen];show ns.length+1<4096;lia) fun h' tk hS hk=>?_
  have hsz:its.toArray.size=ns.length:=by rw[List.size_toArray];exact hlen
  rw[hsz]at hS;exact⟨.ref s.heap.objs.size,_,I.laid (o:=.set (fun k=>(mF ns).any (· == k)) (mF ns).length) (t':=tk) (fun b u e=>hk b u (Heap.lt_size e) e) (Nat.le_refl _) hS,rfl,q _ hf⟩
def wz:bx X (.builtin "len") (fun xs H Q=>∃ p S n,xs=[.ref p]/\H p=some (.set S n)/\Q (.int (n:Nat)) H):=by
 intro pins s σ H xs us Q I r h;obtain⟨p,S,n,rfl,hp,q⟩:=h
 cases r with
 |cons r rr=>
  cases rr;cases r;obtain⟨o,es,ep,t,h1,h2,h3,h4,h5,h6,h7,h8⟩:=I.hok p _ hp;refine call_len_set h1 h2 h3 h7 (by have:scanBound=4096:=rfl;lia) ?_;rw[h8];exact⟨.int n,H,I.tok _,⟨_,rfl⟩,q⟩
def wY(hc:X.calm=true)(hgl:Gl X "len")(hml:X.mg "len" = none)(hg:Gl X "set")(hm:X.mg "set" = none)(ha:SE X cl a a')(hn:noStar a=true):SE X cl (.Call (.Name "len" p2) [.Call (.Name "set" p) [a] [] pos] [] pos2) (.bi .lenSet a'):=by
 refine PE.weak (eZ wz hgl hml PySem.boot_len (ba (d9 (vG hc) hg hm (by decide +kernel) (cj (cl:=cl) ha dH hn) (by decide) (by decide) (ay [] hn) rfl) cL) (by decide) (by decide) rfl rfl) fun σ H Q h=>?_;obtain⟨σD,d,rv,e,k⟩:=h;obtain⟨y,ea,e⟩:=bind_some e;refine one rv ea fun v H1 s1 r1=>?_
 cases y<;>simp only[RL.biV]at e<;>first | (cases e;done) | skip
 case lst ds =>
  split at e
  ·rename_i hl;obtain⟨is,e1,e2⟩:=map_some e;subst e2;obtain⟨q,xs,rfl,_,f2,f3⟩:=aH r1;have hx:=sX e1 f3;rw[hx]at f2
   have hil:is.length<=1000:=by
    have:=f3.length;rw[hx]at this;simp at this;lia
   refine⟨q,is,rfl,f2,hil,fun l hl2=>⟨l,_,_,rfl,aP,?_⟩⟩;rw[Bu];exact k _ _ (bZ (s1.trans (au.bH hl2)) bb rfl)
  ·cases e
def EG(hl:PE X l (uw X.K "list" t7 (gE i)))(he:SE X cl e e')(ha:SSs X cl M A A')(hb:SSs X cl M B B')(hi:M.contains i=true):SS X cl M (.If (.Compare l [.NotEq] [e] pos) A B pos2) (.ifp i e' A' B'):=by
 refine PS.weak (uE (jW F5 hl he (pK _)) ha hb) fun D σ H h=>?_;obtain⟨σD,o,σD',rv,ev,k⟩:=h;obtain⟨l,e3,ev⟩:=bind_some ev
 cases l with
 |lst ds=>
  obtain⟨d,e4,ev⟩:=bind_some ev;obtain⟨y,e5,ev⟩:=bind_some ev;obtain⟨v,h1,h2⟩:=rv.val i _ (slot_get e3);rw[if_pos hi]at h2;obtain⟨q1,q2,q3⟩:=h2;obtain⟨a,xs,rfl,_,f2,f3⟩:=aH q3;obtain⟨u,f4,f5⟩:=f3.get e4;have im:=kh q2;obtain⟨g1,g2⟩:=rv.gQ (d':=.lst ds.dropLast) (o':=.lst xs.dropLast) hi h1 f2 (.inl ⟨_,rfl⟩) (ke (ds:=ds) f2 im f3.dropLast)
  cases d with
  |int m=>
   cases y with
   |int n=>
    refine⟨.ref a,h1,.inl ⟨rfl,xs,SqL.of f2⟩,a,xs,u,rfl,rfl,f2,by rw[<-f3.length];exact f4,?_⟩;refine⟨_,_,g1.rv0,e5,fun w H1 r1=>?_⟩;rw[aq f5,aq r1.rep];have k1:=k.from (g2.trans (Fr'.same (σ:=σ) r1.same));refine⟨rfl,_,rfl,?_⟩;dsimp only at ev;by_cases hmn:m=n
    ·rw[if_pos (by simpa using hmn)]at ev
     have hd:(!decide (V.int m=V.int n))=false:=by rw[hmn];simp
     rw[hd];exact ff ⟨_,o,σD',g1.same r1.same,ev,k1⟩
    ·rw[if_neg (by simpa using hmn)]at ev
     have hd:(!decide (V.int m=V.int n))=true:=by
      have:V.int m≠V.int n:=fun z=>hmn (by injection z);simp[this]
     rw[hd];exact eJ ⟨_,o,σD',g1.same r1.same,ev,k1⟩
   | _=>cases ev
  | _=>cases ev
 | _=>cases ev
end
end RS
namespace L2
open PySem PySem.Spec PyProof.Rows
section
variable{prog:Program}{w:World}{A:Around}{E:Value->Shared->Prop}
def An{x y:Value}{S1:Addr->Shared->Prop}{S2:Addr->Addr->Shared->Prop}{z:Shared}{Q:Value->Shared->Prop}(hx:∀ A:Around,wpAny (model prog w) A (pyIter x) (fun v z1=>∃ it,v=.ref it/\S1 it z1) (fun _ _=>False) z)
 (hy:∀ it z1,S1 it z1->∀ A:Around,wpAny (model prog w) A (pyIter y) (fun v z2=>∃ jt,v=.ref jt/\S2 it jt z2) (fun _ _=>False) z1)
 (k:∀ it jt z2,S2 it jt z2->Q (.ref (((z2.heap.push { cls:=.type "tuple",data:=.seq #[.ref it,.ref jt] }).push { cls:=.type "tuple",data:=.seq #[.none,.none] })).objs.size)
   { z2 with heap:=((z2.heap.push { cls:=.type "tuple",data:=.seq #[.ref it,.ref jt] }).push { cls:=.type "tuple",data:=.seq #[.none,.none] }).push { cls:=.type "zip",data:=.fields #[.none,.bool false,.bool false,.ref z2.heap.objs.size,.ref (z2.heap.push { cls:=.type "tuple",data:=.seq #[.ref it,.ref jt] }).objs.size] } }) :
  wpAny (model prog w) A (call (.type "zip") [x,y]) Q E z:=by
 have body:MeetsIn prog w (Builtin.«zip.__new__» ⟨[.type "zip",x,y],[]⟩) (fun A R s=>s=z/\∀ it jt z2,S2 it jt z2->R (.ok (.ret (.ref (((z2.heap.push { cls:=.type "tuple",data:=.seq #[.ref it,.ref jt] }).push { cls:=.type "tuple",data:=.seq #[.none,.none] })).objs.size)))
   { z2 with heap:=((z2.heap.push { cls:=.type "tuple",data:=.seq #[.ref it,.ref jt] }).push { cls:=.type "tuple",data:=.seq #[.none,.none] }).push { cls:=.type "zip",data:=.fields #[.none,.bool false,.bool false,.ref z2.heap.objs.size,.ref (z2.heap.push { cls:=.type "tuple",data:=.seq #[.ref it,.ref jt] }).objs.size] } }):=by
  rintro A R s ⟨rfl,hR⟩;have hsub:=sub_zip;have iter:=hx A.in1;obtain⟨hp,g,d,tk,os⟩:=s
  wp_walk using oF iter
  rintro _ z1 ⟨it,rfl,h1⟩;have iter2:=hy it z1 h1 A.in1;obtain⟨hp1,gg1,dd1,tk1,os1⟩:=z1
  wp_walk using oF iter2
  rintro _ z2 ⟨jt,rfl,h2⟩;have fin:=hR it jt z2 h2;obtain⟨hp2,gg2,dd2,tk2,os2⟩:=z2
  wp_walk
  exact fin
 refine callType_newIn F.called_zip (by decide) (F.typeCall_zip_2 _ _) (F.newCall_zip_2 _ _) (fun obj=>F.args_object_init_3 obj _ _) F.entry_zip_new body ⟨rfl,fun it jt z2 h=>?_⟩;exact⟨⟨_,Heap.get?_push_size _ rfl,rfl⟩,k it jt z2 h⟩
structure iK(z TI TO i1 i2:Addr)(fp1 fp2:List Addr):Prop where
 zTI:TI≠z
 zTO:TO≠z
 TT:TI≠TO
 i1z:i1≠z
 i2z:i2≠z
 FI:i1≠TO
 Gq:i2≠TO
 i12:i1≠i2
 z1:z∉fp1
 z2:z∉fp2
 TO1:TO∉fp1
 TO2:TO∉fp2
 i1f:i1∉fp2
 i2f:i2∉fp1
def yo{z TI TO i1 i2:Addr}{fp1 fp2:List Addr}{n1 n2 k:Nat}{P1 P2:Nat->Value->Prop}{S1 S2:Nat->Heap->Prop}{a b:Value}{s:Shared}{Q:Value->Shared->Prop}(Z:iK z TI TO i1 i2 fp1 fp2)
 (D1:Draws prog w A i1 fp1 n1 P1 S1)(D2:Draws prog w A i2 fp2 n2 P2 S2)(hz:IsZip s.heap z TI TO .none)(hTI:IsPair s.heap TI (.ref i1) (.ref i2))(hTO:IsPair s.heap TO a b)(s1:S1 k s.heap)(s2:S2 k s.heap)(k1:k<n1)(k2:k<n2)
 (hQ:∀ x y g tk,P1 k x->P2 k y->IsZip g z TI TO (rawInt s.heap.objs.size)->IsPair g TO x y->S1 (k+1) g->S2 (k+1) g->IsPair g s.heap.objs.size x y->g.objs.size=s.heap.objs.size+1->(∀ c o,c≠z->c≠TO->c≠i1->c≠i2->s.heap.get? c=some o->g.get? c=some o)->Q (.ref s.heap.objs.size) { s with heap:=g,toks:=tk }) :
  wpAny (model prog w) A (Builtin.«zip.__next__» ⟨[.ref z],[]⟩) (fun fin s'=>∃ v,fin=.done (.ret v)/\Q v s') E s:=by
 obtain⟨hp,g,d,tk,os⟩:=s;have off:∀ (f:Obj->Obj) b o,b≠z->hp.get? b=some o->(hp.update z f).get? b=some o:=fun f b o hb e=>(Heap.SameBut.update ..).extBut b o hb e;have st1:∀ f:Obj->Obj,S1 k (hp.update z f):=fun f=>D1.frame k _ _ s1 fun b hb o e=>off f b o (fun q=>Z.z1 (q▸hb)) e;have st2:∀ f:Obj->Obj,S2 k (hp.update z f):=fun f=>D2.frame k _ _ s2 fun b hb o e=>off f b o (fun q=>Z.z2 (q▸hb)) e;unfold Builtin.«zip.__next__»
 wp_walk using AutoSeq1.wpAny_loadPart' hz,AutoSeq1.wpAny_loadPart' hTI,wpAny_onRaise,(D1.item k _ _ _ k1 (st1 _))
 intro x h1 t1 px st1' sb1;have q1:IsPair h1 TO a b:=sb1.extBut _ _ (Ne.symm Z.FI) (off _ TO _ Z.zTO hTO);have z1:IsZip h1 z TI TO .ellipsis:=sb1.extBut _ _ (Ne.symm Z.i1z) (Heap.get?_update_self _ hz rfl);have u1:=sb1.1;have c1:∀ c o,c≠z->c≠i1->hp.get? c=some o->h1.get? c=some o:=fun c o n1 n2 e=>sb1.extBut _ _ n2 (off _ c o n1 e);clear sb1 st1 st2
 wp_walk using AutoSeq1.wpAny_loadPart' q1,(wpAny_updateSeq_pair q1)
 intro h2 q2 sb2
 replace q2:IsPair h2 TO x b:=q2
 have z2:IsZip h2 z TI TO .ellipsis:=sb2.extBut _ _ (Ne.symm Z.zTO) z1;have c2:∀ c o,c≠z->c≠TO->c≠i1->hp.get? c=some o->h2.get? c=some o:=fun c o n1 n2 n3 e=>sb2.extBut _ _ n2 (c1 c o n1 n3 e);have e1:S1 (k+1) h2:=D1.frame _ _ _ st1' fun b hb o e=>sb2.extBut _ _ (fun q=>Z.TO1 (q▸hb)) e;have e2:S2 k h2:=D2.frame _ _ _ s2 fun b hb o e=>c2 b o (fun q=>Z.z2 (q▸hb)) (fun q=>Z.TO2 (q▸hb)) (fun q=>Z.i1f (q▸hb)) e;have u2:=sb2.1.trans u1;clear sb2 u1 c1 z1 q1
 wp_walk using wpAny_onRaise,(D2.item k _ _ _ k2 e2)
 intro y h3 t3 py f2 sb3;have q3:IsPair h3 TO x b:=sb3.extBut _ _ (Ne.symm Z.Gq) q2;have z3:IsZip h3 z TI TO .ellipsis:=sb3.extBut _ _ (Ne.symm Z.i2z) z2;have f1:S1 (k+1) h3:=D1.frame _ _ _ e1 fun b hb o e=>sb3.extBut _ _ (fun q=>Z.i2f (q▸hb)) e;have c3:∀ c o,c≠z->c≠TO->c≠i1->c≠i2->hp.get? c=some o->h3.get? c=some o:=fun c o n1 n2 n3 n4 e=>sb3.extBut _ _ n4 (c2 c o n1 n2 n3 e);have u3:=sb3.1.trans u2;clear sb3 u2 c2 z2 q2 e1 e2
 wp_walk using AutoSeq1.wpAny_loadPart' q3,(wpAny_updateSeq_pair q3)
 intro h4 q4 sb4
 replace q4:IsPair h4 TO x y:=q4
 have z4:IsZip h4 z TI TO .ellipsis:=sb4.extBut _ _ (Ne.symm Z.zTO) z3;have g1:S1 (k+1) h4:=D1.frame _ _ _ f1 fun b hb o e=>sb4.extBut _ _ (fun q=>Z.TO1 (q▸hb)) e;have g2:S2 (k+1) h4:=D2.frame _ _ _ f2 fun b hb o e=>sb4.extBut _ _ (fun q=>Z.TO2 (q▸hb)) e;have c4:∀ c o,c≠z->c≠TO->c≠i1->c≠i2->hp.get? c=some o->h4.get? c=some o:=fun c o n1 n2 n3 n4 e=>sb4.extBut _ _ n2 (c3 c o n1 n2 n3 n4 e);have u4:=sb4.1.trans u3;clear sb4 u3 c3 z3 q3 f1 f2
 wp_walk using AutoSeq1.wpAny_loadPart' q4
 have u0:h4.objs.size=hp.objs.size:=u4.trans (Heap.SameBut.update ..).1;refine⟨_,rfl,?_⟩;show Q (.ref h4.objs.size) _;have zp:IsZip (h4.push { cls:=.type "tuple",data:=.seq #[x,y].toList.toArray }) z TI TO .ellipsis:=Heap.get?_push_of_some _ z4;have zlt:z<h4.objs.size:=Heap.lt_size z4
 have up:∀ (f f':Obj->Obj) c o,c≠z->(h4.push { cls:=.type "tuple",data:=.seq #[x,y].toList.toArray }).get? c=some o->(((h4.push { cls:=.type "tuple",data:=.seq #[x,y].toList.toArray }).update z f).update z f').get? c=some o:=fun f f' c o hc e =>
  (Heap.SameBut.update ..).extBut c o hc ((Heap.SameBut.update ..).extBut c o hc e)
 have goal:=hQ x y (((h4.push { cls:=.type "tuple",data:=.seq #[x,y].toList.toArray }).update z (Obj.mapFields (·.setIfInBounds 0 (rawInt h4.objs.size)))).update z (Obj.mapFields (·.setIfInBounds 1 (.bool false)))) t3 px py ?_ ?_ ?_ ?_ ?_ ?_ ?_
 ·rw[u0]at goal ⊢;exact goal
 ·rw[<-u0];exact Heap.get?_update_self _ (Heap.get?_update_self _ zp rfl) rfl
 ·exact up _ _ _ _ Z.zTO (Heap.get?_push_of_some _ q4)
 ·exact D1.frame _ _ _ g1 fun b hb o e=>up _ _ _ _ (fun q=>Z.z1 (q▸hb)) (Heap.get?_push_of_some _ e)
 ·exact D2.frame _ _ _ g2 fun b hb o e=>up _ _ _ _ (fun q=>Z.z2 (q▸hb)) (Heap.get?_push_of_some _ e)
 ·show IsPair _ hp.objs.size x y;rw[<-u0];exact up _ _ _ _ (Nat.ne_of_gt zlt) (Heap.get?_push_size _ rfl)
 ·refine((Heap.SameBut.update ..).1.trans ((Heap.SameBut.update ..).1.trans ((Heap.size_push ..).trans ?_)));show h4.objs.size+1=hp.objs.size+1;rw[u0]
 ·exact fun c o n1 n2 n3 n4 e=>up _ _ _ _ n1 (Heap.get?_push_of_some _ (c4 c o n1 n2 n3 n4 e))
def AD{z TI TO i1 i2:Addr}{fp1 fp2:List Addr}{n1:Nat}{P1:Nat->Value->Prop}{S1:Nat->Heap->Prop}{a b:Value}{s:Shared}{Q:Fin->Shared->Prop}(Z:iK z TI TO i1 i2 fp1 fp2)
 (D1:Draws prog w A i1 fp1 n1 P1 S1)(hz:IsZip s.heap z TI TO .none)(hTI:IsPair s.heap TI (.ref i1) (.ref i2))(hTO:IsPair s.heap TO a b)(s1:S1 n1 s.heap)
 (hE:∀ g e,(∀ c o,c≠z->c≠i1->s.heap.get? c=some o->g.get? c=some o)->(∃ o,g.get? e=some o/\o.cls=.type "StopIteration")->E (.ref e) { s with heap:=g }) :
  wpAny (model prog w) A (Builtin.«zip.__next__» ⟨[.ref z],[]⟩) Q E s:=by
 obtain⟨hp,g,d,tk,os⟩:=s;have off:∀ (f:Obj->Obj) b o,b≠z->hp.get? b=some o->(hp.update z f).get? b=some o:=fun f b o hb e=>(Heap.SameBut.update ..).extBut b o hb e;have st1:∀ f:Obj->Obj,S1 n1 (hp.update z f):=fun f=>D1.frame n1 _ _ s1 fun b hb o e=>off f b o (fun q=>Z.z1 (q▸hb)) e;unfold Builtin.«zip.__next__»
 wp_walk using AutoSeq1.wpAny_loadPart' hz,AutoSeq1.wpAny_loadPart' hTI,wpAny_onRaise,(D1.done _ _ _ (st1 _))
 rintro h1 e eb ⟨oe,he,hce⟩;have z1:IsZip h1 z TI TO .ellipsis:=eb _ _ (Ne.symm Z.i1z) (Heap.get?_update_self _ hz rfl)
 have ez:e≠z:=fun q=>by
  rw[q,z1]at he;have:=Option.some.inj he;rw[<-this]at hce;simp at hce
 refine wpAny_setField_rec z1 (by simp) fun h2 _ sb2=>?_;exact hE h2 e (fun c o n1 n2 q=>sb2.extBut _ _ n1 (eb _ _ n2 (off _ _ _ n1 q))) ⟨oe,sb2.extBut _ _ ez he,hce⟩
end
section
variable{prog:Program}{w:World}{A:Around}{E:Value->Shared->Prop}{z TI TO i1 i2:Addr}{fp1 fp2:List Addr}{n1 n2 k:Nat}{P1 P2:Nat->Value->Prop}{S1 S2:Nat->Heap->Prop}{a b:Value}{s:Shared}
def zb{Q:Option Value->Shared->Prop}(Z:iK z TI TO i1 i2 fp1 fp2)(D1:Draws prog w A.in1 i1 fp1 n1 P1 S1)(D2:Draws prog w A.in1 i2 fp2 n2 P2 S2)(hz:IsZip s.heap z TI TO .none)(hTI:IsPair s.heap TI (.ref i1) (.ref i2))(hTO:IsPair s.heap TO a b)(s1:S1 k s.heap)(s2:S2 k s.heap)(k1:k<n1)(k2:k<n2)
 (hQ:∀ x y g tk,P1 k x->P2 k y->IsZip g z TI TO (rawInt s.heap.objs.size)->IsPair g TO x y->S1 (k+1) g->S2 (k+1) g->IsPair g s.heap.objs.size x y->g.objs.size=s.heap.objs.size+1->(∀ c o,c≠z->c≠TO->c≠i1->c≠i2->s.heap.get? c=some o->g.get? c=some o)->Q (some (.ref s.heap.objs.size)) { s with heap:=g,toks:=tk }) :
  wpAny (model prog w) A (pyNext (.ref z)) Q E s:=by
 have hT:s.TypeIs (.ref z) "zip" := ⟨_,hz,rfl⟩
 unfold pyNext;apply wpAny_bind;apply wpAny_attempt;apply wpAny_callSpecial?_slot (name:=Str.ofString "__next__") hT F.slot_zip_next;refine wpAny_call_entry F.slot_zip_next hT F.entry_zip_next ?_ (F.args_zip_next_1 _);refine yo Z D1 D2 hz hTI hTO s1 s2 k1 k2 fun x y g tk px py q1 q2 q3 q4 q5 q6 q7=>?_;apply wpAny_pure;exact hQ x y g tk px py q1 q2 q3 q4 q5 q6 q7
def zg{Q:Option Value->Shared->Prop}(Z:iK z TI TO i1 i2 fp1 fp2)(D1:Draws prog w A.in1 i1 fp1 n1 P1 S1)(hz:IsZip s.heap z TI TO .none)(hTI:IsPair s.heap TI (.ref i1) (.ref i2))(hTO:IsPair s.heap TO a b)(s1:S1 n1 s.heap)
 (hQ:∀ g,(∀ c o,c≠z->c≠i1->s.heap.get? c=some o->g.get? c=some o)->Q none { s with heap:=g }):wpAny (model prog w) A (pyNext (.ref z)) Q E s:=by
 have hT:s.TypeIs (.ref z) "zip" := ⟨_,hz,rfl⟩
 unfold pyNext;apply wpAny_bind;apply wpAny_attempt;apply wpAny_callSpecial?_slot (name:=Str.ofString "__next__") hT F.slot_zip_next;refine wpAny_call_entry F.slot_zip_next hT F.entry_zip_next ?_ (F.args_zip_next_1 _);refine AD Z D1 hz hTI hTO s1 fun g e hk ⟨o,he,hc⟩=>?_;apply wpAny_bind;refine wpAny_isInstance (T := "StopIteration") (b:=true) ⟨_,he,hc⟩ isSubtype_stop ?_;apply wpAny_pure;exact hQ g hk
end
section
variable{s:Shared}
def eh.vP(hd:eh A s.heap):A.handled≠some (.ref s.heap.objs.size):=fun q=>by
 rcases hd with z | ⟨x,o,ws,h1,h2,_,_⟩
 ·rw[z]at q;cases q
 ·rw[h1]at q;cases q;exact Nat.lt_irrefl _ (Heap.lt_size h2)
def sZ(hd:eh A s.heap)(ni:A.handled≠some (.ref it))(hit:IsTupIter s.heap it t i)(ht:IsTup s.heap t its)(hx:its[i]?=none)
 (k:∀ h',Heap.ExtBut it s.heap h'->Q none { s with heap:=h' }):wpAny (model prog w) A (pyNext (.ref it)) Q E s:=by
 obtain⟨o,ho,hc,hdt⟩:=id hit;obtain⟨ol,hol,_,nl,hdl⟩:=ht;unfold pyNext;apply wpAny_bind;apply wpAny_attempt;apply wpAny_callSpecial?_slot (name:=Str.ofString "__next__") hit.typeIs slot_tupleiter_next;refine wpAny_call_entry slot_tupleiter_next hit.typeIs entry_tupleiter_next ?_ (args_tupleiter_next _);have n0:¬ ((Value.ref t == Value.none)=true):=Bool.false_ne_true;refine show wpAny _ _ (field (.ref it) 0 >>= _) _ _ s from wpAny_bind (wpAny_field ho hdt (x:=.ref t) rfl ?_);refine show wpAny _ _ (if(Value.ref t == Value.none)=true then _ else _) _ _ s from ?_;rw[if_neg n0];refine show wpAny _ _ (field (.ref it) 1 >>= _) _ _ s from wpAny_bind (wpAny_field ho hdt (x:=.int i 0) rfl ?_);refine show wpAny _ _ (seqItems? (.ref t) >>= _) _ _ s from wpAny_bind (wpAny_seqItems hol hdl ?_);simp only[Int.toNat_natCast,hx];refine wpAny_bind (wpAny_rule (wpAny_bind (wpAny_setField ho hdt (by simp) ?_)));refine show wpAny _ _ (newExc (.type "StopIteration") [] >>= _) _ _ _ from wpAny_bind ?_;have sb:=Heap.SameBut.update s.heap it (Obj.mapFields (·.setIfInBounds 0 Value.none));refine mV (hd.keeps fun b u vs e _ hb=>(sb.2 b fun z=>ni (z▸hb)).trans e) fun h' e kk he=>?_;apply wpAny_bind;refine wpAny_isInstance (T := "StopIteration") (b:=true) he isSubtype_stop ?_;exact wpAny_pure (k h' fun b u hb q=>kk b u ((sb.2 b hb).trans q))
def take_all{its:Array Value}:List.take its.size (List.drop 0 its.toList)=its.toList:=by
 rw[List.drop_zero,List.take_of_length_le (by simp)]
def tN{t:Addr}(hd:eh A s.heap)(ht:IsTup s.heap t its)(k:∀ h',Heap.ExtBut s.heap.objs.size s.heap h'->Q its.toList { s with heap:=h' }):wpAny (model prog w) A (unpackItems (.ref t) its.size none) Q E s:=by
 have hlt:t≠s.heap.objs.size:=Nat.ne_of_lt ht.lt;have nn:=hd.vP;unfold unpackItems;apply wpAny_bind;unfold notIterableAtAll;apply wpAny_bind;refine wpAny_specialOf ht.typeIs slot_tuple_iter.lookup (wpAny_pure ?_);simp only[Bool.false_eq_true,if_false];apply wpAny_bind;refine wpAny_holding (iter_tuple ht ?_);apply wpAny_bind;refine wpAny_holding (draw_tuple hlt its.size 0 _ _ ⟨_,Heap.get?_push_size _ rfl,rfl,rfl⟩ (ht.push _) (by omega) fun g hit sb=>?_);rw[take_all,if_neg (by simp)];apply wpAny_bind;refine wpAny_holding (sZ (hd.keeps fun b o vs e _ hb=>(sb.2 b fun z=>nn (z▸hb)).trans (Heap.get?_push_of_some _ e)) nn hit ((ht.push _).extBut sb.extBut hlt) (by simp) fun g2 eb=>?_);simp only[Option.isSome_none,Bool.false_eq_true,if_false];exact wpAny_pure (k g2 fun b o hb e=>eb b o hb (sb.extBut b o hb (Heap.get?_push_of_some _ e)))
def ur{l:Addr}(hd:eh A s.heap)(hl:s.heap.IsList l its)(k:∀ h',Heap.ExtBut s.heap.objs.size s.heap h'->Q its.toList { s with heap:=h' }):wpAny (model prog w) A (unpackItems (.ref l) its.size none) Q E s:=by
 have hlt:l≠s.heap.objs.size:=let ⟨o,ho,_⟩:=hl;Nat.ne_of_lt (Heap.lt_size ho);have nn:=hd.vP;unfold unpackItems;apply wpAny_bind;unfold notIterableAtAll;apply wpAny_bind;refine wpAny_specialOf hl.typeIs slot_list_iter.lookup (wpAny_pure ?_);simp only[Bool.false_eq_true,if_false];apply wpAny_bind;refine wpAny_holding (wpAny_pyIter_list hl ?_);apply wpAny_bind;refine wpAny_holding (PySem.W.kun_draw hlt its.size 0 _ _ ⟨_,Heap.get?_push_size _ rfl,rfl,rfl⟩ (hl.push _) (by omega) fun g hit sb=>?_);rw[take_all,if_neg (by simp)];apply wpAny_bind;refine wpAny_holding (rD (hd.keeps fun b o vs e _ hb=>(sb.2 b fun z=>nn (z▸hb)).trans (Heap.get?_push_of_some _ e)) nn hit ((hl.push _).extBut sb.extBut hlt) (by simp) fun g2 eb=>?_);simp only[Option.isSome_none,Bool.false_eq_true,if_false];exact wpAny_pure (k g2 fun b o hb e=>eb b o hb (sb.extBut b o hb (Heap.get?_push_of_some _ e)))
def yA(hh:A.handled=some (.ref x))(hd:ox.data=.fields xs)(h2:xs[2]?=some .none)(nx:x≠it)(hne:l≠it)(its:Array Value) :
  Draws prog w A it [it,l,x] its.size (fun i v=>its[i]?=some v) (fun i h=>(h.IsListIter it l i/\h.IsList l its)/\h.get? x=some ox) where
 live:=fun _ _ st=>let ⟨o,ho,_⟩:=st.1.1;⟨o,ho⟩
 frame:=fun _ _ _ st hk=>⟨⟨st.1.1.at fun o e=>hk it (by simp) o e,st.1.2.at fun o e=>hk l (by simp) o e⟩,hk x (by simp) _ st.2⟩
 item:=fun i s Q E hi st hQ=>wpAny_nextOf_list_item st.1.1 st.1.2 (x:=its[i]) (by simp[hi]) fun h' hit' hs'=>hQ _ h' s.toks (by simp[hi]) ⟨⟨hit',st.1.2.extBut hs'.extBut hne⟩,(hs'.2 x nx).trans st.2⟩ hs'
 done:=fun s Q E st hE=>oh (.inr ⟨x,ox,xs,hh,st.2,hd,h2⟩) (fun q=>by rw[hh]at q;cases q;exact nx rfl) st.1.1 st.1.2 (by simp) hE
def wm(hh:A.handled=some (.ref x))(hd:ox.data=.fields xs)(h2:xs[2]?=some .none)(nx:x≠it)(hne:l≠it)(its:Array Value) :
  Draws prog w A it [it,l,x] its.size (fun i v=>its[i]?=some v) (fun i h=>(h.IsTupleIter it l i/\h.IsTuple l its)/\h.get? x=some ox) where
 live:=fun _ _ st=>let ⟨o,ho,_⟩:=st.1.1;⟨o,ho⟩
 frame:=fun _ _ _ st hk=>by
  obtain⟨⟨⟨o1,e1,r1⟩,⟨o2,e2,r2⟩⟩,e3⟩:=st;exact⟨⟨⟨o1,hk it (by simp) _ e1,r1⟩,⟨o2,hk l (by simp) _ e2,r2⟩⟩,hk x (by simp) _ e3⟩
 item:=fun i s Q E hi st k=>pH st.1.1 st.1.2 (x:=its[i]) (by simp[hi]) fun g g1 g2=>k its[i] g s.toks (by simp[hi]) ⟨⟨g1,st.1.2.extBut g2.extBut hne⟩,(g2.2 x nx).trans st.2⟩ g2
 done:=fun s Q E st hE=>sN (.inr ⟨x,ox,xs,hh,st.2,hd,h2⟩) (fun q=>by rw[hh]at q;cases q;exact nx rfl) st.1.1 st.1.2 (by simp) hE
end
section
def Inv.hd(I:Inv X pins σ H s):eh X.A s.heap:=by
 rcases I.ok.hd.2 with z | ⟨h,o,u,vs,h1,h2,h3,h4⟩
 ·exact .inl z
 ·exact .inr ⟨h,o,vs,h1,(I.hok _ _ (I.base.cK _ _ _ h2)).1,h3,h4⟩
end
abbrev dP(t:Bool)(xs:List V):HO:=if t then .tup xs else .lst xs
abbrev ik(t:Bool)(it l:Addr)(i:Nat)(h:Heap):Prop:=if t then h.IsTupleIter it l i else h.IsListIter it l i
def ik.obj(st:ik t it l i h):∃ o,h.get? it=some o/\∀ v,o.data≠.cell v:=by
 cases t with
 | true=>exact let ⟨o,ho,_,hd⟩:=(show h.IsTupleIter it l i from st);⟨o,ho,fun v q=>by rw[hd]at q;cases q⟩
 | false=>exact let ⟨o,ho,_,hd⟩:=(show h.IsListIter it l i from st);⟨o,ho,fun v q=>by rw[hd]at q;cases q⟩
def ik.keep(st:ik t it l i h)(k:∀ o,h.get? it=some o->h'.get? it=some o):ik t it l i h':=by
 cases t with
 | true=>exact let ⟨o,ho,r⟩:=(show h.IsTupleIter it l i from st);⟨o,k o ho,r⟩
 | false=>exact(show h.IsListIter it l i from st).at fun o q=>k o q
def hU(I:Inv X pins σ H s)(hi:H it=none)(hx:H l=some (dP t xs)) :
  ∃ (fp:List Addr) (Pv:Nat->Value->Prop) (St:Nat->Heap->Prop),Draws X.prog X.w X.A.in1 it fp xs.length Pv St/\(∀ b∈fp,b=it\/H b≠none)/\(∀ i,ik t it l i s.heap->St i s.heap)/\(∀ i h,St i h->ik t it l i h)/\∀ i v,Pv i v->∃ x,xs[i]?=some x/\RelV x v:=by
 have back:∀ {its:List Value},Vals xs its->∀ (i:Nat) (v:Value),its.toArray[i]?=some v->∃ x,xs[i]?=some x/\RelV x v:=fun {its} rv i v hv=>by
  have hv:its[i]?=some v:=by simpa using hv
  have hlt:i<xs.length:=by rw[rv.length];exact(List.getElem?_eq_some_iff.mp hv).1
  obtain⟨u,h1,h2⟩:=rv.get (i:=i) (x:=xs[i]) (by simp[hlt]);rw[hv]at h1;cases h1;exact⟨xs[i],by simp[hlt],h2⟩
 have two:∀ {u:HO},H l=some u->∀ b∈[it,l],b=it\/H b≠none:=fun {u} e b hb=>by
  rcases List.mem_cons.mp hb with z | z
  ·exact .inl z
  ·rw[List.mem_singleton.mp z,e]
   exact .inr fun z=>nomatch z
 rcases I.ok.hd.2 with hh | ⟨x,ox,ux,ws,hh,g1,g2,g3⟩
 ·cases t with
  |true=>
   have hx:H l=some (.tup xs):=hx;obtain⟨its,rv,p,hz⟩:=I.tuple (SqT.of hx);have D:=qj.draws (prog:=X.prog) (w:=X.w) (A:=X.A.in1) hh it l (aK hx hi) its.toArray;rw[show its.toArray.size=xs.length by rw[List.size_toArray,rv.length]]at D;exact⟨_,_,_,D,two hx,fun i st=>⟨st,p⟩,fun i h st=>st.1,back rv⟩
  |false=>
   have hx:H l=some (.lst xs):=hx;obtain⟨its,rv,p,hz⟩:=I.list (SqL.of hx);have D:=Draws.list (prog:=X.prog) (w:=X.w) (A:=X.A.in1) hh it l (aK hx hi) its.toArray;rw[show its.toArray.size=xs.length by rw[List.size_toArray,rv.length]]at D;exact⟨_,_,_,D,two hx,fun i st=>⟨st,p.isList⟩,fun i h st=>st.1,back rv⟩
 ·have hxx:=I.base.cK _ _ _ g1;have hxo:s.heap.get? x=some ox:=(I.hok _ _ hxx).1;have nx:x≠it:=aK hxx hi
  have three:∀ {u:HO},H l=some u->∀ b∈[it,l,x],b=it\/H b≠none:=fun {u} e b hb=>by
   simp only[List.mem_cons,List.mem_nil_iff,or_false]at hb;rcases hb with z | z | z
   ·exact .inl z
   ·rw[z,e]
    exact .inr fun z=>nomatch z
   ·rw[z,hxx]
    exact .inr fun z=>nomatch z
  cases t with
  |true=>
   have hx:H l=some (.tup xs):=hx;obtain⟨its,rv,p,hz⟩:=I.tuple (SqT.of hx);have D:=wm (prog:=X.prog) (w:=X.w) (A:=X.A.in1) hh g2 g3 nx (aK hx hi) its.toArray;rw[show its.toArray.size=xs.length by rw[List.size_toArray,rv.length]]at D;exact⟨_,_,_,D,three hx,fun i st=>⟨⟨st,p⟩,hxo⟩,fun i h st=>st.1.1,back rv⟩
  |false=>
   have hx:H l=some (.lst xs):=hx;obtain⟨its,rv,p,hz⟩:=I.list (SqL.of hx);have D:=yA (prog:=X.prog) (w:=X.w) (A:=X.A.in1) hh g2 g3 nx (aK hx hi) its.toArray;rw[show its.toArray.size=xs.length by rw[List.size_toArray,rv.length]]at D;exact⟨_,_,_,D,three hx,fun i st=>⟨⟨st,p.isList⟩,hxo⟩,fun i h st=>st.1.1,back rv⟩
abbrev Itz(t1 t2:Bool)(l1 l2:Addr):It :=
 ⟨fun i H=>∃ xs ys x y,H l1=some (dP t1 xs)/\H l2=some (dP t2 ys)/\xs[i]?=some x/\ys[i]?=some y,
   fun i H v H'=>∃ p x y,H p=none/\v=.ref p/\H'=upd H p (.tup [x,y])/\(∀ xs,H l1=some (dP t1 xs)->xs[i]?=some x)/\∀ ys,H l2=some (dP t2 ys)->ys[i]?=some y,
   fun i H=>∃ xs ys,H l1=some (dP t1 xs)/\H l2=some (dP t2 ys)/\xs.length=i/\ys.length=i⟩
def oP(h:dP t xs=dP t ys):xs=ys:=by
 cases t<;>(injection h)
def yK{P:Program}{w:World}{K:PySem.W.Frag}{elts:List Expr}{kx:Nat}{tp:Pos}{t1 t2:Bool}{z TI TO i1 i2 l1 l2:Addr}(n1:TI≠z)(n2:TO≠z)(n3:TI≠TO)(n4:i1≠z)(n5:i2≠z)(n6:i1≠TO)(n7:i2≠TO)(n8:i1≠i2)(n9:i1≠TI)(n10:i2≠TI) :
  lV (fun _=>True) P w K (.Tuple elts kx tp) (Itz t1 t2 l1 l2) [z,TI,TO,i1,i2] z (fun i h=>IsZip h z TI TO .none/\IsPair h TI (.ref i1) (.ref i2)/\(∃ a b,IsPair h TO a b)/\ik t1 i1 l1 i h/\ik t2 i2 l2 i h) where
 mem:=by simp
 obj:=fun i h st b hb=>by
  obtain⟨h1,h2,⟨a,c,h3⟩,h4,h5⟩:=st;simp only[List.mem_cons,List.mem_nil_iff,or_false]at hb;rcases hb with rfl | rfl | rfl | rfl | rfl
  ·exact⟨_,h1,fun v q=>by cases q⟩
  ·exact⟨_,h2,fun v q=>by cases q⟩
  ·exact⟨_,h3,fun v q=>by cases q⟩
  ·exact h4.obj
  ·exact h5.obj
 keep:=fun i h h' st k=>by
  obtain⟨h1,h2,⟨a,c,h3⟩,h4,h5⟩:=st;exact⟨k z (by simp) _ h1,k TI (by simp) _ h2,⟨a,c,k TO (by simp) _ h3⟩,h4.keep fun o q=>k i1 (by simp) o q,h5.keep fun o q=>k i2 (by simp) o q⟩
 item:=by
  intro X hP hw hK hc i pins s σ H E I hf st hg;subst hP hw hK;obtain⟨h1,h2,⟨a,c,h3⟩,h4,h5⟩:=st;obtain⟨xs,ys,x,y,hx,hy,ex,ey⟩:=hg;have f:∀ b∈[z,TI,TO,i1,i2],H b=none:=fun b hb=>(hf b hb).1;obtain⟨fp1,Pv1,St1,D1,m1,a1,a2,a3⟩:=hU I (f i1 (by simp)) hx;obtain⟨fp2,Pv2,St2,D2,m2,b1,b2,b3⟩:=hU I (f i2 (by simp)) hy;have no:∀ {fp:List Addr} {i b:Addr},(∀ b∈fp,b=i\/H b≠none)->b∈[z,TI,TO,i1,i2]->b≠i->b∉fp:=fun m hb n z=>(m _ z).elim n fun q=>q (f _ hb)
  have Z:iK z TI TO i1 i2 fp1 fp2:=⟨n1,n2,n3,n4,n5,n6,n7,n8,no m1 (by simp) (Ne.symm n4),no m2 (by simp) (Ne.symm n5),no m1 (by simp) (Ne.symm n6),no m2 (by simp) (Ne.symm n7),no m2 (by simp) n8,no m1 (by simp) (Ne.symm n8)⟩
  refine zb Z D1 D2 h1 h2 h3 (a1 i h4) (b1 i h5) (List.getElem?_eq_some_iff.mp ex).1 (List.getElem?_eq_some_iff.mp ey).1 fun u v g tk pu pv g1 g2 g3 g4 g5 g6 g7=>?_;obtain⟨x',ex',rx⟩:=a3 i u pu;obtain⟨y',ey',ry⟩:=b3 i v pv;rw[ex]at ex';rw[ey]at ey';cases ex';cases ey';refine⟨.ref s.heap.objs.size,rfl,wpAny_letOwnedTupleGo_zip g1 fun g' gz' sb=>?_⟩;have hn:H s.heap.objs.size=none:=I.hok.fresh (Nat.le_refl _)
  have I1:Inv X pins σ (upd H s.heap.objs.size (.tup [x,y])) { s with heap:=s.heap.push { cls:=.type "tuple",data:=.seq #[u,v] },toks:=tk } :=
   I.laid (t':=tk) (fun b o q=>Heap.get?_push_of_some _ q) (Nat.le_refl _) ⟨by show 2<=sizeLine;decide,[u,v],.cons rx (.cons ry .nil),⟨_,Heap.get?_push_size _ rfl,rfl,_,rfl⟩⟩
  have lt:∀ b∈[z,TI,TO,i1,i2],b≠s.heap.objs.size:=fun b hb=>by
   have:∃ o,s.heap.get? b=some o:=by
    simp only[List.mem_cons,List.mem_nil_iff,or_false]at hb;rcases hb with rfl | rfl | rfl | rfl | rfl
    ·exact⟨_,h1⟩
    ·exact⟨_,h2⟩
    ·exact⟨_,h3⟩
    ·exact let ⟨o,q,_⟩:=h4.obj;⟨o,q⟩
    ·exact let ⟨o,q,_⟩:=h5.obj;⟨o,q⟩
   obtain⟨o,q⟩:=this;exact Nat.ne_of_lt (Heap.lt_size q)
  have stat:∀ b∈[z,TI,TO,i1,i2],upd H s.heap.objs.size (.tup [x,y]) b=none/\(b∈X.ex\/X.s₀.heap.objs.size<=b)/\b≠X.env.locals/\(∀ x c,X.env.cells.lookup x=some c->c≠b)/\∀ p∈X.pn++pins,p.1≠b:=fun b hb=>by
   obtain⟨f0,f1,f2,f3,f4,f5⟩:=hf b hb;exact⟨by rw[aJ (lt b hb)];exact f0,f3,f1,f4,f5⟩
  have I2:Inv X pins σ (upd H s.heap.objs.size (.tup [x,y])) { s with heap:=g',toks:=tk }:=by
   refine Inv.mh (s:={ s with heap:=s.heap.push { cls:=.type "tuple",data:=.seq #[u,v] },toks:=tk }) (h':=g') (t':=tk) (fp:=[z,TI,TO,i1,i2]) I1 (fun b o hb q=>?_) stat;simp only[List.mem_cons,List.mem_nil_iff,or_false,not_or]at hb;refine sb.extBut b o hb.1 ?_;by_cases hbT:b=s.heap.objs.size
   ·subst hbT;have q':(s.heap.push { cls:=.type "tuple",data:=.seq #[u,v] }).get? s.heap.objs.size=some o:=q;rw[Heap.get?_push_size _ rfl]at q';cases q';exact g5
   ·exact g7 b o hb.1 hb.2.2.1 hb.2.2.2.1 hb.2.2.2.2 ((Heap.get?_push_ne _ _ _ hbT).symm.trans q)
  have kp:∀ b∈[TI,TO,i1,i2],∀ o,g.get? b=some o->g'.get? b=some o:=fun b hb o q=>sb.extBut b o (fun e=>by
   subst e;simp only[List.mem_cons,List.mem_nil_iff,or_false]at hb;rcases hb with e | e | e | e
   ·exact n1 e.symm
   ·exact n2 e.symm
   ·exact n4 e.symm
   ·exact n5 e.symm) q
  refine⟨.ref s.heap.objs.size,_,I2,rfl,⟨s.heap.objs.size,x,y,hn,rfl,rfl,fun xs' hx'=>?_,fun ys' hy'=>?_⟩,⟨gz',kp TI (by simp) _ (g7 TI _ n1 n3 (Ne.symm n9) (Ne.symm n10) h2),⟨u,v,kp TO (by simp) _ g2⟩,(a2 _ _ g3).keep fun o q=>kp i1 (by simp) o q,(b2 _ _ g4).keep fun o q=>kp i2 (by simp) o q⟩,fun b hb=>(stat b hb).1⟩
  ·rw[hx]at hx';rw[<-oP (Option.some.inj hx')];exact ex
  ·rw[hy]at hy';rw[<-oP (Option.some.inj hy')];exact ey
 done:=by
  intro X hP hw hK hc i pins s σ H E I hf st hg;subst hP hw hK;obtain⟨h1,h2,⟨a,c,h3⟩,h4,h5⟩:=st;obtain⟨xs,ys,hx,hy,ex,ey⟩:=hg;have f:∀ b∈[z,TI,TO,i1,i2],H b=none:=fun b hb=>(hf b hb).1;obtain⟨fp1,Pv1,St1,D1,m1,a1,a2,a3⟩:=hU I (f i1 (by simp)) hx;obtain⟨fp2,_,_,_,m2,_⟩:=hU I (f i2 (by simp)) hy;have no:∀ {fp:List Addr} {i b:Addr},(∀ b∈fp,b=i\/H b≠none)->b∈[z,TI,TO,i1,i2]->b≠i->b∉fp:=fun m hb n z=>(m _ z).elim n fun q=>q (f _ hb)
  have Z:iK z TI TO i1 i2 fp1 fp2:=⟨n1,n2,n3,n4,n5,n6,n7,n8,no m1 (by simp) (Ne.symm n4),no m2 (by simp) (Ne.symm n5),no m1 (by simp) (Ne.symm n6),no m2 (by simp) (Ne.symm n7),no m2 (by simp) n8,no m1 (by simp) (Ne.symm n8)⟩
  subst ex
  refine zg Z D1 h1 h2 h3 (a1 _ h4) fun g hk=>⟨rfl,?_⟩
  refine Inv.mh (h':=g) (t':=s.toks) (fp:=[z,i1]) I (fun b o hb q=>?_) fun b hb=>?_
  ·simp only[List.mem_cons,List.mem_nil_iff,or_false,not_or]at hb;exact hk b o hb.1 hb.2 q
  ·have hb':b∈[z,TI,TO,i1,i2]:=by
    simp only[List.mem_cons,List.mem_nil_iff,or_false]at hb ⊢;rcases hb with q | q
    ·exact .inl q
    ·exact .inr (.inr (.inr (.inl q)))
   obtain⟨f0,f1,f2,f3,f4,f5⟩:=hf b hb';exact⟨f0,f3,f1,f4,f5⟩
 self:=fun A i s Q E st h=>wpAny_pyIter_zip st.1 h
def lV.calm{P:Program}{w:World}{K:PySem.W.Frag}(T:lV (fun _=>True) P w K tg J fp it tn):Turn P w K tg J fp it tn where
 mem:=T.mem
 obj:=T.obj
 keep:=T.keep
 item:=fun X a b c hc i pins s σ H E I=>T.item X a b c trivial i pins s σ H E I
 done:=fun X a b c hc i pins s σ H E I=>T.done X a b c trivial i pins s σ H E I
 self:=T.self
def PI'.calm(h:PI' (fun _=>True) X tg iter wi):PI X tg iter wi:=fun pins s σ H R I q =>
 thn (h pins s σ H R I q) fun v s1 h1=>thn h1 fun itv s2 ⟨it,fp,tn,J,H',e,I',T,r⟩=>⟨it,fp,tn,J,H',e,I',T.calm,r⟩
abbrev cP(t:Bool)(l:Addr):Obj:=if t then { cls:=.type "tuple_iterator",data:=.fields #[.ref l,rawInt 0] } else { cls:=.type "list_iterator",data:=.fields #[.ref l,.int 0 0] }
def qT(e:h.get? it=some (cP t l)):ik t it l 0 h:=by
 cases t with
 | true=>exact⟨_,e,rfl,rfl⟩
 | false=>exact⟨_,e,rfl,rfl⟩
def pP(I:Inv X pins σ H s)(hx:H l=some (dP t xs))(q:Q (.ref s.heap.objs.size) { s with heap:=s.heap.push (cP t l) }):wpAny (model X.prog X.w) A (pyIter (.ref l)) Q E s:=by
 cases t with
 |true=>
  obtain⟨its,rv,p,hz⟩:=I.tuple (SqT.of (show H l=some (.tup xs)from hx));exact wpAny_pyIter_tuple p q
 |false=>
  obtain⟨its,rv,p,hz⟩:=I.list (SqL.of (show H l=some (.lst xs)from hx));exact wpAny_pyIter_list p.isList q
section
abbrev FW(ta:TA):TI:=fun σ H R=>ta σ H fun vs H1=>∃ t1 t2 l1 l2 xs ys,vs=[.ref l1,.ref l2]/\H1 l1=some (dP t1 xs)/\H1 l2=some (dP t2 ys)/\R (Itz t1 t2 l1 l2) H1
def far(n a b:Nat)(h:a≠b):n+a≠n+b:=fun q=>h (Nat.add_left_cancel q)
def v7:bootBuiltins "zip" = some (.type "zip"):=by decide +kernel
def Dy(hg:Gl X "zip")(hm:X.mg "zip" = none)(ha:PA X [a,b] ta)(hs:starEach [a,b] X.env=[(false,eval a X.env),(false,eval b X.env)])(hs2:starEach [b] X.env=[(false,eval b X.env)]):PI' (fun _=>True) X (.Tuple elts kx tp) (.Call (.Name "zip" p) [a,b] [] pos) (FW ta):=by
 intro pins s0 σ H0 R I0 h;refine Call_ (iE I0 hg hm v7 (PyProof.Rows.callWith_type1 (thn (ha pos pins s0 σ H0 _ I0 h) fun us s ⟨vs,H,I,r1,q1⟩=>?_) (by rw[hs,hs2]) (by rw[hs2];rfl)));obtain⟨t1,t2,l1,l2,xs,ys,rfl,hx,hy,q⟩:=q1
 cases r1 with
 |cons r rr=>
  cases rr with
  |cons r2 rr=>
   cases rr;cases r;cases r2;have I1:Inv X pins σ H { s with heap:=s.heap.push (cP t1 l1) }:=I.kept (t':=s.toks) fun b o e=>Heap.get?_push_of_some _ e
   refine An (S1:=fun it z1=>it=s.heap.objs.size/\z1={ s with heap:=s.heap.push (cP t1 l1) }) (S2:=fun it jt z2=>it=s.heap.objs.size/\jt=(s.heap.push (cP t1 l1)).objs.size/\z2={ s with heap:=(s.heap.push (cP t1 l1)).push (cP t2 l2) })
    (fun A=>pP I hx ⟨_,rfl,rfl,rfl⟩) (fun it z1 h1 A=>?_) fun it jt z2 h2=>?_
   ·obtain⟨rfl,rfl⟩:=h1;exact pP I1 hy ⟨_,rfl,rfl,rfl,rfl⟩
   ·obtain⟨rfl,rfl,rfl⟩:=h2;have z1:(s.heap.push (cP t1 l1)).objs.size=s.heap.objs.size+1:=Heap.size_push ..;generalize e1:s.heap.push (cP t1 l1)=g1 at *
    have p1:g1.get? s.heap.objs.size=some (cP t1 l1):=by
     rw[<-e1];exact Heap.get?_push_size _ (by cases t1<;>rfl)
    have k1:∀ b o,s.heap.get? b=some o->g1.get? b=some o:=fun b o e=>by rw[<-e1];exact Heap.get?_push_of_some _ e
    have z2:(g1.push (cP t2 l2)).objs.size=s.heap.objs.size+2:=by rw[Heap.size_push,z1]
    have p2:(g1.push (cP t2 l2)).get? (s.heap.objs.size+1)=some (cP t2 l2):=by
     rw[<-z1];exact Heap.get?_push_size _ (by cases t2<;>rfl)
    have k2:∀ b o,g1.get? b=some o->(g1.push (cP t2 l2)).get? b=some o:=fun b o e=>Heap.get?_push_of_some _ e;generalize e2:g1.push (cP t2 l2)=g2 at *;dsimp only;rw[z1]
    have z3:(g2.push { cls:=.type "tuple",data:=.seq #[.ref s.heap.objs.size,.ref (s.heap.objs.size+1)] }).objs.size=s.heap.objs.size+3:=by rw[Heap.size_push,z2]
    have p3:(g2.push { cls:=.type "tuple",data:=.seq #[.ref s.heap.objs.size,.ref (s.heap.objs.size+1)] }).get? (s.heap.objs.size+2)=some { cls:=.type "tuple",data:=.seq #[.ref s.heap.objs.size,.ref (s.heap.objs.size+1)] }:=by
     rw[<-z2];exact Heap.get?_push_size _ rfl
    have k3:∀ b o,g2.get? b=some o->(g2.push { cls:=.type "tuple",data:=.seq #[.ref s.heap.objs.size,.ref (s.heap.objs.size+1)] }).get? b=some o:=fun b o e=>Heap.get?_push_of_some _ e;rw[z2];generalize e3:g2.push { cls:=.type "tuple",data:=.seq #[.ref s.heap.objs.size,.ref (s.heap.objs.size+1)] }=g3 at *;rw[z3]
    have z4:(g3.push { cls:=.type "tuple",data:=.seq #[.none,.none] }).objs.size=s.heap.objs.size+4:=by rw[Heap.size_push,z3]
    have p4:(g3.push { cls:=.type "tuple",data:=.seq #[.none,.none] }).get? (s.heap.objs.size+3)=some { cls:=.type "tuple",data:=.seq #[.none,.none] }:=by
     rw[<-z3];exact Heap.get?_push_size _ rfl
    have k4:∀ b o,g3.get? b=some o->(g3.push { cls:=.type "tuple",data:=.seq #[.none,.none] }).get? b=some o:=fun b o e=>Heap.get?_push_of_some _ e;generalize e4:g3.push { cls:=.type "tuple",data:=.seq #[.none,.none] }=g4 at *;rw[z4]
    have p5:(g4.push { cls:=.type "zip",data:=.fields #[.none,.bool false,.bool false,.ref (s.heap.objs.size+2),.ref (s.heap.objs.size+3)] }).get? (s.heap.objs.size+4)=some { cls:=.type "zip",data:=.fields #[.none,.bool false,.bool false,.ref (s.heap.objs.size+2),.ref (s.heap.objs.size+3)] }:=by
     rw[<-z4];exact Heap.get?_push_size _ rfl
    have k5:∀ b o,g4.get? b=some o->(g4.push { cls:=.type "zip",data:=.fields #[.none,.bool false,.bool false,.ref (s.heap.objs.size+2),.ref (s.heap.objs.size+3)] }).get? b=some o:=fun b o e=>Heap.get?_push_of_some _ e;generalize e5:g4.push { cls:=.type "zip",data:=.fields #[.none,.bool false,.bool false,.ref (s.heap.objs.size+2),.ref (s.heap.objs.size+3)] }=g5 at *
    refine wpAny_pyIter_zip (TI:=s.heap.objs.size+2) (TO:=s.heap.objs.size+3) (f0:=.none) p5 ⟨s.heap.objs.size+4,[s.heap.objs.size+4,s.heap.objs.size+2,s.heap.objs.size+3,s.heap.objs.size,s.heap.objs.size+1],_,Itz t1 t2 l1 l2,H,rfl,I.kept (t':=s.toks) fun b o e=>k5 _ _ (k4 _ _ (k3 _ _ (k2 _ _ (k1 _ _ e)))),yK (far _ 2 4 (by decide)) (far _ 3 4 (by decide)) (far _ 2 3 (by decide)) (far _ 0 4 (by decide)) (far _ 1 4 (by decide)) (far _ 0 3 (by decide)) (far _ 1 3 (by decide)) (far _ 0 1 (by decide)) (far _ 0 2 (by decide)) (far _ 1 2 (by decide)),
     ⟨p5,k5 _ _ (k4 _ _ p3),⟨_,_,k5 _ _ p4⟩,qT (k5 _ _ (k4 _ _ (k3 _ _ (k2 _ _ p1)))),qT (k5 _ _ (k4 _ _ (k3 _ _ p2)))⟩,fun b hb=>?_,q⟩
    have hb':s.heap.objs.size<=b:=by
     simp only[List.mem_cons,List.mem_nil_iff,or_false]at hb
     rcases hb with rfl | rfl | rfl | rfl | rfl<;>first | exact Nat.le_refl _ | exact Nat.le_add_right _ _
    exact I.kN hb' (I.hok.fresh hb')
end
end L2
namespace RS
open PySem PySem.Spec PyProof.Rows L2
def je:∀ (ds es:List RL.D),ds.length=es.length->(RL.eL ds es).length=ds.length
 | [],[],_=>rfl
 | [],_::_,h=>by cases h
 | _::_,[],h=>by cases h
 | d::ds,e::es,h=>by rw[RL.eL,List.length_cons,List.length_cons,je ds es (by simpa using h)]
def qN:∀ (ds es:List RL.D) (i:Nat) (d:RL.D),(RL.eL ds es)[i]?=some d->∃ x y,ds[i]?=some x/\es[i]?=some y/\d=.tup [x,y]
 | [],es,i,d,h=>by cases es<;>simp[RL.eL]at h
 | _::_,[],i,d,h=>by simp[RL.eL]at h
 | x::ds,y::es,0,d,h=>by simp[RL.eL]at h;exact⟨x,y,rfl,rfl,h.symm⟩
 | x::ds,y::es,i+1,d,h=>by
  rw[RL.eL,List.getElem?_cons_succ]at h;obtain⟨x',y',h1,h2,h3⟩:=qN ds es i d h;exact⟨x',y',by simpa using h1,by simpa using h2,h3⟩
def wQ{K:PySem.W.Frag}(hl:ds.length=es.length)(h1:H l1=some (dP t1 xs))(h2:H l2=some (dP t2 ys))(n1:¬ P l1)(n2:¬ P l2)(r1:ah nP K H ds xs)(r2:ah nP K H es ys)(hm:∀ b o,P b->H b=some o->cN o) :
  gN K (Itz t1 t2 l1 l2) (RL.eL ds es) P H where
 go:=fun H' i k hi=>by
  rw[je ds es hl]at hi;obtain⟨x,e,_⟩:=r1.get (i:=i) (d:=ds[i]) (by simp[hi]);obtain⟨y,e',_⟩:=r2.get (i:=i) (d:=es[i]'(by lia)) (by simp);exact⟨xs,ys,x,y,k _ _ n1 h1,k _ _ n2 h2,e,e'⟩
 stop:=fun H' k=>⟨xs,ys,k _ _ n1 h1,k _ _ n2 h2,by rw[je ds es hl,r1.length],by rw[je ds es hl,hl,r2.length]⟩
 yld:=fun H' i d v H2 k e y=>by
  obtain⟨p,x,w,hp,rfl,rfl,hx,hw⟩:=y;obtain⟨dx,dw,g1,g2,rfl⟩:=qN ds es i d e;obtain⟨x',g3,g4⟩:=r1.get g1;obtain⟨w',g5,g6⟩:=r2.get g2;rw[hx xs (k _ _ n1 h1)]at g3;rw[hw ys (k _ _ n2 h2)]at g5;cases g3;cases g5;refine⟨au.bH hp,fun q=>?_⟩
  have re:Rep nP K H' dx x/\Rep nP K H' dw w:=by
   rcases q with q | q
   ·have q:(dx.imm&&(dw.imm&&true))=true:=q;rw[Bool.and_true,Bool.and_eq_true]at q;exact⟨gA hm k g4 q.1,gA hm k g6 q.2⟩
   ·exact⟨g4.same q,g6.same q⟩
  rw[Rep];exact⟨p,[x,w],rfl,aP,ah.cons (re.1.same (au.bH hp)) (ah.cons (re.2.same (au.bH hp)) ah.nil)⟩
def mZ{P:Addr->Prop}{K:PySem.W.Frag}(h:RL.items d=some ds)(r:Rep P K H d v):∃ t l xs,v=.ref l/\H l=some (dP t xs)/\ah P K H ds xs/\(t=false->d=.lst ds):=by
 obtain⟨p,xs,rfl,hp,rs⟩:=eY h r
 rcases hp with⟨q,rfl⟩ | ⟨q,rfl⟩
 ·exact⟨false,p,xs,rfl,q,rs,fun _=>rfl⟩
 ·exact⟨true,p,xs,rfl,q,rs,fun z=>by cases z⟩
section rules
def vk(hg:Gl X "zip")(hm:X.mg "zip" = none)(ha:SE X cl a a')(hb:SE X cl b b')(hn:noStar a=true)(hn2:noStar b=true):PI' (fun _=>True) X (.Tuple elts kx tp) (.Call (.Name "zip" p) [a,b] [] pos) (tI X.K cl (.zip a' b')):=by
 intro pins s σ H R I h;obtain⟨σD,ds,rv,e,k⟩:=h;obtain⟨x,ea,e⟩:=bind_some e;obtain⟨y,eb,e⟩:=bind_some e;obtain⟨xs,e1,e⟩:=bind_some e;obtain⟨ys,e2,e⟩:=bind_some e;split at e
 ·rename_i hl;cases e;have hpa:PA X [a,b] (f9 (tE X.K cl a') (f9 (tE X.K cl b') j9)):=ba ha (ba hb cL (ay [] hn2)) (ay _ hn);refine Dy hg hm hpa (by rw[ay _ hn,ay _ hn2];rfl) (ay [] hn2) pins s σ H R I ?_;refine⟨σD,x,rv,ea,fun v H1 r1=>⟨σD,y,rv.same r1.same,eb,fun u H2 r2=>?_⟩⟩;obtain⟨t1,l1,vs,rfl,h1,p1,c1⟩:=mZ e1 (r1.rep.same r2.same);obtain⟨t2,l2,us,rfl,h2,p2,c2⟩:=mZ e2 r2.rep;refine⟨t1,t2,l1,l2,vs,us,rfl,h1,h2,k _ _ (r1.same.trans r2.same) ⟨wQ hl h1 h2 (fun z=>z) (fun z=>z) p1 p2 gP,fun M P z hP av=>?_⟩⟩;have hP2:=eB (r1.same.trans r2.same) hP;unfold RL.qv at z;rw[Bool.and_eq_true]at z
  have notT:∀ (t:Bool) l zs,H2 l=some (dP t zs)->t=true->¬ P l:=fun t l zs hl ht q=>by
   subst ht;rcases hP2 l _ q hl with⟨_,q⟩ | ⟨_,q⟩ | ⟨_,q⟩<;>cases q
  refine wQ hl h1 h2 ?_ ?_ p1 p2 hP2
  ·cases ht:t1 with
   | true=>exact notT t1 l1 vs h1 ht
   | false=>exact lF r1 z.1 hP av _ _ (c1 ht) rfl
  ·cases ht:t2 with
   | true=>exact notT t2 l2 us h2 ht
   |false=>
    refine lF r2 z.2 (fun b q=>?_) (fun j dj vj hj h3 h4=>(av j dj vj hj h3 h4).same r1.same) _ _ (c2 ht) rfl;obtain⟨o,ho,hmu⟩:=hP b q;exact⟨o,r1.same _ _ ho,hmu⟩
 ·cases e
end rules
end RS
namespace L2
open PySem PySem.Spec PyProof.Rows
section
end
end L2
namespace RS
open PySem PySem.Spec PyProof.Rows L2
section
end
end RS
namespace L2
open PySem PySem.Spec PyProof.Rows
section
end
section
end
end L2
namespace RS
open PySem PySem.Spec PyProof.Rows L2
section
end
section
variable{st:Stmt}
end
section
variable{X:Cx}
def zY(h:RL.tP y kx z=some d):∃ o,qY y kx=some o/\d=o.getD z:=by
 cases y with
 |dK ks vs=>
  obtain⟨q,h1,h2⟩:=map_some (show(RL.keyOf kx).map _=some d from h);exact⟨_,by show(RL.keyOf kx).map (RL.aG ks vs)=_;rw[h1];rfl,h2.symm⟩
 |dT ks vs=>
  cases kx with
  |tup kk=>
   obtain⟨q,h1,h2⟩:=map_some (show(RL.keysOf kk).map _=some d from h);exact⟨_,by show(RL.keysOf kk).map (RL.aG ks vs)=_;rw[h1];rfl,h2.symm⟩
  | _=>cases h
 | _=>cases kx<;>cases h
def CL(ry:Rep nP X.K H y v)(h:qY y kx=some o):∃ q,v=.ref q/\IsD H q:=by
 cases y with
 |dK ks vs=>
  rw[Rep]at ry;obtain⟨q,xs,rfl,_,f2,fl,f3⟩:=ry;exact⟨q,rfl,.inl ⟨_,.inl f2⟩⟩
 |dT ks vs=>
  rw[Rep]at ry;obtain⟨q,xs,rfl,_,f2,fl,f3⟩:=ry;exact⟨q,rfl,.inr ⟨_,.inl f2⟩⟩
 | _=>cases kx<;>cases h
end
end RS
namespace L2
open PySem PySem.Spec PyProof.Rows
end L2
namespace RS
open PySem PySem.Spec PyProof.Rows L2
end RS
namespace L2
open PySem PySem.Spec PyProof.Rows
section
variable{prog:Program}{w:World}{A:Around}{E:Value->Shared->Prop}{s:Shared}
end
end L2
namespace RS
open PySem PySem.Spec PyProof.Rows L2
end RS
namespace L2
open PySem PySem.Spec PyProof.Rows
abbrev Itx(x:Str):It:=⟨fun i _=>i<x.cps.size,fun i H v H'=>H'=H/\∃ c,x.cps[i]?=some c/\v=.str ⟨#[c]⟩,fun i _=>x.cps.size<=i⟩
def yF{P:Program}{w:World}{K:PySem.W.Frag}{tg:Expr}(x:Str)(t:Tok)(it:Addr):Turn P w K tg (Itx x) [it] it (fun i h=>h.IsStrIter it (strIterType x) x t i) where
 mem:=by simp
 obj:=fun i h st b hb=>by
  have e:b=it:=by simpa using hb
  subst e;obtain⟨o,e,c,d⟩:=st;exact⟨o,e,fun v z=>by rw[d]at z;cases z⟩
 keep:=fun i h h' st k=>let ⟨o,e,r⟩:=st;⟨o,k it (by simp) o e,r⟩
 item:=by
  intro X hP hw hK hc i pins s σ H E I hf st hg;subst hP hw hK;have hg:i<x.cps.size:=hg;obtain⟨f0,f1,f2,f3,f4,f5⟩:=hf it (by simp)
  have hx:x.cps[i]?=some x.cps[i]:=by simp[hg]
  have fin:∀ h',h'.IsStrIter it (strIterType x) x t (i+1)->Heap.SameBut it s.heap h'->(∃ u,some (Value.str ⟨#[x.cps[i]]⟩ s.toks)=some u /\
    wpAny (model X.prog X.w) X.A (letOwnedTupleGo tg (.ref it) u) (fun _ s2=>∃ y H',Inv X pins σ H' s2/\RelV y u/\(Itx x).yld i H y H'/\s2.heap.IsStrIter it (strIterType x) x t (i+1)/\∀ b∈[it],H' b=none) E { s with heap:=h',toks:=s.toks+1 }):=fun h' st' sb=>by
   have I1:Inv X pins σ H { s with heap:=h',toks:=s.toks+1 }:=I.turned (t':=s.toks+1) (fun b o hb e=>(sb.2 b hb).trans e) f0 f1 f3 f4 f5;obtain⟨o,e,c,d⟩:=id st'
   have hn:["enumerate", "zip", "dict_itemiterator", "dict_reverseitemiterator", "odict_iterator", "itertools.zip_longest", "itertools.pairwise"].contains (strIterType x)=false:=by
    unfold strIterType;split<;>decide
   exact⟨_,rfl,lT (s:={ s with heap:=h',toks:=s.toks+1 }) e c d hn ⟨.str ⟨#[x.cps[i]]⟩,H,I1,⟨_,rfl⟩,⟨rfl,_,hx,rfl⟩,st',fun b hb=>(hf b hb).1⟩⟩
  cases ha:x.cps.all (·<128)with
  |true=>
   have ht:strIterType x = "str_ascii_iterator" := by simp[strIterType,ha]
   rw[ht]at st;exact wpAny_pyNext_ascii_item st hx fun h' st' sb=>fin h' (by rw[ht];exact st') sb
  |false=>
   have ht:strIterType x = "str_iterator" := by simp[strIterType,ha]
   rw[ht]at st;exact wpAny_pyNext_wide_item st hx fun h' st' sb=>fin h' (by rw[ht];exact st') sb
 done:=by
  intro X hP hw hK hc i pins s σ H E I hf st hg;subst hP hw hK;have hg:x.cps.size<=i:=hg;obtain⟨f0,f1,f2,f3,f4,f5⟩:=hf it (by simp)
  have hx:x.cps[i]?=none:=by simp[hg]
  have fin:∀ h',Heap.ExtBut it s.heap h'->(none:Option Value)=none/\Inv X pins σ H { s with heap:=h' }:=fun h' eb=>⟨rfl,I.turned (t':=s.toks) (fun b o hb e=>eb b o hb e) f0 f1 f3 f4 f5⟩
  cases ha:x.cps.all (·<128)with
  |true=>
   have ht:strIterType x = "str_ascii_iterator" := by simp[strIterType,ha]
   rw[ht]at st;exact wpAny_pyNext_ascii_end (I.ok.hd.1 hc) st hx fin
  |false=>
   have ht:strIterType x = "str_iterator" := by simp[strIterType,ha]
   rw[ht]at st;exact wpAny_pyNext_wide_end (I.ok.hd.1 hc) st hx fin
 self:=fun A i s Q E st h=>by
  cases ha:x.cps.all (·<128)with
  |true=>
   have ht:strIterType x = "str_ascii_iterator" := by simp[strIterType,ha]
   rw[ht]at st;exact wpAny_pyIter_striter_ascii st h
  |false=>
   have ht:strIterType x = "str_iterator" := by simp[strIterType,ha]
   rw[ht]at st;exact wpAny_pyIter_striter_wide st h
def BW{X:Cx}{tg l:Expr}{tl:TE}(hl:PE X l tl):PI X tg l (fun σ H R=>tl σ H fun y H1=>∃ x,y=.str x/\R (Itx x) H1):=by
 intro pins s σ H R I h;refine thn (hl pins s σ H _ I h) fun v s1 ⟨y,H1,I1,r1,x,e,q⟩=>?_;subst e;obtain⟨t,rfl⟩:=r1;refine wpAny_pyIter_strU ⟨s1.heap.objs.size,[s1.heap.objs.size],_,_,H1,rfl,I1.kept (t':=s1.toks) fun b o e=>Heap.get?_push_of_some _ e,yF x t _,⟨_,Heap.get?_push_size _ rfl,rfl,rfl⟩,fun b hb=>?_,q⟩;rw[show b=s1.heap.objs.size by simpa using hb];exact I1.kN (Nat.le_refl _) (I1.hok.fresh (Nat.le_refl _))
end L2
namespace RS
open PySem PySem.Spec PyProof.Rows L2
def wF{K:PySem.W.Frag}{H:Hp}{x:Str}{P:Addr->Prop}:gN K (Itx x) (x.cps.toList.map fun c=>RL.D.str ⟨#[c]⟩) P H where
 go:=fun H' i k hi=>by show i<x.cps.size;simpa using hi
 stop:=fun H' k=>by show x.cps.size<=_;simp
 yld:=fun H' i d v H2 k e y=>by
  obtain⟨z,c,h1,h2⟩:=y;subst z h2;refine⟨au.refl _,fun _=>?_⟩
  have:d=.str ⟨#[c]⟩:=by
   rw[List.getElem?_map]at e;obtain⟨c',e1,e2⟩:=map_some e;rw[Array.getElem?_toList,h1]at e1;cases e1;exact e2.symm
  subst this;exact df
def CS{X:Cx}{cl:RL.Cl}{tg a:Expr}{a':RL.E}(ha:SE X cl a a'):SI X cl tg a (.chr a'):=by
 refine PI.weak (BW ha) fun σ H R h=>?_;obtain⟨σD,ds,rv,e,k⟩:=h;obtain⟨d,e1,e2⟩:=bind_some (show(RL.ev cl σD a').bind _=some ds from e);refine⟨σD,d,rv,e1,fun v H1 r1=>?_⟩
 cases d with
 |str x=>
  cases e2;exact⟨x,aD r1.rep,k _ _ r1.same ⟨wF,fun _ _ _ _ _=>wF⟩⟩
 | _=>cases e2
end RS
namespace L2
open PySem PySem.Spec PyProof.Rows
abbrev Gv:V->Option Int->Option Int->Hp->VK->Prop:=fun y lo hi H Q=>∃ x,y=.str x/\x.length<=sizeLine/\Q (.str (Txt.slice x lo hi)) H
def vd{X:Cx}:SlR X Gv:=by
 intro pins s σ H y v vl vu lo hi sl Q I rx hs pl pu h;obtain⟨x,rfl,hz,q⟩:=h;obtain⟨t,rfl⟩:=rx;refine⟨"str",_,PySem.F.slot_str_getitem.lookup,typeIs_str _ _ _,?_⟩
 have fin:∀ t' k,EP X pins σ Q (.str (Txt.slice x lo hi) t') { s with toks:=k }:=fun t' k=>⟨.str (Txt.slice x lo hi),H,I.tok _,⟨_,rfl⟩,q⟩
 have le:(Txt.slice x lo hi).length<=sizeLine:=Nat.le_trans (Txt.slice_le x lo hi) hz
 cases pl with
 |none=>
  cases pu with
  | none=>exact wpAny_getItem_str_slice (l:=none) (u:=none) (st:=none) hs rfl (post_val_or_str ⟨le,fin⟩)
  | int j uj=>exact wpAny_getItem_str_slice (l:=none) (u:=some (j,uj)) (st:=none) hs rfl (post_val_or_str ⟨le,fin⟩)
 |int i ui=>
  cases pu with
  | none=>exact wpAny_getItem_str_slice (l:=some (i,ui)) (u:=none) (st:=none) hs rfl (post_val_or_str ⟨le,fin⟩)
  | int j uj=>exact wpAny_getItem_str_slice (l:=some (i,ui)) (u:=some (j,uj)) (st:=none) hs rfl (post_val_or_str ⟨le,fin⟩)
end L2
namespace RS
open PySem PySem.Spec PyProof.Rows L2
section
open PySem.Builtin.Str
def jk{α:Type}:∀ (xs:List α) (n:Nat),n<=xs.length->(List.range n).filterMap (xs[·]?)=xs.take n
 | xs,0,_=>rfl
 | xs,n+1,h=>by
  rw[List.range_succ,List.filterMap_append,jk xs n (by lia),List.take_add_one];congr 1
def yV(k n:Nat):strSliceIndices none (some (k:Int)) 1 n=List.range (min k n):=by
 unfold strSliceIndices sliceRange;simp only[show(1:Int) > 0 by decide,if_true];rw[if_neg (show ¬ (k:Int)<0 by lia)]
 have e:(if(0:Int)<max 0 (min (k:Int) (n:Int))then(max 0 (min (k:Int) (n:Int))-0+1-1) / 1 else 0).toNat=min k n:=by
  split
  ·rw[Int.ediv_one];lia
  ·lia
 rw[e]
 conv=>rhs;rw[<-List.map_id (List.range (min k n))]
 apply List.map_congr_left;intro j _;show((0:Int)+1*(j:Int)).toNat=j;lia
def yu(k n:Nat):strSliceIndices (some (k:Int)) none 1 n=(List.range (n-min k n)).map (min k n+·):=by
 unfold strSliceIndices sliceRange;simp only[show(1:Int) > 0 by decide,if_true];rw[if_neg (show ¬ (k:Int)<0 by lia)]
 have e:(if max 0 (min (k:Int) (n:Int))<(n:Int)then((n:Int)-max 0 (min (k:Int) (n:Int))+1-1) / 1 else 0).toNat=n-min k n:=by
  split
  ·rw[Int.ediv_one];lia
  ·lia
 rw[e];apply List.map_congr_left;intro j _;show(max 0 (min (k:Int) (n:Int))+1*(j:Int)).toNat=min k n+j;lia
def uo(x:Str)(k:Nat):Txt.slice x none (some (k:Int))=⟨(x.cps.toList.take k).toArray⟩:=by
 have hl:x.length=x.cps.toList.length:=by simp[Str.length]
 unfold Txt.slice;rw[yV,List.length_range];by_cases c:min k x.length=x.length
 ·rw[if_pos (by simp[c])];have:x.cps.toList.take k=x.cps.toList:=List.take_of_length_le (by lia);rw[this,Array.toArray_toList]
 ·rw[if_neg (by simp[c])];congr 2;have:=jk x.cps.toList (min k x.length) (by lia);simp only[Array.getElem?_toList]at this;rw[this];congr 1;lia
def tm(x:Str)(k:Nat):Txt.slice x (some (k:Int)) none=⟨(x.cps.toList.drop k).toArray⟩:=by
 have hl:x.length=x.cps.toList.length:=by simp[Str.length]
 unfold Txt.slice;rw[yu,List.length_map,List.length_range];by_cases c:x.length-min k x.length=x.length
 ·rw[if_pos (by simp[c])]
  have h0:x.cps.toList.drop k=x.cps.toList:=by
   by_cases z:k=0
   ·rw[z];rfl
   ·have:x.cps.toList=[]:=List.length_eq_zero_iff.mp (by lia);rw[this,List.drop_nil]
  rw[h0,Array.toArray_toList]
 ·rw[if_neg (by simp[c])];congr 2;rw[List.filterMap_map];have:=jk (x.cps.toList.drop (min k x.length)) (x.length-min k x.length) (by rw[List.length_drop];lia);simp only[List.getElem?_drop,Array.getElem?_toList]at this;refine this.trans ?_;rw[List.take_of_length_le (by rw[List.length_drop];lia)];by_cases z:k<=x.length
  ·rw[Nat.min_eq_left z]
  ·rw[Nat.min_eq_right (by lia),List.drop_of_length_le (by lia),List.drop_of_length_le (by lia)]
end
section
variable{X:Cx}{cl:RL.Cl}{a b:Expr}{a' b' e':RL.E}{pos p2:Pos}{M:List Nat}{st:Stmt}{i:Nat}
def Ef(ha:SE X cl a a')(hb:SE X cl b b'):SE X cl (.Subscript a (.Slice none (some b) none p2) pos) (.sxT a' b'):=by
 refine PE.weak (lg vd ha mi (mM hb)) fun σ H Q h=>?_;obtain⟨σD,d,rv,e,k⟩:=h;obtain⟨x,ea,e⟩:=bind_some (show(RL.ev cl σD a').bind _=some d from e);obtain⟨y,eb,e⟩:=bind_some e;refine⟨σD,x,rv,ea,fun v H1 r1=>⟨σD,y,rv.same r1.same,eb,fun u H2 r2=>?_⟩⟩
 cases x with
 |str x=>
  cases y with
  |int n=>
   by_cases c:0<=n/\x.length<=RL.most
   ·have e:(if 0<=n/\x.length<=RL.most then some (RL.D.str ⟨(x.cps.toList.take n.toNat).toArray⟩)else none)=some d:=e;rw[if_pos c]at e;cases e;refine⟨n,aq r2.rep,x,aD r1.rep,Nat.le_trans c.2 bI,?_⟩
    have:Txt.slice x none (some n)=⟨(x.cps.toList.take n.toNat).toArray⟩:=by
     have:=uo x n.toNat;rw[Int.toNat_of_nonneg c.1]at this;exact this
    rw[this];exact k _ _ (bZ (r1.same.trans r2.same) df rfl)
   ·have e:(if 0<=n/\x.length<=RL.most then some (RL.D.str ⟨(x.cps.toList.take n.toNat).toArray⟩)else none)=some d:=e;rw[if_neg c]at e;cases e
  | _=>cases e
 | _=>cases e
def Cq(ha:SE X cl a a')(hb:SE X cl b b'):SE X cl (.Subscript a (.Slice (some b) none none p2) pos) (.sxF a' b'):=by
 refine PE.weak (lg vd ha (mM hb) mi) fun σ H Q h=>?_;obtain⟨σD,d,rv,e,k⟩:=h;obtain⟨x,ea,e⟩:=bind_some (show(RL.ev cl σD a').bind _=some d from e);obtain⟨y,eb,e⟩:=bind_some e;refine⟨σD,x,rv,ea,fun v H1 r1=>⟨σD,y,rv.same r1.same,eb,fun u H2 r2=>?_⟩⟩
 cases x with
 |str x=>
  cases y with
  |int n=>
   by_cases c:0<=n/\x.length<=RL.most
   ·have e:(if 0<=n/\x.length<=RL.most then some (RL.D.str ⟨(x.cps.toList.drop n.toNat).toArray⟩)else none)=some d:=e;rw[if_pos c]at e;cases e;refine⟨n,aq r2.rep,x,aD r1.rep,Nat.le_trans c.2 bI,?_⟩
    have:Txt.slice x (some n) none=⟨(x.cps.toList.drop n.toNat).toArray⟩:=by
     have:=tm x n.toNat;rw[Int.toNat_of_nonneg c.1]at this;exact this
    rw[this];exact k _ _ (bZ (r1.same.trans r2.same) df rfl)
   ·have e:(if 0<=n/\x.length<=RL.most then some (RL.D.str ⟨(x.cps.toList.drop n.toNat).toArray⟩)else none)=some d:=e;rw[if_neg c]at e;cases e
  | _=>cases e
 | _=>cases e
def Br{f r p w:Nat}(h:PS X st (oG (zI (spM X.K cl [0] f) [] E0 (f9 (gE r) (f9 (gE p) (f9 (uw X.K "list" t7 (gE w)) j9))))))(hr:M.contains r=true)(hp:M.contains p=false)(hw:M.contains w=true)(hrw:r≠w):SS X cl M st (.tie3 f r p w):=by
 refine PS.weak h fun D σ H h=>?_;obtain⟨σD,ou,σD',rv,e,k⟩:=h;obtain⟨R,e1,e⟩:=bind_some (show((σD[r]?).bind id).bind _=some (ou,σD')from e);obtain⟨x,e2,e⟩:=bind_some e;obtain⟨l,e3,e⟩:=bind_some e;obtain⟨q,e4,e⟩:=bind_some e
 have hpw:p≠w:=fun z=>by rw[z,hw]at hp;cases hp
 cases l with
 |lst ds=>
  obtain⟨d,e5,e6⟩:=map_some (show(ds[ds.length-1]?).map _=some q from e4);subst e6;by_cases im:x.imm=true
  ·rw[if_pos im]at e;obtain⟨c,e7,e8⟩:=bind_some e;obtain⟨v,h1,h2⟩:=rv.val r _ (slot_get e1);rw[if_pos hr]at h2;obtain⟨a,o,rfl,_,_⟩:=h2.ref;obtain⟨vp,p1,p2⟩:=rv.val p _ (slot_get e2);obtain⟨vw,w1,w2⟩:=rv.val w _ (slot_get e3);rw[if_pos hw]at w2;obtain⟨q1,q2,q3⟩:=w2;obtain⟨b,xs,rfl,_,f2,f3⟩:=aH q3;obtain⟨y,f4,f5⟩:=f3.get e5;have imd:=kh q2;obtain⟨g1,g2⟩:=rv.gQ (d':=.lst ds.dropLast) (o':=.lst xs.dropLast) hw w1 f2 (.inl ⟨_,rfl⟩) (ke (ds:=ds) f2 imd f3.dropLast);have hdi:d.imm=true:=p6 q2 e5;have rd:∀ P:Addr->Prop,Rep P X.K (upd H b (.lst xs.dropLast)) d y:=fun P=>Rep.imm hdi (Rep.upd (P:=fun p=>p=b) f2 (.inl ⟨_,rfl⟩) rfl (f5.imm hdi));refine⟨.ref a,h1,vp,p1,.ref b,w1,.inl ⟨rfl,xs,SqL.of f2⟩,b,xs,y,rfl,rfl,f2,by rw[<-f3.length];exact f4,?_⟩;show spM X.K cl [0] f ([.ref a,vp,y]++[]) (upd H b (.lst xs.dropLast)) _ E0;rw[List.append_nil]
   have er:(σD.set w (some (RL.D.lst ds.dropLast)))[r]?=some (some R):=by rw[List.getElem?_set_ne (Ne.symm hrw)];exact slot_get e1
   have ep:(σD.set w (some (RL.D.lst ds.dropLast)))[p]?=some (some x):=by rw[List.getElem?_set_ne (Ne.symm hpw)];exact slot_get e2
   obtain⟨v',z1,z2⟩:=g1.val r _ er;rw[h1]at z1;cases z1;rw[if_pos hr]at z2;obtain⟨v',z3,z4⟩:=g1.val p _ ep;rw[p1]at z3;cases z3;rw[if_neg (by rw[hp];decide)]at z4
   cases c with
   |tup ts=>
    match ts,e8,e7 with
    |[d0,R'],e8,e7=>
     cases e8
     have at0:∀ c,mAt [0] [V.ref a,vp,y] c->c=a:=fun c ⟨p,hp,e⟩=>by
      rw[List.mem_singleton]at hp;subst hp;cases e;rfl
     refine⟨[R,x,d],d0,[R'],e7,⟨ah.cons z2.2.2 (ah.cons z4.none (ah.cons (rd nP) ah.nil)),fun p hp=>?_,fun p hp q hq _ _ _=>?_,fun q dq v hq h3 h4=>?_⟩,fun v H' off rp im' mo=>?_⟩
     ·rw[List.mem_singleton]at hp;subst hp;exact⟨R,a,rfl,rfl,z2⟩
     ·rw[List.mem_singleton]at hp hq;rw[hp,hq]
     ·match q,hq,h3,h4 with
      | 0,hq,_,_=>exact absurd (List.mem_singleton.mpr rfl) hq
      |1,_,h3,h4=>
       cases h3;cases h4
       exact z4.weak fun c hc=>by
        rw[at0 c hc];exact⟨r,hr,h1⟩
      |2,_,h3,h4=>
       cases h3;cases h4;exact rd _
     ·obtain⟨k1,k2⟩:=g1.changed (ms:=[r]) (outs:=[R']) (H1:=H') (fun i hi=>by rw[List.mem_singleton.mp hi];exact hr) (by simp) rfl
       (fun c o n e=>off c o (fun z=>n ⟨r,List.mem_singleton.mpr rfl,by rw[at0 c z];exact h1⟩) e) fun k i o hk ho=>by
        match k,hk,ho with
        |0,hk,ho=>
         cases hk;cases ho;obtain⟨c,c1,c2⟩:=mo.own 0 0 _ rfl rfl;cases c1;exact⟨a,h1,c2⟩
      exact k _ _ k1 (g2.trans k2)
    | [],e8,_=>cases e8
    | [_],e8,_=>cases e8
    | _::_::_::_,e8,_=>cases e8
   | _=>cases e8
  ·rw[if_neg im]at e;cases e
 | _=>cases e4
end
section
variable{X:Cx}{cl:RL.Cl}{a b c d:Expr}{a' b' c' d':RL.E}{pos apos p p2 p3:Pos}
def Bo(hu:X.A.units+100<cLine)(ha:SE X cl a a')(hb:SE X cl b b')(hc:SE X cl c c')(hbase:attributeBase a "get" X.env (eval a X.env)=eval a X.env)(hn:noStar b=true)(hn2:noStar c=true)(hl:(apos.endLine == pos.line)=true):SE X cl (.Call (.Attribute a "get" apos) [b,c] [] pos) (.getE a' b' c'):=by
 have st:starEach [b,c] X.env=[(false,eval b X.env),(false,eval c X.env)]:=by rw[ay _ hn,ay _ hn2];rfl
 refine PE.weak (xX (by lia) ha hb hc ⟨hbase,by rw[st];rfl,hl,by rw[st];rfl⟩) fun σ H Q h=>?_;obtain⟨σD,d,rv,e,k⟩:=h;obtain⟨x,ea,e⟩:=bind_some (show(RL.ev cl σD a').bind _=some d from e);obtain⟨y,eb,e⟩:=bind_some e;obtain⟨z,ec,e⟩:=bind_some e;obtain⟨o,ho,rfl⟩:=zY e;refine⟨σD,x,rv,ea,fun v H1 r1=>?_⟩;obtain⟨q,rfl,isd⟩:=CL r1.rep ho;refine⟨q,rfl,isd,σD,y,rv.same r1.same,eb,fun u H2 r2=>⟨σD,z,rv.same (r1.same.trans r2.same),ec,fun w H3 r3=>?_⟩⟩;obtain⟨q',r,e1,g,an⟩:=km (r1.rep.same (r2.same.trans r3.same)) (r2.rep.same r3.same) ho;cases e1;refine⟨r,g,k _ _ ⟨r1.same.trans (r2.same.trans r3.same),?_,fun z=>(by cases z),fun M z=>nomatch (show false=true from z)⟩⟩
 cases o with
 |some d=>
  obtain⟨w',rfl,rr⟩:=an;exact rr
 |none=>
  cases(show r=none from an);exact r3.rep
def Ew(ha:SE X cl a a')(hb:SE X cl b b')(hc:SE X cl c c')(hd:SE X cl d d'):SE X cl (.Dict [some a,some c] [b,d] pos) (.dd2 a' b' c' d'):=by
 refine PE.weak (AA (p8 ha hb (p8 hc hd A5)) rfl rfl (by simp) (by show 2<=15;decide)) fun σ H Q h=>?_;obtain⟨σD,dd,rv,e,k⟩:=h;obtain⟨x,e1,e⟩:=bind_some (show(RL.ev cl σD a').bind _=some dd from e);obtain⟨y,e2,e⟩:=bind_some e;obtain⟨z,e3,e⟩:=bind_some e;obtain⟨w,e4,e⟩:=bind_some e;intro q hq;have s0:au H (upd H q (.dK [])):=au.bH hq
 cases x with
 |str x=>
  cases z with
  |str z=>
   have e:(if x≠z/\y.imm=true/\w.imm=true then some (RL.D.dK [.inr x,.inr z] [y,w])else none)=some dd:=e;by_cases cc:x≠z/\y.imm=true/\w.imm=true
   ·rw[if_pos cc]at e;cases e;refine⟨σD,_,rv.same s0,e1,fun v1 H1 r1=>⟨σD,_,rv.same (s0.trans r1.same),e2,fun v2 H2 r2=>⟨σD,_,rv.same ((s0.trans r1.same).trans r2.same),e3,fun v3 H3 r3=>⟨σD,_,rv.same (((s0.trans r1.same).trans r2.same).trans r3.same),e4,fun v4 H4 r4=>?_⟩⟩⟩⟩;have s4:au (upd H q (.dK [])) H4:=(r1.same.trans r2.same).trans (r3.same.trans r4.same);have hq4:H4 q=some (.dK []):=s4 _ _ aP;refine⟨hq4,[(.inr x,v2),(.inr z,v4)],?_,by show 2<=15;decide,?_⟩
    ·rw[aD r1.rep,aD r3.rep];rfl
    ·have mk:gI [] [(Sum.inr x,v2),(Sum.inr z,v4)]=[(Sum.inr x,v2),(Sum.inr z,v4)]:=by
      unfold gI putK;simp[cc.1]
     rw[mk]
     have sf:au H (upd H4 q (.dK [(.inr x,v2),(.inr z,v4)])):=fun b o eb=>by
      by_cases hb:b=q
      ·subst hb;rw[hq]at eb;cases eb
      ·rw[aJ hb];exact s4 _ _ (s0 _ _ eb)
     refine k _ _ ⟨sf,?_,fun _ _ a z=>(by cases z;exact hq),fun M z=>nomatch (show false=true from z)⟩;rw[Rep];have up:∀ {D:RL.D} {v:V},D.imm=true->Rep nP X.K H4 D v->Rep nP X.K (upd H4 q (.dK [(.inr x,v2),(.inr z,v4)])) D v:=fun {D v} im r=>Rep.imm im (Rep.upd (P:=fun p=>p=q) hq4 (.inr (.inl ⟨_,rfl⟩)) rfl (r.imm im));exact⟨q,[v2,v4],rfl,fun z=>z,aP,rfl,ah.cons (up cc.2.1 (r2.rep.same (r3.same.trans r4.same))) (ah.cons (up cc.2.2 r4.rep) ah.nil)⟩
   ·rw[if_neg cc]at e;cases e
  | _=>cases e
 | _=>cases z<;>cases e
def qE:∀ (n:Nat) (xs acc:Array Nat),((List.replicate n xs).foldl (· ++ ·) acc).toList=acc.toList++(List.replicate n xs.toList).flatten
 | 0,xs,acc=>by simp
 | n+1,xs,acc=>by
  rw[List.replicate_succ,List.foldl_cons,qE n xs (acc++xs),List.replicate_succ,List.flatten_cons,Array.toList_append,List.append_assoc]
def Az:OpR X (binaryOp .Mult) (fun x y H Q=>∃ s n,x=.str s/\y=.int n/\(1<n/\n<=1000/\0<s.length/\s.length<=100)/\Q (.str ⟨(List.replicate n.toNat s.cps.toList).flatten.toArray⟩) H):=by
 intro pins s σ H x y v u Q I rx ry h;obtain⟨x,n,rfl,rfl,⟨c1,c2,c3,c4⟩,q⟩:=h;obtain⟨t,rfl⟩:=rx;obtain⟨t',rfl⟩:=ry
 have n1:¬ n<1:=by lia
 have no:(n == 1 || x.length == 0)=false:=by
  rw[Bool.or_eq_false_iff];exact⟨beq_eq_false_iff_ne.mpr (by lia),beq_eq_false_iff_ne.mpr (by lia)⟩
 have nl:x.length*n.toNat<=100000:=by
  have:x.length*n.toNat<=100*1000:=Nat.mul_le_mul c4 (by lia);lia
 have e:(⟨(List.replicate n.toNat x.cps).foldl (· ++ ·) #[]⟩:Str)=⟨(List.replicate n.toNat x.cps.toList).flatten.toArray⟩:=by
  congr 1;apply Array.toList_inj.mp;rw[qE];simp
 have len:(⟨(List.replicate n.toNat x.cps.toList).flatten.toArray⟩:Str).length<=sizeLine:=by
  have:(⟨(List.replicate n.toNat x.cps.toList).flatten.toArray⟩:Str).length=x.length*n.toNat:=by
   simp[Str.length,Nat.mul_comm]
  rw[this];exact Nat.le_trans nl (by decide)
 refine P.mul_str (by rw[decide_eq_false (by lia),decide_eq_false (by lia)];rfl) (fun _ _=>?_) (fun _ _=>?_) ?_
 ·have:(1000:Int)<=(2 ^ 63-1) / n:=by
   rw[Int.le_ediv_iff_mul_le (by lia)];lia
  lia
 ·show decide (x.length*n.toNat > sizeLine)=false;exact decide_eq_false (Nat.not_lt.mpr (Nat.le_trans nl (by decide)))
 ·rw[if_neg n1,if_neg (by rw[no];decide),e];exact⟨len,⟨.str _,H,I.tok _,⟨_,rfl⟩,q⟩⟩
def A3(ha:SE X cl a a')(hb:SE X cl b b'):SE X cl (.BinOp a .Mult b pos) (.mulS a' b'):=by
 refine PE.weak (zo Az ha hb) fun σ H Q h=>?_;obtain⟨σD,d,rv,e,k⟩:=h;obtain⟨x,ea,e⟩:=bind_some (show(RL.ev cl σD a').bind _=some d from e);obtain⟨y,eb,e⟩:=bind_some e;refine two rv ea eb fun v u H1 H2 s1 s2 rx ry _ _=>?_
 cases x with
 |str x=>
  cases y with
  |int n=>
   have e:(if 1<n/\n<=1000/\0<x.length/\x.length<=100 then some (RL.D.str ⟨(List.replicate n.toNat x.cps.toList).flatten.toArray⟩)else none)=some d:=e;by_cases c:1<n/\n<=1000/\0<x.length/\x.length<=100
   ·rw[if_pos c]at e;cases e;exact⟨x,n,aD rx,aq ry,c,k _ _ (bZ (s1.trans s2) df rfl)⟩
   ·rw[if_neg c]at e;cases e
  | _=>cases e
 | _=>cases e
end
def nos{α:Type}{P:Prop}{x:α}(h:(none:Option α)=some x):P:=by cases h
def ao{α:Type}{o:Option α}{f:α->Bool}(h:o.any f=true):∃ x,o=some x/\f x=true:=by
 cases o with
 | none=>cases h
 | some x=>exact⟨x,rfl,h⟩
def af{a b:Bool}(h:(a&&b)=true):a=true/\b=true:=by rw[Bool.and_eq_true]at h;exact h
abbrev dM:Expr->Option Str
 | .Name x _=>some x
 | _=>none
def cb{e:Expr}{x:Str}(h:dM e=some x):∃ p,e=.Name x p:=by
 cases e
 case Name=>cases h;exact⟨_,rfl⟩
 all_goals exact nos h
abbrev m8:Expr->Option Const
 | .Constant k _ _=>some k
 | _=>none
def i4{e:Expr}{k:Const}(h:m8 e=some k):∃ j p,e=.Constant k j p:=by
 cases e
 case Constant=>cases h;exact⟨_,_,rfl⟩
 all_goals exact nos h
abbrev ze:Expr->Option (Expr × Operator × Expr)
 | .BinOp l o r _=>some (l,o,r)
 | _=>none
def rM{e:Expr}{l r:Expr}{o:Operator}(h:ze e=some (l,o,r)):∃ p,e=.BinOp l o r p:=by
 cases e
 case BinOp=>cases h;exact⟨_,rfl⟩
 all_goals exact nos h
abbrev vUn:Expr->Option (UnaryOp × Expr)
 | .UnaryOp o x _=>some (o,x)
 | _=>none
def pI{e x:Expr}{o:UnaryOp}(h:vUn e=some (o,x)):∃ p,e=.UnaryOp o x p:=by
 cases e
 case UnaryOp=>cases h;exact⟨_,rfl⟩
 all_goals exact nos h
abbrev kF:Expr->Option (Expr × List CmpOp × List Expr)
 | .Compare l o r _=>some (l,o,r)
 | _=>none
def gx{e l:Expr}{r:List Expr}{o:List CmpOp}(h:kF e=some (l,o,r)):∃ p,e=.Compare l o r p:=by
 cases e
 case Compare=>cases h;exact⟨_,rfl⟩
 all_goals exact nos h
abbrev vBool:Expr->Option (BoolOp × List Expr × Pos)
 | .BoolOp o es p=>some (o,es,p)
 | _=>none
def iT{e:Expr}{es:List Expr}{o:BoolOp}{p:Pos}(h:vBool e=some (o,es,p)):e=.BoolOp o es p:=by
 cases e
 case BoolOp=>cases h;exact rfl
 all_goals exact nos h
abbrev CP:Expr->Option (Expr × Expr × Expr)
 | .IfExp c a b _=>some (c,a,b)
 | _=>none
def zV{e a b c:Expr}(h:CP e=some (c,a,b)):∃ p,e=.IfExp c a b p:=by
 cases e
 case IfExp=>cases h;exact⟨_,rfl⟩
 all_goals exact nos h
abbrev jJ:Expr->Option (List Expr)
 | .Tuple es _ _=>some es
 | _=>none
def dI{e:Expr}{es:List Expr}(h:jJ e=some es):∃ k p,e=.Tuple es k p:=by
 cases e
 case Tuple=>cases h;exact⟨_,_,rfl⟩
 all_goals exact nos h
abbrev E9:Expr->Option (List Expr)
 | .List es _=>some es
 | _=>none
def Bw{e:Expr}{es:List Expr}(h:E9 e=some es):∃ p,e=.List es p:=by
 cases e
 case List=>cases h;exact⟨_,rfl⟩
 all_goals exact nos h
abbrev kJ:Expr->Option (Expr × Expr)
 | .Subscript a b _=>some (a,b)
 | _=>none
def eX{e a b:Expr}(h:kJ e=some (a,b)):∃ p,e=.Subscript a b p:=by
 cases e
 case Subscript=>cases h;exact⟨_,rfl⟩
 all_goals exact nos h
abbrev vSl:Expr->Option (Option Expr × Option Expr × Option Expr)
 | .Slice a b c _=>some (a,b,c)
 | _=>none
def pZ{e:Expr}{a b c:Option Expr}(h:vSl e=some (a,b,c)):∃ p,e=.Slice a b c p:=by
 cases e
 case Slice=>cases h;exact⟨_,rfl⟩
 all_goals exact nos h
abbrev ie:Expr->Option (Expr × List Expr × List Keyword × Pos)
 | .Call f as ks p=>some (f,as,ks,p)
 | _=>none
def dB{e f:Expr}{as:List Expr}{ks:List Keyword}{p:Pos}(h:ie e=some (f,as,ks,p)):e=.Call f as ks p:=by
 cases e
 case Call=>cases h;exact rfl
 all_goals exact nos h
abbrev oM:Expr->Option (Expr × Str × Pos)
 | .Attribute o x p=>some (o,x,p)
 | _=>none
def kW{e o:Expr}{x:Str}{p:Pos}(h:oM e=some (o,x,p)):e=.Attribute o x p:=by
 cases e
 case Attribute=>cases h;exact rfl
 all_goals exact nos h
abbrev tH:Expr->Option (Expr × List Comprehension × Scope × Pos)
 | .ListComp e gs sc p=>some (e,gs,sc,p)
 | _=>none
def qb{e x:Expr}{gs:List Comprehension}{sc:Scope}{p:Pos}(h:tH e=some (x,gs,sc,p)):e=.ListComp x gs sc p:=by
 cases e
 case ListComp=>cases h;exact rfl
 all_goals exact nos h
abbrev lp:Expr->Option (List (Option Expr) × List Expr)
 | .Dict ks vs _=>some (ks,vs)
 | _=>none
def ji{e:Expr}{ks:List (Option Expr)}{vs:List Expr}(h:lp e=some (ks,vs)):∃ p,e=.Dict ks vs p:=by
 cases e
 case Dict=>cases h;exact⟨_,rfl⟩
 all_goals exact nos h
abbrev of1{α:Type}(xs:List α)(f:α->Bool):Bool:=match xs with
 | [a]=>f a
 | _=>false
abbrev of2{α:Type}(xs:List α)(f:α->α->Bool):Bool:=match xs with
 | [a,b]=>f a b
 | _=>false
abbrev of3{α:Type}(xs:List α)(f:α->α->α->Bool):Bool:=match xs with
 | [a,b,c]=>f a b c
 | _=>false
def aM{α:Type}:∀ {xs:List α} {f:α->Bool},of1 xs f=true->∃ a,xs=[a]/\f a=true
 | [a],_,h=>⟨a,rfl,h⟩
def da{α:Type}:∀ {xs:List α} {f:α->α->Bool},of2 xs f=true->∃ a b,xs=[a,b]/\f a b=true
 | [a,b],_,h=>⟨a,b,rfl,h⟩
def pG{α:Type}:∀ {xs:List α} {f:α->α->α->Bool},of3 xs f=true->∃ a b c,xs=[a,b,c]/\f a b c=true
 | [a,b,c],_,h=>⟨a,b,c,rfl,h⟩
abbrev ofM{α:Type}(xs:List α)(f:α->α->List α->Bool):Bool:=match xs with
 | a::b::r=>f a b r
 | _=>false
def lj{α:Type}:∀ {xs:List α} {f:α->α->List α->Bool},ofM xs f=true->∃ a b r,xs=a::b::r/\f a b r=true
 | a::b::r,_,h=>⟨a,b,r,rfl,h⟩
abbrev kP:Stmt->Option (List Expr × Expr)
 | .Assign ts e _=>some (ts,e)
 | _=>none
def dG{st:Stmt}{ts:List Expr}{e:Expr}(h:kP st=some (ts,e)):∃ p,st=.Assign ts e p:=by
 cases st
 case Assign=>cases h;exact⟨_,rfl⟩
 all_goals exact nos h
abbrev Co:Stmt->Option (Expr × Operator × Expr)
 | .AugAssign t o e _=>some (t,o,e)
 | _=>none
def Bc{st:Stmt}{t e:Expr}{o:Operator}(h:Co st=some (t,o,e)):∃ p,st=.AugAssign t o e p:=by
 cases st
 case AugAssign=>cases h;exact⟨_,rfl⟩
 all_goals exact nos h
abbrev tf:Stmt->Option Expr
 | .Expr e _=>some e
 | _=>none
def kj{st:Stmt}{e:Expr}(h:tf st=some e):∃ p,st=.Expr e p:=by
 cases st
 case Expr=>cases h;exact⟨_,rfl⟩
 all_goals exact nos h
abbrev wIf:Stmt->Option (Expr × List Stmt × List Stmt)
 | .If c a b _=>some (c,a,b)
 | _=>none
def qJ{st:Stmt}{c:Expr}{a b:List Stmt}(h:wIf st=some (c,a,b)):∃ p,st=.If c a b p:=by
 cases st
 case If=>cases h;exact⟨_,rfl⟩
 all_goals exact nos h
abbrev DH:Stmt->Option (Expr × Expr × List Stmt × List Stmt)
 | .For t i b o _=>some (t,i,b,o)
 | _=>none
def sY{st:Stmt}{t i:Expr}{b o:List Stmt}(h:DH st=some (t,i,b,o)):∃ p,st=.For t i b o p:=by
 cases st
 case For=>cases h;exact⟨_,rfl⟩
 all_goals exact nos h
abbrev BD:Stmt->Option (Option Expr)
 | .Return e _=>some e
 | _=>none
def rL{st:Stmt}{e:Option Expr}(h:BD st=some e):∃ p,st=.Return e p:=by
 cases st
 case Return=>cases h;exact⟨_,rfl⟩
 all_goals exact nos h
end RS
namespace L2
open PySem PySem.Spec PyProof.Rows
def wB{o:Obj}:(o.mapFields f).dict=o.dict:=by
 obtain⟨c,d,dt,sl⟩:=o;cases dt<;>rfl
abbrev Exc(P:Addr->Prop)(e:Addr)(C:Addr)(tb:Bool)(h:Heap):Prop :=
 ∃ oe vs,h.get? e=some oe/\(oe.cls=.ref C/\oe.dict=none)/\oe.data=.fields vs/\vs[2]?=some .none/\¬ P e /\
  ((tb=false/\vs[1]?=some .none)\/∃ T oT ts,vs[1]?=some (.ref T)/\T≠e/\h.get? T=some oT/\oT.data=.fields ts/\ts[3]?=some .none/\¬ P T)
structure Off1(P:Addr->Prop)(fs:List Addr)(h h':Heap):Prop where
 sz:h.objs.size<=h'.objs.size
 keep:∀ b o,P b->b∉fs->h.get? b=some o->h'.get? b=some o
 slot:∀ b o,P b->b∈fs->h.get? b=some o->∃ sl,h'.get? b=some { o with slots:=sl }
def Off1.trans(a:Off1 P fs h h1)(b:Off1 P fs h1 h2):Off1 P fs h h2 where
 sz:=Nat.le_trans a.sz b.sz
 keep:=fun c o p n e=>b.keep c o p n (a.keep c o p n e)
 slot:=fun c o p n e=>by
  obtain⟨sl,e1⟩:=a.slot c o p n e;obtain⟨sl2,e2⟩:=b.slot c _ p n e1;exact⟨sl2,e2⟩
def Off1.tU(n:¬ P a)(f:Obj->Obj):Off1 P fs h (h.update a f) where
 sz:=by rw[(Heap.SameBut.update ..).1];exact Nat.le_refl _
 keep:=fun b o p _ e=>by rw[Heap.get?_update_other _ _ (show a≠b from fun z=>n (z.symm▸p))];exact e
 slot:=fun b o p _ e=>⟨o.slots,by rw[Heap.get?_update_other _ _ (show a≠b from fun z=>n (z.symm▸p))];exact e⟩
def Off1.ext(o:Obj):Off1 P fs h (h.push o) where
 sz:=by rw[Heap.size_push];exact Nat.le_succ _
 keep:=fun b _ _ _ e=>Heap.get?_push_of_some _ e
 slot:=fun b o _ _ e=>⟨o.slots,Heap.get?_push_of_some _ e⟩
def Off1.slots(x:Heap.SlotsOnly fs h h'):Off1 P fs h h' where
 sz:=Nat.le_of_eq x.1.symm
 keep:=fun b o _ n e=>(x.2.1 b n).trans e
 slot:=fun b o _ _ e=>x.2.2 b o e
section
def p9(hfr:A.frames=some (env::outer))(hl:s.heap.FunFrames base (env::outer))(hf:env.frame=some L)(he:s.heap.get? e=some oe)(hc:oe.cls=.ref C/\oe.dict=none)(hd:oe.data=.fields vs)(h2:vs[2]?=some .none)
 (ne:¬ P e)(hP:∀ b,P b->b<s.heap.objs.size)(k:∀ h',Exc P e C true h'->Off1 P (frs (env::outer)) s.heap h'->Q () { s with heap:=h' }) :
  wpAny M A (do let fr <- frameOf env;let q <- entryPlaceOf L had;let t <- EntryCells.newEntry head fr .none (rawInt L) .none q;setField (.ref e) 1 t) (fun _ s2=>wpAny M A (setFlight (.ref e) none) Q E s2) E s:=by
 have efr:e∉(env::outer).filterMap (·.frame):=fun z=>by
  obtain⟨_,o,ho,hn⟩:=hl.mem z;rw[he]at ho;cases ho;exact hn vs hd
 have z1:1<vs.size:=Nat.lt_trans (by decide) (Array.getElem?_eq_some_iff.mp h2).1;apply wpAny_bind;refine wpAny_frameOf_fun hfr hl hf fun g1 sl=>?_;apply wpAny_bind;refine wpAny_entryPlaceOf fun q hq=>?_;unfold EntryCells.newEntry newFields;apply wpAny_bind;refine wpAny_newObj_type ?_ (hq.sizeOk5 _ _ _ _ _);have e1:g1.get? e=some oe:=(sl.2.1 e efr).trans he;generalize hto:({ cls:=.type "traceback",dict:=none,data:=.fields ([head,.ref L,.none,rawInt L,.none]++(if q.isEmpty then List.replicate 6 Value.none else q)).toArray }:Obj)=to;have e2:(g1.push to).get? e=some oe:=Heap.get?_push_of_some _ e1;have te:g1.objs.size≠e:=Nat.ne_of_gt (Heap.lt_size e1);refine wpAny_setField e2 hd z1 ?_;have d3:=Obj.data_mapFields hd (·.setIfInBounds 1 (Value.ref g1.objs.size));have e3:=Heap.get?_update_self (Obj.mapFields (·.setIfInBounds 1 (Value.ref g1.objs.size))) e2 (Obj.isFreed_of_fields d3)
 have tod:to.data=.fields ([head,.ref L,.none,rawInt L,.none]++(if q.isEmpty then List.replicate 6 Value.none else q)).toArray:=by rw[<-hto]
 have t3:=(Heap.get?_update_other (g1.push to) (Obj.mapFields (·.setIfInBounds 1 (Value.ref g1.objs.size))) (Ne.symm te)).trans (Heap.get?_push_size g1 (by rw[<-hto];rfl));unfold setFlight;apply wpAny_bind;refine wpAny_field e3 d3 (x:=.ref g1.objs.size) (by simp[z1]) ?_;rw[if_pos (show(Value.ref g1.objs.size != Value.none)=true from by simp)];refine wpAny_setField t3 tod (by simp only[List.size_toArray,List.length_append,List.length_cons,List.length_nil]<;>omega) (k _ ?_ ?_)
 ·refine⟨_,_,(Heap.get?_update_other _ _ te).trans e3,⟨(Obj.cls_mapFields _ _).trans hc.1,wB.trans hc.2⟩,d3,by rw[Array.getElem?_setIfInBounds_ne (by decide)];exact h2,ne,.inr ⟨g1.objs.size,_,_,by simp[z1],te,Heap.get?_update_self _ t3 (Obj.isFreed_of_fields (Obj.data_mapFields tod _)),Obj.data_mapFields tod _,?_,fun z=>?_⟩⟩
  ·rw[Array.getElem?_setIfInBounds_self_of_lt (by simp only[List.size_toArray,List.length_append,List.length_cons,List.length_nil]<;>omega)];rfl
  ·have:=hP _ z;rw[sl.1]at this;exact Nat.lt_irrefl _ this
 ·refine(((Off1.slots sl).trans (Off1.ext _)).trans (Off1.tU ne _)).trans (Off1.tU (fun z=>?_) _);have:=hP _ z;rw[sl.1]at this;exact Nat.lt_irrefl _ this
def nt(hfr:A.frames=some (env::outer))(hl:s.heap.FunFrames base (env::outer))(hf:env.frame=some L)(x:Exc P e C tb s.heap)(hP:∀ b,P b->b<s.heap.objs.size)
 (k:∀ h',Exc P e C true h'->Off1 P (frs (env::outer)) s.heap h'->Q () { s with heap:=h' }) :
  wpAny M A (noteFrame (.ref e) env) (fun _ s2=>wpAny M A (setFlight (.ref e) none) Q E s2) E s:=by
 obtain⟨oe,vs,he,hc,hd,h2,ne,x⟩:=x;unfold noteFrame;simp only[hf];apply wpAny_bind
 rcases x with⟨_,h1⟩ | ⟨T,oT,ts,h1,hTe,hT,hdT,h3,nT⟩
 ·refine wpAny_field he hd h1 ?_;rw[if_neg (by decide)];exact p9 hfr hl hf he hc hd h2 ne hP k
 ·refine wpAny_field he hd h1 ?_;rw[if_pos (show(Value.ref T != Value.none)=true from by simp)];apply wpAny_bind;refine wpAny_field hT hdT h3 ?_;rw[if_neg (show ¬ ((Value.none == rawInt L)=true)from by simp[rawInt])];apply wpAny_bind;refine wpAny_setField hT hdT (Array.getElem?_eq_some_iff.mp h3).1 ?_;have oth:∀ b,b≠T->(s.heap.update T (Obj.mapFields (·.setIfInBounds 3 Value.none))).get? b=s.heap.get? b:=fun b hb=>Heap.get?_update_other _ _ (Ne.symm hb);have up:Off1 P (frs (env::outer)) s.heap (s.heap.update T (Obj.mapFields (·.setIfInBounds 3 Value.none))):=Off1.tU nT _
  have hl':(s.heap.update T (Obj.mapFields (·.setIfInBounds 3 Value.none))).FunFrames base (env::outer):=hl.of_keeps fun b o hb hn=>⟨o,(oth b fun z=>by
   rw[z,hT]at hb;cases hb
   exact hn ts hdT).trans hb,rfl⟩
  exact p9 (s:={ s with heap:=s.heap.update T (Obj.mapFields (·.setIfInBounds 3 Value.none)) }) hfr hl' hf ((oth e (Ne.symm hTe)).trans he) hc hd h2 ne (fun b hb=>Nat.lt_of_lt_of_le (hP b hb) up.sz) fun h' x' o'=>k h' x' (up.trans o')
def vW(hfr:A.frames=some (env::outer))(hl:s.heap.FunFrames base (env::outer))(hf:env.frame=some L)(x:Exc P e C tb s.heap)(hP:∀ b,P b->b<s.heap.objs.size)
 (k:∀ h',Exc P e C true h'->Off1 P (frs (env::outer)) s.heap h'->Q () { s with heap:=h' }):wpAny M A (leaving env (.ref e)) Q E s:=by
 unfold leaving;exact wpAny_bind (nt hfr hl hf x hP k)
end
def bj.there(x:bj P w H h a o):∃ u,h.get? a=some u:=by
 cases o with
 | lst xs=>obtain⟨_,_,_,_,e⟩:=x;exact⟨_,e⟩
 | tup xs=>obtain⟨_,_,_,o,e,_⟩:=x;exact⟨_,e⟩
 | dK kvs=>obtain⟨_,_,_,_,o,_,_,e,_⟩:=x;exact⟨_,e⟩
 | dT kvs=>obtain⟨_,_,_,_,o,_,_,e,_⟩:=x;exact⟨_,e⟩
 | set S n=>obtain⟨o,_,_,_,e,_⟩:=x;exact⟨_,e⟩
 | ins C dx fs=>obtain⟨_,_,_,e,_⟩:=x;exact⟨_,e⟩
 | own y=>exact x
 | xd fs=>obtain⟨_,⟨_,_,_,e,_⟩,_⟩:=x;exact⟨_,e⟩
 | rng lo hi=>obtain⟨_,_,_,e⟩:=x;exact⟨_,e⟩
 | frz ob u=>exact⟨_,x.1⟩
 | tbl ps=>exact⟨_,x⟩
 | met f y=>exact⟨_,x⟩
 | ext φ=>exact x.2.1
abbrev fP(h:Heap)(H:Hp)(b:Addr):Prop:=(∃ o,h.get? b=some o)\/H b≠none
def Exc.mono(x:Exc P e C tb h)(k:∀ b,P' b->P b):Exc P' e C tb h:=by
 obtain⟨oe,vs,h1,h2,h3,h4,h5,h6⟩:=x;refine⟨oe,vs,h1,h2,h3,h4,fun z=>h5 (k _ z),h6.imp (fun z=>z) fun⟨T,oT,ts,a1,a2,a3,a4,a5,a6⟩=>⟨T,oT,ts,a1,a2,a3,a4,a5,fun z=>a6 (k _ z)⟩⟩
abbrev CXE(P:Program)(w:World):CXT:=fun outer H s E e s'=>∃ x C H',e=.ref x/\E (.ref C) none H'/\s'.os=s.os/\AllBare s'.gens/\Un (frs outer) [] H H' s.heap s'.heap/\HOk P w H' s'.heap/\Exc (fP s.heap H') x C true s'.heap
section
def Inv.old(I:Inv X pins σ H s)(hex:X.ex=[])(e:X.s₀.heap.get? b=some o):∃ o',s.heap.get? b=some o':=I.base.there b o e (by rw[hex];simp)
def rn(I:Inv X pins σ H s)(hst:X.stack=X.env::X.outer)(hfrm:X.env.frame=some X.env.locals)(hex:X.ex=[])(x:Exc (fP X.s₀.heap H) e C tb s.heap)(hE:EE (.ref C) none H)(hA:A.frames=some (X.env::X.outer)) :
  wpAny (model X.prog X.w) A (leaving X.env (.ref e)) (fun _ s2=>CXE X.prog X.w X.outer X.H₀ X.s₀ EE (.ref e) s2) E' s:=by
 have hl:=I.stack;rw[hst]at hl
 have hfr:∀ b∈frs (X.env::X.outer),H b=none:=by
  have:=I.kd;rw[hst]at this;exact this
 have hP:∀ b,fP X.s₀.heap H b->b<s.heap.objs.size:=fun b hb=>by
  rcases hb with⟨o,e⟩ | hb
  ·exact Nat.lt_of_lt_of_le (Heap.lt_size e) I.sz
  ·obtain⟨o,ho⟩:=Option.ne_none_iff_exists'.mp hb;exact I.hok.lt ho
 refine vW hA hl hfrm x hP fun h' x' o'=>?_;have fsE:X.fs=frs X.outer:=rfl
 have mem:∀ b o,X.s₀.heap.get? b=some o->b∉frs X.outer->b∉frs (X.env::X.outer):=fun b o e n z=>by
  unfold frs at z;rw[List.filterMap_cons,hfrm]at z;rcases List.mem_cons.mp z with z | z
  ·have h1:=Heap.lt_size e;have h2:=I.ok.above;rw[z]at h1;exact Nat.lt_irrefl _ (Nat.lt_of_lt_of_le h1 h2)
  ·exact n z
 have mem2:∀ b,b∈frs X.outer->b∈frs (X.env::X.outer):=fun b z=>by
  unfold frs;rw[List.filterMap_cons,hfrm];exact List.mem_cons_of_mem _ z
 have nex:∀ b:Addr,b∉X.ex:=fun b=>by rw[hex];simp
 refine⟨e,C,H,rfl,hE,I.os,I.bare,⟨fun b o q n hb _=>?_,fun b o q n hb _=>?_,fun b o q n _=>I.base.free b o q n (nex b),fun b o q _=>?_,I.base.eD,I.base.cK,I.base.eC⟩,fun a o q=>?_,x'⟩
 ·exact o'.keep b o (.inl ⟨o,q⟩) (mem b o q hb) (I.base.keep b o q n hb (nex b))
 ·obtain⟨sl,q2⟩:=I.base.slot b o q n hb (nex b);obtain⟨sl2,q3⟩:=o'.slot b _ (.inl ⟨o,q⟩) (mem2 b hb) q2;exact⟨sl2,q3⟩
 ·obtain⟨o1,q1⟩:=I.base.there b o q (nex b);by_cases hb:b∈frs (X.env::X.outer)
  ·obtain⟨sl,q2⟩:=o'.slot b _ (.inl ⟨o,q⟩) hb q1;exact⟨_,q2⟩
  ·exact⟨_,o'.keep b _ (.inl ⟨o,q⟩) hb q1⟩
 ·refine(I.hok a o q).jo (fun b u hb r=>?_) (fun _ z=>z) fun _ _ z=>z
  have hn:H b≠none:=by
   rcases hb with rfl | hb
   ·rw[q];exact fun z=>nomatch z
   ·rw[hb];exact fun z=>nomatch z
  exact o'.keep b u (.inr hn) (fun z=>hn (hfr b z)) r
def Inv.refused(I:Inv X pins σ H s)(hex:X.ex=[])(h:CXE X.prog X.w X.stack H s E e s'):∃ x C H',e=.ref x/\E (.ref C) none H'/\Inv X pins σ H' s'/\Exc (fP X.s₀.heap H') x C true s'.heap/\Exc (fP s.heap H') x C true s'.heap/\Un (frs X.stack) [] H H' s.heap s'.heap:=by
 obtain⟨x,C,H',rfl,hE,os,bare,un,hok,ex⟩:=h;obtain⟨hh,g,d,t,os'⟩:=s';obtain rfl:os'=s.os:=os;refine⟨x,C,H',rfl,hE,I.call (h':=hh) (g':=g) (d':=d) (t':=t) (ch:=[]) un hok bare (fun b z=>absurd z (by simp)),ex.mono fun b hb=>?_,ex,un⟩;rcases hb with⟨o,q⟩ | hb
 ·exact .inl (I.old hex q)
 ·exact .inr hb
def r8(hok:HOk P w H h)(m:Heap.MadeExcOf h h' e (.ref C) vs):Exc (fP h H) e C false h':=by
 obtain⟨t,he,_,_⟩:=m.there;refine⟨_,_,he,⟨rfl,rfl⟩,rfl,rfl,fun z=>?_,.inl ⟨rfl,rfl⟩⟩;have hn:=m.new;rcases z with⟨o,q⟩ | z
 ·rw[hn]at q;cases q
 ·obtain⟨o,ho⟩:=Option.ne_none_iff_exists'.mp z;obtain⟨u,q⟩:=(hok e o ho).there;rw[hn]at q;cases q
def Inv.newExc(I:Inv X pins σ H s)(hex:X.ex=[])(m:Heap.MadeExcOf s.heap h' e (.ref C) vs):Inv X pins σ H { s with heap:=h' }/\Exc (fP X.s₀.heap H) e C false h' :=
 ⟨I.kept (t':=s.toks) m.keeps,(r8 I.hok m).mono fun b hb=>hb.imp (fun⟨o,q⟩=>I.old hex q) fun z=>z⟩
end
open PySem.W
section
variable{K:PySem.W.Frag}
structure qC(K:PySem.W.Frag)(D:Addr):Prop where
 ga:findIn K (.ref D) "__getattribute__" = some (some (.builtin "BaseException.__getattribute__"))
 gn:findIn K (.ref D) "__getattr__" = some none
 fo:findObj K D none "__class__" = some (.bind (.builtin "getset_descriptor.__get__") (.builtin "object.__class__"))
 mo:mroIn K D (.type "object")=some true
 mb:subIn K (.ref D) (.type "BaseException")=some true
 is:(clsIn K D).isSome=true
def B0(F:qC K D)(X:K.In s.heap)(I:InstAt s.heap x ox D none)(h:Q (some (.ref D)) { s with toks:=s.toks+1 }):wpAny (model prog w) A (getAttr? (.ref x) "__class__") Q E s:=by
 have L0:=I.type (M:=model prog w);have L1:=looks_findIn (M:=model prog w) X F.ga;have L2:=looks_findIn (M:=model prog w) X F.gn;have L3:=looks_find (M:=model prog w) X I F.fo;have L4:=looks_subIn (M:=model prog w) X F.mb;have cg:=fun(A:Around) (R:Result->Shared->Prop) (t:Nat)=>class_get (prog:=prog) (w:=w) (A:=A) (R:=R) (tp:=.ref D) (s:={ s with toks:=t }) X I F.mo;obtain⟨hh,g,d,t,os⟩:=s;unfold getAttr? getAttrBy? getAttrBy;refine wpAny_bind (wpAny_mkText (wpAny_bind (wpAny_attempt (wpAny_holding (wpAny_bind (L0.at (wpAny_bind (L1.at ?_))))))))
 have n0:¬ ((onTheHeap (Value.ref D)&&(Value.builtin "BaseException.__getattribute__" == Value.builtin "object.__getattribute__"))=true):=by
  have:(Value.builtin "BaseException.__getattribute__" == Value.builtin "object.__getattribute__")=false:=by decide +kernel
  rw[this,Bool.and_false];exact Bool.false_ne_true
 dsimp only;rw[if_neg n0];unfold getAttrByItsOwn hookBefore;rw[if_pos (show onTheHeap (Value.ref D)=true from rfl)];refine wpAny_bind (L2.at ?_);unfold callGetattribute boundAndCalled;rw[if_neg (show ¬ ((false&&onTheHeap (Value.builtin "BaseException.__getattribute__"))=true)from Bool.false_ne_true)];refine wpAny_bind (wpAny_attempt (wpAny_holding (wpAny_bind (wpAny_of_eq (PySem.F.attrBase_ValueError.ga.bind (.ref x)) ?_))));refine wpAny_call (codeAny_call_builtin PySem.F.attrBase_ValueError.ga.plain PySem.F.entry_bexc_ga ?_)
 have hk:builtinKind "BaseException.__getattribute__" = some .slot:=by decide +kernel
 have hsplit:splitId "BaseException.__getattribute__" = some ("BaseException", "__getattribute__"):=by decide +kernel
 have ha:=PySem.F.args_bexc_ga (.ref x) (.str "__class__" t);simp only[checkBuiltinCall,hk,hsplit];unfold isInstance
 repeat (any_goals (first | assumption | exact L0 | (with_reducible refine L0.at ?_) | (with_reducible refine L4.at ?_) | (with_reducible refine L3.at ?_) | (with_reducible refine wpAny_bind (L3.at ?_)) | wp_step))
 refine cg _ _ _ ?_;refine wpAny_pure ?_;exact wpAny_of_eq (handedOut_of rfl) (wpAny_pure h)
def qp(F:qC K D):KitX K (.ref x) (.ref D) (fun h=>InstAt h x ox D none) where
 ty:=fun _ _ _ I=>I.type
 it:=fun M h X _=>by
  have z:=F.is;unfold clsIn at z;split at z
  ·rename_i ho;intro A' Q' E' s' k q;unfold isType loadHead;exact wpAny_bind (wpAny_loadPart (k _ _ (X _ _ ho)) (wpAny_pure q))
  ·cases z
 ne:=fun h tp dd its n sl X htp=>by
  refine Bool.eq_false_iff.mpr fun q=>?_;have e:D=tp:=Value.ref.inj (beq_iff_eq.mp q);subst e;have z:=F.is;unfold clsIn at z;split at z
  ·rename_i ho;cases(X _ _ ho).symm.trans htp
  ·cases z
 ca:=fun X I k=>B0 F X I k
end
section
def mO(h:PGs X es t)(hn:(assignEach es X.env).length=n)(hst:(assignEach es X.env).findIdx? (·.1)=none):PG X (.Tuple es k pos) (me X.K n t):=by
 intro pins s σ H v u Q I r hw;obtain⟨a,xs,e1,hq,hl,hw⟩:=hw;subst e1;cases r;obtain⟨its,rv,ht,hz⟩:=I.tuple hq
 have hsz:(assignEach es X.env).length=its.toArray.size:=by rw[hn,<-hl,rv.length,List.size_toArray]
 rw[PyProof.Rows.assign_Tuple];refine wpAny_bind (wpAny_standAt ?_);unfold unpack;rw[hsz,hst];refine wpAny_bind (wpAny_holding (tN I.hd ht fun h' hx=>?_));exact h pins _ σ H xs _ Q (I.kept (t':=s.toks) fun b o e=>hx b o (Nat.ne_of_lt (Heap.lt_size e)) e) (by simpa using rv) hw
def mY(h:PGs X es t)(hn:(assignEach es X.env).length=n)(hst:(assignEach es X.env).findIdx? (·.1)=none):PG X (.Tuple es k pos) (RS.mL X.K n t):=by
 intro pins s σ H v u Q I r hw;obtain⟨a,xs,e1,hq,hl,hw⟩:=hw;subst e1;cases r;obtain⟨its,rv,ht,hz⟩:=I.list hq
 have hsz:(assignEach es X.env).length=its.toArray.size:=by rw[hn,<-hl,rv.length,List.size_toArray]
 rw[PyProof.Rows.assign_Tuple];refine wpAny_bind (wpAny_standAt ?_);unfold unpack;rw[hsz,hst];refine wpAny_bind (wpAny_holding (ur I.hd ht.isList fun h' hx=>?_));exact h pins _ σ H xs _ Q (I.kept (t':=s.toks) fun b o e=>hx b o (Nat.ne_of_lt (Heap.lt_size e)) e) (by simpa using rv) hw
end
section
def PA.nox(h:PA X.nox es t):PA X es t:=fun pos pins s σ H Q I hw =>
 wpAny_mono (h pos pins s σ H Q (I.dS _) hw) (fun _ _ ⟨v,H',I',r,q⟩=>⟨v,H',I'.cx,r,q⟩) fun _ _ z=>False.elim z
def PS.nox{st:Stmt}(h:PS X.nox st t):PS X st t:=fun pins s σ H D I hw =>
 wpAny_mono (h pins s σ H D (I.dS _) hw) (fun _ _ q=>q.cx) fun _ _ z=>False.elim z
def PG.nox(h:PG X.nox tg t):PG X tg t:=fun pins s σ H v u Q I r hw =>
 wpAny_mono (h pins s σ H v u Q (I.dS _) r hw) (fun _ _ ⟨σ',H',I',q⟩=>⟨σ',H',I'.cx,q⟩) fun _ _ z=>False.elim z
def PI.nox(h:PI X.nox tg iter wi):PI X tg iter wi:=fun pins s σ H R I hw =>
 wpAny_mono (h pins s σ H R (I.dS _) hw) (fun _ _ h1=>wpAny_mono h1 (fun _ _ ⟨it,fp,tn,J,H',e,I',T,t0,f,r⟩=>⟨it,fp,tn,J,H',e,I'.cx,T,t0,f,r⟩) fun _ _ z=>False.elim z) fun _ _ z=>False.elim z
def p7{CX:CXT}{k:Nat}{f:Addr}{fd:FuncData}{ps:List Str}{sp:Sp}{EX:St->XK}{x:Str}{p pos:Pos}{e:Expr}{es:List Expr}{t:TA}(F:dO X.prog X.w X.K X.mg X.base CX k f fd ps sp)(hr:cq k X.A)(hg:Gl X x)(hm:X.mg x=some (.ref f))(hk:PySem.W.keepIn X.K (.ref f)=true)
 (hb:Binds X.K fd ps [])(hx:∀ pins σ H s e s',Inv X pins σ H s->CX X.stack H s (EX σ) e s'->X.xe e s')(ha:PA X (e::es) t)(hdb:(x == ("__debug__" : Str))=false)(he:starEach (e::es) X.env=(false,eval e X.env)::starEach es X.env)(hpl:(backTo pos (starEach es X.env)).any (·.1)=false) :
  PE X (.Call (.Name x p) (e::es) [] pos) (fun σ H Q=>t σ H fun vs H1=>sp vs H1 Q (EX σ)):=by
 intro pins s σ H Q I h;refine wpAny_Call_Name_kw (gj I hg hm ?_ hdb);refine PySem.W.callWith_K (h₀:=X.base) I.ok.mod.kin hk (thn (ha pos pins s σ H _ I h) fun us s1 ⟨vs,H1,I1,r,q⟩=>⟨I1.kIn,?_⟩) he hpl
 have hl:us.length=ps.length:=by rw[<-r.length];exact F.len _ _ _ _ q
 have hbb:=hb s1 us I1.kIn (by rw[List.append_nil];exact hl);rw[List.append_nil]at hbb;refine wpAny_call (codeAny_mono (F.run X.A X.stack s1 H1 ⟨us,[]⟩ us vs Q (EX σ) hr I1.xZ hbb r q) fun r s' hq=>?_)
 cases r with
 | error e=>exact hx pins σ H1 s1 e s' I1 hq
 |ok fl=>
  cases fl with
  | ret u=>exact I1.after hq
  | next=>exact False.elim hq
  | brk=>exact False.elim hq
  | cont=>exact False.elim hq
end
end L2
namespace RS
open PySem PySem.Spec PyProof.Rows L2
abbrev spX(K:PySem.W.Frag)(cl:RL.Cl)(f:Nat):Sp:=fun vs H _ E=>∃ ds x,ah nP K H ds vs/\RL.clX cl f ds=some x/\∀ C H',Cls K x C->au H H'->E (.ref C) none H'
abbrev tXE(K:PySem.W.Frag)(cl:RL.Cl)(EX:L2.St->XK)(e:RL.E):TE:=fun σ H _=>∃ σD x,RV0 K σD σ H/\RL.evX cl σD e=some x/\∀ C H1,Cls K x C->au H H1->EX σ (.ref C) none H1
abbrev tXA(K:PySem.W.Frag)(cl:RL.Cl)(EX:L2.St->XK)(es:RL.Es):TA:=fun σ H _=>∃ σD x,RV0 K σD σ H/\RL.mB cl σD es=some x/\∀ C H1,Cls K x C->au H H1->EX σ (.ref C) none H1
abbrev RE(X:Cx)(EX:L2.St->XK)(cl:RL.Cl)(e:Expr)(e':RL.E):Prop:=PE X e (tXE X.K cl EX e')
abbrev RA(X:Cx)(EX:L2.St->XK)(cl:RL.Cl)(es:List Expr)(es':RL.Es):Prop:=PA X es (tXA X.K cl EX es')
abbrev tXS(K:PySem.W.Frag)(M:List Nat)(EX:L2.St->XK)(r:RL.St->Option (Str × RL.St)):TS:=fun _ σ H=>∃ σD x σD',RVm K M σD σ H/\r σD=some (x,σD')/\∀ σ1 H1 C,Cls K x C->RVm K M σD' σ1 H1->Fr' M σ H σ1 H1->EX σ1 (.ref C) none H1
abbrev RZ(X:Cx)(EX:L2.St->XK)(cl:RL.Cl)(M:List Nat)(st:Stmt)(s:RL.S):Prop:=PS X st (tXS X.K M EX (RL.ju cl M s))
abbrev RZs(X:Cx)(EX:L2.St->XK)(cl:RL.Cl)(M:List Nat)(st:List Stmt)(s:RL.Ss):Prop:=PSs X st (tXS X.K M EX (RL.cn cl M s))
section
variable{st:Stmt}
def aW(h:∀ σD,RL.evX cl σD e'=none):RE X EX cl e e':=fun pins s σ H Q I ⟨σD,x,_,z,_⟩=>by
 rw[h]at z;cases z
def gc(h:∀ σD,RL.ju cl M s' σD=none):RZ X EX cl M st s':=fun pins s σ H Q I ⟨σD,x,_,_,z,_⟩=>by
 rw[h]at z;cases z
def BJ:RA X EX cl es .nil:=fun pos pins s σ H Q I ⟨σD,x,_,z,_⟩=>by
 rw[RL.mB]at z;cases z
def AM(he:SE X cl e e')(hx:RE X EX cl e e')(hr:RA X EX cl es es')(hs:starEach (e::es) X.env=(false,eval e X.env)::starEach es X.env):RA X EX cl (e::es) (.cons e' es'):=by
 intro pos pins s σ H Q I h;obtain⟨σD,x,rv,z,k⟩:=h;rw[RL.mB]at z
 cases hev:RL.ev cl σD e' with
 |some d=>
  rw[hev]at z;exact ba he hr hs pos pins s σ H Q I ⟨σD,d,rv,hev,fun v H1 r1=>⟨σD,x,rv.same r1.same,z,fun C H2 hc sm=>k C H2 hc (r1.same.trans sm)⟩⟩
 |none=>
  rw[hev]at z;exact ba hx hr hs pos pins s σ H Q I ⟨σD,x,rv,z,k⟩
def Ar(F:dO X.prog X.w X.K X.mg X.base (CXE X.prog X.w) k fa fd ps (spX X.K cl f))(hr:cq k X.A)(hg:Gl X x)
 (hm:X.mg x=some (.ref fa))(hk:PySem.W.keepIn X.K (.ref fa)=true)(hb:Binds X.K fd ps [])(hx:∀ pins σ H s e s',Inv X pins σ H s->CXE X.prog X.w X.stack H s (EX σ) e s'->X.xe e s')(he:SEs X cl (e::es) es')(ha:RA X EX cl (e::es) es')(hdb:(x == ("__debug__" : Str))=false)(hn:noStar e=true)(hns:es.all noStar=true) :
  RE X EX cl (.Call (.Name x p) (e::es) [] pos) (.call f es'):=by
 intro pins s σ H Q I h;obtain⟨σD,y,rv,z,k⟩:=h;rw[RL.evX]at z
 cases hev:RL.evs cl σD es' with
 |some ds=>
  rw[hev]at z;exact p7 F hr hg hm hk hb hx he hdb (ay es hn) (dC hns) pins s σ H Q I ⟨σD,ds,rv,hev,fun vs H1 s1 r1=>⟨ds,y,r1,z,fun C H2 hc sm=>k C H2 hc (s1.trans sm)⟩⟩
 |none=>
  rw[hev]at z;exact p7 F hr hg hm hk hb hx ha hdb (ay es hn) (dC hns) pins s σ H Q I ⟨σD,y,rv,z,k⟩
def oy{s':RL.S}{g:Ends->L2.St->VK}(h:PS X st (fun D σ H=>tXE X.K cl EX e' σ H (g D σ)))(he:∀ σD,RL.ju cl M s' σD=(RL.evX cl σD e').map fun x=>(x,σD)):RZ X EX cl M st s':=by
 refine PS.weak h fun D σ H h=>?_;obtain⟨σD,x,σD',rv,z,k⟩:=h;rw[he]at z;obtain⟨y,z1,z2⟩:=map_some z;cases z2;exact⟨σD,x,rv.rv0,z1,fun C H1 hc sm=>k σ H1 C hc (rv.same sm) (Fr'.same sm)⟩
def Av:RZs X EX cl M sts .nil:=fun pins s σ H Q I ⟨σD,x,_,_,z,_⟩=>by
 rw[RL.cn]at z;cases z
def yM(h1:SS X cl M st s)(h2:RZ X EX cl M st s)(h3:RZs X EX cl M sts r):RZs X EX cl M (st::sts) (.cons s r):=by
 intro pins sh σ H D I h;obtain⟨σD,x,σD',rv,z,k⟩:=h;rw[RL.cn]at z
 cases hev:RL.evS cl M s σD with
 |some p=>
  obtain⟨o,σ1⟩:=p;rw[hev]at z
  cases o with
  | nx=>exact kU h1 h3 pins sh σ H D I ⟨σD,.nx,σ1,rv,hev,fun σ2 H2 rv2 fr2=>⟨σ1,x,σD',rv2,z,fun σ3 H3 C hc rv3 fr3=>k σ3 H3 C hc rv3 (fr2.trans fr3)⟩⟩
  | rt d=>cases z
 |none=>
  rw[hev]at z;exact kU h2 h3 pins sh σ H D I ⟨σD,x,σD',rv,z,k⟩
def Fi(hc:ST X cl c c')(ha:RZs X EX cl M a a')(hb:RZs X EX cl M b b'):RZ X EX cl M (.If c a b pos) (.ife c' a' b'):=by
 refine PS.weak (uE hc ha hb) fun D σ H h=>?_;obtain⟨σD,x,σD',rv,z,k⟩:=h;rw[RL.ju]at z;obtain⟨t,z1,z2⟩:=bind_some z;refine⟨σD,t,rv.rv0,z1,fun H1 sm=>?_⟩;have kk:∀ σ1 H2 C,Cls X.K x C->RVm X.K M σD' σ1 H2->Fr' M σ H1 σ1 H2->EX σ1 (.ref C) none H2:=fun σ1 H2 C hc r f=>k σ1 H2 C hc r ((Fr'.same sm).trans f)
 cases t with
 | true=>exact eJ ⟨σD,x,σD',rv.same sm,z2,kk⟩
 | false=>exact ff ⟨σD,x,σD',rv.same sm,z2,kk⟩
end
section
def tY(h:RL.hG f fx tg (d::ds) σ=some p):d.imm=true/\∃ σ1,RL.aF tg d σ=some σ1 /\
  ((∃ σ2,f σ1=some (.nx,σ2)/\RL.hG f fx tg ds σ2=some p)\/fx σ1=some p):=by
 rw[RL.hG]at h;by_cases him:d.imm=true
 case neg=>rw[if_neg him]at h;cases h
 rw[if_pos him]at h;obtain⟨σ1,h1,h⟩:=bind_some h;refine⟨him,σ1,h1,?_⟩
 cases hf:f σ1 with
 | none=>rw[hf]at h;exact .inr h
 |some q=>
  obtain⟨o,σ2⟩:=q;rw[hf]at h
  cases o with
  | nx=>exact .inl ⟨σ2,rfl,h⟩
  | rt d=>cases h
def BL(hp:PassesOwn (model X.prog X.w) X.A X.env X.xe)(hc:X.calm=true)(hi:SI X cl tgE iter it)(hg:PG X tgE (gT X.K tg))(hb:SSs X cl M body b)(hbx:RZs X EX cl M body b)(hs:∀ x,foldedSetIterable iter X.env x=pure x)(hav:RL.qv M it=true)(hM:∀ i∈tg,M.contains i=false) :
  RZ X EX cl M (.For tgE iter body [] pos) (.forr tg it b):=by
 have both:PSs X body (fun D σ H=>tS X.K M (RL.aj cl M b) D σ H\/tXS X.K M EX (RL.cn cl M b) D σ H):=fun pins s σ H D I h=>h.elim (hb pins s σ H D I) (hbx pins s σ H D I);refine PS.weak (vX hp hc hi hg both hs) fun D σ H h=>?_;obtain⟨σD,x,σD',rv,e,k⟩:=h;rw[RL.ju]at e;obtain⟨ds,e1,e2⟩:=bind_some e;refine⟨σD,ds,rv.rv0,e1,fun J H1 s1 src=>?_⟩
 have ok:gN X.K J ds (bh M σ) H1:=src.2 M (bh M σ) hav rv.t8 fun j dj vj hj h1 h2=>by
  obtain⟨v',h3,h4⟩:=rv.val j dj h1;rw[h2]at h3;cases h3;rw[if_neg (by rw[hj];decide)]at h4;exact h4
 refine⟨fun i m σ2 H2=>∃ σD2,m=ds.length-i/\i<=ds.length/\RVm X.K M σD2 σ2 H2/\Fr' M σ H1 σ2 H2/\RL.hG (RL.aj cl M b) (RL.cn cl M b) tg (ds.drop i) σD2=some (x,σD'),⟨_,σD,rfl,Nat.zero_le _,rv.same s1,Fr'.same (au.refl _),e2⟩,?_⟩;rintro i m σ2 H2 ⟨σD2,rfl,hi2,rv2,fr2,hl⟩;have off:Off (bh M σ) H1 H2:=fun b o n e=>(fr2.1 b o e n).1;by_cases hlt:i<ds.length
 ·refine .inr ⟨ok.go H2 i off hlt,fun σ' H'=>∃ m',m'<ds.length-i/\∃ σD2,m'=ds.length-(i+1)/\i+1<=ds.length/\RVm X.K M σD2 σ' H'/\Fr' M σ H1 σ' H'/\RL.hG (RL.aj cl M b) (RL.cn cl M b) tg (ds.drop (i+1)) σD2=some (x,σD'),fun σ' H' z=>z,fun y H3 yl=>?_⟩;rw[List.drop_eq_getElem_cons hlt]at hl;obtain⟨him,σ3,h1,h2⟩:=tY hl;obtain⟨s3,rp⟩:=ok.yld H2 i ds[i] y H3 off (by simp[hlt]) yl;obtain⟨dv,vs,q1,q2,q3,q4,q5⟩:=tG h1 (rp (.inl him));refine q5 _ _ ?_;obtain⟨rv3,as3⟩:=(rv2.same s3).bV hM q2 (q4 him) q3
  have fr3:Fr' M σ H1 (cM tg vs σ2) H3:=⟨fun b o e n=>⟨s3 _ _ (fr2.1 b o e n).1,by rw[as3];exact(fr2.1 b o e n).2⟩,fun j hj=>(kO hM hj).trans (fr2.2 j hj)⟩
  rcases h2 with⟨σ4,h2,h3⟩ | h2
  ·exact .inl ⟨σ3,.nx,σ4,by rw[q1];exact rv3,h2,fun σ' H' rv' fr'=>⟨_,by lia,σ4,rfl,hlt,rv',fr3.trans fr',h3⟩⟩
  ·exact .inr ⟨σ3,x,σD',by rw[q1];exact rv3,h2,fun σ' H' C hc rv' fr'=>k σ' H' C hc rv' (((Fr'.same s1).trans fr3).trans fr')⟩
 ·have e:i=ds.length:=by lia
  subst e;rw[List.drop_length,RL.hG]at hl;cases hl
end
end RS
namespace L2
open PySem PySem.Spec PyProof.Rows
open RS (VE)
def so{K:PySem.W.Frag}(X:K.In h)(q:PySem.W.excIn K C VE "ValueError.__new__" = true):∃ bm N nm qn bs hdct sn sub ab col dd k0 k1 k2 k3 k5 mN,h.get? C=some (excClassObj nm qn C N bs bm hdct sn sub ab col dd k0 k1 k2 k3 k5 "ValueError.__new__")/\h.Ns N mN/\mN "__init__" = none/\OwnTail h VE bm:=by
 unfold PySem.W.excIn at q;split at q
 ·rename_i dd cd sl ho;split at q
  ·rename_i C' bm k0 k1 k2 k3 n k5 hm hs;simp only[Bool.and_eq_true,beq_iff_eq,Bool.not_eq_true']at q;obtain⟨⟨⟨⟨⟨rfl,rfl⟩,hdel⟩,ht⟩,hok⟩,hni⟩:=q;obtain⟨nm,bs,mro,ns,qn,hd,sn,sub,ab,col,del⟩:=cd;dsimp only at hm hdel hok hni;subst hm hdel;obtain⟨l⟩:=sl;simp only at hs;subst hs;exact⟨bm,ns,nm,qn,bs,hd,sn,sub,ab,col,dd,k0,k1,k2,k3,k5,_,X _ _ ho,.of_isNs (PySem.W.isNs_of_in X hok),PySem.W.nsMap_none_of_in X hok hni,PySem.W.tail_of_in X ht⟩
  ·cases q
 ·cases q
section
variable{EX:St->XK}
def yP(hh:X.A.handled=none)(hg:Gl X x)(hm:X.mg x=some (.ref C))(hdb:(x == ("__debug__" : Str))=false)(q:PySem.W.excIn X.K C VE "ValueError.__new__" = true)(hk:∀ pins σ H s h' e vs,Inv X pins σ H s->Heap.MadeExcOf s.heap h' e (.ref C) vs->EX σ (.ref C) none H->X.xe (.ref e) { s with heap:=h' })
 (ha:PA X [arg] (f9 ta j9))(hs:starEach [arg] X.env=[(false,eval arg X.env)]):PS X (.Raise (some (.Call (.Name x np) [arg] [] cpos)) none pos) (fun _ σ H=>ta σ H fun v H1=>[v].length<=sizeLine/\EX σ (.ref C) none H1):=by
 intro pins s σ H D I h;obtain⟨bm,N,nm,qn,bs,hdct,sn,sub,ab,col,dd,k0,k1,k2,k3,k5,mN,hC,hN,hni,T⟩:=so I.ok.mod.kin q;refine wpAny_Raise_call_subT (C:=C) (nm:=nm) (q:=qn) (N:=N) (bs:=bs) (bm:=bm) (hdct:=hdct) (sn:=sn) (sub:=sub) (ab:=ab) (col:=col) (dd:=dd) (k0:=k0) (k1:=k1) (k2:=k2) (k3:=k3) (k5:=k5) PySem.F.excBase_ValueError (mN:=mN) (T.hasType PySem.F.excBase_ValueError.hasBase) hh (by rw[hs];rfl) hni (gj I hg hm ⟨rfl,?_⟩ hdb);have ha':=ha cpos pins s σ H (fun vs H1=>vs.length<=sizeLine/\EX σ (.ref C) none H1) I h;rw[hs]at ha' ⊢;refine Calls.evalArgs_plain (thn ha' fun us s1 ⟨vs,H1,I1,r,q1⟩=>?_);exact⟨rfl,by rw[<-r.length];exact q1.1,I1.bk _ _ hC,hN.keeps I1.bk,T.keeps I1.bk,fun h' e m=>hk pins σ H1 s1 h' e us I1 m q1.2⟩
abbrev PJ(X:Cx)(vs:List Expr)(t:TA):Prop:=∀ (pins:List (Addr × Obj)) (s:Shared) (σ:St) (H:Hp) (Q:Hp->Prop) (out:Str),Inv X pins σ H s->t σ H (fun _ H1=>Q H1)->out.length+3000*vs.length<=sizeLine->wpAny (model X.prog X.w) X.A (joinParts out (evalEach vs X.env)) (EP X pins σ fun v H1=>(∃ x,v=.str x)/\Q H1) X.xe s
def BS:PJ X [] j9:=fun pins s σ H Q out I h z=>joinParts_nil (out:=out) ⟨.str out,H,I.tok _,⟨_,rfl⟩,⟨_,rfl⟩,h⟩ (by simpa using z)
def AB(h:PJ X vs t)(hy:y.length<=3000):PJ X (.Constant (.str y) k p::vs) t:=fun pins s σ H Q out I q z=>by
 have hz:(out++y).length+3000*vs.length<=sizeLine:=by
  rw[strLen_append];rw[List.length_cons]at z;omega
 refine joinParts_cons (Calls.Constant_str ⟨by omega,?_⟩);exact h pins _ σ H Q (out++y) (I.tok _) q hz
abbrev vS(te:TE)(t:TA):TA:=fun σ H Q=>te σ H fun v H1=>∃ i,v=.int i/\i.natAbs<2 ^ 1900/\t σ H1 Q
def Dh(he:PE X e te)(h:PJ X vs t):PJ X (.FormattedValue e (-1) none p::vs) (vS te t):=fun pins s σ H Q out I q z=>by
 refine joinParts_cons (FormattedValue_plain (thn (he pins s σ H _ I q) fun u s1 ⟨v,H1,I1,r1,i,hv,hi,q1⟩=>?_));subst hv;obtain⟨tk,rfl⟩:=r1
 have hl:i.natAbs.log2<1920:=by
  by_cases h0:i.natAbs=0
  ·rw[h0];decide
  ·exact Nat.lt_trans ((Nat.log2_lt h0).mpr hi) (by decide)
 have hy:(Str.ofString (toString i)).length<=1921:=by
  rw[PySem.ofString_length];exact int_text_length_le (by decide) hl
 have hz:(out++Str.ofString (toString i)).length+3000*vs.length<=sizeLine:=by
  rw[strLen_append];rw[List.length_cons]at z;omega
 refine formatField_int_small hl ⟨?_,?_⟩
 ·exact Nat.le_trans (Nat.le_add_right _ _) hz
 ·exact h pins _ σ H1 Q _ ((I1.tok _).tok _) q1 hz
def wZ(h:PJ X (v::v2::vs) t)(hn:vs.length<=100):PE X (.JoinedStr (v::v2::vs) pos) (fun σ H Q=>t σ H fun _ H1=>∀ x,Q (.str x) H1):=by
 intro pins s σ H Q I q;refine JoinedStr_many (thn (h pins s σ H (fun H1=>∀ x,Q (.str x) H1) Str.empty I q ?_) fun u s1 ⟨v,H1,I1,r1,⟨x,hv⟩,q1⟩=>⟨v,H1,I1,r1,by rw[hv];exact q1 x⟩);rw[List.length_cons,List.length_cons,sizeLine_eq];have:Str.empty.length=0:=rfl;omega
end
section
variable{os:OsState}
def yx
 (hR:h.get? R=some (excClassObj nm q R N bs bm hdct sn sub ab col dd k0 k1 k2 k3 k5 newId))(he:h.get? e=some oe)(hc:oe.cls=.ref C)(hb:bm.contains (.type "BaseException")=true)(L:PySem.W.Looks M h (isSubtype (.ref C) (.ref R)) b)(hq:Q b ⟨h,g,d,t,os⟩) :
  wpAny M A (excMatches (.ref e) (.ref R)) Q E ⟨h,g,d,t,os⟩:=by
 have hcB:(Value.ref R::bm).contains (.type "BaseException")=true:=by rw[List.contains_cons,hb,Bool.or_true]
 have f:=tc_notTuple;unfold excMatches
 repeat (first | (with_reducible refine wpAny_loadPart_at he ?_;rw[hc]) | with_reducible refine wpAny_loadPart_at hR ?_ | (with_reducible refine wpAny_isSubtype_exc hR ?_;rw[hcB]) | (with_reducible refine L.at ?_) | wp_step)
 cases b<;>(wp_walk;exact hq)
end
section
def sV(I:Inv X pins σ H s)(hN:X.N.Nodup)(hi:X.N[i]?=some n)(hl:X.env.scope.names.lookup n=some .local)
 (k:∀ s',Inv X pins (σ.set i none) H s'->Q () s'):wpAny M A (do bindName X.env n .none;unbindBehindTheSuite X.env n pos) Q E s:=by
 obtain⟨m,hn,hlk⟩:=id I.loc
 have hcls:(X.env.scope.kind == .class || (X.env.scope.kind == .module&&X.env.locals != X.env.globals))=false:=by rw[I.ok.kind];rfl
 refine wpAny_nameGoes_keeps hl hn hcls fun h' v hn' hs=>k _ ?_;have up:∀ b o,X.s₀.heap.get? b=some o->b≠X.env.locals:=fun b o e=>Nat.ne_of_lt (Nat.lt_of_lt_of_le (Heap.lt_size e) I.ok.above);have cne:=I.cne;refine⟨I.ok,I.os,I.bare,⟨fun b o e nn hb hx=>(hs.2 b (up b o e)).trans (I.base.keep b o e nn hb hx),fun b o e nn hb hx=>?_,I.base.free,fun b o e hx=>?_,I.base.eD,I.base.cK,I.base.eC⟩,⟨_,hn',fun j y v' e1 e2 e3=>?_⟩,fun y c e=>?_,I.free,I.c8,fun p hp=>?_,fun a o e=>?_,by simpa using I.len⟩
 ·obtain⟨sl,e1⟩:=I.base.slot b o e nn hb hx;exact⟨sl,(hs.2 b (up b o e)).trans e1⟩
 ·obtain⟨o',e1⟩:=I.base.there b o e hx;exact⟨o',(hs.2 b (up b o e)).trans e1⟩
 ·have hj:j≠i:=fun z=>by
   subst z;rw[List.getElem?_set_self (by rw[I.len];exact(List.getElem?_eq_some_iff.mp hi).1)]at e2;cases e2
  rw[List.getElem?_set_ne (Ne.symm hj)]at e2;obtain⟨u,r,lk⟩:=hlk j y v' e1 e2 e3;refine⟨u,r,?_⟩
  rcases lk with⟨a1,a2⟩ | ⟨a1,c,a2,a3⟩
  ·have hy:y≠n:=fun z=>hj (kR hN e1 (z▸hi));exact .inl ⟨a1,by simp[hy,a2]⟩
  ·exact .inr ⟨a1,c,a2,a3.sameBut hs (cne y c a2)⟩
 ·obtain⟨v,q⟩:=I.cell y c e;exact⟨v,q.sameBut hs (cne y c e)⟩
 ·obtain⟨p1,p2,p3,p4⟩:=I.pin p hp;exact⟨(hs.2 p.1 p3).trans p1,p2,p3,p4⟩
 ·refine(I.hok a o e).jo (fun c w hc q=>(hs.2 c fun z=>?_).trans q) (fun _ z=>z) fun _ _ z=>z;subst z;rcases hc with z | z
  ·rw[<-z,I.free]at e;cases e
  ·rw[I.free]at z;cases z
@[reducible]noncomputable def Fz(oe:Obj):HO:=.frz oe (.ext fun _=>True)
@[reducible]noncomputable def Cx.bO(X:Cx)(e:Addr)(oe:Obj):Cx:={ X with A:=X.A.mark (some (.ref e)),calm:=false,H₀:=upd X.H₀ e (Fz oe) }
def nX(I0:Inv X pins σ H0 s0)(hst:X.stack=X.env::X.outer)(hex:X.ex=[])(un:Un (frs X.stack) [] H0 H' s0.heap h1)(hok:HOk X.prog X.w H' h1)(bare:AllBare g)
 (o:Off1 (fP s0.heap H') (frs (X.env::X.outer)) h1 h2)(he:h2.get? e=some oe)(hd:oe.data=.fields vs)(hv:vs[2]?=some .none)(ne:¬ fP s0.heap H' e) :
  Inv (X.bO e oe) pins σ (upd H' e (Fz oe)) ⟨h2,g,dr,tk,s0.os⟩:=by
 have hne:H' e=none:=Classical.byContradiction fun z=>ne (.inr z);have n0:∀ b u,s0.heap.get? b=some u->b≠e:=fun b u q z=>ne (.inl ⟨u,z▸q⟩);have n1:∀ b u,X.s₀.heap.get? b=some u->b≠e:=fun b u q=>let ⟨u',q'⟩:=I0.old hex q;n0 b u' q';have off:∀ {b:Addr},b≠e->upd H' e (Fz oe) b=H' b:=fun z=>aJ z
 have nfr:∀ b,H' b≠none->b∉frs (X.env::X.outer):=fun b hb z=>by
  rw[<-hst]at z;obtain⟨_,ob,hob,_⟩:=I0.stack.mem z;exact hb (un.free b ob hob (I0.kd b z) (by simp))
 have un2:Un (frs X.stack) [] H0 (upd H' e (Fz oe)) s0.heap h2:=by
  refine⟨fun b u q n hb hx=>?_,fun b u q n hb hx=>?_,fun b u q n hx=>by rw[off (n0 b u q)];exact un.free b u q n hx,fun b u q hx=>?_,fun b xs q=>?_,fun b ob u q=>?_,fun b ps q=>?_⟩
  ·exact o.keep b u (.inl ⟨u,q⟩) (by rw[<-hst];exact hb) (un.keep b u q n hb hx)
  ·obtain⟨sl,q1⟩:=un.slot b u q n hb hx;obtain⟨sl2,q2⟩:=o.slot b _ (.inl ⟨u,q⟩) (by rw[<-hst];exact hb) q1;exact⟨sl2,q2⟩
  ·obtain⟨u1,q1⟩:=un.there b u q hx;by_cases hb:b∈frs (X.env::X.outer)
   ·obtain⟨sl,q2⟩:=o.slot b _ (.inl ⟨u,q⟩) hb q1;exact⟨_,q2⟩
   ·exact⟨_,o.keep b _ (.inl ⟨u,q⟩) hb q1⟩
  ·have:=un.eD b xs q;rw[off (fun z=>by rw[z,hne]at this;cases this)];exact this
  ·have:=un.cK b ob u q;rw[off (fun z=>by rw[z,hne]at this;cases this)];exact this
  ·obtain⟨more,this⟩:=un.eC b ps q;rw[off (fun z=>by rw[z,hne]at this;cases this)];exact⟨more,this⟩
 have hok2:HOk X.prog X.w (upd H' e (Fz oe)) h2:=fun a ob q=>by
  by_cases ha:a=e
  ·subst ha;rw[aP]at q;cases q;exact⟨he,trivial,⟨_,he⟩,fun _ _ _ _=>trivial⟩
  ·rw[off ha]at q
   have up:∀ (b:Addr) (u:HO),H' b=some u->upd H' e (Fz oe) b=some u:=fun b u z=>by rw[off (aK z hne)];exact z
   refine(hok a ob q).jo (fun b u hb r=>?_) (fun b z=>up b _ z) fun b xs z=>up b _ z
   have hn:H' b≠none:=by
    rcases hb with rfl | hb
    ·rw[q];exact fun z=>nomatch z
    ·rw[hb];exact fun z=>nomatch z
   exact o.keep b u (.inr hn) (nfr b hn) r
 have J:=I0.call (h':=h2) (g':=g) (d':=dr) (t':=tk) (ch:=[]) un2 hok2 bare (fun b z=>absurd z (by simp));have offH:∀ {b:Addr} {u:Obj},X.s₀.heap.get? b=some u->upd X.H₀ e (Fz oe) b=X.H₀ b:=fun q=>aJ (n1 _ _ q);refine⟨⟨J.ok.mod,J.ok.kind,J.ok.glob,J.ok.blt,J.ok.above,J.ok.inj,J.ok.has,J.ok.cab,⟨fun z=>(nomatch z),.inr ⟨e,oe,_,vs,rfl,aP,hd,hv⟩⟩,J.ok.frames,J.ok.stk,J.ok.exf,fun b ob q=>?_,J.ok.bsz,J.ok.jc,J.ok.iS,J.ok.dA,fun b hb=>?_⟩,J.os,J.bare,⟨fun b u q n=>?_,fun b u q n=>?_,fun b u q n=>?_,J.base.there,fun b xs q=>?_,fun b ob u q=>?_,fun b ps q=>?_⟩,J.loc,J.cell,J.free,J.c8,J.pin,J.hok,J.len⟩
 ·obtain⟨q1,q2⟩:=J.ok.bs b ob q;exact⟨q1,(offH q1).trans q2⟩
 ·obtain⟨_,ob,q,_⟩:=J.ok.dA.mem hb;exact(offH q).trans (J.ok.frf b hb)
 ·exact J.base.keep b u q ((offH q).symm.trans n)
 ·exact J.base.slot b u q ((offH q).symm.trans n)
 ·exact J.base.free b u q ((offH q).symm.trans n)
 ·by_cases hb:b=e
  ·subst hb;rw[show(X.bO b oe).H₀ b=some (Fz oe)from aP]at q;cases q
  ·exact J.base.eD b xs ((aJ hb).symm.trans q)
 ·by_cases hb:b=e
  ·subst hb;rw[show(X.bO b oe).H₀ b=some (Fz oe)from aP]at q;cases q;exact aP
  ·exact J.base.cK b ob u ((aJ hb).symm.trans q)
 ·by_cases hb:b=e
  ·subst hb;rw[show(X.bO b oe).H₀ b=some (Fz oe)from aP]at q;cases q
  ·exact J.base.eC b ps ((aJ hb).symm.trans q)
def lU(J:Inv (X.bO e oe) pins σ H s)(ok:X.Ok)(hn:X.s₀.heap.get? e=none)(h1:∀ xs,X.H₀ e≠some (.tup xs))(h2:∀ o u,X.H₀ e≠some (.frz o u))(h3:∀ ps,X.H₀ e≠some (.tbl ps)):Inv X pins σ H s:=by
 have offH:∀ {b:Addr} {u:Obj},X.s₀.heap.get? b=some u->upd X.H₀ e (Fz oe) b=X.H₀ b:=fun {b u} q=>aJ fun z=>by rw[z,hn]at q;cases q
 have up:∀ (b:Addr) (u:HO),b≠e->X.H₀ b=some u->(X.bO e oe).H₀ b=some u:=fun b u hb z=>(aJ hb).trans z
 exact⟨ok,J.os,J.bare,⟨fun b u q n=>J.base.keep b u q ((offH q).trans n),fun b u q n=>J.base.slot b u q ((offH q).trans n),fun b u q n=>J.base.free b u q ((offH q).trans n),J.base.there,
  fun b xs q=>J.base.eD b xs (up b _ (fun z=>h1 xs (z▸q)) q),fun b o u q=>J.base.cK b o u (up b _ (fun z=>h2 o u (z▸q)) q),fun b ps q=>J.base.eC b ps (up b _ (fun z=>h3 ps (z▸q)) q)⟩,J.loc,J.cell,J.free,J.c8,J.pin,J.hok,J.len⟩
end
end L2
namespace RS
open PySem PySem.Spec PyProof.Rows L2
def Cls.kin{K:PySem.W.Frag}(h:Cls K x C):qC K C:=by
 have:=h.ok;simp only[fV,Bool.and_eq_true,beq_iff_eq]at this;obtain⟨⟨⟨⟨⟨⟨⟨⟨_,a1⟩,a2⟩,a3⟩,a4⟩,a5⟩,a6⟩,_⟩,_⟩:=this;refine⟨a1,a2,?_,a4,a5,a6⟩;unfold rm at a3;split at a3
 ·rename_i a b e;simp only[Bool.and_eq_true,beq_iff_eq]at a3;rw[e,a3.1,a3.2]
 ·cases a3
section
def uB(I0:Inv X pins σ H0 s0)(hst:X.stack=X.env::X.outer)(hfrm:X.env.frame=some X.env.locals)(hex:X.ex=[])
 (os:s1.os=s0.os)(bare:AllBare s1.gens)(un:Un (frs X.stack) [] H0 H' s0.heap s1.heap)(hok:HOk X.prog X.w H' s1.heap)(xx:Exc (fP s0.heap H') e C tb s1.heap)(hc:Cls X.K x C)(hR:Cls X.K c R)(hcr:c∈cX)(hsub:RL.cD x c=true)(hg:Gl X c)(hm:X.mg c=some (.ref R))(hdb:(c == ("__debug__" : Str))=false)
 (hN:X.N.Nodup)(hi:X.N[i]?=some n)(hl:X.env.scope.names.lookup n=some .local)
 (k:∀ oe vs s4,(oe.cls=.ref C/\oe.dict=none)->oe.data=.fields vs->vs[2]?=some .none->H' e=none->X.s₀.heap.get? e=none->(∀ xs,X.H₀ e≠some (.tup xs))->(∀ o u,X.H₀ e≠some (.frz o u))->(∀ ps,X.H₀ e≠some (.tbl ps))->Inv (X.bO e oe) pins (σ.set i (some (.ref e))) (upd H' e (Fz oe)) s4 ->
   wpAny (model X.prog X.w) (X.A.mark (some (.ref e))) (execs (b0::bO) X.env) (fun f s5=>wpAny (model X.prog X.w) X.A (do bindName X.env n .none;unbindBehindTheSuite X.env n hpos) (fun _ s6=>Q f s6) E s5) (fun _ _=>False) s4) :
  wpAny (model X.prog X.w) X.A (noteFrame (.ref e) X.env) (fun _ s2=>wpAny (model X.prog X.w) X.A (setFlight (.ref e) none) (fun _ s3=>wpAny (model X.prog X.w) X.A (handleBy (.ref e) X.env [.ExceptHandler (some (.Name c np)) (some n) (b0::bO) hpos]) Q E s3) E s2) E s1:=by
 have I1:Inv X pins σ H' s1:=I0.tu (ch:=[]) os un hok bare (fun b z=>absurd z (by simp));have hls:=I1.stack;have hfr:=I1.ok.frames;rw[hst]at hls hfr
 have hP:∀ b,fP s0.heap H' b->b<s1.heap.objs.size:=fun b hb=>by
  rcases hb with⟨o,q⟩ | hb
  ·obtain⟨o',q'⟩:=un.there b o q (by simp);exact Heap.lt_size q'
  ·obtain⟨o,ho⟩:=Option.ne_none_iff_exists'.mp hb;exact hok.lt ho
 refine nt hfr hls hfrm xx hP fun h2 x2 o2=>?_;obtain⟨oe,vs,he,hcd,hd,hv,ne,xt⟩:=x2;obtain⟨hp,g,d,tk,os'⟩:=s1;obtain rfl:os'=s0.os:=os;have J2:Inv (X.bO e oe) pins σ (upd H' e (Fz oe)) ⟨h2,g,d,tk,s0.os⟩:=nX I0 hst hex un hok bare o2 he hd hv ne;refine wpAny_handleBy_cons (codeAny_handlers_test ?_) (by intro q;cases q);refine gj J2 hg hm ?_ hdb;obtain⟨bm,N,nm,qn,bs,hdct,sn,sub,ab,col,dd,k0,k1,k2,k3,k5,mN,g1,g2,g3,T⟩:=so J2.kIn hR.exc;have L:=PySem.W.looks_subIn (M:=model X.prog X.w) J2.kIn (hc.ref hcr hR.ns).2;rw[hsub]at L;refine yx g1 he hcd.1 (T.hasType PySem.F.excBase_ValueError.hasBase) L ?_;refine codeAny_handlers_suite_as ?_
 rcases xt with⟨z,_⟩ | ⟨T,oT,ts,h1,hTe,hT,hdT,h3,nT⟩
 ·cases z
 unfold setFlight;refine wpAny_bind (wpAny_field he hd h1 ?_);rw[if_pos (show(Value.ref T != Value.none)=true from by simp)];refine wpAny_setField hT hdT (Array.getElem?_eq_some_iff.mp h3).1 ?_;have he3:(h2.update T (Obj.mapFields (·.setIfInBounds 3 Value.none))).get? e=some oe:=(Heap.get?_update_other _ _ hTe).trans he;have J3:Inv (X.bO e oe) pins σ (upd H' e (Fz oe)) ⟨h2.update T (Obj.mapFields (·.setIfInBounds 3 Value.none)),g,d,tk,s0.os⟩:=nX I0 hst hex un hok bare (o2.trans (Off1.tU nT _)) he3 hd hv ne;have hne:H' e=none:=Classical.byContradiction fun z=>ne (.inr z)
 have tup:∀ u,X.H₀ e=some u->(∀ b,X.H₀ b=some u->H' b=some u)->False:=fun u q z=>by
  have:=z e q;rw[hne]at this;cases this
 refine fg (X:=X.bO e oe) (v:=.ref e) J3 hN hi (.inl hl) rfl (fun s4 J4=>?_) (.inr hl);refine wpAny_mono (k oe vs s4 hcd hd hv hne ?_ (fun xs q=>?_) (fun o u q=>?_) (fun ps q=>?_) J4) (fun f s5 z=>z) fun _ _ z=>z.elim
 ·cases q:X.s₀.heap.get? e with
  | none=>rfl
  |some u=>
   obtain⟨u',q'⟩:=I0.old hex q;exact(ne (.inl ⟨u',q'⟩)).elim
 ·have:=un.eD e xs (I0.base.eD e xs q);rw[hne]at this;cases this
 ·have:=un.cK e o u (I0.base.cK e o u q);rw[hne]at this;cases this
 ·obtain⟨m1,q1⟩:=I0.base.eC e ps q;obtain⟨m2,q2⟩:=un.eC e _ q1;rw[hne]at q2;cases q2
end
section
variable{K:PySem.W.Frag}
def bh.unset(hi:M.contains i=false):bh M (σ.set i none)=bh M σ:=by
 funext a;apply propext
 have hne:∀ {j},M.contains j=true->i≠j:=fun hj z=>by subst z;rw[hi]at hj;cases hj
 constructor
 ·rintro⟨j,hj,e⟩;rw[List.getElem?_set_ne (hne hj)]at e;exact⟨j,hj,e⟩
 ·rintro⟨j,hj,e⟩;exact⟨j,hj,by rw[List.getElem?_set_ne (hne hj)];exact e⟩
def iN{α:Type}{l:List (Option α)}{i j:Nat}{v:α}(h:(l.set i none)[j]?=some (some v)):i≠j/\l[j]?=some (some v):=by
 by_cases hj:i=j
 ·subst hj;rw[List.getElem?_set]at h;split at h
  ·split at h<;>cases h
  ·exact absurd rfl ‹_›
 ·rw[List.getElem?_set_ne hj]at h;exact⟨hj,h⟩
def RVm.unset(h:RVm K M σD σ H)(hi:M.contains i=false):RVm K M (σD.set i none) (σ.set i none) H where
 len:=by simpa using h.len
 val:=fun j d e=>by
  obtain⟨hj,e⟩:=iN e;obtain⟨v,e1,e2⟩:=h.val j d e;exact⟨v,by rw[List.getElem?_set_ne hj];exact e1,by rw[bh.unset hi];exact e2⟩
 non:=fun j v e=>by
  obtain⟨hj,e⟩:=iN e;obtain⟨d,e1⟩:=h.non j v e;exact⟨d,by rw[List.getElem?_set_ne hj];exact e1⟩
 sep:=fun j k a hj hk e1 e2=>h.sep j k a hj hk (iN e1).2 (iN e2).2
def Fr'.unset(hi:M.contains i=false):Fr' M σ H (σ.set i none) H:=⟨fun b o e n=>⟨e,by rw[bh.unset hi];exact n⟩,fun j hj=>List.getElem?_set_ne fun z=>by subst z;rw[iB hj]at hi;cases hi⟩
end
section
@[reducible]noncomputable def CxX(X:Cx)(pn:List (Addr × Obj))(E:Value->Shared->Prop):Cx:={ X with pn:=pn,xe:=E }
def BX(hx:X.xe=fun _ _=>False)(hst:X.stack=X.env::X.outer)(hfrm:X.env.frame=some X.env.locals)(hex:X.ex=[])(hb:SSs X cl M body b)
 (hbx:∀ (pn:List (Addr × Obj)) (E:Value->Shared->Prop) (EX:L2.St->XK),(∀ pins σ H s e s',Inv (CxX X pn E) pins σ H s->CXE X.prog X.w X.stack H s (EX σ) e s'->E e s')->(∀ pins σ H s h' e C vs,Inv (CxX X pn E) pins σ H s->Heap.MadeExcOf s.heap h' e (.ref C) vs->EX σ (.ref C) none H->E (.ref e) { s with heap:=h' }) ->
   PassesOwn (model X.prog X.w) X.A X.env E->RZs (CxX X pn E) EX cl M body b)
 (hsu:∀ e oe,SSs (X.bO e oe) cl M (b0::bO) h)(hR:Cls X.K c R)(hcr:c∈cX)(hg:Gl X c)(hm:X.mg c=some (.ref R))(hdb:(c == ("__debug__" : Str))=false)(hN:X.N.Nodup)(hi:X.N[i]?=some n)(hl:X.env.scope.names.lookup n=some .local)(hM:M.contains i=false) :
  SS X cl M (.Try body [.ExceptHandler (some (.Name c np)) (some n) (b0::bO) hpos] [] [] pos) (.tryc b c i h):=by
 intro pins s σ H D I hh;obtain⟨σD,r,σD',rv,ev,post⟩:=hh;rw[RL.evS]at ev;refine wpAny_Try_except ?_
 cases hev:RL.aj cl M b σD with
 |some p=>
  rw[hev]at ev;cases ev
  refine wpAny_mono (hb pins s σ H D I ⟨σD,r,σD',rv,hev,post⟩) (fun f s1 q=>?_) fun e s1 z=>by rw[hx]at z;exact z.elim
  cases f with
  | next=>exact wpAny_execs_nil q
  | ret u=>exact q
  | brk=>exact q
  | cont=>exact q
 |none=>
  rw[hev]at ev;obtain⟨⟨x,σD1⟩,hev2,ev⟩:=bind_some ev;by_cases hs:RL.cD x c=true
  case neg=>rw[if_neg hs]at ev;cases ev
  rw[if_pos hs]at ev;obtain⟨⟨rr,σ5⟩,hev3,ev⟩:=map_some ev;cases ev;dsimp only at hev3 post;generalize hE:(fun(e:Value) (s₁:Shared)=>wpAny (model X.prog X.w) X.A (noteFrame e X.env) (fun _ s₂=>wpAny (model X.prog X.w) X.A (setFlight e none) (fun _ s₃=>wpAny (model X.prog X.w) X.A (handleBy e X.env [.ExceptHandler (some (.Name c np)) (some n) (b0::bO) hpos]) (SP X pins D) X.xe s₃) X.xe s₂) X.xe s₁)=E1
  have own:PassesOwn (model X.prog X.w) X.A X.env E1:=by
   rw[<-hE];exact PassesOwn.looking
  have hand:∀ (pins':List (Addr × Obj)) (σ1:L2.St) (H0 H':Hp) (s0 s1:Shared) (e C:Addr) (tb:Bool),Inv (CxX X (X.pn++pins) E1) pins' σ1 H0 s0->s1.os=s0.os->AllBare s1.gens->Un (frs X.stack) [] H0 H' s0.heap s1.heap->HOk X.prog X.w H' s1.heap->Exc (fP s0.heap H') e C tb s1.heap ->
    (Cls X.K x C/\RVm X.K M σD1 σ1 H'/\Fr' M σ H σ1 H')->E1 (.ref e) s1:=by
   intro pins' σ1 H0 H' s0 s1 e C tb J os bare un hok ex ⟨hc,rv1,fr1⟩
   have I0:Inv X pins σ1 H0 s0:=⟨⟨J.ok.mod,J.ok.kind,J.ok.glob,J.ok.blt,J.ok.above,J.ok.inj,J.ok.has,J.ok.cab,J.ok.hd,J.ok.frames,J.ok.stk,J.ok.exf,J.ok.bs,J.ok.bsz,J.ok.jc,J.ok.iS,J.ok.dA,J.ok.frf⟩,J.os,J.bare,J.base,J.loc,J.cell,J.free,J.c8,fun p hp=>J.pin p (List.mem_append_left _ hp),J.hok,J.len⟩
   rw[<-hE];refine uB I0 hst hfrm hex os bare un hok ex hc hR hcr hs hg hm hdb hN hi hl fun oe vs s4 hcd hd hv hne hn0 n1 n2 n3 J4=>?_
   have sm:au H' (upd H' e (Fz oe)):=fun a u q=>by rw[aJ (aK q hne)];exact q
   have rv4:RVm X.K M (σD1.set i (some (.exc x))) (σ1.set i (some (.ref e))) (upd H' e (Fz oe)):=(rv1.same sm).bind hM (by
    rw[Rep]
    exact⟨e,oe,_,C,vs,rfl,aP,hcd,hd,hv,hc⟩)
   have fr4:Fr' M σ H (σ1.set i (some (.ref e))) (upd H' e (Fz oe)):=fr1.trans (Fr'.bind hM sm)
   have post2:qt X.K M { nx:=fun σ' H5=>D.nx (σ'.set i none) H5,rt:=D.rt } (σ1.set i (some (.ref e))) (upd H' e (Fz oe)) rr σ5:=by
    cases rr with
    | nx=>exact fun σ' H5 rv5 fr5=>post (σ'.set i none) H5 (rv5.unset hM) ((fr4.trans fr5).trans (Fr'.unset hM))
    | rt d=>exact fun σ' H5 v H6 rv5 fr5 sm5 rp=>post (σ'.set i none) H5 v H6 (rv5.unset hM) ((fr4.trans fr5).trans (Fr'.unset hM)) sm5 fun P hP=>rp P fun p hp=>by rw[<-bh.unset hM];exact hP p hp
   refine wpAny_mono (hsu e oe pins s4 _ _ _ J4 ⟨_,rr,σ5,rv4,hev3,post2⟩) (fun f s5 q=>?_) fun e s5 z=>by
    have z:X.xe e s5:=z;rw[hx]at z;exact z.elim
   cases f with
   |next=>
    obtain⟨σ',H5,J5,q⟩:=q
    exact sV (lU J5 I0.ok hn0 n1 n2 n3) hN hi hl fun s6 J6=>⟨_,H5,J6,q⟩
   |ret u=>
    obtain⟨v,σ',H5,J5,rel,q⟩:=q
    exact sV (lU J5 I0.ok hn0 n1 n2 n3) hN hi hl fun s6 J6=>⟨v,_,H5,J6,rel,q⟩
   |brk=>
    obtain⟨_,_,_,q⟩:=q;exact q.elim
   |cont=>
    obtain⟨_,_,_,q⟩:=q;exact q.elim
  have rz:=hbx (X.pn++pins) E1 (fun σ1 Cv _ H1=>∃ C,Cv=.ref C/\Cls X.K x C/\RVm X.K M σD1 σ1 H1/\Fr' M σ H σ1 H1) (fun pins' σ1 H0 s0 e s1 J z=>by
    obtain⟨x',C,H',rfl,⟨C',q,hc⟩,os,bare,un,hok,ex⟩:=z;cases q
    exact hand pins' σ1 H0 H' s0 s1 x' C true J os bare un hok ex hc) (fun pins' σ1 H0 s0 h' e C vs J m z=>by
    obtain⟨C',q,hc⟩:=z;cases q
    exact hand pins' σ1 H0 H0 s0 _ e C false J rfl J.bare (Un.kept m.keeps) (J.hok.kept m.keeps) (r8 J.hok m) hc) own
  have I1:Inv (CxX X (X.pn++pins) E1) [] σ H s:=⟨⟨I.ok.mod,I.ok.kind,I.ok.glob,I.ok.blt,I.ok.above,I.ok.inj,I.ok.has,I.ok.cab,I.ok.hd,I.ok.frames,I.ok.stk,I.ok.exf,I.ok.bs,I.ok.bsz,I.ok.jc,I.ok.iS,I.ok.dA,I.ok.frf⟩,I.os,I.bare,I.base,I.loc,I.cell,I.free,I.c8,fun p hp=>I.pin p (by rw[List.append_nil]at hp;exact hp),I.hok,I.len⟩
  refine wpAny_mono (rz [] s σ H { nx:=fun _ _=>False,rt:=fun _ _=>False } I1 ⟨σD,x,σD1,rv,hev2,fun σ1 H1 C hc rv1 fr1=>⟨C,rfl,hc,rv1,fr1⟩⟩) (fun f s1 q=>?_) fun e s1 z=>by
   have z:E1 e s1:=z;subst hE;exact z
  cases f with
  |next=>
   obtain⟨_,_,_,q⟩:=q;exact q.elim
  |ret u=>
   obtain⟨_,_,_,_,_,q⟩:=q;exact q.elim
  |brk=>
   obtain⟨_,_,_,q⟩:=q;exact q.elim
  |cont=>
   obtain⟨_,_,_,q⟩:=q;exact q.elim
end
section
variable{X:Cx}
def qD:bx X (.builtin "isinstance") (fun xs H Q=>∃ b o u C vs t k,xs=[.ref b,t]/\H b=some (.frz o u)/\(o.cls=.ref C/\o.dict=none)/\o.data=.fields vs/\qC X.K C/\((∃ D,t=.ref D/\PySem.W.kitOne X.K (.ref C) (.ref D)=some k)\/∃ T,t=.ty T/\PySem.W.kitOne X.K (.ref C) (.type T)=some k)/\Q (.bl k) H):=by
 intro pins s σ H xs us Q I r h;obtain⟨b,o,u,C,vs,t,k,rfl,hb,hcd,hd,F,hk,q⟩:=h
 cases r with
 |cons r1 r2=>
  cases r2 with
  |cons r2 r3=>
   cases r3;cases r1
   have J:PySem.W.InstAt s.heap b o C none:=⟨(I.hok _ _ hb).1,hcd.1,by unfold PySem.W.notCls;rw[hd],by rw[hcd.2];trivial⟩
   rcases hk with⟨D,rfl,e⟩ | ⟨T,rfl,e⟩
   ·cases r2
    exact PySem.W.kia_one (qp F) I.kIn J e (fun z=>nomatch z) fun tk=>⟨.bl k,H,I.tok tk,rfl,q⟩
   ·cases r2
    exact PySem.W.kia_one (qp F) I.kIn J e (fun z=>nomatch z) fun tk=>⟨.bl k,H,I.tok tk,rfl,q⟩
def vH(ht:∀ x C,Cls X.K x C->(∃ D,t=.ref D/\PySem.W.kitOne X.K (.ref C) (.ref D)=some (RL.cD x c))\/∃ T,t=.ty T/\PySem.W.kitOne X.K (.ref C) (.type T)=some (RL.cD x c))(h:tE X.K cl (.isx a' c) σ H Q) :
  tCB (fun xs H Q=>∃ b o u C vs t k,xs=[.ref b,t]/\H b=some (.frz o u)/\(o.cls=.ref C/\o.dict=none)/\o.data=.fields vs/\qC X.K C/\((∃ D,t=.ref D/\PySem.W.kitOne X.K (.ref C) (.ref D)=some k)\/∃ T,t=.ty T/\PySem.W.kitOne X.K (.ref C) (.type T)=some k)/\Q (.bl k) H) (f9 (tE X.K cl a') (f9 (tC t) j9)) σ H Q:=by
 obtain⟨σD,d,rv,e,k⟩:=h;obtain⟨x,ea,e⟩:=bind_some e
 cases x with
 |exc n=>
  cases e;refine⟨σD,_,rv,ea,fun v H1 r1=>?_⟩;have rp:=r1.rep;rw[Rep]at rp;obtain⟨b,o,u,C,vs,rfl,h1,h2,h3,h4,h5⟩:=rp;exact⟨b,o,u,C,vs,t,_,rfl,h1,h2,h3,h5.kin,ht n C h5,k _ _ (dn r1.same)⟩
 | _=>cases e
def DI(hg:Gl X "isinstance")(hm:X.mg "isinstance" = none)(hgc:Gl X c)(hmc:X.mg c=some (.ref D))(hns:PySem.W.nsIn X.K mainGlobals c=some (some (.ref D)))(hcr:c∈cX)(hdb:(c == ("__debug__" : Str))=false)(ha:SE X cl a a')(hn:noStar a=true) :
  SE X cl (.Call (.Name "isinstance" p) [a,.Name c p2] [] pos) (.isx a' c) :=
 PE.weak (eZ qD hg hm (by decide +kernel) (ba ha (ba (rP (v:=.ref D) hgc hmc rfl hdb) cL) (ay _ hn)) (by decide) (by decide) (ay _ hn) rfl) fun σ H Q h=>vH (fun x C hc=>.inl ⟨D,rfl,(hc.ref hcr hns).1⟩) h
def DC(hg:Gl X "isinstance")(hm:X.mg "isinstance" = none)(hgc:Gl X "ValueError")(hmc:X.mg "ValueError" = none)(ha:SE X cl a a')(hn:noStar a=true):SE X cl (.Call (.Name "isinstance" p) [a,.Name "ValueError" p2] [] pos) (.isx a' "ValueError") :=
 PE.weak (eZ qD hg hm (by decide +kernel) (ba ha (ba (sS (v:=.ty "ValueError") hgc hmc PyProof.Rows.Boot.«ValueError» rfl) cL) (ay _ hn)) (by decide) (by decide) (ay _ hn) rfl) fun σ H Q h=>vH (fun x C hc=>.inr ⟨_,rfl,by rw[hc.val];simp[RL.cD]⟩) h
end
def nB:∀ ys:List Str,Str.join ⟨#[]⟩ ys=⟨(ys.flatMap fun s=>s.cps.toList).toArray⟩
 | []=>rfl
 | [x]=>by simp[Str.join]
 | x::y::r=>by
  have ih:=nB (y::r);show x++(⟨#[]⟩:Str)++Str.join ⟨#[]⟩ (y::r)=_;rw[ih];show(⟨(x.cps ++ #[])++(List.flatMap (fun s=>s.cps.toList) (y::r)).toArray⟩:Str)=_;simp
def sQ:∀ {ys:List Str} {us:List Value},Vals (ys.map V.str) us->StrsAre us ys
 | [],_,r=>by cases r;exact .nil
 | y::ys,_,r=>by
  cases r with
  |cons a b=>
   obtain⟨t,rfl⟩:=a;exact .cons y t (sQ b)
def oW{P:Addr->Prop}{K:PySem.W.Frag}:∀ {ds:List RL.D} {ss:List Str} {xs:List V},RL.strs? ds=some ss->ah P K H ds xs->xs=ss.map V.str
 | [],ss,xs,h,r=>by
  rw[RL.strs?]at h;cases h;rw[ah]at r;exact r
 | d::ds,ss,xs,h,r=>by
  rw[ah]at r;obtain⟨x,t,rfl,r1,r2⟩:=r
  cases d with
  |str y=>
   rw[RL.strs?]at h;obtain⟨q,h1,h2⟩:=map_some h;subst h2;rw[aD r1,oW h1 r2];rfl
  | _=>cases h
section
def Bj:MtR X "str.join" (fun x xs H Q=>∃ b ys,x=.str ⟨#[]⟩/\xs=[.ref b]/\H b=some (.lst (ys.map V.str))/\(ys.map (·.length)).sum<=16777216/\Q (.str (Str.join ⟨#[]⟩ ys)) H):=by
 intro pins s σ H x xs v us Q I rx r h;obtain⟨b,ys,rfl,rfl,hb,hz,q⟩:=h;obtain⟨t,rfl⟩:=rx;obtain⟨u,rfl,ru⟩:=vals1 r;cases ru;obtain⟨its,rv,ht,_⟩:=I.list (SqL.of hb)
 refine join_list (items:=its.toArray) ht.isList (by simpa using sQ rv) (by show _+_*0<=_;rw[Nat.mul_zero];exact hz) fun t' k=>⟨.str (Str.join ⟨#[]⟩ ys),H,I.tok _,⟨t',?_⟩,q⟩
 show Value.str (Builtin.Str.glued ⟨#[]⟩ ys) t'=_;rw[PySem.StrLaws.glued_eq_join]
def uU:∀ {ss:List Str},ss.all (fun s=>decide (s.length<=100))=true->(ss.map (·.length)).sum<=100*ss.length
 | [],_=>Nat.le_refl _
 | x::r,h=>by
  rw[List.all_cons,Bool.and_eq_true,decide_eq_true_eq]at h;have:=uU h.2;rw[List.map_cons,List.sum_cons,List.length_cons];omega
def Be(ha:SE X cl a a')(hn:noStar a=true)(hline:(apos.endLine == pos.line)=true):SE X cl (.Call (.Attribute (.Constant (.str ⟨#[]⟩) j p) "join" apos) [a] [] pos) (.join a'):=by
 refine PE.weak (zr PySem.F.plainAttrs_str PySem.F.slot_str_join PySem.F.type_str_join Bj qu (ba ha cL (ay [] hn)) rfl ?_ hline (ay [] hn) rfl) fun σ H Q h=>?_
 ·rw[ay [] hn];rfl
 obtain⟨σD,d,rv,e,k⟩:=h;obtain⟨x,ea,e⟩:=bind_some e
 cases x with
 |lst ds=>
  obtain⟨ss,e1,e2⟩:=bind_some e;split at e2
  ·rename_i hz;cases e2;refine⟨rfl,σD,_,rv,ea,fun v H1 r1=>?_⟩;obtain⟨b,xs,rfl,_,f2,f3⟩:=aH r1.rep;rw[oW e1 f3]at f2;have hs:=uU hz.2;have hm:RL.most=100000:=rfl;refine⟨b,ss,rfl,rfl,f2,by omega,?_⟩;rw[nB];exact k _ _ (bZ r1.same df rfl)
  ·cases e2
 | _=>cases e
end
end RS
namespace L2
open PySem PySem.Spec PyProof.Rows
structure jj(k:Nat)(A:Around):Prop where
 dp:A.depth+3*k+5<recursionLimit
 un:A.units+16*k+200<cLine
def cq.h(r:cq k A):jj k A:=⟨r.dp,r.un⟩
abbrev HXH(A:Around)(H:Hp):Prop:=A.handled=none\/∃ h o u vs,A.handled=some (.ref h)/\H h=some (.frz o u)/\o.data=.fields vs/\vs[2]?=some .none
structure lR(P:Program)(w:World)(K:PySem.W.Frag)(mg:Str->Option Value)(base:Heap)(k:Nat)(f:Addr)(fd:FuncData)(ps:List Str)(sp:Sp):Prop where
 len:∀ vs H Q,sp vs H Q E0->vs.length=ps.length
 run:∀ (A:Around) (outer:List Env) (s:Shared) (H:Hp) (us:List Value) (vs:List V) (Q:VK),jj k A->HXH A H->qc P w K mg base A outer s H->BindsTo s fd ⟨us,[]⟩ (ps.zip us)->Vals vs us->sp vs H Q E0->codeAny (model P w) A (.call (.ref f) ⟨us,[]⟩) (CR CX0 outer P w H s Q E0) s
@[reducible]noncomputable def cxH(P:Program)(w:World)(K:PySem.W.Frag)(mg:Str->Option Value)(base:Heap)(N:List Str)(qual:Str)(scope:Scope)(f:Addr)(cd:Value)(A:Around)(outer:List Env)(s:Shared)(H:Hp):Cx:={ (gM CX0 P w K mg base N qual scope f cd A outer s H E0).nox with calm:=false }
section
variable{K:PySem.W.Frag}{st:Stmt}
def Fun.okH(F:Fun K x qual st f fd)(S:fh N ps (aN st))(len:∀ vs H Q,sp vs H Q E0->vs.length=ps.length)
 (hbody:∀ (cdv:Value) (A:Around) (outer:List Env) (s:Shared) (H:Hp) (vs:List V) (Q:VK),jj k (A.deeper (envOfC qual (aN st) s.heap.objs.size f cdv))->sp vs H Q E0->∃ t,PSs (cxH P w K mg base N qual (aN st) f cdv A outer s H) (cu st) t/\t { nx:=fun _ H'=>Q .non H',rt:=Q } (start N vs) H):lR P w K mg base (k+1) f fd ps sp:=by
 obtain⟨oc,od,kV,doc,pm,an,cdv,ct,osl,rfl,lk,hcd⟩:=F.ex;refine⟨len,fun A outer s H us vs Q hr hx e0 hb r hsp=>?_⟩;have hl:=len _ _ _ hsp;have KX:K.In s.heap:=e0.mod.kin.keeps fun b o e=>(e0.bs b o e).1
 have kinds:∀ y∈ps.zip us,(aN st).names.lookup y.1=some .local\/((aN st).names.lookup y.1=some .cell/\((cellsFrom (s.heap.objs.size+1) (aN st).names []).lookup y.1).isSome=true):=fun⟨n,v⟩ hy=>(S.par n (List.of_mem_zip hy).1).imp (fun q=>q) fun q=>⟨q,PySem.W.cellsFrom_some _ _ _ (.inl q)⟩
 refine codeAny_call_function (by have:=hr.dp;omega) (KX _ _ lk) rfl S.co S.gen rfl (PySem.W.codeRec_of KX hcd) (hb _ _ _ _ ?_);refine wpAny_newFunctionEnv_cells S.kind kinds fun env he s1 y=>?_;subst he;refine⟨(e0.mod.nolimit.keeps fun b o e=>(e0.bs b o e).1).keeps y.toInCall.keep,codeAny_func ?_⟩
 have hr':jj k (A.deeper (envOfC qual (aN st) s.heap.objs.size f cdv)):=⟨by have:=hr.dp;show A.depth+1+3*k+5<_;omega,by have:=hr.un;show A.units+3+16*k+200<_;omega⟩
 obtain⟨t,ht,hq⟩:=hbody cdv A outer s H vs Q hr' hsp;have I0:Inv (gM CX0 P w K mg base N qual (aN st) f cdv { A with handled:=none } outer s H E0) [] (start N vs) H s1:=nH (A:={ A with handled:=none }) S rfl ⟨e0.frames,e0.mod,e0.bs,e0.bsz,e0.dA,e0.frf,e0.hok,e0.bare⟩ hl r y
 have I:Inv (cxH P w K mg base N qual (aN st) f cdv A outer s H) [] (start N vs) H s1:=⟨⟨I0.ok.mod,I0.ok.kind,I0.ok.glob,I0.ok.blt,I0.ok.above,I0.ok.inj,I0.ok.has,I0.ok.cab,⟨fun z=>(nomatch z),hx⟩,Around.frames_deeper e0.frames,I0.ok.stk,I0.ok.exf,I0.ok.bs,I0.ok.bsz,I0.ok.jc,I0.ok.iS,I0.ok.dA,I0.ok.frf⟩,I0.os,I0.bare,I0.base,I0.loc,I0.cell,I0.free,I0.c8,I0.pin,I0.hok,I0.len⟩
 refine wpAny_mono (ht [] s1 (start N vs) H _ I hq) (fun fl s' hs=>?_) fun e s' hs=>hs.elim
 cases fl with
 |ret u=>
  obtain⟨v,σ',H',J,rv,q⟩:=hs;exact⟨v,H',J.os,J.bare,J.base,J.hok,rv,q⟩
 |next=>
  obtain⟨σ',H',J,q⟩:=hs;exact⟨.non,H',J.os,J.bare,J.base,J.hok,rfl,q⟩
 |brk=>
  obtain⟨_,_,_,q⟩:=hs;exact q.elim
 |cont=>
  obtain⟨_,_,_,q⟩:=hs;exact q.elim
def Fun.okX(F:Fun K x qual st f fd)(S:fh N ps (aN st))(len:∀ vs H Q E,sp vs H Q E->vs.length=ps.length)
 (hbody:∀ (cdv:Value) (A:Around) (outer:List Env) (s:Shared) (H:Hp) (vs:List V) (Q:VK) (E:XK),cq k (A.deeper (envOfC qual (aN st) s.heap.objs.size f cdv))->sp vs H Q E->∃ t,PSs (gM (CXE P w) P w K mg base N qual (aN st) f cdv A outer s H E) (cu st) t/\t { nx:=fun _ H'=>Q .non H',rt:=Q } (start N vs) H):dO P w K mg base (CXE P w) (k+1) f fd ps sp:=by
 obtain⟨oc,od,kV,doc,pm,an,cdv,ct,osl,rfl,lk,hcd⟩:=F.ex;exact zH lk hcd S len fun A outer s H vs Q E hr hsp=>hbody cdv A outer s H vs Q E hr hsp
end
def xA(F:lR X.prog X.w X.K X.mg X.base k f fd ps sp)(hr:jj k X.A)(hg:Gl X x)(hm:X.mg x=some (.ref f))(hk:PySem.W.keepIn X.K (.ref f)=true)
 (hb:Binds X.K fd ps [])(ha:PA X (e::es) t)(hdb:(x == ("__debug__" : Str))=false)(he:starEach (e::es) X.env=(false,eval e X.env)::starEach es X.env)(hpl:(backTo pos (starEach es X.env)).any (·.1)=false) :
  PE X (.Call (.Name x p) (e::es) [] pos) (fun σ H Q=>t σ H fun vs H1=>sp vs H1 Q E0):=by
 intro pins s σ H Q I h;refine wpAny_Call_Name_kw (gj I hg hm ?_ hdb);refine PySem.W.callWith_K (h₀:=X.base) I.ok.mod.kin hk (thn (ha pos pins s σ H _ I h) fun us s1 ⟨vs,H1,I1,r,q⟩=>⟨I1.kIn,?_⟩) he hpl
 have hl:us.length=ps.length:=by rw[<-r.length];exact F.len _ _ _ q
 have hbb:=hb s1 us I1.kIn (by rw[List.append_nil];exact hl);rw[List.append_nil]at hbb
 have hx:HXH X.A H1:=by
  rcases I1.ok.hd.2 with z | ⟨h,o,u,vs,h1,h2,h3⟩
  ·exact .inl z
  ·exact .inr ⟨h,o,u,vs,h1,I1.base.cK _ _ _ h2,h3⟩
 refine wpAny_call (codeAny_mono (F.run X.A X.stack s1 H1 us vs Q hr hx I1.xZ hbb r q) fun r s' hq=>?_)
 cases r with
 | error e=>exact hq.elim
 |ok fl=>
  cases fl with
  | ret u=>exact I1.after hq
  | next=>exact False.elim hq
  | brk=>exact False.elim hq
  | cont=>exact False.elim hq
end L2
namespace RS
open PySem PySem.Spec PyProof.Rows L2
abbrev zu:Expr->Option (List Expr)
 | .JoinedStr vs _=>some vs
 | _=>none
def yR{e:Expr}{vs:List Expr}(h:zu e=some vs):∃ p,e=.JoinedStr vs p:=by
 cases e
 case JoinedStr=>cases h;exact⟨_,rfl⟩
 all_goals exact nos h
abbrev Cg:Expr->Option (Expr × Int × Option Expr)
 | .FormattedValue e c s _=>some (e,c,s)
 | _=>none
def A2{e x:Expr}{c:Int}{s:Option Expr}(h:Cg e=some (x,c,s)):∃ p,e=.FormattedValue x c s p:=by
 cases e
 case FormattedValue=>cases h;exact⟨_,rfl⟩
 all_goals exact nos h
abbrev uH:Stmt->Option (Option Expr × Option Expr)
 | .Raise e c _=>some (e,c)
 | _=>none
def vR{st:Stmt}{e c:Option Expr}(h:uH st=some (e,c)):∃ p,st=.Raise e c p:=by
 cases st
 case Raise=>cases h;exact⟨_,rfl⟩
 all_goals exact nos h
abbrev Ee:Stmt->Option (List Stmt × List ExceptHandler × List Stmt × List Stmt)
 | .Try b h o f _=>some (b,h,o,f)
 | _=>none
def AY{st:Stmt}{b o f:List Stmt}{h:List ExceptHandler}(z:Ee st=some (b,h,o,f)):∃ p,st=.Try b h o f p:=by
 cases st
 case Try=>cases z;exact⟨_,rfl⟩
 all_goals exact nos z
abbrev oI:ExceptHandler->Option Expr × Option Str × List Stmt
 | .ExceptHandler t n b _=>(t,n,b)
structure CC where
 N:List Str
 sc:Scope
 B:List Str
 G:List (Str × Int)
 F:List (Str × List Nat)
 calm:Bool
 hf:List Nat
 Xr:List Str
 Xs:List Str
abbrev Cs(scope sc:Scope):Scope:={ scope with names:=scope.names.map fun(n,k)=>if(k == NameKind.free&&sc.kind == .function&&sc.names.lookup n == some .cell)then(n,NameKind.cell)else(n,k) }
abbrev CC.inner(C:CC)(scope:Scope):CC:={ C with sc:=Cs scope C.sc }
abbrev iJ(x:Str):Bool:=!(x == ("__debug__" : Str)) && !(x == ("__classdict__" : Str))
abbrev yd(C:CC)(x:Str):Bool:=C.sc.names.lookup x == some .local || C.sc.names.lookup x == some .cell
abbrev xE(C:CC)(x:Str):Bool:=C.sc.names.lookup x == some .local || C.sc.names.lookup x == some .cell || C.sc.names.lookup x == some .free
abbrev glB(C:CC)(x:Str):Bool:=C.sc.names.lookup x == some .globalImplicit&&iJ x
abbrev kM(C:CC)(x:Str):Bool:=glB C x&&C.B.contains x
abbrev nmB(C:CC)(i:Nat)(x:Str):Bool:=C.N[i]? == some x&&iJ x
structure XOk(C:CC)(X:Cx)(cl:RL.Cl):Prop where
 scope:X.env.scope=C.sc
 names:X.N=C.N
 nd:C.N.Nodup
 calm:C.calm=true->X.calm=true
 xe:X.xe=fun _ _=>False
 hu:X.A.units+100<cLine
 blt:∀ x∈C.B,X.mg x=none
 glb:∀ x i,C.G.lookup x=some i->∃ u,X.mg x=some u/\RelV (.int i) u
 fns:∀ (f:Nat) (x:Str) (mp:List Nat),C.calm=true->C.F[f]?=some (x,mp)->∃ k fa fd ps,dO X.prog X.w X.K X.mg X.base CX0 k fa fd ps (if mp=[]then spF X.K cl f else spM X.K cl mp f)/\cq k X.A/\X.mg x=some (.ref fa)/\PySem.W.keepIn X.K (.ref fa)=true/\Binds X.K fd ps []
 hfn:∀ (f:Nat) (x:Str),C.hf.contains f=true->C.F[f]?=some (x,[])->∃ k fa fd ps,lR X.prog X.w X.K X.mg X.base k fa fd ps (spF X.K cl f)/\jj k X.A/\X.mg x=some (.ref fa)/\PySem.W.keepIn X.K (.ref fa)=true/\Binds X.K fd ps []
 cls:∀ c,C.Xr.contains c=true->∃ D,X.mg c=some (.ref D)/\Cls X.K c D
 ref:∀ c,C.Xs.contains c=true->∃ D,X.mg c=some (.ref D)/\PySem.W.nsIn X.K mainGlobals c=some (some (.ref D))
section
variable{C:CC}{X:Cx}{cl:RL.Cl}{e:Expr}
def XOk.vis(h:XOk C X cl){x:Str}(v:xE C x=true):Vis X.env.scope x:=by
 unfold xE at v;rw[<-h.scope,Bool.or_eq_true,Bool.or_eq_true,beq_iff_eq,beq_iff_eq,beq_iff_eq]at v;rcases v with(v | v) | v
 ·exact .inl v
 ·exact .inr (.inl v)
 ·exact .inr (.inr v)
def XOk.loc(h:XOk C X cl){x:Str}(v:yd C x=true):Loc X.env.scope x:=by
 unfold yd at v;rw[<-h.scope,Bool.or_eq_true,beq_iff_eq,beq_iff_eq]at v;exact v
def bM{x:Str}(h:iJ x=true):(x == ("__debug__" : Str))=false/\(x == ("__classdict__" : Str))=false:=by
 unfold iJ at h;rw[Bool.and_eq_true,Bool.not_eq_true',Bool.not_eq_true']at h;exact h
def XOk.gl(h:XOk C X cl){x:Str}(v:glB C x=true):Gl X x/\iJ x=true:=by
 unfold glB at v;rw[<-h.scope,Bool.and_eq_true,beq_iff_eq]at v;exact v
def XOk.bl(h:XOk C X cl){x:Str}(v:kM C x=true):Gl X x/\X.mg x=none:=by
 unfold kM at v;rw[Bool.and_eq_true]at v;exact⟨(h.gl v.1).1,h.blt x (by simpa using v.2)⟩
def XOk.nm(h:XOk C X cl){i:Nat}{x:Str}(v:nmB C i x=true):X.N[i]?=some x/\iJ x=true:=by
 unfold nmB at v;rw[<-h.names,Bool.and_eq_true,beq_iff_eq]at v;exact v
def XOk.ndX(h:XOk C X cl):X.N.Nodup:=by rw[h.names];exact h.nd
def XOk.blk(h:XOk C X cl){scope:Scope}(cls:List (Str × Addr))(Ca:Addr)(fp:List Addr)(s:Shared)(H:Hp):XOk (C.inner scope) (L2.blk X scope cls Ca fp s H) cl where
 scope:=by
  show relabel scope X.env=Cs scope C.sc;rw[<-h.scope];rfl
 names:=h.names
 nd:=h.nd
 calm:=h.calm
 xe:=rfl
 hu:=h.hu
 blt:=h.blt
 glb:=h.glb
 fns:=h.fns
 hfn:=h.hfn
 cls:=h.cls
 ref:=h.ref
abbrev hZ:RL.D->Const->Bool
 | .int i,.int j=>i == j
 | .bl i,.bool j=>i == j
 | .non,.none=>true
 | .str x,.str y=>x == y
 | _,_=>false
abbrev plainT:Expr->Bool
 | .UnaryOp .Not _ _=>false
 | .BoolOp _ _ _=>false
 | .IfExp _ _ _ _=>false
 | .Compare _ _ _ _=>false
 | _=>true
abbrev qz:Expr->Bool
 | .BoolOp _ _ _=>true
 | _=>false
abbrev ll:Expr->Bool
 | .Set _ _ _=>false
 | _=>true
abbrev uC:RL.Bi->Option Str
 | .len=>some "len"
 | .list=>some "list"
 | .tuple=>some "tuple"
 | .int=>some "int"
 | .all=>some "all"
 | _=>none
abbrev pq:RL.Ty->Str
 | .int => "int"
 | .bool => "bool"
 | .list => "list"
 | .tuple => "tuple"
 | .str => "str"
abbrev FG(neg:Bool):CmpOp:=if neg then .IsNot else .Is
abbrev DV(neg:Bool):CmpOp:=if neg then .NotIn else .In
abbrev jV(C:CC)(i:Nat)(e:Expr):Bool:=(dM e).any fun x=>nmB C i x&&xE C x
abbrev fZ(C:CC)(i:Nat)(e:Expr):Bool:=(dM e).any fun x=>nmB C i x&&yd C x
abbrev jZ(C:CC):List Nat->List Expr->Bool
 | [],es=>es.isEmpty
 | i::is,es=>match es with
  | e::es=>fZ C i e&&jZ C is es
  | []=>false
abbrev mn(C:CC)(tg:List Nat)(e:Expr):Bool :=
 match tg with
 | [i]=>fZ C i e
 | tg=>(jJ e).any fun es=>jZ C tg es
abbrev lH(C:CC)(scope:Scope)(tg:List Nat):Bool:=tg.all fun i=>match C.N[i]? with
 | some x=>scope.names.lookup x == some .local || scope.names.lookup x == some .cell
 | none=>false
abbrev lS(C:CC)(scope:Scope)(tg:List Nat):Bool:=(List.range C.N.length).all fun i=>match C.N[i]? with
 | some x=>!(scope.names.lookup x == some .local || scope.names.lookup x == some .cell) || tg.contains i
 | none=>true
abbrev scB(scope sc:Scope):Bool:=scope.kind == .function&&scope.names.all (fun x=>(!(x.2 == .cell) || scope.names.lookup x.1 == some .cell)&&(!(x.2 == .local) || scope.names.lookup x.1 == some .local)&&(!(x.2 == .free) || sc.names.lookup x.1 == some .cell || sc.names.lookup x.1 == some .free))
abbrev bQ(C:CC)(e:Expr)(nm:Str)(f:List Expr->Bool):Bool:=(ie e).any fun q=>(dM q.1).any (fun x=>x == nm&&kM C x)&&q.2.2.1.isEmpty&&q.2.1.all noStar&&f q.2.1
def bA{nm:Str}{f:List Expr->Bool}(h:XOk C X cl)(z:bQ C e nm f=true):∃ p as pos,e=.Call (.Name nm p) as [] pos/\Gl X nm/\X.mg nm=none/\as.all noStar=true/\f as=true:=by
 unfold bQ at z;obtain⟨⟨g,as,ks,pos⟩,z0,z⟩:=ao z;have e0:=dB z0;subst e0;obtain⟨z,z4⟩:=af z;obtain⟨z,z3⟩:=af z;obtain⟨z1,z2⟩:=af z;obtain⟨x,y0,z1⟩:=ao z1;obtain⟨p,rfl⟩:=cb y0;obtain⟨y1,y2⟩:=af z1;rw[beq_iff_eq]at y1;subst y1;obtain⟨b1,b2⟩:=h.bl y2;rw[List.isEmpty_iff]at z2;subst z2;exact⟨p,as,pos,rfl,b1,b2,z3,z4⟩
def all1{a:Expr}(h:[a].all noStar=true):noStar a=true:=by simpa using h
def all2{a b:Expr}(h:[a,b].all noStar=true):noStar a=true/\noStar b=true:=by simpa using h
def ip{a b c:Expr}(h:[a,b,c].all noStar=true):noStar a=true/\noStar b=true/\noStar c=true:=by simpa using h
end
abbrev uA:RL.It->Bool
 | .zip _ _=>true
 | _=>false
mutual
noncomputable def chk(C:CC)(t:Bool):RL.E->Expr->Bool
 | .var i=>fun e=>jV C i e
 | .cst d=>fun e=>(m8 e).any fun k=>hZ d k
 | .glb y i=>fun e=>(dM e).any fun x=>x == y&&glB C x&&C.G.lookup x == some i
 | .bin o a b=>fun e=>(ze e).any fun q=>q.2.1 == pj o&&chk C false a q.1&&chk C false b q.2.2
 | .neg a=>fun e=>(vUn e).any fun q=>q.1 == .USub&&chk C false a q.2
 | .cmp c a b=>fun e=>(kF e).any fun q=>of1 q.2.1 fun op=>of1 q.2.2 fun r=>op == du c&&chk C false a q.1&&chk C false b r
 | .chain c c' a b d=>fun e=>(kF e).any fun q=>of2 q.2.1 fun op op'=>of2 q.2.2 fun r s=>op == du c&&op' == du c'&&chk C false a q.1&&chk C false b r&&chk C false d s
 | .isN neg a=>fun e=>(kF e).any fun q=>of1 q.2.1 fun op=>of1 q.2.2 fun r=>op == FG neg&&(m8 r).any (fun k=>hZ .non k)&&chk C false a q.1
 | .inn neg a b=>fun e=>(kF e).any fun q=>of1 q.2.1 fun op=>of1 q.2.2 fun r=>op == DV neg&&kQ r&&chk C false a q.1&&chk C false b r
 | .inD neg a b=>fun e=>(kF e).any fun q=>of1 q.2.1 fun op=>of1 q.2.2 fun r=>op == DV neg&&kQ r&&chk C false a q.1&&chk C false b r
 | .and a b=>fun e=>(vBool e).any fun q=>ofM q.2.1 fun l r rest=>q.1 == .And&&chk C t a l&&(if rest.isEmpty then chk C t b r else chk C t b (.BoolOp .And (r::rest) q.2.2))
 | .or a b=>fun e=>(vBool e).any fun q=>ofM q.2.1 fun l r rest=>q.1 == .Or&&chk C t a l&&(if rest.isEmpty then chk C t b r else chk C t b (.BoolOp .Or (r::rest) q.2.2))
 | .not a=>fun e=>(vUn e).any fun q=>q.1 == .Not&&chk C t a q.2
 | .ifx c a b=>fun e=>(CP e).any fun q=>!t&&chk C true c q.1&&chk C false a q.2.1&&chk C false b q.2.2
 | .tup es=>fun e=>(jJ e).any fun xs=>jU C es xs&&decide (dY es<=1000)
 | .lst es=>fun e=>(E9 e).any fun xs=>jU C es xs&&decide (dY es<=1000)
 | .ix a b=>fun e=>(kJ e).any fun q=>kL q.2&&chk C false a q.1&&chk C false b q.2
 | .ixD a b=>fun e=>(kJ e).any fun q=>kL q.2&&chk C false a q.1&&chk C false b q.2
 | .slT a b=>fun e=>(kJ e).any fun q=>chk C false a q.1&&(vSl q.2).any fun s=>s.1.isNone&&s.2.2.isNone&&s.2.1.any fun r=>chk C false b r
 | .sxT a b=>fun e=>(kJ e).any fun q=>chk C false a q.1&&(vSl q.2).any fun s=>s.1.isNone&&s.2.2.isNone&&s.2.1.any fun r=>chk C false b r
 | .sxF a b=>fun e=>(kJ e).any fun q=>chk C false a q.1&&(vSl q.2).any fun s=>s.2.1.isNone&&s.2.2.isNone&&s.1.any fun r=>chk C false b r
 | .mulS a b=>fun e=>(ze e).any fun q=>q.2.1 == .Mult&&chk C false a q.1&&chk C false b q.2.2
 | .dd2 a b c d=>fun e=>(lp e).any fun q=>of2 q.1 fun k l=>of2 q.2 fun v w=>k.any (fun k=>chk C false a k)&&chk C false b v&&l.any (fun l=>chk C false c l)&&chk C false d w
 | .call f es=>fun e=>(C.calm || C.hf.contains f)&&(ie e).any fun q=>(dM q.1).any (fun x=>glB C x&&C.F[f]? == some (x,[]))&&q.2.2.1.isEmpty && !q.2.1.isEmpty&&jU C es q.2.1
 | .bi b a=>fun e=>C.calm&&match b with
  | .lenSet=>bQ C e "len" fun ys=>of1 ys fun y=>bQ C y "set" fun zs=>of1 zs fun z=>chk C false a z
  | b=>(uC b).any fun x=>bQ C e x fun ys=>of1 ys fun y=>chk C false a y
 | .max a b=>fun e=>C.calm&&bQ C e "max" fun ys=>of2 ys fun y z=>chk C false a y&&chk C false b z
 | .isi a ty=>fun e=>bQ C e "isinstance" fun ys=>of2 ys fun y z=>(dM z).any (fun x=>x == pq ty&&kM C x)&&chk C false a y
 | .rng1 a=>fun e=>C.calm&&bQ C e "list" fun ys=>of1 ys fun y=>bQ C y "range" fun zs=>of1 zs fun z=>chk C false a z
 | .rng3 c a b=>fun e=>C.calm&&bQ C e "list" fun ys=>of1 ys fun y=>bQ C y "range" fun zs=>of3 zs fun z u q=>gZ c q&&chk C false a z&&chk C false b u
 | .comp d tg it c=>fun e=>(tH e).any fun q=>of1 q.2.1 fun g=>of1 g.ifs fun w=>g.is_async == 0&&scB q.2.2.1 C.sc&&lS C q.2.2.1 tg&&ll g.iter&&mn (C.inner q.2.2.1) tg g.target&&lH C q.2.2.1 tg&&pO C it g.target g.iter&&chk (C.inner q.2.2.1) false d q.1&&chk (C.inner q.2.2.1) true c w&&(C.calm || uA it)
 | .compA d tg it=>fun e=>(tH e).any fun q=>of1 q.2.1 fun g=>g.ifs.isEmpty&&g.is_async == 0&&scB q.2.2.1 C.sc&&lS C q.2.2.1 tg&&ll g.iter&&mn (C.inner q.2.2.1) tg g.target&&lH C q.2.2.1 tg&&pO C it g.target g.iter&&chk (C.inner q.2.2.1) false d q.1&&C.calm
 | .dk0=>fun e=>(lp e).any fun q=>q.1.isEmpty&&q.2.isEmpty
 | .dt0=>fun e=>(lp e).any fun q=>q.1.isEmpty&&q.2.isEmpty
 | .getE a b c=>fun e=>(ie e).any fun q=>(oM q.1).any (fun u=>u.2.1 == ("get" : Str)&&u.2.2.endLine == q.2.2.2.line&&(lp u.1).isSome&&chk C false a u.1)&&q.2.2.1.isEmpty&&of2 q.2.1 fun y z=>noStar y&&noStar z&&chk C false b y&&chk C false c z
 | .join a=>fun e=>(ie e).any fun q=>(oM q.1).any (fun u=>u.2.1 == ("join" : Str)&&u.2.2.endLine == q.2.2.2.line&&(m8 u.1).any fun k=>hZ (.str ⟨#[]⟩) k)&&q.2.2.1.isEmpty&&of1 q.2.1 fun y=>noStar y&&chk C false a y
 | .isx a c=>fun e=>bQ C e "isinstance" fun ys=>of2 ys fun y z=>(dM z).any (fun x=>x == c&&(if c == ("ValueError" : Str)then kM C x else glB C x&&C.Xs.contains x&&cX.contains x))&&chk C false a y
noncomputable def jU(C:CC):RL.Es->List Expr->Bool
 | .nil=>fun xs=>xs.isEmpty
 | .cons e es=>fun xs=>match xs with
  | x::xs=>noStar x&&chk C false e x&&jU C es xs
  | []=>false
noncomputable def pO(C:CC):RL.It->Expr->Expr->Bool
 | .seq a=>fun _ e=>chk C false a e
 | .rng1 a=>fun _ e=>bQ C e "range" fun ys=>of1 ys fun y=>chk C false a y
 | .rng3 c a b=>fun _ e=>bQ C e "range" fun ys=>of3 ys fun y z q=>gZ c q&&chk C false a y&&chk C false b z
 | .chr a=>fun _ e=>chk C false a e
 | .enm a=>fun tg e=>(jJ tg).isSome&&bQ C e "enumerate" fun ys=>of1 ys fun y=>chk C false a y
 | .zip a b=>fun tg e=>(jJ tg).isSome&&bQ C e "zip" fun ys=>of2 ys fun y z=>chk C false a y&&chk C false b z
end
abbrev qi(X:Cx)(cl:RL.Cl)(e:Expr)(e':RL.E)(b b':Bool):Prop:=(b=true->SE X cl e e')/\(b'=true->ST X cl e e'/\(qz e=true->SW X cl e e'))
section
variable{C:CC}{X:Cx}{cl:RL.Cl}{e:Expr}{e':RL.E}{b:Bool}
def u6{env:Env}(h:plainT e=true)(whole:Sem Value):isTrue e env whole=(do let v <- whole;standAt e.pos;holding [v] (truthy v)):=by
 cases e<;>first
  | rfl
  | (cases h;done)
  | (rename_i op _ _;cases op<;>first | rfl | (cases h;done))
def aC(h:b=true->SE X cl e e'/\plainT e=true):qi X cl e e' b b :=
 ⟨fun z=>(h z).1,fun z=>⟨yN (h z).1 (u6 (h z).2),fun q=>by
  have:=(h z).2
  cases e<;>first | (cases q;done) | (cases this;done)⟩⟩
def gU(h:b=true->SE X cl e e'/\ST X cl e e'/\qz e=false):qi X cl e e' b b :=
 ⟨fun z=>(h z).1,fun z=>⟨(h z).2.1,fun q=>by rw[(h z).2.2]at q;cases q⟩⟩
def GK(h:b=false){b':Bool}(h':b'=false):qi X cl e e' b b':=⟨fun z=>(by rw[h]at z;cases z),fun z=>(by rw[h']at z;cases z)⟩
def D6{d:RL.D}{k:Const}{j:Nat}{pos:Pos}(h:hZ d k=true):SE X cl (.Constant k j pos) (.cst d):=by
 cases d<;>cases k<;>simp only[hZ]at h<;>first | (cases h;done) | skip
 case non.none=>exact lO qk (fun P H=>by rw[Rep]) rfl
 case bl.bool i j=>rw[beq_iff_eq]at h;subst h;exact lO F6 (fun P H=>qd) rfl
 case int.int i j=>rw[beq_iff_eq]at h;subst h;exact lO qG (fun P H=>bb) rfl
 case str.str i j=>rw[beq_iff_eq]at h;subst h;exact lO qu (fun P H=>df) rfl
def Bq{k:Const}(h:hZ .non k=true):k=.none:=by
 cases k<;>simp only[hZ]at h<;>first | (cases h;done) | rfl
def wO(t:RL.Ty):bootBuiltins (pq t)=some (.type (tyN t))/\pq t ≠ "__name__" /\ (pq t == ("__debug__" : Str))=false:=by
 cases t<;>exact⟨by decide +kernel,by decide +kernel,by decide +kernel⟩
def d8(h:ll e=true)(env:Env)(x:Value):foldedSetIterable e env x=pure x:=by
 cases e<;>first | rfl | (cases h;done)
def Fj(hcalm:X.calm=true){o:RL.Bi}{x:Str}{p pos:Pos}{y:Expr}{a':RL.E}(hx:uC o=some x)(hb:Gl X x)(hb2:X.mg x=none)(ha:SE X cl y a')(hn:noStar y=true):SE X cl (.Call (.Name x p) [y] [] pos) (.bi o a'):=by
 cases o<;>simp only[uC]at hx<;>first | (cases hx;done) | skip
 case len=>cases hx;exact B8 hb hb2 ha hn
 case list=>cases hx;exact Ac hb hb2 ha hn
 case tuple=>cases hx;exact yg hb hb2 ha hn
 case int=>cases hx;exact DZ hb hb2 ha hn
 case all=>cases hx;exact DF hcalm hb hb2 ha hn
def vN{r:Expr}(h:kL r=true):uv r:=by
 cases r<;>first | (cases h;done) | (intro a b;rfl) | skip
def gw{i:Nat}(h:XOk C X cl)(z:jV C i e=true):∃ x p,e=.Name x p/\X.N[i]?=some x/\Vis X.env.scope x/\(x == ("__debug__" : Str))=false/\(x == ("__classdict__" : Str))=false:=by
 obtain⟨x,z0,z⟩:=ao z;obtain⟨p,rfl⟩:=cb z0;obtain⟨z1,z2⟩:=af z;obtain⟨g1,g2⟩:=h.nm z1;exact⟨x,p,rfl,g1,h.vis z2,(bM g2).1,(bM g2).2⟩
def fq{i:Nat}(h:XOk C X cl)(z:fZ C i e=true):∃ x p,e=.Name x p/\X.N[i]?=some x/\Loc X.env.scope x:=by
 obtain⟨x,z0,z⟩:=ao z;obtain⟨p,rfl⟩:=cb z0;obtain⟨z1,z2⟩:=af z;exact⟨x,p,rfl,(h.nm z1).1,h.loc z2⟩
def jQ(h:XOk C X cl){T:List Nat}(hf:∀ i x,i∈T->X.N[i]?=some x->X.fn x=true\/X.env.scope.names.lookup x=some .local):∀ {is:List Nat} {es:List Expr},(∀ i∈is,i∈T)->jZ C is es=true->PGs X es (gs is)/\(assignEach es X.env).length=is.length/\(assignEach es X.env).findIdx? (·.1)=none
 | [],es,_,z=>by
  rw[jZ,List.isEmpty_iff]at z;subst z;exact⟨Bm,rfl,rfl⟩
 | i::is,[],_,z=>by cases z
 | i::is,e::es,hs,z=>by
  rw[jZ]at z;obtain⟨z1,z2⟩:=af z;obtain⟨x,p,rfl,g1,g2⟩:=fq h z1;obtain⟨h1,h2,h3⟩:=jQ h hf (fun j hj=>hs j (List.mem_cons_of_mem _ hj)) z2;refine⟨yk (rV h.ndX g1 g2 (hf i x (hs i List.mem_cons_self) g1)) h1,?_,?_⟩
  ·show(assignEach es X.env).length+1=is.length+1;rw[h2]
  ·show List.findIdx? (·.1) ((false,assign (.Name x p) X.env)::assignEach es X.env)=none;rw[List.findIdx?_cons];simp only[Bool.false_eq_true,if_false,h3,Option.map_none]
def rj{tg:List Nat}{tgE:Expr}(h:XOk C X cl)(hf:∀ i x,i∈tg->X.N[i]?=some x->X.fn x=true\/X.env.scope.names.lookup x=some .local)(hc:mn C tg tgE=true):PG X tgE (gT X.K tg):=by
 unfold mn at hc;split at hc
 ·obtain⟨x,p,rfl,g1,g2⟩:=fq h hc;exact rV h.ndX g1 g2 (hf _ x (by simp) g1)
 ·rename_i hne;obtain⟨es,z0,z⟩:=ao hc;obtain⟨k,p,rfl⟩:=dI z0;obtain⟨h1,h2,h3⟩:=jQ h hf (fun i hi=>hi) z
  have e:gT X.K tg=fun v σ H Q=>me X.K tg.length (gs tg) v σ H Q\/mL X.K tg.length (gs tg) v σ H Q:=by
   unfold gT;split
   ·rename_i i;exact absurd rfl (hne i)
   ·rfl
  rw[e];exact qf (mO h1 h2 h3) (mY h1 h2 h3)
section rulesH
variable{pos:Pos}
def ya(F:lR X.prog X.w X.K X.mg X.base k fa fd ps (spF X.K cl f))(hr:jj k X.A)(hg:Gl X x)
 (hm:X.mg x=some (.ref fa))(hk:PySem.W.keepIn X.K (.ref fa)=true)(hb:Binds X.K fd ps [])(he:SEs X cl (e::es) (.cons e' es'))(hdb:(x == ("__debug__" : Str))=false)(hn:noStar e=true)(hns:es.all noStar=true) :
  SE X cl (.Call (.Name x p) (e::es) [] pos) (.call f (.cons e' es')):=by
 refine PE.weak (xA F hr hg hm hk hb he hdb (ay es hn) (dC hns)) fun σ H Q h=>?_;obtain⟨σD,d,rv,ev,q⟩:=h;obtain⟨ds,e1,e2⟩:=bind_some ev;refine⟨σD,ds,rv,e1,fun vs H1 s1 r1=>?_⟩;refine⟨ds,d,r1,e2,fun v H2 s2 r2=>q v H2 ⟨s1.trans s2,r2.none,fun _ m a z=>?_,fun M _ P hP _=>?_⟩⟩
 ·subst z
  have hh:H1 a=none:=by
   cases d with
   | lst ds=>obtain⟨p,xs,e1,e2,_⟩:=aH r2;cases e1;exact Classical.byContradiction e2
   | dK ks ds=>rw[Rep]at r2;obtain⟨p,xs,e1,e2,_⟩:=r2;cases e1;exact Classical.byContradiction e2
   | dT ks ds=>rw[Rep]at r2;obtain⟨p,xs,e1,e2,_⟩:=r2;cases e1;exact Classical.byContradiction e2
   | _=>cases m
  exact s1.free hh
 ·refine r2.weak fun a z=>?_;obtain⟨o,ho⟩:=Option.ne_none_iff_exists'.mp (hP a z);rw[s1 _ _ ho]
  exact fun q=>nomatch q
end rulesH
def B3{x:Str}{i:Int}{pos:Pos}(h:XOk C X cl)(hg:glB C x=true)(hl:C.G.lookup x=some i):SE X cl (.Name x pos) (.glb x i):=by
 obtain⟨u,h1,h2⟩:=h.glb x i hl;obtain⟨g1,g2⟩:=h.gl hg;exact Dk (u:=u) (rP g1 h1 h2 (bM g2).1)
def AG{x:Str}{f:Nat}(hcal:(C.calm || C.hf.contains f)=true){p pos:Pos}{y:Expr}{ys:List Expr}{es:RL.Es}(h:XOk C X cl)(hg:glB C x=true)(hf:C.F[f]?=some (x,[]))(he:SEs X cl (y::ys) es)(hl:dY es=ys.length+1)(hn:noStar y=true)(hns:ys.all noStar=true) :
  SE X cl (.Call (.Name x p) (y::ys) [] pos) (.call f es):=by
 obtain⟨g1,g2⟩:=h.gl hg;by_cases hc:C.calm=true
 ·obtain⟨k,fa,fd,ps,F,hr,hm,hk,hb⟩:=h.fns f x [] hc hf;rw[if_pos rfl]at F
  cases es with
  | nil=>simp[dY]at hl
  | cons e' es'=>exact AR F hr g1 hm hk hb he (bM g2).1 hn hns
 ·have hh:C.hf.contains f=true:=by simpa[hc]using hcal
  obtain⟨k,fa,fd,ps,F,hr,hm,hk,hb⟩:=h.hfn f x hh hf
  cases es with
  | nil=>simp[dY]at hl
  | cons e' es'=>exact ya F hr g1 hm hk hb he (bM g2).1 hn hns
def lI{scope sc:Scope}(h:scB scope sc=true):mr scope sc:=by
 unfold scB at h;obtain⟨h1,h2⟩:=af h;rw[List.all_eq_true]at h2;refine⟨by simpa using h1,fun x hx z=>?_,fun x hx z=>?_,fun x hx z=>?_⟩
 ·have:=h2 x hx;rw[z]at this;simpa using this
 ·have:=h2 x hx;rw[z]at this;simpa using this
 ·have:=h2 x hx;rw[z]at this;simpa using this
def iO{scope:Scope}{tg:List Nat}(h:lS C scope tg=true)(i:Nat)(x:Str)(hx:C.N[i]?=some x)(hl:scope.names.lookup x=some .local\/scope.names.lookup x=some .cell):tg.contains i=true:=by
 unfold lS at h;rw[List.all_eq_true]at h;have:=h i (List.mem_range.mpr (List.getElem?_eq_some_iff.mp hx).1);rw[hx]at this;rcases hl with hl | hl
 ·simp only[hl,beq_self_eq_true,Bool.true_or,Bool.not_true,Bool.false_or]at this;exact this
 ·simp only[hl,beq_self_eq_true,Bool.or_true,Bool.not_true,Bool.false_or]at this;exact this
def nj{X:Cx}{cls:List (Str × Addr)}{scope:Scope}{Ca:Addr}{fp:List Addr}{s:Shared}{H:Hp}{pins:List (Addr × Obj)}{s':Shared}{σ:L2.St}{H':Hp}{Q:Bool->Hp->Prop}(I:Inv (L2.blk X scope cls Ca fp s H) pins σ H' s')(q:lC σ H' Q) :
  wpAny (model X.prog X.w) X.A (gO [] (compEnvC scope cls Ca X.env)) (TP (L2.blk X scope cls Ca fp s H) pins σ Q) (fun _ _=>False) s':=by
 unfold gO;exact wpAny_pure ⟨H',I,q⟩
def nc{X:Cx}{cls:List (Str × Addr)}{scope:Scope}{Ca:Addr}{fp:List Addr}{s:Shared}{H:Hp}{pins:List (Addr × Obj)}{s':Shared}{σ:L2.St}{H':Hp}{Q:Bool->Hp->Prop}{c:Expr}{t:TT}(hc:PT (L2.blk X scope cls Ca fp s H) c t)(I:Inv (L2.blk X scope cls Ca fp s H) pins σ H' s')(q:t σ H' Q) :
  wpAny (model X.prog X.w) X.A (gO [c] (compEnvC scope cls Ca X.env)) (TP (L2.blk X scope cls Ca fp s H) pins σ Q) (fun _ _=>False) s':=by
 have h:=hc pins s' σ H' Q I q;unfold gO;simp only[List.forIn_cons,List.forIn_nil,if_true];refine wpAny_bind (wpAny_bind (thn h fun b s1 hb=>wpAny_pure ?_));exact wpAny_pure hb
def lG(h:XOk C X cl){scope:Scope}{cls:List (Str × Addr)}{Ca:Addr}{fp:List Addr}{s:Shared}{H:Hp}{tg:List Nat}(ha:lH C scope tg=true){tgE:Expr}(hc:mn (C.inner scope) tg tgE=true):PG (L2.blk X scope cls Ca fp s H) tgE (gT X.K tg):=by
 have hb:=h.blk (scope:=scope) cls Ca fp s H;unfold lH at ha;rw[List.all_eq_true]at ha;refine rj hb (fun i x hi hx=>?_) hc;have:=ha i hi;have hx:X.N[i]?=some x:=hx;rw[h.names]at hx;rw[hx]at this;simp only[Bool.or_eq_true,beq_iff_eq]at this;rcases this with z | z
 ·exact .inr (lookup_relabel_local z)
 ·exact .inl (by show(scope.names.lookup x == some .cell)=true;rw[z];rfl)
def eF{α:Type}{o:Option α}(h:o.isNone=true):o=none:=by
 cases o with
 | none=>rfl
 | some _=>cases h
end
mutual
theorem ak{cl:RL.Cl}:∀ (e':RL.E) {C:CC} {X:Cx} (h:XOk C X cl) (e:Expr),qi X cl e e' (chk C false e' e) (chk C true e' e)
 | .var i,C,X,h,e=>aC (b:=chk C false (.var i) e) fun z=>by
  obtain⟨x,p,rfl,g1,g2,g3,g4⟩:=gw h z;exact⟨CN g1 g2 g3 g4,rfl⟩
 | .cst d,C,X,h,e=>aC (b:=chk C false (.cst d) e) fun z=>by
  obtain⟨k,z0,z⟩:=ao z;obtain⟨j,p,rfl⟩:=i4 z0;exact⟨D6 z,rfl⟩
 | .glb y i,C,X,h,e=>aC (b:=chk C false (.glb y i) e) fun z=>by
  obtain⟨x,z0,z⟩:=ao z;obtain⟨p,rfl⟩:=cb z0;obtain⟨z,z3⟩:=af z;obtain⟨z1,z2⟩:=af z;rw[beq_iff_eq]at z1 z3;subst z1;exact⟨B3 h z2 z3,rfl⟩
 | .bin o a b,C,X,h,e=>aC (b:=chk C false (.bin o a b) e) fun z=>by
  obtain⟨⟨l,op,r⟩,z0,z⟩:=ao z;obtain⟨p,rfl⟩:=rM z0;obtain⟨z,z3⟩:=af z;obtain⟨z1,z2⟩:=af z;rw[beq_iff_eq]at z1;have z1:op=pj o:=z1;subst z1;exact⟨Cy ((ak a h l).1 z2) ((ak b h r).1 z3),rfl⟩
 | .neg a,C,X,h,e=>aC (b:=chk C false (.neg a) e) fun z=>by
  obtain⟨⟨op,x⟩,z0,z⟩:=ao z;obtain⟨p,rfl⟩:=pI z0;obtain⟨z1,z2⟩:=af z;rw[beq_iff_eq]at z1;have z1:op=.USub:=z1;subst z1;exact⟨Ej ((ak a h x).1 z2),rfl⟩
 | .cmp c a b,C,X,h,e=>gU (b:=chk C false (.cmp c a b) e) fun z=>by
  obtain⟨⟨l,os,rs⟩,z0,z⟩:=ao z;obtain⟨p,rfl⟩:=gx z0;obtain⟨op,y1,z⟩:=aM z;obtain⟨r,y2,z⟩:=aM z;have y1:os=[op]:=y1;have y2:rs=[r]:=y2;subst y1 y2;obtain⟨z,z3⟩:=af z;obtain⟨z1,z2⟩:=af z;rw[beq_iff_eq]at z1;subst z1;exact⟨Dx h.hu ((ak a h l).1 z2) ((ak b h r).1 z3),B4 h.hu ((ak a h l).1 z2) ((ak b h r).1 z3),rfl⟩
 | .chain c c' a b d,C,X,h,e=>gU (b:=chk C false (.chain c c' a b d) e) fun z=>by
  obtain⟨⟨l,os,rs⟩,z0,z⟩:=ao z;obtain⟨p,rfl⟩:=gx z0;obtain⟨op,op',y1,z⟩:=da z;obtain⟨r,s,y2,z⟩:=da z;have y1:os=[op,op']:=y1;have y2:rs=[r,s]:=y2;subst y1 y2;obtain⟨z,z5⟩:=af z;obtain⟨z,z4⟩:=af z;obtain⟨z,z3⟩:=af z;obtain⟨z1,z2⟩:=af z;rw[beq_iff_eq]at z1 z2;subst z1 z2;exact⟨yc h.hu ((ak a h l).1 z3) ((ak b h r).1 z4) ((ak d h s).1 z5),ym h.hu ((ak a h l).1 z3) ((ak b h r).1 z4) ((ak d h s).1 z5),rfl⟩
 | .isN neg a,C,X,h,e=>gU (b:=chk C false (.isN neg a) e) fun z=>by
  obtain⟨⟨l,os,rs⟩,z0,z⟩:=ao z;obtain⟨p,rfl⟩:=gx z0;obtain⟨op,y1,z⟩:=aM z;obtain⟨r,y2,z⟩:=aM z;have y1:os=[op]:=y1;have y2:rs=[r]:=y2;subst y1 y2;obtain⟨z,z3⟩:=af z;obtain⟨z1,z2⟩:=af z;rw[beq_iff_eq]at z1;subst z1;obtain⟨k,w0,w⟩:=ao z2;obtain⟨j,q,rfl⟩:=i4 w0;have w:=Bq w;subst w;exact⟨BB ((ak a h l).1 z3),BH ((ak a h l).1 z3),rfl⟩
 | .inn neg a b,C,X,h,e=>gU (b:=chk C false (.inn neg a b) e) fun z=>by
  obtain⟨⟨l,os,rs⟩,z0,z⟩:=ao z;obtain⟨p,rfl⟩:=gx z0;obtain⟨op,y1,z⟩:=aM z;obtain⟨r,y2,z⟩:=aM z;have y1:os=[op]:=y1;have y2:rs=[r]:=y2;subst y1 y2;obtain⟨z,z4⟩:=af z;obtain⟨z,z3⟩:=af z;obtain⟨z1,z2⟩:=af z;rw[beq_iff_eq]at z1;subst z1;exact⟨Ct ((ak a h l).1 z3) ((ak b h r).1 z4) z2,Er ((ak a h l).1 z3) ((ak b h r).1 z4) z2,rfl⟩
 | .inD neg a b,C,X,h,e=>gU (b:=chk C false (.inD neg a b) e) fun z=>by
  obtain⟨⟨l,os,rs⟩,z0,z⟩:=ao z;obtain⟨p,rfl⟩:=gx z0;obtain⟨op,y1,z⟩:=aM z;obtain⟨r,y2,z⟩:=aM z;have y1:os=[op]:=y1;have y2:rs=[r]:=y2;subst y1 y2;obtain⟨z,z4⟩:=af z;obtain⟨z,z3⟩:=af z;obtain⟨z1,z2⟩:=af z;rw[beq_iff_eq]at z1;subst z1;exact⟨Dm h.hu ((ak a h l).1 z3) ((ak b h r).1 z4) z2,Ei h.hu ((ak a h l).1 z3) ((ak b h r).1 z4) z2,rfl⟩
 | .and a b,C,X,h,e=>⟨(fun z=>by
   obtain⟨⟨op,es,p⟩,z0,z⟩:=ao z;obtain⟨l,r,rest,y1,z⟩:=lj z;have e0:=iT z0;have y1:es=l::r::rest:=y1;obtain⟨z,z3⟩:=af z;obtain⟨z1,z2⟩:=af z;rw[beq_iff_eq]at z1;have z1:op=.And:=z1;subst y1 z1 e0;refine C2 ((ak a h l).1 z2) ?_;split at z3
   ·rename_i hr;rw[List.isEmpty_iff]at hr;subst hr;exact wG ((ak b h r).1 z3)
   ·exact(ak b h _).1 z3),(fun z=>by
   obtain⟨⟨op,es,p⟩,z0,z⟩:=ao z;obtain⟨l,r,rest,y1,z⟩:=lj z;have e0:=iT z0;have y1:es=l::r::rest:=y1;obtain⟨z,z3⟩:=af z;obtain⟨z1,z2⟩:=af z;rw[beq_iff_eq]at z1;have z1:op=.And:=z1;subst y1 z1 e0
   have w:SW X cl (.BoolOp .And (l::r::rest) p) (.and a b):=by
    refine D4 ((ak a h l).2 z2).1 ?_;split at z3
    ·rename_i hr;rw[List.isEmpty_iff]at hr;subst hr;exact xf ((ak b h r).2 z3).1
    ·exact((ak b h _).2 z3).2 rfl
   exact⟨w.pt,fun _=>w⟩)⟩
 | .or a b,C,X,h,e=>⟨(fun z=>by
   obtain⟨⟨op,es,p⟩,z0,z⟩:=ao z;obtain⟨l,r,rest,y1,z⟩:=lj z;have e0:=iT z0;have y1:es=l::r::rest:=y1;obtain⟨z,z3⟩:=af z;obtain⟨z1,z2⟩:=af z;rw[beq_iff_eq]at z1;have z1:op=.Or:=z1;subst y1 z1 e0;refine Fd ((ak a h l).1 z2) ?_;split at z3
   ·rename_i hr;rw[List.isEmpty_iff]at hr;subst hr;exact wG ((ak b h r).1 z3)
   ·exact(ak b h _).1 z3),(fun z=>by
   obtain⟨⟨op,es,p⟩,z0,z⟩:=ao z;obtain⟨l,r,rest,y1,z⟩:=lj z;have e0:=iT z0;have y1:es=l::r::rest:=y1;obtain⟨z,z3⟩:=af z;obtain⟨z1,z2⟩:=af z;rw[beq_iff_eq]at z1;have z1:op=.Or:=z1;subst y1 z1 e0
   have w:SW X cl (.BoolOp .Or (l::r::rest) p) (.or a b):=by
    refine Fu ((ak a h l).2 z2).1 ?_;split at z3
    ·rename_i hr;rw[List.isEmpty_iff]at hr;subst hr;exact xf ((ak b h r).2 z3).1
    ·exact((ak b h _).2 z3).2 rfl
   exact⟨w.pt,fun _=>w⟩)⟩
 | .not a,C,X,h,e=>⟨(fun z=>by
   obtain⟨⟨op,x⟩,z0,z⟩:=ao z;obtain⟨p,rfl⟩:=pI z0;obtain⟨z1,z2⟩:=af z;rw[beq_iff_eq]at z1;have z1:op=.Not:=z1;subst z1
   exact D0 ((ak a h x).1 z2)),(fun z=>by
   obtain⟨⟨op,x⟩,z0,z⟩:=ao z;obtain⟨p,rfl⟩:=pI z0;obtain⟨z1,z2⟩:=af z;rw[beq_iff_eq]at z1;have z1:op=.Not:=z1;subst z1
   exact⟨DO ((ak a h x).2 z2).1,fun q=>by cases q⟩)⟩
 | .ifx c a b,C,X,h,e=>⟨(fun z=>by
   obtain⟨⟨q,l,r⟩,z0,z⟩:=ao z;obtain⟨p,rfl⟩:=zV z0;obtain⟨z,z4⟩:=af z;obtain⟨z,z3⟩:=af z;obtain⟨z1,z2⟩:=af z
   exact E5 ((ak c h q).2 z2).1 ((ak a h l).1 z3) ((ak b h r).1 z4)),(fun z=>by
   obtain⟨⟨q,l,r⟩,z0,z⟩:=ao z;obtain⟨z,z4⟩:=af z;obtain⟨z,z3⟩:=af z;obtain⟨z1,z2⟩:=af z
   cases z1)⟩
 | .tup es,C,X,h,e=>aC (b:=chk C false (.tup es) e) fun z=>by
  obtain⟨xs,z0,z⟩:=ao z;obtain⟨k,p,rfl⟩:=dI z0;obtain⟨z1,z2⟩:=af z;exact⟨CA (gR es h _ z1).1 (by simpa using z2),rfl⟩
 | .lst es,C,X,h,e=>aC (b:=chk C false (.lst es) e) fun z=>by
  obtain⟨xs,z0,z⟩:=ao z;obtain⟨p,rfl⟩:=Bw z0;obtain⟨z1,z2⟩:=af z;exact⟨Cc (gR es h _ z1).1 (by simpa using z2),rfl⟩
 | .ix a b,C,X,h,e=>aC (b:=chk C false (.ix a b) e) fun z=>by
  obtain⟨⟨l,r⟩,z0,z⟩:=ao z;obtain⟨p,rfl⟩:=eX z0;obtain⟨z,z3⟩:=af z;obtain⟨z1,z2⟩:=af z;exact⟨Fs ((ak a h l).1 z2) ((ak b h r).1 z3) z1,rfl⟩
 | .ixD a b,C,X,h,e=>aC (b:=chk C false (.ixD a b) e) fun z=>by
  obtain⟨⟨l,r⟩,z0,z⟩:=ao z;obtain⟨p,rfl⟩:=eX z0;obtain⟨z,z3⟩:=af z;obtain⟨z1,z2⟩:=af z;exact⟨By h.hu ((ak a h l).1 z2) ((ak b h r).1 z3) (vN z1),rfl⟩
 | .slT a b,C,X,h,e=>aC (b:=chk C false (.slT a b) e) fun z=>by
  obtain⟨⟨l,s⟩,z0,z⟩:=ao z;obtain⟨p,rfl⟩:=eX z0;obtain⟨z1,z⟩:=af z;obtain⟨⟨s1,s2,s3⟩,z0,z⟩:=ao z;obtain⟨q,e0⟩:=pZ z0;have e0:s=.Slice s1 s2 s3 q:=e0;obtain⟨z,z4⟩:=af z;obtain⟨z2,z3⟩:=af z;have w2:s1=none:=eF z2;have w3:s3=none:=eF z3;obtain⟨r,y0,z4⟩:=ao z4;have y1:s2=some r:=y0;rw[w2,w3,y1]at e0;subst e0;exact⟨De ((ak a h l).1 z1) ((ak b h r).1 z4),rfl⟩
 | .sxT a b,C,X,h,e=>aC (b:=chk C false (.sxT a b) e) fun z=>by
  obtain⟨⟨l,s⟩,z0,z⟩:=ao z;obtain⟨p,rfl⟩:=eX z0;obtain⟨z1,z⟩:=af z;obtain⟨⟨s1,s2,s3⟩,z0,z⟩:=ao z;obtain⟨q,e0⟩:=pZ z0;have e0:s=.Slice s1 s2 s3 q:=e0;obtain⟨z,z4⟩:=af z;obtain⟨z2,z3⟩:=af z;have w2:s1=none:=eF z2;have w3:s3=none:=eF z3;obtain⟨r,y0,z4⟩:=ao z4;have y1:s2=some r:=y0;rw[w2,w3,y1]at e0;subst e0;exact⟨Ef ((ak a h l).1 z1) ((ak b h r).1 z4),rfl⟩
 | .sxF a b,C,X,h,e=>aC (b:=chk C false (.sxF a b) e) fun z=>by
  obtain⟨⟨l,s⟩,z0,z⟩:=ao z;obtain⟨p,rfl⟩:=eX z0;obtain⟨z1,z⟩:=af z;obtain⟨⟨s1,s2,s3⟩,z0,z⟩:=ao z;obtain⟨q,e0⟩:=pZ z0;have e0:s=.Slice s1 s2 s3 q:=e0;obtain⟨z,z4⟩:=af z;obtain⟨z2,z3⟩:=af z;have w2:s2=none:=eF z2;have w3:s3=none:=eF z3;obtain⟨r,y0,z4⟩:=ao z4;have y1:s1=some r:=y0;rw[w2,w3,y1]at e0;subst e0;exact⟨Cq ((ak a h l).1 z1) ((ak b h r).1 z4),rfl⟩
 | .mulS a b,C,X,h,e=>aC (b:=chk C false (.mulS a b) e) fun z=>by
  obtain⟨⟨l,op,r⟩,z0,z⟩:=ao z;obtain⟨p,rfl⟩:=rM z0;obtain⟨z,z3⟩:=af z;obtain⟨z1,z2⟩:=af z;rw[beq_iff_eq]at z1;have z1:op=.Mult:=z1;subst z1;exact⟨A3 ((ak a h l).1 z2) ((ak b h r).1 z3),rfl⟩
 | .dd2 a b c d,C,X,h,e=>aC (b:=chk C false (.dd2 a b c d) e) fun z=>by
  obtain⟨⟨ks,vs⟩,z0,z⟩:=ao z;obtain⟨p,rfl⟩:=ji z0;obtain⟨k,l,y1,z⟩:=da z;obtain⟨v,w,y2,z⟩:=da z;have y1:ks=[k,l]:=y1;have y2:vs=[v,w]:=y2;subst y1 y2;obtain⟨z,z4⟩:=af z;obtain⟨z,z3⟩:=af z;obtain⟨z1,z2⟩:=af z;obtain⟨k',rfl,z1⟩:=ao z1;obtain⟨l',rfl,z3⟩:=ao z3;exact⟨Ew ((ak a h k').1 z1) ((ak b h v).1 z2) ((ak c h l').1 z3) ((ak d h w).1 z4),rfl⟩
 | .call f es,C,X,h,e=>aC (b:=chk C false (.call f es) e) fun z=>by
  obtain⟨zc,z⟩:=af z;obtain⟨⟨g,as,ks,p⟩,z0,z⟩:=ao z;have z0:=dB z0;subst z0;obtain⟨z,z4⟩:=af z;obtain⟨z,z3⟩:=af z;obtain⟨z1,z2⟩:=af z;obtain⟨x,y0,z1⟩:=ao z1;obtain⟨q,e0⟩:=cb y0;have e0:g=.Name x q:=e0;obtain⟨y1,y2⟩:=af z1;rw[beq_iff_eq]at y2
  have w2:ks=[]:=by rw[List.isEmpty_iff]at z2;exact z2
  subst e0 w2;obtain⟨q1,q2,q3⟩:=gR es h _ z4;dsimp only at z3 q1 q2 q3
  cases as with
  | nil=>cases z3
  |cons y ys=>
   rw[List.all_cons]at q3;exact⟨AG zc h y1 y2 q1 q2 (af q3).1 (af q3).2,rfl⟩
 | .bi o a,C,X,h,e=>by
  have gen:(∀ t,chk C t (.bi o a) e=(C.calm&&(uC o).any fun x=>bQ C e x fun ys=>of1 ys fun y=>chk C false a y))->qi X cl e (.bi o a) (chk C false (.bi o a) e) (chk C true (.bi o a) e):=fun heq=>by
   rw[heq,heq];refine aC fun z=>?_;obtain⟨zc,z⟩:=af z;obtain⟨x,y0,z⟩:=ao z;obtain⟨p,as,pos,rfl,b1,b2,z3,z4⟩:=bA h z;obtain⟨y,rfl,z4⟩:=aM z4;exact⟨Fj (h.calm zc) y0 b1 b2 ((ak a h y).1 z4) (all1 z3),rfl⟩
  cases o
  case lenSet =>
   refine aC (b:=chk C false (.bi .lenSet a) e) fun z=>?_;obtain⟨zc,z⟩:=af z;obtain⟨p,as,pos,rfl,b1,b2,z3,z4⟩:=bA h z;obtain⟨y,rfl,z5⟩:=aM z4;obtain⟨p',as',pos',rfl,b1',b2',z3',z6⟩:=bA h z5;obtain⟨y,rfl,z7⟩:=aM z6;exact⟨wY (h.calm zc) b1 b2 b1' b2' ((ak a h y).1 z7) (all1 z3'),rfl⟩
  all_goals exact gen fun t=>rfl
 | .max a b,C,X,h,e=>aC (b:=chk C false (.max a b) e) fun z=>by
  obtain⟨zc,z⟩:=af z;obtain⟨p,as,pos,rfl,b1,b2,z3,z4⟩:=bA h z;obtain⟨y,u,rfl,z4⟩:=da z4;exact⟨BV (h.calm zc) b1 b2 ((ak a h y).1 (af z4).1) ((ak b h u).1 (af z4).2) (all2 z3).1 (all2 z3).2,rfl⟩
 | .isi a ty,C,X,h,e=>aC (b:=chk C false (.isi a ty) e) fun z=>by
  have z:(bQ C e "isinstance" fun ys=>of2 ys fun y z=>(dM z).any (fun x=>x == pq ty&&kM C x)&&chk C false a y)=true:=z;obtain⟨p,as,pos,rfl,b1,b2,z3,z4⟩:=bA h z;obtain⟨y,u,rfl,z4⟩:=da z4;obtain⟨z5,z6⟩:=af z4;obtain⟨x,w0,w⟩:=ao z5;obtain⟨q,rfl⟩:=cb w0;obtain⟨w1,w2⟩:=af w;rw[beq_iff_eq]at w1;subst w1;obtain⟨t1,t2,t3⟩:=wO ty;exact⟨B5 b1 b2 (h.bl w2).1 (h.bl w2).2 t1 t2 t3 ((ak a h y).1 z6) (all2 z3).1,rfl⟩
 | .rng1 a,C,X,h,e=>aC (b:=chk C false (.rng1 a) e) fun z=>by
  obtain⟨zc,z⟩:=af z;obtain⟨p,as,pos,rfl,b1,b2,z3,z4⟩:=bA h z;obtain⟨y,rfl,z5⟩:=aM z4;obtain⟨p',as',pos',rfl,b1',b2',z3',z6⟩:=bA h z5;obtain⟨y,rfl,z7⟩:=aM z6;exact⟨A4 (h.calm zc) b1 b2 b1' b2' ((ak a h y).1 z7) (all1 z3'),rfl⟩
 | .rng3 c a b,C,X,h,e=>aC (b:=chk C false (.rng3 c a b) e) fun z=>by
  obtain⟨zc,z⟩:=af z;obtain⟨p,as,pos,rfl,b1,b2,z3,z4⟩:=bA h z;obtain⟨y,rfl,z5⟩:=aM z4;obtain⟨p',as',pos',rfl,b1',b2',z3',z6⟩:=bA h z5;obtain⟨y,u,q,rfl,z7⟩:=pG z6;obtain⟨z7,z9⟩:=af z7;obtain⟨z7,z8⟩:=af z7;exact⟨AN (h.calm zc) b1 b2 b1' b2' ((ak a h y).1 z8) ((ak b h u).1 z9) (ip z3').1 (ip z3').2.1 z7,rfl⟩
 | .comp d tg it c,C,X,h,e=>aC (b:=chk C false (.comp d tg it c) e) fun z=>by
  obtain⟨⟨elt,gens,scope,p⟩,z0,z⟩:=ao z;have z0:=qb z0;subst z0;obtain⟨⟨tgE,iter,ifs,asy⟩,y1,z⟩:=aM z;have y1:gens=[⟨tgE,iter,ifs,asy⟩]:=y1;obtain⟨w,y2,z⟩:=aM z;have y2:ifs=[w]:=y2;obtain⟨z,zc⟩:=af z;obtain⟨z,z8⟩:=af z;obtain⟨z,z7⟩:=af z;obtain⟨z,z6⟩:=af z;obtain⟨z,z5⟩:=af z;obtain⟨z,z4⟩:=af z;obtain⟨z,z3⟩:=af z;obtain⟨z,z2⟩:=af z;obtain⟨z0,z1⟩:=af z;rw[beq_iff_eq]at z0;have w0:asy=0:=z0;subst y1 w0;subst y2
  have B:jf X cl scope tgE tg elt d (tT X.K cl c) [w]:=⟨fun cls Ca fp s H=>lG h z5 z4,fun cls Ca fp s H pins s' σ H' Q I q=>nc ((ak c (h.blk cls Ca fp s H) _).2 z8).1 I q,fun cls Ca fp s H=>(ak d (h.blk cls Ca fp s H) _).1 z7,fun i x hx hl=>iO z2 i x (by rw[<-h.names];exact hx) hl⟩
  by_cases hc:C.calm=true
  ·exact⟨pd (fun _ _ _ _=>h.calm hc) (by rw[h.scope];exact lI z1) (gq it h _ _ z6) B (d8 z3 _),rfl⟩
  ·have hz:uA it=true:=by simpa[hc]using zc
   exact⟨pd (CM:=fun _=>True) (fun _ _ _ _=>trivial) (by rw[h.scope];exact lI z1) (Bf it h _ _ z6 hz) B (d8 z3 _),rfl⟩
 | .compA d tg it,C,X,h,e=>aC (b:=chk C false (.compA d tg it) e) fun z=>by
  obtain⟨⟨elt,gens,scope,p⟩,z0,z⟩:=ao z;have z0:=qb z0;subst z0;obtain⟨⟨tgE,iter,ifs,asy⟩,y1,z⟩:=aM z;have y1:gens=[⟨tgE,iter,ifs,asy⟩]:=y1;obtain⟨z,zc⟩:=af z;obtain⟨z,z7⟩:=af z;obtain⟨z,z6⟩:=af z;obtain⟨z,z5⟩:=af z;obtain⟨z,z4⟩:=af z;obtain⟨z,z3⟩:=af z;obtain⟨z,z2⟩:=af z;obtain⟨z,z1⟩:=af z;obtain⟨y2,z0⟩:=af z;rw[beq_iff_eq]at z0;have w0:asy=0:=z0
  have w2:ifs=[]:=by rw[List.isEmpty_iff]at y2;exact y2
  subst y1 w0;subst w2;refine⟨xI (h.calm zc) (by rw[h.scope];exact lI z1) (gq it h _ _ z6) ?_ (d8 z3 _),rfl⟩;exact⟨fun cls Ca fp s H=>lG h z5 z4,fun cls Ca fp s H pins s' σ H' Q I q=>nj I q,fun cls Ca fp s H=>(ak d (h.blk cls Ca fp s H) _).1 z7,fun i x hx hl=>iO z2 i x (by rw[<-h.names];exact hx) hl⟩
 | .dk0,C,X,h,e=>aC (b:=chk C false .dk0 e) fun z=>by
  obtain⟨⟨ks,vs⟩,z0,z⟩:=ao z;obtain⟨p,rfl⟩:=ji z0;obtain⟨z1,z2⟩:=af z;rw[List.isEmpty_iff]at z1 z2;have z1:ks=[]:=z1;have z2:vs=[]:=z2;subst z1 z2;exact⟨C9,rfl⟩
 | .dt0,C,X,h,e=>aC (b:=chk C false .dt0 e) fun z=>by
  obtain⟨⟨ks,vs⟩,z0,z⟩:=ao z;obtain⟨p,rfl⟩:=ji z0;obtain⟨z1,z2⟩:=af z;rw[List.isEmpty_iff]at z1 z2;have z1:ks=[]:=z1;have z2:vs=[]:=z2;subst z1 z2;exact⟨CH,rfl⟩
 | .getE a b c,C,X,h,e=>aC (b:=chk C false (.getE a b c) e) fun z=>by
  obtain⟨⟨g,as,ks,p⟩,z0,z⟩:=ao z;have z0:=dB z0;obtain⟨z,z3⟩:=af z;obtain⟨z1,z2⟩:=af z;obtain⟨⟨o,nm,apos⟩,y0,z1⟩:=ao z1;have e1:=kW y0;have e1:g=.Attribute o nm apos:=e1;obtain⟨z1,y4⟩:=af z1;obtain⟨z1,y3⟩:=af z1;obtain⟨y1,y2⟩:=af z1;rw[beq_iff_eq]at y1;have y1:nm = "get" := y1;obtain⟨⟨dk,dv⟩,hx⟩:=Option.isSome_iff_exists.mp y3;obtain⟨xp,e2⟩:=ji hx;have e2:o=.Dict dk dv xp:=e2
  have w2:ks=[]:=by rw[List.isEmpty_iff]at z2;exact z2
  obtain⟨y,u,e3,z3⟩:=da z3;have e3:as=[y,u]:=e3;obtain⟨z3,z6⟩:=af z3;obtain⟨z3,z5⟩:=af z3;obtain⟨z3,z4⟩:=af z3;rw[e1,y1,e2,w2,e3]at z0;subst z0;have y4:chk C false a o=true:=y4;rw[e2]at y4;exact⟨Bo h.hu ((ak a h _).1 y4) ((ak b h y).1 z5) ((ak c h u).1 z6) rfl z3 z4 y2,rfl⟩
 | .join a,C,X,h,e=>aC (b:=chk C false (.join a) e) fun z=>by
  obtain⟨⟨g,as,ks,p⟩,z0,z⟩:=ao z;have z0:=dB z0;obtain⟨z,z3⟩:=af z;obtain⟨z1,z2⟩:=af z;obtain⟨⟨o,nm,apos⟩,y0,z1⟩:=ao z1;have e1:=kW y0;have e1:g=.Attribute o nm apos:=e1;obtain⟨z1,y3⟩:=af z1;obtain⟨y1,y2⟩:=af z1;rw[beq_iff_eq]at y1;have y1:nm = "join" := y1;obtain⟨kk,w0,w⟩:=ao y3;obtain⟨j,q,e2⟩:=i4 w0;have e2:o=.Constant kk j q:=e2
  have e4:kk=.str ⟨#[]⟩:=by
   cases kk<;>simp only[hZ]at w<;>first | (cases w;done) | skip
   rw[beq_iff_eq]at w;rw[<-w]
  have w2:ks=[]:=by rw[List.isEmpty_iff]at z2;exact z2
  obtain⟨y,e3,z3⟩:=aM z3;have e3:as=[y]:=e3;obtain⟨z3,z5⟩:=af z3;rw[e1,y1,e2,e4,w2,e3]at z0;subst z0;exact⟨Be ((ak a h y).1 z5) z3 y2,rfl⟩
 | .isx a c,C,X,h,e=>aC (b:=chk C false (.isx a c) e) fun z=>by
  have z:(bQ C e "isinstance" fun ys=>of2 ys fun y z=>(dM z).any (fun x=>x == c&&(if c == ("ValueError" : Str)then kM C x else glB C x&&C.Xs.contains x&&cX.contains x))&&chk C false a y)=true:=z;obtain⟨p,as,pos,rfl,b1,b2,z3,z4⟩:=bA h z;obtain⟨y,u,rfl,z4⟩:=da z4;obtain⟨z5,z6⟩:=af z4;obtain⟨x,w0,w⟩:=ao z5;obtain⟨q,rfl⟩:=cb w0;obtain⟨w1,w2⟩:=af w;rw[beq_iff_eq]at w1;subst w1;split at w2
  ·rename_i hv;rw[beq_iff_eq]at hv;subst hv;exact⟨DC b1 b2 (h.bl w2).1 (h.bl w2).2 ((ak a h y).1 z6) (all2 z3).1,rfl⟩
  ·obtain⟨w2,w4⟩:=af w2;obtain⟨w2,w3⟩:=af w2;obtain⟨D,d1,d2⟩:=h.ref x w3;exact⟨DI b1 b2 (h.gl w2).1 d1 d2 (by simpa using w4) (bM (h.gl w2).2).1 ((ak a h y).1 z6) (all2 z3).1,rfl⟩
theorem gR{cl:RL.Cl}:∀ (es':RL.Es) {C:CC} {X:Cx} (h:XOk C X cl) (es:List Expr),jU C es' es=true->SEs X cl es es'/\dY es'=es.length/\es.all noStar=true
 | .nil,C,X,h,es,z=>by
  have z:es=[]:=List.isEmpty_iff.mp z;subst z;exact⟨dH,rfl,rfl⟩
 | .cons e' es',C,X,h,es,z=>by
  cases es with
  | nil=>cases z
  |cons e es=>
   obtain⟨z,z3⟩:=af z;obtain⟨z1,z2⟩:=af z;obtain⟨q1,q2,q3⟩:=gR es' h es z3;exact⟨cj ((ak e' h e).1 z2) q1 z1,by rw[dY,q2,List.length_cons],by rw[List.all_cons,z1,q3];rfl⟩
theorem gq{cl:RL.Cl}:∀ (it:RL.It) {C:CC} {X:Cx} (h:XOk C X cl) (tg e:Expr),pO C it tg e=true->SI X cl tg e it
 | .seq a,C,X,h,tg,e,z=>Ba ((ak a h e).1 z)
 | .rng1 a,C,X,h,tg,e,z=>by
  have z:(bQ C e "range" fun ys=>of1 ys fun y=>chk C false a y)=true:=z;obtain⟨p,as,pos,rfl,b1,b2,z3,z4⟩:=bA h z;obtain⟨y,rfl,z4⟩:=aM z4;exact zZ b1 b2 ((ak a h y).1 z4) (all1 z3)
 | .rng3 c a b,C,X,h,tg,e,z=>by
  have z:(bQ C e "range" fun ys=>of3 ys fun y z q=>gZ c q&&chk C false a y&&chk C false b z)=true:=z;obtain⟨p,as,pos,rfl,b1,b2,z3,z4⟩:=bA h z;obtain⟨y,u,q,rfl,z4⟩:=pG z4;obtain⟨z4,z6⟩:=af z4;obtain⟨z4,z5⟩:=af z4;exact Bd b1 b2 ((ak a h y).1 z5) ((ak b h u).1 z6) (ip z3).1 (ip z3).2.1 z4
 | .chr a,C,X,h,tg,e,z=>CS ((ak a h e).1 z)
 | .enm a,C,X,h,tg,e,z=>by
  obtain⟨z0,zz⟩:=af z;obtain⟨ts,z0⟩:=Option.isSome_iff_exists.mp z0;obtain⟨k,tp,rfl⟩:=dI z0;obtain⟨p,as,pos,rfl,b1,b2,z3,z4⟩:=bA h zz;obtain⟨y,rfl,z4⟩:=aM z4;exact A1 b1 b2 ((ak a h y).1 z4) (all1 z3)
 | .zip a b,C,X,h,tg,e,z=>by
  obtain⟨z0,zz⟩:=af z;obtain⟨ts,z0⟩:=Option.isSome_iff_exists.mp z0;obtain⟨k,tp,rfl⟩:=dI z0;obtain⟨p,as,pos,rfl,b1,b2,z3,z4⟩:=bA h zz;obtain⟨y,u,rfl,z4⟩:=da z4;exact PI'.calm (vk b1 b2 ((ak a h y).1 (af z4).1) ((ak b h u).1 (af z4).2) (all2 z3).1 (all2 z3).2)
theorem Bf{cl:RL.Cl}:∀ (it:RL.It) {C:CC} {X:Cx} (h:XOk C X cl) (tg e:Expr),pO C it tg e=true->uA it=true->PI' (fun _=>True) X tg e (tI X.K cl it)
 | .zip a b,C,X,h,tg,e,z,_=>by
  obtain⟨z0,zz⟩:=af z;obtain⟨ts,z0⟩:=Option.isSome_iff_exists.mp z0;obtain⟨k,tp,rfl⟩:=dI z0;obtain⟨p,as,pos,rfl,b1,b2,z3,z4⟩:=bA h zz;obtain⟨y,u,rfl,z4⟩:=da z4;exact vk b1 b2 ((ak a h y).1 (af z4).1) ((ak b h u).1 (af z4).2) (all2 z3).1 (all2 z3).2
 | .seq _,C,X,h,tg,e,z,w=>by cases w
 | .rng1 _,C,X,h,tg,e,z,w=>by cases w
 | .rng3 _ _ _,C,X,h,tg,e,z,w=>by cases w
 | .chr _,C,X,h,tg,e,z,w=>by cases w
 | .enm _,C,X,h,tg,e,z,w=>by cases w
end
abbrev eG:Expr->Bool
 | .ListComp _ _ _ _=>false
 | .SetComp _ _ _ _=>false
 | .DictComp _ _ _ _ _=>false
 | _=>true
abbrev uR:Expr->Bool
 | .Tuple _ _ _=>false
 | _=>true
abbrev u9(e:Expr):Bool:=match e with
 | .SetComp _ _ _ _=>false
 | .DictComp _ _ _ _ _=>false
 | _=>true
abbrev yB(C:CC)(x y:Str)(px py:Pos)(a b:Expr):Bool :=
 C.sc.kind == .function&&C.sc.names.lookup x == some .local&&C.sc.names.lookup y == some .local&&px.line == py.line && !(x == y)&&noStar a&&noStar b && !(foldedForSure 8 a&&foldedForSure 8 b) && !(constantsAlone 8 a&&constantsAlone 8 b)
abbrev sO(M:List Nat):RL.E->Bool
 | .var i=>M.contains i
 | _=>false
abbrev zC:RL.Bop->Operator->Bool
 | .add,.Add=>true
 | .sub,.Sub=>true
 | _,_=>false
abbrev pE:Expr->Option (Str × Pos)
 | .Name x p=>some (x,p)
 | _=>none
def nL{e:Expr}{x:Str}{p:Pos}(h:pE e=some (x,p)):e=.Name x p:=by
 cases e
 case Name=>cases h;rfl
 all_goals exact nos h
abbrev jY(C:CC)(i:Nat)(nm:Str)(e:Expr)(f:List Expr->Bool):Bool:=(ie e).any fun q=>(oM q.1).any (fun a=>jV C i a.1&&a.2.1 == nm&&a.2.2.endLine == q.2.2.2.line)&&q.2.2.1.isEmpty&&f q.2.1
abbrev oV(C:CC):List Expr->RL.Es->Bool
 | [],ps=>match ps with
  | .nil=>true
  | _=>false
 | v::vs,ps=>match m8 v with
  | some (.str y)=>decide (y.length<=3000)&&oV C vs ps
  | some _=>false
  | none=>(Cg v).any fun q=>q.2.1 == -1&&q.2.2.isNone&&match ps with
   | .cons e es=>chk C false e q.1&&oV C vs es
   | .nil=>false
abbrev DL:Const->Bool
 | .str _=>true
 | _=>false
abbrev isNil:RL.Es->Bool
 | .nil=>true
 | _=>false
abbrev yE(C:CC)(ps:RL.Es)(a:Expr):Bool:=((m8 a).any DL&&isNil ps) || (zu a).any fun vs=>decide (2<=vs.length)&&decide (vs.length<=100)&&oV C vs ps
mutual
noncomputable def x8(C:CC)(M:List Nat):RL.S->Stmt->Bool
 | .asg i e'=>fun st=>(kP st).any fun q=>of1 q.1 fun t=>fZ C i t && !M.contains i&&u9 q.2&&chk C false e' q.2&&(C.calm || eG q.2)
 | .own i e'=>fun st=>(kP st).any fun q=>of1 q.1 fun t=>fZ C i t&&M.contains i&&decide (M.count i<2)&&u9 q.2&&chk C false e' q.2&&(C.calm || eG q.2)
 | .unp is e'=>fun st=>(kP st).any fun q=>of1 q.1 fun t=>(jJ t).any fun ts=>jZ C is ts&&is.all (fun i=>!M.contains i)&&uR q.2&&chk C false e' q.2
 | .par i j a' b'=>fun st=>(kP st).any fun q=>of1 q.1 fun t=>(jJ t).any fun ts=>of2 ts fun s u=>(pE s).any fun x=>(pE u).any fun y=>(jJ q.2).any fun vs=>of2 vs fun a b=>nmB C i x.1&&nmB C j y.1 && !(i == j) && !M.contains i && !M.contains j&&yB C x.1 y.1 x.2 y.2 a b&&chk C false a' a&&chk C false b' b&&C.calm
 | .app i e'=>fun st=>(tf st).any fun e=>jY C i "append" e fun as=>of1 as fun y=>M.contains i&&noStar y&&chk C false e' y
 | .put i k' e'=>fun st=>(kP st).any fun q=>of1 q.1 fun t=>(kJ t).any fun u=>jV C i u.1&&M.contains i&&kL u.2&&eG q.2&&chk C false k' u.2&&chk C false e' q.2
 | .pop i j=>fun st=>(kP st).any fun q=>of1 q.1 fun t=>fZ C j t&&M.contains i && !M.contains j&&jY C i "pop" q.2 fun as=>as.isEmpty
 | .aug i o e'=>fun st=>(Co st).any fun q=>fZ C i q.1 && !M.contains i&&zC o q.2.1&&chk C false e' q.2.2
 | .tie3 f r p w=>fun st=>(tf st).any fun e=>(ie e).any fun q=>(dM q.1).any (fun x=>glB C x&&C.F[f]? == some (x,[0]))&&q.2.2.1.isEmpty&&M.contains r && !M.contains p&&M.contains w && !(r == w)&&C.calm&&of3 q.2.1 fun a b c=>jV C r a&&jV C p b&&jY C w "pop" c fun as=>as.isEmpty
 | .ife c' a' b'=>fun st=>(wIf st).any fun q=>chk C true c' q.1&&cF C M a' q.2.1&&cF C M b' q.2.2
 | .forr tg it b'=>fun st=>(DH st).any fun q=>q.2.2.2.isEmpty&&pO C it q.1 q.2.1&&mn C tg q.1&&ll q.2.1&&RL.qv M it&&tg.all (fun i=>!M.contains i)&&cF C M b' q.2.2.1&&C.calm
 | .ret e'=>fun st=>(BD st).any fun o=>o.any fun e=>chk C false e' e
 | .exc e'=>fun st=>(tf st).any fun e=>eG e&&chk C false e' e
 | .ifp i e' a' b'=>fun st=>(wIf st).any fun q=>(kF q.1).any fun u=>of1 u.2.1 fun op=>of1 u.2.2 fun e=>op == .NotEq&&M.contains i&&chk C false e' e&&cF C M a' q.2.1&&cF C M b' q.2.2&&jY C i "pop" u.1 fun as=>as.isEmpty
 | .rais c ps=>fun st=>(uH st).any fun q=>C.calm&&C.Xr.contains c&&glB C c&&q.2.isNone&&q.1.any fun e=>(ie e).any fun u=>(dM u.1).any (fun x=>x == c)&&u.2.2.1.isEmpty&&of1 u.2.1 fun a=>noStar a&&yE C ps a
 | .tryc b c i hh=>fun st=>(Ee st).any fun q=>C.calm&&q.2.2.1.isEmpty&&q.2.2.2.isEmpty&&C.Xr.contains c&&cX.contains c&&glB C c && !M.contains i&&of1 q.2.1 (fun hd=>(oI hd).1.any (fun t=>(dM t).any fun x=>x == c)&&(oI hd).2.1.any (fun n=>nmB C i n&&C.sc.names.lookup n == some .local) && !(oI hd).2.2.isEmpty&&cF { C with calm:=false } M hh (oI hd).2.2)&&cF C M b q.1
noncomputable def cF(C:CC)(M:List Nat):RL.Ss->List Stmt->Bool
 | .nil=>fun xs=>xs.isEmpty
 | .cons s r=>fun xs=>match xs with
  | x::xs=>x8 C M s x&&cF C M r xs
  | []=>false
end
structure YOk(C:CC)(X:Cx)(cl:RL.Cl):Prop extends XOk C X cl where
 fn:∀ x,X.fn x=true
 st:X.stack=X.env::X.outer/\X.env.frame=some X.env.locals/\X.ex=[]
 fnx:∀ (f:Nat) (x:Str),C.calm=true->C.F[f]?=some (x,[])->∃ k fa fd ps,dO X.prog X.w X.K X.mg X.base (CXE X.prog X.w) k fa fd ps (spX X.K cl f)/\cq k X.A/\X.mg x=some (.ref fa)/\PySem.W.keepIn X.K (.ref fa)=true/\Binds X.K fd ps []
structure ROk(C:CC)(X:Cx)(cl:RL.Cl)(EX:L2.St->XK):Prop where
 y:YOk C X.nox cl
 cal:C.calm=true
 pass:∀ pins σ H s e s',Inv X pins σ H s->CXE X.prog X.w X.stack H s (EX σ) e s'->X.xe e s'
 made:∀ pins σ H s h' e C vs,Inv X pins σ H s->Heap.MadeExcOf s.heap h' e (.ref C) vs->EX σ (.ref C) none H->X.xe (.ref e) { s with heap:=h' }
 own:PassesOwn (model X.prog X.w) X.A X.env X.xe
section
variable{C:CC}{X:Cx}{cl:RL.Cl}{M:List Nat}{st:Stmt}{e:Expr}{e' k':RL.E}{i:Nat}
def eA{t:Option Expr}{l:Nat}{env:Env}(h:eG e=true):swapsWith e t l env=pure false:=by
 cases e<;>first | rfl | (cases h;done)
def zl{t:Expr}{spos:Pos}(hcal:(C.calm || eG e)=true)(h:YOk C X cl)(hn:fZ C i t=true)(ha:u9 e=true)(hc:chk C false e' e=true):SA X cl (.Assign [t] e spos) i e':=by
 obtain⟨y,py,rfl,hN,hl⟩:=fq h.toXOk hn
 have plain:swapsWith e (some (.Name y py)) spos.line X.env=pure false->SA X cl (.Assign [.Name y py] e spos) i e':=fun z =>
  xN h.ndX hN hl ((ak e' h.toXOk e).1 hc) (.inl (h.fn y)) z trivial
 by_cases hcomp:eG e=true
 ·exact plain (eA hcomp)
 ·have hcm:X.calm=true:=h.calm (by simpa[hcomp]using hcal)
  have:∃ elt gens scope p,e=.ListComp elt gens scope p:=by
   cases e<;>first | exact absurd rfl hcomp | exact Bool.noConfusion ha | exact⟨_,_,_,_,rfl⟩
  obtain⟨elt,gens,scope,p,rfl⟩:=this;have hsw:swapsWith (.ListComp elt gens scope p) (some (.Name y py)) spos.line X.env=pure (X.env.blockKind == .function&&X.env.kindOf y == some .local&&py.line == p.line && !(scope.names.any fun(n,k)=>n == y&&(k == .local || k == .cell))):=rfl;by_cases hb:(X.env.blockKind == .function&&X.env.kindOf y == some .local&&py.line == p.line && !(scope.names.any fun(n,k)=>n == y&&(k == .local || k == .cell)))=true
  ·have hy:X.env.scope.names.lookup y=some .local:=by
    obtain⟨q,_⟩:=af (af hb).1;have q2:=(af q).2;rw[beq_iff_eq]at q2;exact q2
   rw[hb]at hsw;by_cases hk:∃ d tg it c,e'=.comp d tg it c
   ·obtain⟨d,tg,it,c,rfl⟩:=hk;obtain⟨⟨tgE,iter,ifs,asy⟩,y1,z⟩:=aM hc;have y1:gens=[⟨tgE,iter,ifs,asy⟩]:=y1;obtain⟨w,y2,z⟩:=aM z;have y2:ifs=[w]:=y2;obtain⟨z,zc⟩:=af z;obtain⟨z,z8⟩:=af z;obtain⟨z,z7⟩:=af z;obtain⟨z,z6⟩:=af z;obtain⟨z,z5⟩:=af z;obtain⟨z,z4⟩:=af z;obtain⟨z,z3⟩:=af z;obtain⟨z,z2⟩:=af z;obtain⟨z0,z1⟩:=af z;rw[beq_iff_eq]at z0;have w0:asy=0:=z0;subst y1 w0;subst y2;refine xS hcm h.ndX hN hy (by rw[h.scope];exact lI z1) (gq it h.toXOk _ _ z6) ?_ (d8 z3 _) hsw;exact⟨fun cls Ca fp s H=>lG h.toXOk z5 z4,fun cls Ca fp s H pins s' σ H' Q I q=>nc ((ak c (h.toXOk.blk cls Ca fp s H) _).2 z8).1 I q,fun cls Ca fp s H=>(ak d (h.toXOk.blk cls Ca fp s H) _).1 z7,fun i x hx hl=>iO z2 i x (by rw[<-h.names];exact hx) hl⟩
   ·by_cases hk2:∃ d tg it,e'=.compA d tg it
    ·obtain⟨d,tg,it,rfl⟩:=hk2;obtain⟨⟨tgE,iter,ifs,asy⟩,y1,z⟩:=aM hc;have y1:gens=[⟨tgE,iter,ifs,asy⟩]:=y1;obtain⟨z,zc⟩:=af z;obtain⟨z,z7⟩:=af z;obtain⟨z,z6⟩:=af z;obtain⟨z,z5⟩:=af z;obtain⟨z,z4⟩:=af z;obtain⟨z,z3⟩:=af z;obtain⟨z,z2⟩:=af z;obtain⟨z,z1⟩:=af z;obtain⟨y2,z0⟩:=af z;rw[beq_iff_eq]at z0;have w0:asy=0:=z0
     have w2:ifs=[]:=by rw[List.isEmpty_iff]at y2;exact y2
     subst y1 w0;subst w2;refine xv hcm h.ndX hN hy (by rw[h.scope];exact lI z1) (gq it h.toXOk _ _ z6) ?_ (d8 z3 _) hsw;exact⟨fun cls Ca fp s H=>lG h.toXOk z5 z4,fun cls Ca fp s H pins s' σ H' Q I q=>nj I q,fun cls Ca fp s H=>(ak d (h.toXOk.blk cls Ca fp s H) _).1 z7,fun i x hx hl=>iO z2 i x (by rw[<-h.names];exact hx) hl⟩
    ·cases e'<;>first | exact Bool.noConfusion hc | exact absurd ⟨_,_,_,_,rfl⟩ hk | exact absurd ⟨_,_,_,rfl⟩ hk2 | (obtain⟨_,hc⟩:=af hc;exact Bool.noConfusion hc) | (rename_i b a;cases b<;>(obtain⟨_,hc⟩:=af hc;exact Bool.noConfusion hc))
  ·have hb':=Bool.not_eq_true _▸hb;rw[hb']at hsw;exact plain hsw
def m6{is:List Nat}(h:is.all (fun i=>!M.contains i)=true):∀ i∈is,M.contains i=false:=fun i hi=>by
 rw[List.all_eq_true]at h;simpa using h i hi
def fI{b:Bool}(h:(!b)=true):b=false:=by simpa using h
def kf{nm:Str}{f:List Expr->Bool}(h:XOk C X cl)(z:jY C i nm e f=true):∃ x p apos as pos,e=.Call (.Attribute (.Name x p) nm apos) as [] pos/\X.N[i]?=some x/\Vis X.env.scope x/\(x == ("__debug__" : Str))=false/\(x == ("__classdict__" : Str))=false/\(apos.endLine == pos.line)=true/\f as=true:=by
 unfold jY at z;obtain⟨⟨g,as,ks,pos⟩,z0,z⟩:=ao z;have e0:=dB z0;obtain⟨z,z3⟩:=af z;obtain⟨z1,z2⟩:=af z;obtain⟨⟨o,a,apos⟩,y0,z1⟩:=ao z1;have e1:=kW y0;have e1:g=.Attribute o a apos:=e1;obtain⟨z1,y3⟩:=af z1;obtain⟨y1,y2⟩:=af z1;rw[beq_iff_eq]at y2;have y2:a=nm:=y2
 have w2:ks=[]:=by rw[List.isEmpty_iff]at z2;exact z2
 obtain⟨x,p,e2,g1,g2,g3,g4⟩:=gw h y1;have e2:o=.Name x p:=e2;rw[e1,w2,y2,e2]at e0;exact⟨x,p,apos,as,pos,e0,g1,g2,g3,g4,y3,z3⟩
def Bk(h1:PS X st (mT (tE X.K cl e') (yL (gE i) (tE X.K cl k') uG)))(h2:PS X st (tJ (gE i) (tE X.K cl k') (tE X.K cl e')))(hi:M.contains i=true):SS X cl M st (.put i k' e'):=by
 have a1:=E6 h1 hi trivial;have a2:=Au h2 hi;intro pins s σ H D I h;obtain⟨σD,o,σD',rv,e,k⟩:=h;rw[RL.evS]at e;obtain⟨d,e1,e⟩:=bind_some e;obtain⟨kk,e2,e⟩:=bind_some e;obtain⟨l,e3,e⟩:=bind_some e
 cases l with
 | lst ds=>exact a1 pins s σ H D I ⟨σD,o,σD',rv,by dsimp only;rw[e1];dsimp only[Option.bind_some];rw[e2];dsimp only[Option.bind_some];rw[e3];exact e,k⟩
 | _=>exact a2 pins s σ H D I ⟨σD,o,σD',rv,by dsimp only;rw[e1];dsimp only[Option.bind_some];rw[e2];dsimp only[Option.bind_some];rw[e3];exact e,k⟩
def t9{o k:Expr}{pos:Pos}{env:Env}(h:kL k=true)(v:Value):assign (.Subscript o k pos) env v=(do
   let ov <- holding [v] (eval o env)
   let iv <- holding [v,ov] (eval k env)
   standAt pos
   holding [v,ov,iv] (setItem ov iv v)
   release [v,ov,iv] []):=by
 cases k<;>first | rfl | (cases h;done)
def nE{us:List Expr}{kk:Nat}{tp:Pos}{env:Env}(h:uR e=true):swappedStores [.Tuple us kk tp] e env=pure none:=by
 cases e<;>first | rfl | (cases h;done)
def Dl{x y:Str}{px py pt pt2:Pos}{kt k2:Nat}{a b:Expr}(h:XOk C X cl)(hp:yB C x y px py a b=true):swappedStores [.Tuple [.Name x px,.Name y py] kt pt] (.Tuple [a,b] k2 pt2) X.env=pure (some [x,y]) /\
  X.env.scope.names.lookup x=some .local/\X.env.scope.names.lookup y=some .local/\noStar a=true/\noStar b=true:=by
 unfold yB at hp;obtain⟨hp,h9⟩:=af hp;obtain⟨hp,h8⟩:=af hp;obtain⟨hp,h7⟩:=af hp;obtain⟨hp,h6⟩:=af hp;obtain⟨hp,h5⟩:=af hp;obtain⟨hp,h4⟩:=af hp;obtain⟨hp,h3⟩:=af hp;obtain⟨h1,h2⟩:=af hp;rw[beq_iff_eq]at h1 h2 h3 h4;rw[<-h.scope]at h1 h2 h3;refine⟨?_,h2,h3,h6,h7⟩
 have bk:X.env.blockKind=.function:=by
  unfold Env.blockKind;rw[h1];rfl
 have k1:X.env.kindOf x=some .local:=h2;have k2:X.env.kindOf y=some .local:=h3
 have hxy:x≠y:=by simpa using h5
 have fs':foldedForSure 8 a=true->foldedForSure 8 b=false:=fun z=>by simpa[z]using h8
 have ca':constantsAlone 8 a=true->constantsAlone 8 b=false:=fun z=>by simpa[z]using h9
 have ed:[x,y].eraseDups=[x,y]:=by
  rw[List.eraseDups_cons];simp[Ne.symm hxy];rfl
 unfold swappedStores;simp only[bk];simp[show ∀ (x:Str) (p:Pos),(Expr.Name x p).pos=p from fun _ _=>rfl,k1,k2,h4,ed];refine(if_neg ?_).trans ((if_neg ?_).trans (if_neg ?_))
 ·intro hh;rcases hh with hh | hh
  ·cases a<;>first | exact Bool.noConfusion (show false=true from hh) | exact Bool.noConfusion (show false=true from h6)
  ·cases b<;>first | exact Bool.noConfusion (show false=true from hh) | exact Bool.noConfusion (show false=true from h7)
 ·intro hh;have:=fs' hh.1;rw[hh.2]at this;cases this
 ·intro hh;have:=ca' hh.1;rw[hh.2]at this;cases this
end
section
variable{cl:RL.Cl}
def Af{X:Cx}{C:CC}{EX:L2.St->XK}{x:Str}{f:Nat}{p pos:Pos}{y:Expr}{ys:List Expr}{es:RL.Es}(h:ROk C X cl EX)(hg:glB C x=true)(hf:C.F[f]?=some (x,[]))(he:SEs X.nox cl (y::ys) es)(ha:RA X EX cl (y::ys) es)(hn:noStar y=true)(hns:ys.all noStar=true) :
  RE X EX cl (.Call (.Name x p) (y::ys) [] pos) (.call f es):=by
 obtain⟨k,fa,fd,ps,F,hr,hm,hk,hb⟩:=h.y.fnx f x h.cal hf;obtain⟨g1,g2⟩:=h.y.gl hg;exact Ar F hr g1 hm hk hb h.pass (PA.nox he) ha (bM g2).1 hn hns
mutual
theorem gr:∀ (e':RL.E) {X:Cx} {C:CC} {EX:L2.St->XK} (h:ROk C X cl EX) (e:Expr),chk C false e' e=true->RE X EX cl e e'
 | .call f es,X,C,EX,h,e,z=>by
  obtain⟨zc,z⟩:=af z;obtain⟨⟨g,as,ks,p⟩,z0,z⟩:=ao z;have z0:=dB z0;subst z0;obtain⟨z,z4⟩:=af z;obtain⟨z,z3⟩:=af z;obtain⟨z1,z2⟩:=af z;obtain⟨x,y0,z1⟩:=ao z1;obtain⟨q,e0⟩:=cb y0;have e0:g=.Name x q:=e0;obtain⟨y1,y2⟩:=af z1;rw[beq_iff_eq]at y2
  have w2:ks=[]:=by rw[List.isEmpty_iff]at z2;exact z2
  subst e0 w2;obtain⟨q1,q2,q3⟩:=gR es h.y.toXOk _ z4;have ha:=nv es h _ z4;dsimp only at z3 q1 q2 q3 ha
  cases as with
  | nil=>cases z3
  |cons y ys=>
   rw[List.all_cons]at q3;exact Af h y1 y2 q1 ha (af q3).1 (af q3).2
 | .ix a b,X,C,EX,h,e,z=>by
  obtain⟨⟨l,r⟩,z0,z⟩:=ao z;obtain⟨p,rfl⟩:=eX z0;obtain⟨z,z3⟩:=af z;obtain⟨z1,z2⟩:=af z;exact PE.weak (zN vD (gr a h l z2) (PE.nox ((ak b h.y.toXOk r).1 z3)) (sW z1)) fun σ H Q q=>q
 | .var _,X,C,EX,h,e,z=>aW fun _=>rfl
 | .cst _,X,C,EX,h,e,z=>aW fun _=>rfl
 | .glb _ _,X,C,EX,h,e,z=>aW fun _=>rfl
 | .bin _ _ _,X,C,EX,h,e,z=>aW fun _=>rfl
 | .cmp _ _ _,X,C,EX,h,e,z=>aW fun _=>rfl
 | .chain _ _ _ _ _,X,C,EX,h,e,z=>aW fun _=>rfl
 | .isN _ _,X,C,EX,h,e,z=>aW fun _=>rfl
 | .inn _ _ _,X,C,EX,h,e,z=>aW fun _=>rfl
 | .inD _ _ _,X,C,EX,h,e,z=>aW fun _=>rfl
 | .and _ _,X,C,EX,h,e,z=>aW fun _=>rfl
 | .or _ _,X,C,EX,h,e,z=>aW fun _=>rfl
 | .not _,X,C,EX,h,e,z=>aW fun _=>rfl
 | .ifx _ _ _,X,C,EX,h,e,z=>aW fun _=>rfl
 | .tup _,X,C,EX,h,e,z=>aW fun _=>rfl
 | .lst _,X,C,EX,h,e,z=>aW fun _=>rfl
 | .ixD _ _,X,C,EX,h,e,z=>aW fun _=>rfl
 | .slT _ _,X,C,EX,h,e,z=>aW fun _=>rfl
 | .bi _ _,X,C,EX,h,e,z=>aW fun _=>rfl
 | .max _ _,X,C,EX,h,e,z=>aW fun _=>rfl
 | .isi _ _,X,C,EX,h,e,z=>aW fun _=>rfl
 | .rng1 _,X,C,EX,h,e,z=>aW fun _=>rfl
 | .rng3 _ _ _,X,C,EX,h,e,z=>aW fun _=>rfl
 | .neg _,X,C,EX,h,e,z=>aW fun _=>rfl
 | .comp _ _ _ _,X,C,EX,h,e,z=>aW fun _=>rfl
 | .compA _ _ _,X,C,EX,h,e,z=>aW fun _=>rfl
 | .sxT _ _,X,C,EX,h,e,z=>aW fun _=>rfl
 | .sxF _ _,X,C,EX,h,e,z=>aW fun _=>rfl
 | .mulS _ _,X,C,EX,h,e,z=>aW fun _=>rfl
 | .join _,X,C,EX,h,e,z=>aW fun _=>rfl
 | .isx _ _,X,C,EX,h,e,z=>aW fun _=>rfl
 | .dd2 _ _ _ _,X,C,EX,h,e,z=>aW fun _=>rfl
 | .getE _ _ _,X,C,EX,h,e,z=>aW fun _=>rfl
 | .dk0,X,C,EX,h,e,z=>aW fun _=>rfl
 | .dt0,X,C,EX,h,e,z=>aW fun _=>rfl
theorem nv:∀ (es':RL.Es) {X:Cx} {C:CC} {EX:L2.St->XK} (h:ROk C X cl EX) (es:List Expr),jU C es' es=true->RA X EX cl es es'
 | .nil,X,C,EX,h,es,z=>BJ
 | .cons e' es',X,C,EX,h,es,z=>by
  cases es with
  | nil=>cases z
  |cons e es=>
   obtain⟨z,z3⟩:=af z;obtain⟨z1,z2⟩:=af z;exact AM (PE.nox ((ak e' h.y.toXOk e).1 z2)) (gr e' h e z2) (nv es' h es z3) (ay es z1)
end
section
variable{X:Cx}{C:CC}{EX:L2.St->XK}{M:List Nat}
def AW{X:Cx}{st:Stmt}{c:Str}{ps:RL.Es}:SS X cl M st (.rais c ps):=fun pins s σ H D I ⟨σD,r,σD',_,e,_⟩=>by
 rw[RL.evS]at e;cases e
def vQ{t e:Expr}{spos:Pos}{i:Nat}{e':RL.E}{s:RL.S}(h:ROk C X cl EX)(hn:fZ C i t=true)(ha:u9 e=true)(hc:chk C false e' e=true)(he:∀ σD,RL.ju cl M s σD=(RL.evX cl σD e').map fun x=>(x,σD)):RZ X EX cl M (.Assign [t] e spos) s:=by
 obtain⟨y,py,rfl,hN,hl⟩:=fq h.y.toXOk hn;by_cases hcomp:eG e=true
 ·exact oy (oR (X:=X) h.y.ndX hN hl (gr e' h e hc) (eA hcomp) (.inl (h.y.fn y))) he
 ·refine gc fun σD=>?_;rw[he]
  have:∃ elt gens scope p,e=.ListComp elt gens scope p:=by
   cases e<;>first | exact absurd rfl hcomp | exact Bool.noConfusion ha | exact⟨_,_,_,_,rfl⟩
  obtain⟨elt,gens,scope,p,rfl⟩:=this
  cases e' with
  |call f es=>
   obtain⟨_,z⟩:=af hc;exact Bool.noConfusion z
  | ix a b=>exact Bool.noConfusion hc
  | _=>rfl
abbrev tW(K:PySem.W.Frag)(cl:RL.Cl):RL.Es->TA
 | .nil=>j9
 | .cons e es=>vS (tE K cl e) (tW K cl es)
def zt{K:PySem.W.Frag}{σD:RL.St}{σ:L2.St}:∀ {ps:RL.Es} {ds:List RL.D} {H:Hp} {Q:List V->Hp->Prop},RV0 K σD σ H->RL.evs cl σD ps=some ds->ds.all RL.written=true->(∀ vs H1,au H H1->Q vs H1)->tW K cl ps σ H Q
 | .nil,ds,H,Q,rv,e,w,k=>k [] H (au.refl _)
 | .cons p ps,ds,H,Q,rv,e,w,k=>by
  rw[RL.evs]at e;obtain⟨d,e1,e⟩:=bind_some e;obtain⟨ds',e2,e3⟩:=map_some e;subst e3;rw[List.all_cons,Bool.and_eq_true]at w
  cases d with
  |int i=>
   refine⟨σD,.int i,rv,e1,fun v H1 r1=>⟨i,aq r1.rep,by simpa[RL.written]using w.1,zt (rv.same r1.same) e2 w.2 fun vs H2 sm=>k vs H2 (r1.same.trans sm)⟩⟩
  | _=>cases w.1
def mJ{X:Cx}(h:XOk C X cl):∀ {vs:List Expr} {ps:RL.Es},oV C vs ps=true->PJ X vs (tW X.K cl ps)
 | [],.nil,z=>BS
 | [],.cons _ _,z=>by cases z
 | v::vs,ps,z=>by
  rw[oV]at z;split at z
  ·rename_i y hv;obtain⟨j,p,rfl⟩:=i4 hv;obtain⟨z1,z2⟩:=af z;exact AB (mJ h z2) (by simpa using z1)
  ·cases z
  ·obtain⟨⟨e,cv,sp⟩,z0,z⟩:=ao z;obtain⟨p,rfl⟩:=A2 z0;obtain⟨z,z3⟩:=af z;obtain⟨z1,z2⟩:=af z;rw[beq_iff_eq]at z1;have y1:cv=-1:=z1;have y2:sp=none:=eF z2;clear z1 z2 z z0;subst y1 y2
   cases ps with
   | nil=>cases z3
   |cons q qs=>
    obtain⟨z4,z5⟩:=af z3;exact Dh ((ak q h e).1 z4) (mJ h z5)
def yt{c:Str}{ps:RL.Es}{a:Expr}{np cpos pos:Pos}(h:ROk C X cl EX)(z1:C.calm=true)(z2:C.Xr.contains c=true)(z3:glB C c=true)(hn:noStar a=true)(z4:yE C ps a=true):RZ X EX cl M (.Raise (some (.Call (.Name c np) [a] [] cpos)) none pos) (.rais c ps):=by
 obtain⟨D,d1,d2⟩:=h.y.cls c z2;obtain⟨g1,g2⟩:=h.y.gl z3
 have key:∀ {ta:TE},PE X a ta->(∀ σD σ H ds (Q:VK),RV0 X.K σD σ H->RL.evs cl σD ps=some ds->ds.all RL.written=true->(∀ v H1,au H H1->Q v H1)->ta σ H Q)->RZ X EX cl M (.Raise (some (.Call (.Name c np) [a] [] cpos)) none pos) (.rais c ps):=fun {ta} pe rd=>by
  intro pins s σ H Dn I q;refine PS.weak (yP (np:=np) (cpos:=cpos) (pos:=pos) (I.ok.hd.1 (h.y.calm z1)) g1 d1 (bM g2).1 d2.exc (fun pins σ H s h' e vs I m q=>h.made pins σ H s h' e D vs I m q) (ba pe cL (ay [] hn)) (ay [] hn)) (fun Dn σ H q=>?_) pins s σ H Dn I q;obtain⟨σD,x,σD',rv,e,k⟩:=q;rw[RL.ju]at e;obtain⟨ds,e1,e2⟩:=bind_some e;obtain⟨hw,e2⟩:=cC e2;cases e2
  exact rd σD σ H ds _ rv.rv0 e1 hw fun v H1 sm=>⟨by show 1<=sizeLine;decide,k σ H1 D d2 (rv.same sm) (Fr'.same sm)⟩
 unfold yE at z4;rcases Bool.or_eq_true_iff.mp z4 with z | z
 ·obtain⟨w1,w2⟩:=af z;obtain⟨kk,q0,q⟩:=ao w1;obtain⟨j,p,rfl⟩:=i4 q0
  cases kk with
  | str y=>exact key qu fun σD σ H ds Q rv e w k=>k _ H (au.refl _)
  | _=>cases q
 ·obtain⟨vs,q0,z⟩:=ao z;obtain⟨p,rfl⟩:=yR q0;obtain⟨z,w3⟩:=af z;obtain⟨w1,w2⟩:=af z;rw[decide_eq_true_eq]at w1 w2
  match vs,w1,w2,w3 with
  |v::v2::vs,_,w2,w3=>
   exact key (PE.nox (wZ (mJ h.y.toXOk w3) (by simp at w2;omega))) fun σD σ H ds Q rv e w k=>zt rv e w fun vs H1 sm x=>k _ H1 sm
end
def YOk.rok{C:CC}{X:Cx}(h:YOk C X cl)(pn:List (Addr × Obj))(E:Value->Shared->Prop)(EX:L2.St->XK)(hc:C.calm=true)(ps:∀ pins σ H s e s',Inv (CxX X pn E) pins σ H s->CXE X.prog X.w X.stack H s (EX σ) e s'->E e s')(md:∀ pins σ H s h' e C vs,Inv (CxX X pn E) pins σ H s->Heap.MadeExcOf s.heap h' e (.ref C) vs->EX σ (.ref C) none H->E (.ref e) { s with heap:=h' })(ow:PassesOwn (model X.prog X.w) X.A X.env E):ROk C (CxX X pn E) cl EX where
 y:={ scope:=h.scope,names:=h.names,nd:=h.nd,calm:=h.calm,xe:=rfl,hu:=h.hu,blt:=h.blt,glb:=h.glb,fns:=h.fns,hfn:=h.hfn,cls:=h.cls,ref:=h.ref,fn:=h.fn,st:=h.st,fnx:=h.fnx }
 cal:=hc
 pass:=ps
 made:=md
 own:=ow
def YOk.bO{C:CC}{X:Cx}(h:YOk C X cl)(e:Addr)(oe:Obj):YOk { C with calm:=false } (X.bO e oe) cl where
 scope:=h.scope
 names:=h.names
 nd:=h.nd
 calm:=fun z=>nomatch z
 xe:=h.xe
 hu:=h.hu
 blt:=h.blt
 glb:=h.glb
 fns:=fun _ _ _ z=>nomatch z
 hfn:=fun f x a b=>by
  obtain⟨k,fa,fd,ps,F,hr,r⟩:=h.hfn f x a b;exact⟨k,fa,fd,ps,F,⟨hr.dp,hr.un⟩,r⟩
 cls:=h.cls
 ref:=h.ref
 fn:=h.fn
 st:=h.st
 fnx:=fun _ _ z=>nomatch z
end
section
variable{cl:RL.Cl}
mutual
theorem sk:∀ (s:RL.S) {X:Cx} {C:CC} {M:List Nat} (h:YOk C X cl) (st:Stmt),x8 C M s st=true->SS X cl M st s
 | .asg i e',X,C,M,h,st,z=>by
  obtain⟨⟨ts,e⟩,z0,z⟩:=ao z;obtain⟨p,rfl⟩:=dG z0;obtain⟨t,y1,z⟩:=aM z;have y1:ts=[t]:=y1;obtain⟨z,zc⟩:=af z;obtain⟨z,z4⟩:=af z;obtain⟨z,z3⟩:=af z;obtain⟨z1,z2⟩:=af z;subst y1;exact Dp (zl zc h z1 z3 z4) (fI z2)
 | .own i e',X,C,M,h,st,z=>by
  obtain⟨⟨ts,e⟩,z0,z⟩:=ao z;obtain⟨p,rfl⟩:=dG z0;obtain⟨t,y1,z⟩:=aM z;have y1:ts=[t]:=y1;obtain⟨z,zc⟩:=af z;obtain⟨z,z5⟩:=af z;obtain⟨z,z4⟩:=af z;obtain⟨z,z3⟩:=af z;obtain⟨z1,z2⟩:=af z;subst y1;exact E7 (zl zc h z1 z4 z5) z2 (by simpa using z3)
 | .unp is e',X,C,M,h,st,z=>by
  obtain⟨⟨ts,e⟩,z0,z⟩:=ao z;obtain⟨p,rfl⟩:=dG z0;obtain⟨t,y1,z⟩:=aM z;have y1:ts=[t]:=y1;obtain⟨us,y2,z⟩:=ao z;obtain⟨k,tp,rfl⟩:=dI y2;obtain⟨z,z4⟩:=af z;obtain⟨z,z3⟩:=af z;obtain⟨z1,z2⟩:=af z;subst y1;obtain⟨g1,g2,g3⟩:=jQ h.toXOk (T:=is) (fun i x _ _=>.inl (h.fn x)) (fun _ h=>h) z1;refine zQ (qP ((ak e' h.toXOk e).1 z4) (qf (mO g1 g2 g3) (mY g1 g2 g3)) ?_ (nE z3)) (m6 z2);cases e<;>rfl
 | .par i j a' b',X,C,M,h,st,z=>by
  obtain⟨⟨ts,e⟩,z0,z⟩:=ao z;obtain⟨p,rfl⟩:=dG z0;obtain⟨t,y1,z⟩:=aM z;have y1:ts=[t]:=y1;obtain⟨us,y2,z⟩:=ao z;obtain⟨k,tp,e2⟩:=dI y2;obtain⟨s1,s2,y3,z⟩:=da z;obtain⟨⟨x,px⟩,y4,z⟩:=ao z;obtain⟨⟨y,py⟩,y5,z⟩:=ao z;obtain⟨vs,y6,z⟩:=ao z;obtain⟨k',tp',e6⟩:=dI y6;have e6:e=.Tuple vs k' tp':=e6;obtain⟨a,b,y7,w⟩:=da z;rw[nL y4,nL y5]at y3;rw[y3]at e2
  have e7:e=.Tuple [a,b] k' tp':=by rw[<-y7];exact e6
  rw[e2]at y1;subst y1 e7;obtain⟨w,zc⟩:=af w;obtain⟨w,z8⟩:=af w;obtain⟨w,z7⟩:=af w;obtain⟨w,z6⟩:=af w;obtain⟨w,z5⟩:=af w;obtain⟨w,z4⟩:=af w;obtain⟨w,z3⟩:=af w;obtain⟨z1,z2⟩:=af w;obtain⟨g1,g2,g3,g4,g5⟩:=Dl h.toXOk z6;exact EC (BG (h.calm zc) h.ndX (h.nm z1).1 (h.nm z2).1 (by simpa using z3) g2 g3 (cj (cl:=cl) ((ak a' h.toXOk a).1 z7) (cj ((ak b' h.toXOk b).1 z8) dH g5) g4) g1) (fI z4) (fI z5)
 | .app i e',X,C,M,h,st,z=>by
  obtain⟨e,z0,z8⟩:=ao z;obtain⟨p0,rfl⟩:=kj z0;obtain⟨x,p,apos,as,pos,rfl,g1,g2,g3,g4,z6,z7⟩:=kf h.toXOk z8;obtain⟨y,rfl,z9⟩:=aM z7;obtain⟨z9,z7⟩:=af z9;obtain⟨z4,z5⟩:=af z9;refine Dc (kq (zr PySem.F.plainAttrs_list PySem.F.slot_list_append PySem.F.type_list_append nY (eP g1 g2 g3 g4) (cj (cl:=cl) ((ak e' h.toXOk y).1 z7) dH z5) rfl ?_ z6 (ay [] z5) rfl)) z4;rw[ay [] z5];rfl
 | .put i k' e',X,C,M,h,st,z=>by
  obtain⟨⟨ts,e⟩,z0,z⟩:=ao z;obtain⟨p,rfl⟩:=dG z0;obtain⟨t,y1,z⟩:=aM z;have y1:ts=[t]:=y1;obtain⟨⟨o,k⟩,y2,z⟩:=ao z;obtain⟨sp,e2⟩:=eX y2;obtain⟨z,z7⟩:=af z;obtain⟨z,z6⟩:=af z;obtain⟨z,z5⟩:=af z;obtain⟨z,z4⟩:=af z;obtain⟨z1,z3⟩:=af z;obtain⟨x,px,e3,g1,g2,g3,g4⟩:=gw h.toXOk z1;have e3:o=.Name x px:=e3;rw[e3]at e2;rw[e2]at y1;subst y1;have pv:=fun pos=>eP (X:=X) (pos:=pos) g1 g2 g3 g4;refine Bk (qP ((ak e' h.toXOk e).1 z7) (C6 (pv _) ((ak k' h.toXOk k).1 z6) set_list (t9 z4)) ?_ ?_) (A7 (Nat.lt_of_le_of_lt (by lia) h.hu) (pv _) ((ak k' h.toXOk k).1 z6) ((ak e' h.toXOk e).1 z7) (eA z5)) z3
  ·unfold swapsWithSole;exact eA z5
  ·rfl
 | .pop i j,X,C,M,h,st,z=>by
  obtain⟨⟨ts,e⟩,z0,z⟩:=ao z;obtain⟨p,rfl⟩:=dG z0;obtain⟨t,y1,z⟩:=aM z;have y1:ts=[t]:=y1;obtain⟨z,z4⟩:=af z;obtain⟨z,z3⟩:=af z;obtain⟨z1,z2⟩:=af z;obtain⟨y,py,rfl,l1,l2⟩:=fq h.toXOk z1;obtain⟨x,px,apos,as,pos,e2,g1,g2,g3,g4,z6,z5⟩:=kf h.toXOk z4;have e2:e=.Call (.Attribute (.Name x px) "pop" apos) as [] pos:=e2;have z5:as=[]:=List.isEmpty_iff.mp z5;subst y1 z5 e2;exact CZ (oR h.ndX l1 l2 (pR PySem.F.plainAttrs_list PySem.F.slot_list_pop PySem.F.type_list_pop pA (eP g1 g2 g3 g4) rfl z6) rfl (.inl (h.fn _))) z2 (fI z3)
 | .aug i o e',X,C,M,h,st,z=>by
  obtain⟨⟨t,op,e⟩,z0,z⟩:=ao z;obtain⟨p,rfl⟩:=Bc z0;obtain⟨z,z4⟩:=af z;obtain⟨z,z3⟩:=af z;obtain⟨z1,z2⟩:=af z;obtain⟨x,px,e1,l1,l2⟩:=fq h.toXOk z1;have e1:t=.Name x px:=e1;subst e1;have z3:zC o op=true:=z3;have z4:chk C false e' e=true:=z4;clear z0 z1 z
  cases o<;>cases op<;>first | (cases z3;done) | skip
  ·exact vY (f:=fun a b=>a+b) (fun a b=>rfl) (vn h.ndX l1 l2 ((ak e' h.toXOk e).1 z4) DA (.inl (h.fn x))) (fI z2)
  ·exact vY (f:=fun a b=>a-b) (fun a b=>rfl) (vn h.ndX l1 l2 ((ak e' h.toXOk e).1 z4) CI (.inl (h.fn x))) (fI z2)
 | .tie3 f r p w,X,C,M,h,st,z=>by
  obtain⟨e,z0,z⟩:=ao z;obtain⟨p0,rfl⟩:=kj z0;obtain⟨⟨g,as,ks,pos⟩,z0,z⟩:=ao z;have e0:=dB z0;obtain⟨z,z7⟩:=af z;obtain⟨z,zc⟩:=af z;obtain⟨z,z6⟩:=af z;obtain⟨z,z5⟩:=af z;obtain⟨z,z4⟩:=af z;obtain⟨z,z3⟩:=af z;obtain⟨z1,z2⟩:=af z;obtain⟨x,y0,z1⟩:=ao z1;obtain⟨q,e1⟩:=cb y0;have e1:g=.Name x q:=e1;obtain⟨y1,y2⟩:=af z1;rw[beq_iff_eq]at y2
  have w2:ks=[]:=by rw[List.isEmpty_iff]at z2;exact z2
  obtain⟨a,b,c,e3,z7⟩:=pG z7;have e3:as=[a,b,c]:=e3;obtain⟨z7,z10⟩:=af z7;obtain⟨z8,z9⟩:=af z7;obtain⟨xa,pa,ea,a1,a2,a3,a4⟩:=gw h.toXOk z8;obtain⟨xb,pb,eb,b1,b2,b3,b4⟩:=gw h.toXOk z9;obtain⟨xc,pc,apos,as',pos',ec,c1,c2,c3,c4,c5,c6⟩:=kf h.toXOk z10;have c6:as'=[]:=List.isEmpty_iff.mp c6;rw[c6]at ec;rw[e1,w2,e3,ea,eb,ec]at e0;subst e0;obtain⟨k,fa,fd,pn,F,hr,hm,hk,hb⟩:=h.toXOk.fns f x [0] zc y2;rw[if_neg (by decide)]at F;obtain⟨g1,g2⟩:=h.toXOk.gl y1;exact Br (kq (sP F hr g1 hm hk hb .nil zy (ba (eP a1 a2 a3 a4) (ba (eP b1 b2 b3 b4) (ba (pR PySem.F.plainAttrs_list PySem.F.slot_list_pop PySem.F.type_list_pop pA (eP c1 c2 c3 c4) rfl c5) cL))) (bM g2).1) (eA rfl)) z3 (fI z4) z5 (by simpa using z6)
 | .ife c' a' b',X,C,M,h,st,z=>by
  obtain⟨⟨c,a,b⟩,z0,z⟩:=ao z;obtain⟨p,rfl⟩:=qJ z0;obtain⟨z,z3⟩:=af z;obtain⟨z1,z2⟩:=af z;exact EZ ((ak c' h.toXOk c).2 z1).1 (cm a' h a z2) (cm b' h b z3)
 | .forr tg it b',X,C,M,h,st,z=>by
  obtain⟨⟨t,it',b,o⟩,z0,z⟩:=ao z;obtain⟨p,rfl⟩:=sY z0;obtain⟨z,zc⟩:=af z;obtain⟨z,z7⟩:=af z;obtain⟨z,z6⟩:=af z;obtain⟨z,z5⟩:=af z;obtain⟨z,z4⟩:=af z;obtain⟨z,z3⟩:=af z;obtain⟨z1,z2⟩:=af z;have z1:o=[]:=List.isEmpty_iff.mp z1;subst z1;exact Eb h.xe (h.calm zc) (gq it h.toXOk t it' z2) (rj h.toXOk (fun i x _ _=>.inl (h.fn x)) z3) (cm b' h b z7) (d8 z4 _) z5 (m6 z6)
 | .ret e',X,C,M,h,st,z=>by
  obtain⟨o,z0,z⟩:=ao z;obtain⟨p,rfl⟩:=rL z0;obtain⟨e,rfl,zz⟩:=ao z;by_cases hv:sO M e'=true
  ·have:∃ i,e'=.var i:=by
    cases e'<;>first | exact⟨_,rfl⟩ | exact Bool.noConfusion hv
   obtain⟨i,rfl⟩:=this;obtain⟨x,q,rfl,g1,g2,g3,g4⟩:=gw h.toXOk zz;exact Ai g1 g2 g3 g4 hv
  ·exact Eg ((ak e' h.toXOk e).1 zz) fun i hi=>by
    subst hi;simpa[sO]using hv
 | .exc e',X,C,M,h,st,z=>by
  obtain⟨e,z0,z⟩:=ao z;obtain⟨p0,rfl⟩:=kj z0;obtain⟨z1,z2⟩:=af z;exact Dq (kq ((ak e' h.toXOk e).1 z2) (eA z1))
 | .ifp i e' a' b',X,C,M,h,st,z=>by
  obtain⟨⟨c,a,b⟩,z0,z⟩:=ao z;obtain⟨p,rfl⟩:=qJ z0;obtain⟨⟨l,os,rs⟩,z0,z⟩:=ao z;obtain⟨cp,ec⟩:=gx z0;have ec:c=.Compare l os rs cp:=ec;obtain⟨op,y1,z⟩:=aM z;obtain⟨e,y2,z⟩:=aM z;have y1:os=[op]:=y1;have y2:rs=[e]:=y2;obtain⟨z,z6⟩:=af z;obtain⟨z,z5⟩:=af z;obtain⟨z,z4⟩:=af z;obtain⟨z,z3⟩:=af z;obtain⟨z1,z2⟩:=af z;rw[beq_iff_eq]at z1;obtain⟨x,px,apos,as,pos,e2,g1,g2,g3,g4,z7,z8⟩:=kf h.toXOk z6;have e2:l=.Call (.Attribute (.Name x px) "pop" apos) as [] pos:=e2;have z8:as=[]:=List.isEmpty_iff.mp z8;rw[z8]at e2;rw[y1,y2,z1,e2]at ec;subst ec;exact EG (pR PySem.F.plainAttrs_list PySem.F.slot_list_pop PySem.F.type_list_pop pA (eP g1 g2 g3 g4) rfl z7) ((ak e' h.toXOk e).1 z3) (cm a' h a z4) (cm b' h b z5) z2
 | .rais _ _,X,C,M,h,st,z=>AW
 | .tryc b c i hh,X,C,M,h,st,z=>by
  obtain⟨⟨bd,hs,oe,fi⟩,z0,z⟩:=ao z;obtain⟨p,rfl⟩:=AY z0;obtain⟨z,z9⟩:=af z;obtain⟨z,z8⟩:=af z;obtain⟨z,z7⟩:=af z;obtain⟨z,z6⟩:=af z;obtain⟨z,z5⟩:=af z;obtain⟨z,z4⟩:=af z;obtain⟨z,z3⟩:=af z;obtain⟨z1,z2⟩:=af z;have v2:oe=[]:=List.isEmpty_iff.mp z2;have v3:fi=[]:=List.isEmpty_iff.mp z3;obtain⟨hd,y1,z8⟩:=aM z8;have v1:hs=[hd]:=y1;obtain⟨ht,hn,hb,hp⟩:=hd;obtain⟨w,w4⟩:=af z8;obtain⟨w,w3⟩:=af w;obtain⟨w1,w2⟩:=af w;obtain⟨te,q1,w5⟩:=ao w1;have u1:ht=some te:=q1;obtain⟨x,q2,w6⟩:=ao w5;obtain⟨np,q4⟩:=cb q2;rw[beq_iff_eq]at w6;clear w1 w5 q2;subst q4 w6;obtain⟨n,q3,w7⟩:=ao w2;have u3:hn=some n:=q3;obtain⟨n1,n2⟩:=af w7;rw[beq_iff_eq]at n2;have z9:cF C M b bd=true:=z9;have w4:cF { C with calm:=false } M hh hb=true:=w4;have w3:(!hb.isEmpty)=true:=w3;clear z2 z3 y1 q1 q3 z0 z;subst v2 v3 u1 u3
  cases hb with
  | nil=>cases w3
  |cons b0 bO=>
   subst v1;obtain⟨R,r1,r2⟩:=h.cls x z4;refine BX h.xe h.st.1 h.st.2.1 h.st.2.2 (cm b h bd z9) (fun pn E EX ps md ow=>eI b (h.rok pn E EX z1 ps md ow) bd z9) (fun e oe=>cm hh (h.bO e oe) (b0::bO) w4) r2 (by simpa using z5) (h.gl z6).1 r1 (bM (h.gl z6).2).1 h.ndX (h.nm n1).1 (by rw[h.scope];exact n2) (fI z7)
theorem cm:∀ (s:RL.Ss) {X:Cx} {C:CC} {M:List Nat} (h:YOk C X cl) (st:List Stmt),cF C M s st=true->SSs X cl M st s
 | .nil,X,C,M,h,st,z=>by
  have z:st=[]:=List.isEmpty_iff.mp z;subst z;exact Aw
 | .cons s r,X,C,M,h,st,z=>by
  cases st with
  | nil=>cases z
  |cons x xs=>
   obtain⟨z1,z2⟩:=af z;exact xM (sk s h x z1) (cm r h xs z2)
theorem xW:∀ (s:RL.S) {X:Cx} {C:CC} {M:List Nat} {EX:L2.St->XK} (h:ROk C X cl EX) (st:Stmt),x8 C M s st=true->RZ X EX cl M st s
 | .asg i e',X,C,M,EX,h,st,z=>by
  obtain⟨⟨ts,e⟩,z0,z⟩:=ao z;obtain⟨p,rfl⟩:=dG z0;obtain⟨t,y1,z⟩:=aM z;have y1:ts=[t]:=y1;obtain⟨z,zc⟩:=af z;obtain⟨z,z4⟩:=af z;obtain⟨z,z3⟩:=af z;obtain⟨z1,z2⟩:=af z;subst y1;exact vQ h z1 z3 z4 (fun _=>rfl)
 | .own i e',X,C,M,EX,h,st,z=>by
  obtain⟨⟨ts,e⟩,z0,z⟩:=ao z;obtain⟨p,rfl⟩:=dG z0;obtain⟨t,y1,z⟩:=aM z;have y1:ts=[t]:=y1;obtain⟨z,zc⟩:=af z;obtain⟨z,z5⟩:=af z;obtain⟨z,z4⟩:=af z;obtain⟨z,z3⟩:=af z;obtain⟨z1,z2⟩:=af z;subst y1;exact vQ h z1 z4 z5 (fun _=>rfl)
 | .unp is e',X,C,M,EX,h,st,z=>by
  obtain⟨⟨ts,e⟩,z0,z⟩:=ao z;obtain⟨p,rfl⟩:=dG z0;obtain⟨t,y1,z⟩:=aM z;have y1:ts=[t]:=y1;obtain⟨us,y2,z⟩:=ao z;obtain⟨k,tp,rfl⟩:=dI y2;obtain⟨z,z4⟩:=af z;obtain⟨z,z3⟩:=af z;obtain⟨z1,z2⟩:=af z;subst y1;obtain⟨g1,g2,g3⟩:=jQ h.y.toXOk (T:=is) (fun i x _ _=>.inl (h.y.fn x)) (fun _ h=>h) z1;refine oy (qP (gr e' h e z4) (PG.nox (qf (mO g1 g2 g3) (mY g1 g2 g3))) ?_ (nE z3)) fun _=>rfl;cases e<;>rfl
 | .exc e',X,C,M,EX,h,st,z=>by
  obtain⟨e,z0,z⟩:=ao z;obtain⟨p0,rfl⟩:=kj z0;obtain⟨z1,z2⟩:=af z;exact oy (kq (gr e' h e z2) (eA z1)) fun _=>rfl
 | .ret e',X,C,M,EX,h,st,z=>by
  obtain⟨o,z0,z⟩:=ao z;obtain⟨p,rfl⟩:=rL z0;obtain⟨e,rfl,zz⟩:=ao z;exact oy (g:=fun D _=>D.rt) (qI (gr e' h e zz)) fun _=>rfl
 | .ife c' a' b',X,C,M,EX,h,st,z=>by
  obtain⟨⟨c,a,b⟩,z0,z⟩:=ao z;obtain⟨p,rfl⟩:=qJ z0;obtain⟨z,z3⟩:=af z;obtain⟨z1,z2⟩:=af z;exact Fi (PT.nox ((ak c' h.y.toXOk c).2 z1).1) (eI a' h a z2) (eI b' h b z3)
 | .forr tg it b',X,C,M,EX,h,st,z=>by
  obtain⟨⟨t,it',b,o⟩,z0,z⟩:=ao z;obtain⟨p,rfl⟩:=sY z0;obtain⟨z,zc⟩:=af z;obtain⟨z,z7⟩:=af z;obtain⟨z,z6⟩:=af z;obtain⟨z,z5⟩:=af z;obtain⟨z,z4⟩:=af z;obtain⟨z,z3⟩:=af z;obtain⟨z1,z2⟩:=af z;have z1:o=[]:=List.isEmpty_iff.mp z1;subst z1;exact BL h.own (h.y.calm zc) (PI.nox (gq it h.y.toXOk t it' z2)) (PG.nox (rj h.y.toXOk (fun i x _ _=>.inl (h.y.fn x)) z3)) (PSs.nox (cm b' h.y b z7)) (eI b' h b z7) (d8 z4 _) z5 (m6 z6)
 | .rais c ps,X,C,M,EX,h,st,z=>by
  obtain⟨⟨eo,co⟩,z0,z⟩:=ao z;obtain⟨p,rfl⟩:=vR z0;obtain⟨z,z5⟩:=af z;obtain⟨z,z4⟩:=af z;obtain⟨z,z3⟩:=af z;obtain⟨z1,z2⟩:=af z;have z4:co=none:=eF z4;obtain⟨e,q1,z5⟩:=ao z5;have q1:eo=some e:=q1;obtain⟨⟨g,as,ks,cp⟩,w0,w⟩:=ao z5;have w0:=dB w0;obtain⟨w,w3⟩:=af w;obtain⟨w1,w2⟩:=af w;obtain⟨x,q2,w1⟩:=ao w1;obtain⟨np,q3⟩:=cb q2;have q3:g=.Name x np:=q3;rw[beq_iff_eq]at w1;subst w1;have w2:ks=[]:=List.isEmpty_iff.mp w2;obtain⟨a,q4,w3⟩:=aM w3;have q4:as=[a]:=q4;obtain⟨w3,w4⟩:=af w3;rw[q3,w2,q4]at w0;subst w0 z4 q1;exact yt h z1 z2 z3 w3 w4
 | .par _ _ _ _,X,C,M,EX,h,st,z=>gc fun _=>rfl
 | .app _ _,X,C,M,EX,h,st,z=>gc fun _=>rfl
 | .put _ _ _,X,C,M,EX,h,st,z=>gc fun _=>rfl
 | .pop _ _,X,C,M,EX,h,st,z=>gc fun _=>rfl
 | .aug _ _ _,X,C,M,EX,h,st,z=>gc fun _=>rfl
 | .ifp _ _ _ _,X,C,M,EX,h,st,z=>gc fun _=>rfl
 | .tie3 _ _ _ _,X,C,M,EX,h,st,z=>gc fun _=>rfl
 | .tryc _ _ _ _,X,C,M,EX,h,st,z=>gc fun _=>rfl
theorem eI:∀ (s:RL.Ss) {X:Cx} {C:CC} {M:List Nat} {EX:L2.St->XK} (h:ROk C X cl EX) (st:List Stmt),cF C M s st=true->RZs X EX cl M st s
 | .nil,X,C,M,EX,h,st,z=>Av
 | .cons s r,X,C,M,EX,h,st,z=>by
  cases st with
  | nil=>cases z
  |cons x xs=>
   obtain⟨z1,z2⟩:=af z;exact yM (PS.nox (sk s h.y x z1)) (xW s h x z1) (eI r h xs z2)
end
end
structure fN where
 name:Str
 st:Stmt
 ps:List Str
 N:List Str
 h:Bool
structure PT' where
 B:List Str
 G:List (Str × Int)
 Ds:List fN
 T:List RL.Fn
 Xr:List Str
 Xs:List Str
abbrev PT'.F(p:PT'):List (Str × List Nat):=(p.Ds.zip p.T).map fun q=>(q.1.name,q.2.mp)
abbrev PT'.hf(p:PT'):List Nat:=(List.range p.Ds.length).filter fun f=>(p.Ds[f]?).any (·.h)
abbrev PT'.cc(p:PT')(d:fN):CC:=⟨d.N,aN d.st,p.B,p.G,p.F,true,p.hf,p.Xr,p.Xs⟩
abbrev oZ(N ps:List Str)(sc:Scope):Bool :=
 sc.kind == .function && !sc.isCoroutine && !sc.isGenerator&&decide N.Nodup&&N.take ps.length == ps&&ps.all (fun x=>sc.names.lookup x == some .local || sc.names.lookup x == some .cell)&&sc.names.all (fun y=>!(y.2 == .free))
abbrev fnB(p:PT')(d:fN)(fn:RL.Fn):Bool :=
 oZ d.N d.ps (aN d.st)&&fn.ps == d.ps.length&&fn.nn == d.N.length&&decide (d.ps.length<=d.N.length)&&(List.range fn.ps).all (fun i=>!fn.M.contains i || fn.mp.contains i)&&fn.mp.all (fun i=>decide (i<fn.ps)&&decide (2<=fn.M.count i))&&cF (p.cc d) fn.M fn.body (cu d.st)&&(!d.h || cF { p.cc d with calm:=false } fn.M fn.body (cu d.st))
abbrev PT'.ok(p:PT'):Bool:=decide (p.T.length<=1000)&&p.Ds.length == p.T.length&&(p.Ds.zip p.T).all fun q=>fnB p q.1 q.2
def xU{N ps:List Str}{sc:Scope}(h:oZ N ps sc=true):fh N ps sc:=by
 unfold oZ at h;obtain⟨h,h7⟩:=af h;obtain⟨h,h6⟩:=af h;obtain⟨h,h5⟩:=af h;obtain⟨h,h4⟩:=af h;obtain⟨h,h3⟩:=af h;obtain⟨h1,h2⟩:=af h;refine⟨by simpa using h1,by simpa using h2,by simpa using h3,by simpa using h4,by simpa using h5,fun x hx=>?_,fun y hy=>?_⟩
 ·rw[List.all_eq_true]at h6;have:=h6 x hx;rw[Bool.or_eq_true,beq_iff_eq,beq_iff_eq]at this;exact this
 ·rw[List.all_eq_true]at h7;have:=h7 y hy;intro z;rw[z]at this;simp at this
structure um(p:PT')(K:PySem.W.Frag)(mg:Str->Option Value):Prop where
 defs:∀ (f:Nat) (d:fN),p.Ds[f]?=some d->∃ fa fd,mg d.name=some (.ref fa)/\Fun K d.name d.name d.st fa fd/\PySem.W.keepIn K (.ref fa)=true/\Binds K fd d.ps []
 blt:∀ x∈p.B,mg x=none
 glb:∀ x i,p.G.lookup x=some i->∃ u,mg x=some u/\RelV (.int i) u
 cls:∀ c,p.Xr.contains c=true->∃ D,mg c=some (.ref D)/\Cls K c D
 ref:∀ c,p.Xs.contains c=true->∃ D,mg c=some (.ref D)/\PySem.W.nsIn K mainGlobals c=some (some (.ref D))
section
variable{p:PT'}{K:PySem.W.Frag}{mg:Str->Option Value}{base:Heap}{P:Program}{w:World}
abbrev mU(K:PySem.W.Frag)(cl:RL.Cl)(mp:List Nat)(f:Nat):Sp:=if mp=[]then spF K cl f else spM K cl mp f
def bc{α:Type}(vs:List α)(k:Nat)(i:Nat)(v:α):(vs.map some++List.replicate k none)[i]?=some (some v)↔vs[i]?=some v:=by
 by_cases h:i<vs.length
 ·rw[List.getElem?_append_left (by simpa using h)];simp[h]
 ·rw[List.getElem?_append_right (by simpa using h)];constructor
  ·intro e;rw[List.getElem?_replicate]at e;split at e<;>cases e
  ·intro e;have:=(List.getElem?_eq_some_iff.mp e).1;lia
def sE{ds:List RL.D}{vs:List V}{H:Hp}{M:List Nat}{k n:Nat}(r:ah nP K H ds vs)(hM:∀ i,i<n->M.contains i=false)(hn:ds.length=n):RVm K M (ds.map some++List.replicate k none) (vs.map some++List.replicate k none) H:=by
 have nA:∀ a,¬ bh M (vs.map some++List.replicate k none) a:=fun a ⟨i,hi,e⟩=>by
  rw[bc]at e;have:=(List.getElem?_eq_some_iff.mp e).1;rw[hM i (by rw[<-hn,r.length];exact this)]at hi;cases hi
 refine⟨by simp[r.length],fun i d e=>?_,fun i v e=>?_,fun i j a hi hj e1 e2=>(nA a ⟨i,hi,e1⟩).elim⟩
 ·rw[bc]at e;obtain⟨v,h1,h2⟩:=r.get e;have hl:=(List.getElem?_eq_some_iff.mp e).1;refine⟨v,(bc _ _ _ _).mpr h1,?_⟩;rw[if_neg (by rw[hM i (by lia)];decide)];exact h2.weak fun a ha=>nA a ha
 ·rw[bc]at e;have hl:=(List.getElem?_eq_some_iff.mp e).1;exact⟨ds[i]'(by rw[r.length];exact hl),(bc _ _ _ _).mpr (by simp)⟩
def zS{ds:List RL.D}{vs:List V}{H:Hp}{M mp:List Nat}{k n:Nat}(a:BY K mp ds vs H)(hM:∀ i,i<n->M.contains i=true->i∈mp)(hp:∀ i∈mp,M.contains i=true)(hn:ds.length=n):RVm K M (ds.map some++List.replicate k none) (vs.map some++List.replicate k none) H:=by
 have r:=a.yD
 have inM:∀ i v,(vs.map some++List.replicate k none)[i]?=some (some v)->M.contains i=true->i∈mp/\vs[i]?=some v:=fun i v e hi=>by
  rw[bc]at e;have:=(List.getElem?_eq_some_iff.mp e).1;exact⟨hM i (by rw[<-hn,r.length];exact this) hi,e⟩
 refine⟨by simp[r.length],fun i d e=>?_,fun i v e=>?_,fun i j b hi hj e1 e2=>?_⟩
 ·rw[bc]at e;obtain⟨v,h1,h2⟩:=r.get e;have hl:=(List.getElem?_eq_some_iff.mp e).1;refine⟨v,(bc _ _ _ _).mpr h1,?_⟩;by_cases hm:M.contains i=true
  ·rw[if_pos hm];obtain⟨d',b,g1,g2,g3⟩:=a.own i (hM i (by lia) hm);rw[e]at g1;cases g1;rw[h1]at g2;cases g2;exact g3
  ·rw[if_neg hm];refine(a.oth i d v (fun z=>hm (hp i z)) e h1).weak fun b ⟨j,hj,ej⟩=>?_;obtain⟨q1,q2⟩:=inM j _ ej hj;exact⟨j,q1,q2⟩
 ·rw[bc]at e;have hl:=(List.getElem?_eq_some_iff.mp e).1;exact⟨ds[i]'(by rw[r.length];exact hl),(bc _ _ _ _).mpr (by simp)⟩
 ·obtain⟨q1,q2⟩:=inM i _ e1 hi;obtain⟨q3,q4⟩:=inM j _ e2 hj;exact a.sep i q1 j q3 b q2 q4
def pf{σ:RL.St}:∀ {mp:List Nat} {outs:List RL.D},RL.gS σ mp=some outs->outs.length=mp.length/\∀ (k i:Nat) o,mp[k]?=some i->outs[k]?=some o->σ[i]?=some (some o)
 | [],outs,h=>by
  rw[RL.gS]at h;cases h;exact⟨rfl,fun k i o e=>by simp at e⟩
 | m::mp,outs,h=>by
  rw[RL.gS]at h;obtain⟨d,h1,h⟩:=bind_some h;obtain⟨os,h2,h3⟩:=map_some h;subst h3;obtain⟨g1,g2⟩:=pf h2;refine⟨by simp[g1],fun k i o e1 e2=>?_⟩
  cases k with
  |zero=>
   simp at e1 e2;subst e1 e2;exact slot_get h1
  | succ k=>exact g2 k i o (by simpa using e1) (by simpa using e2)
def vO{fn:RL.Fn}{d r:RL.D}{σ:RL.St}(h:RL.bg fn d σ=some r)(hm:fn.mp=[]):r=d:=by
 unfold RL.bg at h;rw[hm]at h;simpa using h.symm
def DX{fn:RL.Fn}{d r:RL.D}{σ:RL.St}(h:RL.bg fn d σ=some r)(hm:fn.mp≠[]):d.imm=true/\∃ outs,RL.gS σ fn.mp=some outs/\r=.tup (d::outs):=by
 unfold RL.bg at h;rw[if_neg (by simpa using hm)]at h;split at h
 ·rename_i im;obtain⟨os,h1,h2⟩:=map_some h;exact⟨im,os,h1,h2.symm⟩
 ·cases h
structure FnB(p:PT')(d:fN)(fn:RL.Fn):Prop where
 sc:fh d.N d.ps (aN d.st)
 ps:fn.ps=d.ps.length
 nn:fn.nn=d.N.length
 hM:∀ i,i<fn.ps->fn.M.contains i=true->i∈fn.mp
 mp:∀ i∈fn.mp,i<fn.ps/\2<=fn.M.count i
 body:cF (p.cc d) fn.M fn.body (cu d.st)=true
 hb:d.h=true->cF { p.cc d with calm:=false } fn.M fn.body (cu d.st)=true
def B9{d:fN}{fn:RL.Fn}(hB:fnB p d fn=true):FnB p d fn:=by
 unfold fnB at hB;obtain⟨hB,b8⟩:=af hB;obtain⟨hB,b7⟩:=af hB;obtain⟨hB,b6⟩:=af hB;obtain⟨hB,b5⟩:=af hB;obtain⟨hB,b4⟩:=af hB;obtain⟨hB,b3⟩:=af hB;obtain⟨b1,b2⟩:=af hB;rw[beq_iff_eq]at b2 b3;rw[List.all_eq_true]at b5 b6;refine⟨xU b1,b2,b3,fun i hi hm=>?_,fun i hi=>by simpa using b6 i hi,b7,fun hh=>by simpa[hh]using b8⟩;have:=b5 i (List.mem_range.mpr hi);rw[hm]at this;simpa using this
def v5{f:Nat}(h:p.hf.contains f=true):∃ d,p.Ds[f]?=some d/\d.h=true:=by
 unfold PT'.hf at h;rw[List.contains_iff_mem,List.mem_filter]at h;exact ao h.2
def vK{cl:RL.Cl}{f:Nat}{d:fN}{fn:RL.Fn}{vs:List V}{H:Hp}{Q:VK}{ds:List RL.D}{r:RL.D}{o:RL.Out}{σ':RL.St}(B:FnB p d fn)(hmp:fn.mp=[])(r1:ah nP K H ds vs)(hlen:ds.length=fn.ps)(e2:(match o with | .nx=>RL.bg fn .non σ' | .rt d=>RL.bg fn d σ')=some r)(e1:RL.aj cl fn.M fn.body (ds.map some++List.replicate (fn.nn-fn.ps) none)=some (o,σ'))
 (k:∀ v H',au H H'->Rep (fun p=>H p≠none) K H' r v->Q v H'):tS K fn.M (RL.aj cl fn.M fn.body) { nx:=fun _ H'=>Q .non H',rt:=Q } (start d.N vs) H:=by
 have hst:start d.N vs=vs.map some++List.replicate (d.N.length-vs.length) none:=rfl
 have hvl:vs.length=fn.ps:=by rw[<-r1.length];exact hlen
 refine⟨_,o,σ',?_,e1,?_⟩
 ·rw[hst,hvl,<-B.nn]
  exact sE r1 (fun i hi=>by
   cases hc:fn.M.contains i with
   | false=>rfl
   |true=>
    have:=B.hM i hi hc;rw[hmp]at this
    cases this) hlen
 ·have noA:∀ a,¬ bh fn.M (start d.N vs) a:=fun a ⟨i,hi,ei⟩=>by
   rw[hst,bc]at ei;have h3:=(List.getElem?_eq_some_iff.mp ei).1;have:=B.hM i (by lia) hi;rw[hmp]at this;cases this
  cases o with
  |nx=>
   have hr':=vO (d:=.non) e2 hmp;subst hr';intro σ1 H1 rv1 fr1;refine k .non H1 (fun b u eb=>(fr1.1 b u eb (noA b)).1) (by rw[Rep])
  |rt d0=>
   have hr':=vO (d:=d0) e2 hmp;subst hr';intro σ1 H1 v H' rv1 fr1 sm rp;refine k v H' (fun b u eb=>sm _ _ (fr1.1 b u eb (noA b)).1) (rp _ fun q hq=>?_);obtain⟨u,hu⟩:=Option.ne_none_iff_exists'.mp hq;have:=fr1.1 q u hu (noA q);exact⟨(by rw[this.1];exact fun z=>nomatch z),this.2⟩
def B1{cl:RL.Cl}{d:fN}{fn:RL.Fn}{vs:List V}{H:Hp}{E:XK}{ds:List RL.D}{x:Str}{σ':RL.St}{D:Ends}(B:FnB p d fn)(hmp:fn.mp=[])(r1:ah nP K H ds vs)(hlen:ds.length=fn.ps)(e1:RL.cn cl fn.M fn.body (ds.map some++List.replicate (fn.nn-fn.ps) none)=some (x,σ'))
 (k:∀ C H',Cls K x C->au H H'->E (.ref C) none H'):tXS K fn.M (fun _=>E) (RL.cn cl fn.M fn.body) D (start d.N vs) H:=by
 have hst:start d.N vs=vs.map some++List.replicate (d.N.length-vs.length) none:=rfl
 have hvl:vs.length=fn.ps:=by rw[<-r1.length];exact hlen
 refine⟨_,x,σ',?_,e1,fun σ1 H1 C hc rv1 fr1=>k C H1 hc fun b u eb=>(fr1.1 b u eb fun⟨i,hi,ei⟩=>?_).1⟩
 ·rw[hst,hvl,<-B.nn]
  exact sE r1 (fun i hi=>by
   cases hc:fn.M.contains i with
   | false=>rfl
   |true=>
    have:=B.hM i hi hc;rw[hmp]at this
    cases this) hlen
 ·rw[hst,bc]at ei;have h3:=(List.getElem?_eq_some_iff.mp ei).1;have:=B.hM i (by lia) hi;rw[hmp]at this;cases this
structure Gh(P:Program)(w:World)(K:PySem.W.Frag)(mg:Str->Option Value)(base:Heap)(p:PT')(n f:Nat)(d:fN)(fn:RL.Fn)(fa:Addr)(fd:FuncData):Prop where
 nor:dO P w K mg base CX0 n fa fd d.ps (mU K (RL.ar p.T n) fn.mp f)
 ref:fn.mp=[]->dO P w K mg base (CXE P w) n fa fd d.ps (spX K (RL.ar p.T n) f)
 sui:d.h=true->fn.mp=[]->lR P w K mg base n fa fd d.ps (spF K (RL.ar p.T n) f)
def iH(hok:p.ok=true)(tp:um p K mg):∀ (n f:Nat) (d:fN) (fn:RL.Fn),p.Ds[f]?=some d->p.T[f]?=some fn->∀ fa fd,Fun K d.name d.name d.st fa fd->Gh P w K mg base p n f d fn fa fd
 | 0,f,d,fn,hd,hf,fa,fd,F=>by
  have no:∀ vs H Q E,¬ mU K (RL.ar p.T 0) fn.mp f vs H Q E:=fun vs H Q E h=>by
   unfold mU at h;split at h
   ·obtain⟨ds,r,_,e,_⟩:=h;cases e
   ·obtain⟨ds,r,o,e,_⟩:=h;cases e
  have noF:∀ vs H Q E,¬ spF K (RL.ar p.T 0) f vs H Q E:=fun vs H Q E h=>by
   obtain⟨ds,r,_,e,_⟩:=h;cases e
  have noX:∀ vs H Q E,¬ spX K (RL.ar p.T 0) f vs H Q E:=fun vs H Q E h=>by
   obtain⟨ds,r,_,e,_⟩:=h;cases e
  exact⟨⟨fun vs H Q E h=>(no vs H Q E h).elim,fun A outer s H args us vs Q E _ _ _ _ h=>(no vs H Q E h).elim⟩,fun _=>⟨fun vs H Q E h=>(noX vs H Q E h).elim,fun A outer s H args us vs Q E _ _ _ _ h=>(noX vs H Q E h).elim⟩,fun _ _=>⟨fun vs H Q h=>(noF vs H Q E0 h).elim,fun A outer s H us vs Q _ _ _ _ _ h=>(noF vs H Q E0 h).elim⟩⟩
 | n+1,f,d,fn,hd,hf,fa,fd,F=>by
  have hok':=hok;unfold PT'.ok at hok';obtain⟨hok',hall⟩:=af hok';obtain⟨hT,hl⟩:=af hok';rw[beq_iff_eq]at hl;rw[decide_eq_true_eq]at hT;rw[List.all_eq_true]at hall
  have hz:(p.Ds.zip p.T)[f]?=some (d,fn):=by
   rw[List.getElem?_zip_eq_some];exact⟨hd,hf⟩
  have B:=B9 (hall (d,fn) (List.mem_of_getElem? hz))
  have unf:∀ ds r,RL.ar p.T (n+1) f ds=some r->ds.length=fn.ps/\∃ o σ',RL.aj (RL.ar p.T n) fn.M fn.body (ds.map some++List.replicate (fn.nn-fn.ps) none)=some (o,σ')/\(match o with | .nx=>RL.bg fn .non σ' | .rt d=>RL.bg fn d σ')=some r:=by
   intro ds r h;rw[RL.ar,hf]at h;dsimp only at h;split at h
   ·rename_i hlen;obtain⟨⟨o,σ'⟩,h1,h2⟩:=bind_some h;exact⟨hlen,o,σ',h1,h2⟩
   ·cases h
  have unx:∀ ds x,RL.clX (RL.ar p.T (n+1)) f ds=some x->ds.length=fn.ps/\fn.mp=[]/\∃ σ',RL.cn (RL.ar p.T n) fn.M fn.body (ds.map some++List.replicate (fn.nn-fn.ps) none)=some (x,σ'):=by
   intro ds x h;unfold RL.clX at h;obtain⟨r,h1,h2⟩:=bind_some h;have hT2:p.T[f+1000]?=none:=List.getElem?_eq_none_iff.mpr (by lia);rw[RL.ar,hT2]at h1;dsimp only at h1;rw[Nat.add_sub_cancel,hf]at h1;dsimp only[Option.bind_some]at h1;split at h1
   ·rename_i hlen;obtain⟨⟨y,σ'⟩,h3,h4⟩:=map_some h1;subst h4;cases h2;exact⟨hlen.1,hlen.2,σ',h3⟩
   ·cases h1
  have look:∀ {g:Nat} {x:Str} {mp:List Nat},p.F[g]?=some (x,mp)->∃ d' fn',p.Ds[g]?=some d'/\p.T[g]?=some fn'/\d'.name=x/\fn'.mp=mp:=fun {g x mp} hg=>by
   unfold PT'.F at hg;rw[List.getElem?_map]at hg;obtain⟨⟨d',fn'⟩,q1,q2⟩:=map_some hg;cases q2;rw[List.getElem?_zip_eq_some]at q1;exact⟨d',fn',q1.1,q1.2,rfl,rfl⟩
  have Y:∀ (CX:CXT) (E:XK) (cdv:Value) (A:Around) (outer:List Env) (s:Shared) (H:Hp),cq n (A.deeper (envOfC d.name (aN d.st) s.heap.objs.size fa cdv))->YOk (p.cc d) (gM CX P w K mg base d.N d.name (aN d.st) fa cdv A outer s H E).nox (RL.ar p.T n):=fun CX E cdv A outer s H hr=>{
   scope:=rfl
   names:=rfl
   nd:=B.sc.nd
   calm:=fun _=>rfl
   xe:=rfl
   hu:=by
    have:=hr.un;show(A.deeper _).units+100<cLine;lia
   blt:=tp.blt
   glb:=tp.glb
   fns:=fun g x mp _ hg=>by
    obtain⟨d',fn',q1,q2,rfl,rfl⟩:=look hg;obtain⟨fa',fd',t1,t2,t3,t4⟩:=tp.defs g d' q1;exact⟨n,fa',fd',d'.ps,(iH hok tp n g d' fn' q1 q2 fa' fd' t2).nor,hr,t1,t3,t4⟩
   hfn:=fun g x hh hg=>by
    obtain⟨d',fn',q1,q2,rfl,q3⟩:=look hg;obtain⟨d2,q4,q5⟩:=v5 hh;rw[q1]at q4;cases q4;obtain⟨fa',fd',t1,t2,t3,t4⟩:=tp.defs g d' q1;exact⟨n,fa',fd',d'.ps,(iH hok tp n g d' fn' q1 q2 fa' fd' t2).sui q5 q3,hr.h,t1,t3,t4⟩
   cls:=tp.cls
   ref:=tp.ref
   fn:=fun _=>rfl
   st:=⟨rfl,rfl,rfl⟩
   fnx:=fun g x _ hg=>by
    obtain⟨d',fn',q1,q2,rfl,q3⟩:=look hg;obtain⟨fa',fd',t1,t2,t3,t4⟩:=tp.defs g d' q1
    exact⟨n,fa',fd',d'.ps,(iH hok tp n g d' fn' q1 q2 fa' fd' t2).ref q3,hr,t1,t3,t4⟩ }
  refine⟨?_,fun hmp=>?_,fun hh hmp=>?_⟩
  ·refine Fun.ok F B.sc (fun vs H Q E h=>?_) fun cdv A outer s H vs Q E hr h=>?_
   ·unfold mU at h;split at h
    ·obtain⟨ds,r,r1,e,_⟩:=h;rw[<-r1.length,(unf ds r e).1,B.ps]
    ·obtain⟨ds,r,o,e,a,_⟩:=h;rw[<-a.yD.length,(unf ds _ e).1,B.ps]
   ·refine⟨_,cm fn.body (Y CX0 E cdv A outer s H hr) (M:=fn.M) _ B.body,?_⟩;have hst:start d.N vs=vs.map some++List.replicate (d.N.length-vs.length) none:=rfl;unfold mU at h;split at h
    ·rename_i hmp;obtain⟨ds,r,r1,e,k⟩:=h;obtain⟨hlen,o,σ',e1,e2⟩:=unf ds r e;exact vK (f:=f) B hmp r1 hlen e2 e1 k
    ·rename_i hmp;obtain⟨ds,r,outs,e,a,k⟩:=h;obtain⟨hlen,o,σ',e1,e2⟩:=unf ds _ e
     have hvl:vs.length=fn.ps:=by rw[<-a.yD.length];exact hlen
     refine⟨_,o,σ',?_,e1,?_⟩
     ·rw[hst,hvl,<-B.nn];exact zS a B.hM (fun i hi=>iB (B.mp i hi).2) hlen
     ·-- the lists behind it
      have fin:∀ (d0:RL.D) (σ1:L2.St) (H1 H':Hp) (v:V),RL.bg fn d0 σ'=some (.tup (r::outs))->RVm K fn.M σ' σ1 H1->Fr' fn.M (start d.N vs) H σ1 H1->au H1 H'->(d0.imm=true->Rep nP K H' d0 v)->Q v H':=by
       intro d0 σ1 H1 H' v ht rv1 fr1 sm rp;obtain⟨im,os,g1,g2⟩:=DX ht hmp;cases g2;obtain⟨l1,l2⟩:=pf g1;refine k v H' (fun b u nb eb=>sm _ _ (fr1.1 b u eb fun⟨i,hi,ei⟩=>?_).1) (rp im) im ⟨l1,fun kk pp oo hk ho=>?_⟩
       ·rw[hst,bc]at ei;have h3:=(List.getElem?_eq_some_iff.mp ei).1;exact nb ⟨i,B.hM i (by lia) hi,ei⟩
       ·have hpm:=List.mem_of_getElem? hk;obtain⟨dp,ap,g3,g4,g5⟩:=a.own pp hpm;have g6:=fr1.2 pp (B.mp pp hpm).2
        have g7:(start d.N vs)[pp]?=some (some (.ref ap)):=by rw[hst,bc];exact g4
        rw[g7]at g6;obtain⟨v',g8,g9⟩:=rv1.val pp oo (l2 kk pp oo hk ho);rw[g6]at g8;cases g8;rw[if_pos (iB (B.mp pp hpm).2)]at g9;exact⟨ap,g4,g9.same sm⟩
      cases o with
      |nx=>
       intro σ1 H1 rv1 fr1
       exact fin .non σ1 H1 H1 .non e2 rv1 fr1 (au.refl _) fun _=>by rw[Rep]
      |rt d0=>
       intro σ1 H1 v H' rv1 fr1 sm rp;exact fin d0 σ1 H1 H' v e2 rv1 fr1 sm fun im=>rp nP fun _ z=>z.elim
  ·refine Fun.okX F B.sc (fun vs H Q E h=>?_) fun cdv A outer s H vs Q E hr h=>?_
   ·obtain⟨ds,x,r1,e,_⟩:=h;rw[<-r1.length,(unx ds x e).1,B.ps]
   ·have R:ROk (p.cc d) (gM (CXE P w) P w K mg base d.N d.name (aN d.st) fa cdv A outer s H E) (RL.ar p.T n) (fun _=>E):={
     y:=Y (CXE P w) E cdv A outer s H hr
     cal:=rfl
     pass:=fun pins σ H1 s1 e s' I z=>by
      obtain⟨x,C,H',rfl,hE,I',ex,_⟩:=I.refused rfl z;exact rn I' rfl rfl rfl ex hE I'.ok.frames
     made:=fun pins σ H1 s1 h' e C vs I m z=>by
      obtain⟨I',ex⟩:=I.newExc rfl m;exact rn I' rfl rfl rfl ex z I'.ok.frames
     own:=PassesOwn.leaving }
    obtain⟨ds,x,r1,e,k⟩:=h;obtain⟨hlen,_,σ',e1⟩:=unx ds x e;exact⟨_,eI fn.body R (M:=fn.M) _ B.body,B1 B hmp r1 hlen e1 k⟩
  ·refine Fun.okH F B.sc (fun vs H Q h=>?_) fun cdv A outer s H vs Q hr h=>?_
   ·obtain⟨ds,r,r1,e,_⟩:=h;rw[<-r1.length,(unf ds r e).1,B.ps]
   ·have Z:YOk { p.cc d with calm:=false } (cxH P w K mg base d.N d.name (aN d.st) fa cdv A outer s H) (RL.ar p.T n):={
     scope:=rfl
     names:=rfl
     nd:=B.sc.nd
     calm:=fun z=>(nomatch z)
     xe:=rfl
     hu:=by
      have:=hr.un;show(A.deeper _).units+100<cLine;lia
     blt:=tp.blt
     glb:=tp.glb
     fns:=fun _ _ _ z=>(nomatch z)
     hfn:=fun g x hh hg=>by
      obtain⟨d',fn',q1,q2,rfl,q3⟩:=look hg;obtain⟨d2,q4,q5⟩:=v5 hh;rw[q1]at q4;cases q4;obtain⟨fa',fd',t1,t2,t3,t4⟩:=tp.defs g d' q1;exact⟨n,fa',fd',d'.ps,(iH hok tp n g d' fn' q1 q2 fa' fd' t2).sui q5 q3,hr,t1,t3,t4⟩
     cls:=tp.cls
     ref:=tp.ref
     fn:=fun _=>rfl
     st:=⟨rfl,rfl,rfl⟩
     fnx:=fun _ _ z=>(nomatch z) }
    obtain⟨ds,r,r1,e,k⟩:=h;obtain⟨hlen,o,σ',e1,e2⟩:=unf ds r e;exact⟨_,cm fn.body Z (M:=fn.M) _ (B.hb hh),vK (f:=f) B hmp r1 hlen e2 e1 k⟩
def CY(hok:p.ok=true)(tp:um p K mg):∀ (n f:Nat) (d:fN) (fn:RL.Fn),p.Ds[f]?=some d->p.T[f]?=some fn->∀ fa fd,Fun K d.name d.name d.st fa fd->dO P w K mg base CX0 n fa fd d.ps (mU K (RL.ar p.T n) fn.mp f):=fun n f d fn a b fa fd F=>(iH hok tp n f d fn a b fa fd F).nor
end
abbrev spL(n:Nat)(p:PT')(f:Nat)(K:PySem.W.Frag):Sp:=spF K (RL.ar p.T n) f
def Ed{n:Nat}{p:PT'}{f:Nat}{K:PySem.W.Frag}{H:Hp}{a:Addr}{ns:List Int}(hO:qe H)(hS:SqL K H a (ns.map V.int))(h:RL.ar p.T n f [.scr (ns.map RL.D.int)]=some (.bl true)):spL n p f K [.ref a] H (fun v _=>v=.bl true) fun _ _ _=>False:=by
 refine⟨_,_,?_,h,fun v H' _ r=>aZ r⟩;refine ah.cons ?_ ah.nil;rw[Rep];refine⟨a,ns.map V.int,rfl,?_,?_⟩
 ·rcases hS with(z | ⟨o,z⟩) | z
  ·rcases hO a with q | ⟨o,xs,q⟩
   ·rw[q]at z;cases z
   ·rw[q]at z;cases z
  ·exact .inl ⟨o,z⟩
  ·exact .inr (.inr z)
 ·clear hS h
  induction ns with
  | nil=>exact ah.nil
  | cons i r ih=>exact ah.cons bb ih
end RS
namespace K03
open PySem PySem.Spec PyProof.Rows L2
abbrev top(i:Nat):Stmt:=PySem.Challenge.pw_ribbonloft_k03_brackets_there_and_back.main.body.getD i (.Pass ⟨0,0,0,0⟩)
abbrev Ds:List RS.fN:=[
 ⟨"is_number",top 19,["value"],["value"],false⟩,
 ⟨"is_peg_count",top 20,["value"],["value"],false⟩,
 ⟨"is_pairing",top 22,["row"],["row", "place"],false⟩,
 ⟨"names_back",top 23,["row", "place"],["row", "place", "other"],false⟩,
 ⟨"is_uncrossed",top 24,["row"],["row", "waiting", "place", "other"],false⟩,
 ⟨"tie",top 25,["row", "one", "other"],["row", "one", "other"],false⟩,
 ⟨"is_frame",top 27,["frame"],["frame", "pegs", "alone", "peg", "other"],false⟩,
 ⟨"check_frame",top 28,["frame"],["frame"],false⟩,
 ⟨"pegs_of",top 29,["frame"],["frame"],false⟩,
 ⟨"brackets",top 30,["frame"],["frame", "place", "other"],false⟩,
 ⟨"from_brackets",top 31,["text"],["text", "row", "waiting", "place", "sign"],false⟩,
 ⟨"is_brackets",top 32,["text"],["text", "depth", "sign"],false⟩,
 ⟨"round_place",top 33,["pegs", "peg"],["pegs", "peg"],false⟩,
 ⟨"in_round",top 34,["frame"],["frame", "pegs", "peg"],false⟩,
 ⟨"moved",top 35,["frame", "to"],["frame", "to", "ends", "peg", "other"],false⟩,
 ⟨"_law_kin",top 37,["_law_e"],["_law_e", "_law_found", "_law_words", "_law_word", "_law_kin_here"],true⟩,
 ⟨"_law_mix",top 38,["_law_seed"],["_law_seed", "_law_one", "_law_two"],false⟩,
 ⟨"_law_raw",top 39,["_law_script", "_law_k"],["_law_script", "_law_k", "_law_cell", "_law_found", "_law_turn"],false⟩,
 ⟨"_law_digits",top 40,["_law_script", "_law_k", "_law_sizes"],["_law_script", "_law_k", "_law_sizes", "_law_rest", "_law_found", "_law_size"],false⟩,
 ⟨"_law_plain",top 41,["_law_pegs"],["_law_pegs", "_law_peg"],false⟩,
 ⟨"_law_hook",top 42,["_law_pegs", "_law_number"],["_law_pegs", "_law_number", "_law_found", "_law_start"],false⟩,
 ⟨"_law_circle",top 43,["_law_pegs"],["_law_pegs"],false⟩,
 ⟨"_law_from_text",top 44,["_law_text_here"],["_law_text_here", "_law_pegs", "_law_circle_here", "_law_found", "_law_line", "_law_place", "_law_sign", "_law_peg", "_law_other"],false⟩,
 ⟨"_law_text",top 45,["_law_raw_here", "_law_pegs"],["_law_raw_here", "_law_pegs", "_law_text_here", "_law_deep", "_law_left", "_law_up", "_law_step"],false⟩,
 ⟨"_law_rings_by",top 46,["_law_high", "_law_low", "_law_inner"],["_law_high", "_law_low", "_law_inner", "_law_pegs", "_law_head", "_law_peg", "_law_other", "_law_one", "_law_keep", "_law_go"],false⟩,
 ⟨"_law_hung",top 47,["_law_high", "_law_low"],["_law_high", "_law_low", "_law_pegs", "_law_near", "_law_peg", "_law_found", "_law_gone", "_law_here", "_law_turn"],false⟩,
 ⟨"_law_over",top 48,["_law_frame_here"],["_law_frame_here", "_law_pegs", "_law_peg"],false⟩,
 ⟨"_law_frame",top 49,["_law_script", "_law_k", "_law_pegs"],["_law_script", "_law_k", "_law_pegs", "_law_found", "_law_way", "_law_raw_here", "_law_number"],false⟩,
 ⟨"_law_text_of",top 50,["_law_frame_here"],["_law_frame_here", "_law_circle_here", "_law_seen", "_law_text_here", "_law_peg"],false⟩,
 ⟨"_law_same",top 51,["_law_told", "_law_due"],["_law_told", "_law_due", "_law_one", "_law_other"],false⟩,
 ⟨"_law_read",top 52,["_law_text_here"],["_law_text_here", "_law_found", "_law_e"],false⟩,
 ⟨"_law_is_text",top 53,["_law_text_here"],["_law_text_here", "_law_deep", "_law_sign"],false⟩,
 ⟨"_law_bent_text",top 54,["_law_script", "_law_k", "_law_text_here"],["_law_script", "_law_k", "_law_text_here", "_law_sign", "_law_way", "_law_at"],false⟩,
 ⟨"law",top 55,["_law_script"],["_law_script", "_law_k", "_law_pegs", "_law_frame_here", "_law_text_here", "_law_turn", "_law_due"],false⟩]
abbrev p:RS.PT':=⟨["ValueError", "all", "bool", "enumerate", "int", "isinstance", "len", "list", "max", "range", "set", "str", "tuple", "zip"],[("MOST_PEGS",10)],Ds,T,["BadFrame", "RibbonError"],["BadFrame", "BadHalf", "BadHook", "BadName", "BadPage", "BadPegs", "BadTrade", "Full", "Hangs", "NoFrame", "NoNumber", "NoPlace", "NoStack", "NothingThere", "Taken"]⟩
def Gr:p.ok=true:=by decide +kernel
def all1{P:List Value->Prop}(h:∀ a0,P [a0]):∀ us:List Value,us.length=1->P us
 | [a0],_=>h a0
def all2{P:List Value->Prop}(h:∀ a0 a1,P [a0,a1]):∀ us:List Value,us.length=2->P us
 | [a0,a1],_=>h a0 a1
def ip{P:List Value->Prop}(h:∀ a0 a1 a2,P [a0,a1,a2]):∀ us:List Value,us.length=3->P us
 | [a0,a1,a2],_=>h a0 a1 a2
structure aT(K:PySem.W.Frag)(mg:Str->Option Value)(x:Str)(st:Stmt):Prop where
 ex:∃ f fd,mg x=some (.ref f)/\Fun K x x st f fd/\PySem.W.keepIn K (.ref f)=true
def Eh{K:PySem.W.Frag}{h:Heap}{mg:Str->Option Value}{x:Str}{st:Stmt}{f:Addr}{oc kV dc pm cd ct:Value}{od an:Option Addr}{sl:Array (Option Value)}(X:K.In h)(G:h.Ns mainGlobals mg)(a:PySem.W.nsIn K mainGlobals x=some (some (.ref f)))
 (l:K.lookup f=some ⟨oc,od,.func (PySem.W.fnOf x x (iI st) (cu st) (aN st) .none kV dc pm an cd ct),sl⟩)(c:PySem.W.codeIn K cd x=true)(k:PySem.W.keepIn K (.ref f)=true):aT K mg x st :=
 ⟨f,_,PySem.W.mg_of X G a,Dv (st:=st) l c k,k⟩
structure sA(K:PySem.W.Frag)(mg:Str->Option Value):Prop where
 d19:aT K mg "is_number" (top 19)
 d20:aT K mg "is_peg_count" (top 20)
 d22:aT K mg "is_pairing" (top 22)
 d23:aT K mg "names_back" (top 23)
 d24:aT K mg "is_uncrossed" (top 24)
 d25:aT K mg "tie" (top 25)
 d27:aT K mg "is_frame" (top 27)
 d28:aT K mg "check_frame" (top 28)
 d29:aT K mg "pegs_of" (top 29)
 d30:aT K mg "brackets" (top 30)
 d31:aT K mg "from_brackets" (top 31)
 d32:aT K mg "is_brackets" (top 32)
 d33:aT K mg "round_place" (top 33)
 d34:aT K mg "in_round" (top 34)
 d35:aT K mg "moved" (top 35)
 d37:aT K mg "_law_kin" (top 37)
 d38:aT K mg "_law_mix" (top 38)
 d39:aT K mg "_law_raw" (top 39)
 d40:aT K mg "_law_digits" (top 40)
 d41:aT K mg "_law_plain" (top 41)
 d42:aT K mg "_law_hook" (top 42)
 d43:aT K mg "_law_circle" (top 43)
 d44:aT K mg "_law_from_text" (top 44)
 d45:aT K mg "_law_text" (top 45)
 d46:aT K mg "_law_rings_by" (top 46)
 d47:aT K mg "_law_hung" (top 47)
 d48:aT K mg "_law_over" (top 48)
 d49:aT K mg "_law_frame" (top 49)
 d50:aT K mg "_law_text_of" (top 50)
 d51:aT K mg "_law_same" (top 51)
 d52:aT K mg "_law_read" (top 52)
 d53:aT K mg "_law_is_text" (top 53)
 d54:aT K mg "_law_bent_text" (top 54)
 d55:aT K mg "law" (top 55)
 qR:PySem.W.nsIn K mainGlobals "ValueError" = some none
 EW:PySem.W.nsIn K mainGlobals "all" = some none
 Df:PySem.W.nsIn K mainGlobals "bool" = some none
 rE:PySem.W.nsIn K mainGlobals "enumerate" = some none
 Ff:PySem.W.nsIn K mainGlobals "int" = some none
 oQ:PySem.W.nsIn K mainGlobals "isinstance" = some none
 Fv:PySem.W.nsIn K mainGlobals "len" = some none
 Dj:PySem.W.nsIn K mainGlobals "list" = some none
 Fq:PySem.W.nsIn K mainGlobals "max" = some none
 zU:PySem.W.nsIn K mainGlobals "range" = some none
 Fl:PySem.W.nsIn K mainGlobals "set" = some none
 gf:PySem.W.nsIn K mainGlobals "str" = some none
 Ag:PySem.W.nsIn K mainGlobals "tuple" = some none
 F7:PySem.W.nsIn K mainGlobals "zip" = some none
 rA:∃ t,PySem.W.nsIn K mainGlobals "MOST_PEGS" = some (some (.int 10 t))
 tF:∃ D,PySem.W.nsIn K mainGlobals "BadFrame" = some (some (.ref D))/\RS.fV K "BadFrame" D=true
 oq:∃ D,PySem.W.nsIn K mainGlobals "RibbonError" = some (some (.ref D))/\RS.fV K "RibbonError" D=true
 uq:∃ D,PySem.W.nsIn K mainGlobals "BadFrame" = some (some (.ref D))
 vF:∃ D,PySem.W.nsIn K mainGlobals "BadHalf" = some (some (.ref D))
 xk:∃ D,PySem.W.nsIn K mainGlobals "BadHook" = some (some (.ref D))
 uY:∃ D,PySem.W.nsIn K mainGlobals "BadName" = some (some (.ref D))
 wL:∃ D,PySem.W.nsIn K mainGlobals "BadPage" = some (some (.ref D))
 xr:∃ D,PySem.W.nsIn K mainGlobals "BadPegs" = some (some (.ref D))
 uc:∃ D,PySem.W.nsIn K mainGlobals "BadTrade" = some (some (.ref D))
 DR:∃ D,PySem.W.nsIn K mainGlobals "Full" = some (some (.ref D))
 A9:∃ D,PySem.W.nsIn K mainGlobals "Hangs" = some (some (.ref D))
 wD:∃ D,PySem.W.nsIn K mainGlobals "NoFrame" = some (some (.ref D))
 ue:∃ D,PySem.W.nsIn K mainGlobals "NoNumber" = some (some (.ref D))
 wj:∃ D,PySem.W.nsIn K mainGlobals "NoPlace" = some (some (.ref D))
 vT:∃ D,PySem.W.nsIn K mainGlobals "NoStack" = some (some (.ref D))
 mm:∃ D,PySem.W.nsIn K mainGlobals "NothingThere" = some (some (.ref D))
 Bv:∃ D,PySem.W.nsIn K mainGlobals "Taken" = some (some (.ref D))
def BQ{K:PySem.W.Frag}{h:Heap}{mg:Str->Option Value}(X:K.In h)(G:h.Ns mainGlobals mg)(A:sA K mg):RS.um p K mg where
 defs:=by
  intro f d hf
  match f,hf with
  | 0,hf=>cases hf;obtain⟨fa,fd,h1,h2,h3⟩:=A.d19.ex;exact⟨fa,fd,h1,h2,h3,h2.binds (ps:=["value"]) (fun _ _ _ _ _ _=>all1 (fun _=>rfl))⟩
  | 1,hf=>cases hf;obtain⟨fa,fd,h1,h2,h3⟩:=A.d20.ex;exact⟨fa,fd,h1,h2,h3,h2.binds (ps:=["value"]) (fun _ _ _ _ _ _=>all1 (fun _=>rfl))⟩
  | 2,hf=>cases hf;obtain⟨fa,fd,h1,h2,h3⟩:=A.d22.ex;exact⟨fa,fd,h1,h2,h3,h2.binds (ps:=["row"]) (fun _ _ _ _ _ _=>all1 (fun _=>rfl))⟩
  | 3,hf=>cases hf;obtain⟨fa,fd,h1,h2,h3⟩:=A.d23.ex;exact⟨fa,fd,h1,h2,h3,h2.binds (ps:=["row", "place"]) (fun _ _ _ _ _ _=>all2 (fun _ _=>rfl))⟩
  | 4,hf=>cases hf;obtain⟨fa,fd,h1,h2,h3⟩:=A.d24.ex;exact⟨fa,fd,h1,h2,h3,h2.binds (ps:=["row"]) (fun _ _ _ _ _ _=>all1 (fun _=>rfl))⟩
  | 5,hf=>cases hf;obtain⟨fa,fd,h1,h2,h3⟩:=A.d25.ex;exact⟨fa,fd,h1,h2,h3,h2.binds (ps:=["row", "one", "other"]) (fun _ _ _ _ _ _=>ip (fun _ _ _=>rfl))⟩
  | 6,hf=>cases hf;obtain⟨fa,fd,h1,h2,h3⟩:=A.d27.ex;exact⟨fa,fd,h1,h2,h3,h2.binds (ps:=["frame"]) (fun _ _ _ _ _ _=>all1 (fun _=>rfl))⟩
  | 7,hf=>cases hf;obtain⟨fa,fd,h1,h2,h3⟩:=A.d28.ex;exact⟨fa,fd,h1,h2,h3,h2.binds (ps:=["frame"]) (fun _ _ _ _ _ _=>all1 (fun _=>rfl))⟩
  | 8,hf=>cases hf;obtain⟨fa,fd,h1,h2,h3⟩:=A.d29.ex;exact⟨fa,fd,h1,h2,h3,h2.binds (ps:=["frame"]) (fun _ _ _ _ _ _=>all1 (fun _=>rfl))⟩
  | 9,hf=>cases hf;obtain⟨fa,fd,h1,h2,h3⟩:=A.d30.ex;exact⟨fa,fd,h1,h2,h3,h2.binds (ps:=["frame"]) (fun _ _ _ _ _ _=>all1 (fun _=>rfl))⟩
  | 10,hf=>cases hf;obtain⟨fa,fd,h1,h2,h3⟩:=A.d31.ex;exact⟨fa,fd,h1,h2,h3,h2.binds (ps:=["text"]) (fun _ _ _ _ _ _=>all1 (fun _=>rfl))⟩
  | 11,hf=>cases hf;obtain⟨fa,fd,h1,h2,h3⟩:=A.d32.ex;exact⟨fa,fd,h1,h2,h3,h2.binds (ps:=["text"]) (fun _ _ _ _ _ _=>all1 (fun _=>rfl))⟩
  | 12,hf=>cases hf;obtain⟨fa,fd,h1,h2,h3⟩:=A.d33.ex;exact⟨fa,fd,h1,h2,h3,h2.binds (ps:=["pegs", "peg"]) (fun _ _ _ _ _ _=>all2 (fun _ _=>rfl))⟩
  | 13,hf=>cases hf;obtain⟨fa,fd,h1,h2,h3⟩:=A.d34.ex;exact⟨fa,fd,h1,h2,h3,h2.binds (ps:=["frame"]) (fun _ _ _ _ _ _=>all1 (fun _=>rfl))⟩
  | 14,hf=>cases hf;obtain⟨fa,fd,h1,h2,h3⟩:=A.d35.ex;exact⟨fa,fd,h1,h2,h3,h2.binds (ps:=["frame", "to"]) (fun _ _ _ _ _ _=>all2 (fun _ _=>rfl))⟩
  | 15,hf=>cases hf;obtain⟨fa,fd,h1,h2,h3⟩:=A.d37.ex;exact⟨fa,fd,h1,h2,h3,h2.binds (ps:=["_law_e"]) (fun _ _ _ _ _ _=>all1 (fun _=>rfl))⟩
  | 16,hf=>cases hf;obtain⟨fa,fd,h1,h2,h3⟩:=A.d38.ex;exact⟨fa,fd,h1,h2,h3,h2.binds (ps:=["_law_seed"]) (fun _ _ _ _ _ _=>all1 (fun _=>rfl))⟩
  | 17,hf=>cases hf;obtain⟨fa,fd,h1,h2,h3⟩:=A.d39.ex;exact⟨fa,fd,h1,h2,h3,h2.binds (ps:=["_law_script", "_law_k"]) (fun _ _ _ _ _ _=>all2 (fun _ _=>rfl))⟩
  | 18,hf=>cases hf;obtain⟨fa,fd,h1,h2,h3⟩:=A.d40.ex;exact⟨fa,fd,h1,h2,h3,h2.binds (ps:=["_law_script", "_law_k", "_law_sizes"]) (fun _ _ _ _ _ _=>ip (fun _ _ _=>rfl))⟩
  | 19,hf=>cases hf;obtain⟨fa,fd,h1,h2,h3⟩:=A.d41.ex;exact⟨fa,fd,h1,h2,h3,h2.binds (ps:=["_law_pegs"]) (fun _ _ _ _ _ _=>all1 (fun _=>rfl))⟩
  | 20,hf=>cases hf;obtain⟨fa,fd,h1,h2,h3⟩:=A.d42.ex;exact⟨fa,fd,h1,h2,h3,h2.binds (ps:=["_law_pegs", "_law_number"]) (fun _ _ _ _ _ _=>all2 (fun _ _=>rfl))⟩
  | 21,hf=>cases hf;obtain⟨fa,fd,h1,h2,h3⟩:=A.d43.ex;exact⟨fa,fd,h1,h2,h3,h2.binds (ps:=["_law_pegs"]) (fun _ _ _ _ _ _=>all1 (fun _=>rfl))⟩
  | 22,hf=>cases hf;obtain⟨fa,fd,h1,h2,h3⟩:=A.d44.ex;exact⟨fa,fd,h1,h2,h3,h2.binds (ps:=["_law_text_here"]) (fun _ _ _ _ _ _=>all1 (fun _=>rfl))⟩
  | 23,hf=>cases hf;obtain⟨fa,fd,h1,h2,h3⟩:=A.d45.ex;exact⟨fa,fd,h1,h2,h3,h2.binds (ps:=["_law_raw_here", "_law_pegs"]) (fun _ _ _ _ _ _=>all2 (fun _ _=>rfl))⟩
  | 24,hf=>cases hf;obtain⟨fa,fd,h1,h2,h3⟩:=A.d46.ex;exact⟨fa,fd,h1,h2,h3,h2.binds (ps:=["_law_high", "_law_low", "_law_inner"]) (fun _ _ _ _ _ _=>ip (fun _ _ _=>rfl))⟩
  | 25,hf=>cases hf;obtain⟨fa,fd,h1,h2,h3⟩:=A.d47.ex;exact⟨fa,fd,h1,h2,h3,h2.binds (ps:=["_law_high", "_law_low"]) (fun _ _ _ _ _ _=>all2 (fun _ _=>rfl))⟩
  | 26,hf=>cases hf;obtain⟨fa,fd,h1,h2,h3⟩:=A.d48.ex;exact⟨fa,fd,h1,h2,h3,h2.binds (ps:=["_law_frame_here"]) (fun _ _ _ _ _ _=>all1 (fun _=>rfl))⟩
  | 27,hf=>cases hf;obtain⟨fa,fd,h1,h2,h3⟩:=A.d49.ex;exact⟨fa,fd,h1,h2,h3,h2.binds (ps:=["_law_script", "_law_k", "_law_pegs"]) (fun _ _ _ _ _ _=>ip (fun _ _ _=>rfl))⟩
  | 28,hf=>cases hf;obtain⟨fa,fd,h1,h2,h3⟩:=A.d50.ex;exact⟨fa,fd,h1,h2,h3,h2.binds (ps:=["_law_frame_here"]) (fun _ _ _ _ _ _=>all1 (fun _=>rfl))⟩
  | 29,hf=>cases hf;obtain⟨fa,fd,h1,h2,h3⟩:=A.d51.ex;exact⟨fa,fd,h1,h2,h3,h2.binds (ps:=["_law_told", "_law_due"]) (fun _ _ _ _ _ _=>all2 (fun _ _=>rfl))⟩
  | 30,hf=>cases hf;obtain⟨fa,fd,h1,h2,h3⟩:=A.d52.ex;exact⟨fa,fd,h1,h2,h3,h2.binds (ps:=["_law_text_here"]) (fun _ _ _ _ _ _=>all1 (fun _=>rfl))⟩
  | 31,hf=>cases hf;obtain⟨fa,fd,h1,h2,h3⟩:=A.d53.ex;exact⟨fa,fd,h1,h2,h3,h2.binds (ps:=["_law_text_here"]) (fun _ _ _ _ _ _=>all1 (fun _=>rfl))⟩
  | 32,hf=>cases hf;obtain⟨fa,fd,h1,h2,h3⟩:=A.d54.ex;exact⟨fa,fd,h1,h2,h3,h2.binds (ps:=["_law_script", "_law_k", "_law_text_here"]) (fun _ _ _ _ _ _=>ip (fun _ _ _=>rfl))⟩
  | 33,hf=>cases hf;obtain⟨fa,fd,h1,h2,h3⟩:=A.d55.ex;exact⟨fa,fd,h1,h2,h3,h2.binds (ps:=["_law_script"]) (fun _ _ _ _ _ _=>all1 (fun _=>rfl))⟩
  | f+34,hf=>cases hf
 blt:=by
  intro x hx;simp only[p,List.mem_cons,List.mem_nil_iff,or_false]at hx;rcases hx with rfl | rfl | rfl | rfl | rfl | rfl | rfl | rfl | rfl | rfl | rfl | rfl | rfl | rfl
  ·exact PySem.W.mg_none_of X G A.qR
  ·exact PySem.W.mg_none_of X G A.EW
  ·exact PySem.W.mg_none_of X G A.Df
  ·exact PySem.W.mg_none_of X G A.rE
  ·exact PySem.W.mg_none_of X G A.Ff
  ·exact PySem.W.mg_none_of X G A.oQ
  ·exact PySem.W.mg_none_of X G A.Fv
  ·exact PySem.W.mg_none_of X G A.Dj
  ·exact PySem.W.mg_none_of X G A.Fq
  ·exact PySem.W.mg_none_of X G A.zU
  ·exact PySem.W.mg_none_of X G A.Fl
  ·exact PySem.W.mg_none_of X G A.gf
  ·exact PySem.W.mg_none_of X G A.Ag
  ·exact PySem.W.mg_none_of X G A.F7
 glb:=by
  intro x i hx;obtain⟨t,ht⟩:=A.rA
  have e:x = "MOST_PEGS" /\ i=10:=by
   simp only[p,List.lookup]at hx;split at hx
   ·rename_i he;cases hx;exact⟨by simpa using he,rfl⟩
   ·cases hx
  obtain⟨rfl,rfl⟩:=e;exact⟨_,PySem.W.mg_of X G ht,t,rfl⟩
 cls:=by
  intro c hc
  have hc:c∈p.Xr:=by simpa using hc
  simp only[p,List.mem_cons,List.mem_nil_iff,or_false]at hc;rcases hc with rfl | rfl
  ·obtain⟨D,a,b⟩:=A.tF;exact⟨D,PySem.W.mg_of X G a,⟨a,b⟩⟩
  ·obtain⟨D,a,b⟩:=A.oq;exact⟨D,PySem.W.mg_of X G a,⟨a,b⟩⟩
 ref:=by
  intro c hc
  have hc:c∈p.Xs:=by simpa using hc
  simp only[p,List.mem_cons,List.mem_nil_iff,or_false]at hc;rcases hc with rfl | rfl | rfl | rfl | rfl | rfl | rfl | rfl | rfl | rfl | rfl | rfl | rfl | rfl | rfl
  ·obtain⟨D,a⟩:=A.uq;exact⟨D,PySem.W.mg_of X G a,a⟩
  ·obtain⟨D,a⟩:=A.vF;exact⟨D,PySem.W.mg_of X G a,a⟩
  ·obtain⟨D,a⟩:=A.xk;exact⟨D,PySem.W.mg_of X G a,a⟩
  ·obtain⟨D,a⟩:=A.uY;exact⟨D,PySem.W.mg_of X G a,a⟩
  ·obtain⟨D,a⟩:=A.wL;exact⟨D,PySem.W.mg_of X G a,a⟩
  ·obtain⟨D,a⟩:=A.xr;exact⟨D,PySem.W.mg_of X G a,a⟩
  ·obtain⟨D,a⟩:=A.uc;exact⟨D,PySem.W.mg_of X G a,a⟩
  ·obtain⟨D,a⟩:=A.DR;exact⟨D,PySem.W.mg_of X G a,a⟩
  ·obtain⟨D,a⟩:=A.A9;exact⟨D,PySem.W.mg_of X G a,a⟩
  ·obtain⟨D,a⟩:=A.wD;exact⟨D,PySem.W.mg_of X G a,a⟩
  ·obtain⟨D,a⟩:=A.ue;exact⟨D,PySem.W.mg_of X G a,a⟩
  ·obtain⟨D,a⟩:=A.wj;exact⟨D,PySem.W.mg_of X G a,a⟩
  ·obtain⟨D,a⟩:=A.vT;exact⟨D,PySem.W.mg_of X G a,a⟩
  ·obtain⟨D,a⟩:=A.mm;exact⟨D,PySem.W.mg_of X G a,a⟩
  ·obtain⟨D,a⟩:=A.Bv;exact⟨D,PySem.W.mg_of X G a,a⟩
end K03
end
namespace PySem.W.Fast
local macro_rules|`(universe $x*)=>do pure (Lean.mkNullNode (<-x.mapM fun x=>`(theorem $(Lean.mkIdent (.mkSimple s!"tw{x.getId.toString.foldl (fun a c=>52*a+c.toNat-if c.toNat<97 then 65 else 71) 0}")) :True:=trivial)))
universe BPIsNEKdguFc CXQNdelHkFQw sBCxyKyodfE yVJPjUTizVs CCWzcewAyvwQ BlcxJQiiIyEw pXDNvBGIccQ CNfNPdpRZRgQ nkRvXaMbUvU BdRmrsCkaCGo BVrTwRWwGqAg ySuCWDyMHYx BzEijmIuCcAB bwyouZMSBkB CXJgHjoDJkxN HPNsSKSAaoB rGCLFWoKvUB MaUtXREnBvl CTFNytWTFhmZ BpwYrhcmjuxN auJoEbLVPzV BkzpGXhFfdUB BXDjPzbNgDvF BoaGqzIfRUBt WSkNlxjhlEi BcYjRUTACeXW CLnXoYkVchSK BRgtJlxWTtUC URuAnZAYcmK ZvxzXuCFqcS BHbVlNghrsya vrQOKZyBEWq vigXNohvIde IXMcByKSffm LfmwfRHUONe CDoiBRPvBgS BNpxZKdFSORu LuVWikWWIYi BOPhzZZfHHKK ZYkkkdQgFOa BmrLftFlHkcy yRUdbuedLvH BCVsAqSnnlvn CAwaQRkwNskT ooVEtsOQZMj CJbHbAPbPfAz ehpyNIhXXqr BZKjIiwEHDtP tBljjEQRyVf fZKkJFjBYDH CLoFidAXHYFf BsPVxtzRuJYz rmkMkPXkpcj CLCmNXYYNpwT BUwzjHxqrPFP BmtcwfLlWzUD BvxSnqkptoRv BWWIMoQpySIj BBaYDQqhhDcj BfdKhFOPyptv BdZrTEnijqgk BTJuVnVLRPcE sVzQSmSrSOM FtMxbTNRwSc BplmeArKuFbY UHSNOqZhySc OfmVTAprVdQ BWLgFThUeMfY XsIBcHkFDXo CUmmDERxnLtQ TFxqbBBAsus SbavHbkocIE BRffBclGbfoU CAhczQidzkgE BNWGInfsDlEk BinZeysEACNg CFndCXfJZwHZ WhUEsyZVYBR GXSEBdOASFB BjwjSDaguslh SJPmnJUVtVx CESbMbkLnjXJ IRQKIBaoYYl SduqkgaQxPp CTJBJuZAeHSN BGWlRrqIVDtx BlUwzGobhHGd XYwHPzpAqoG KxuBmELDXkG hIIaVUPaZau BVkHhAKKviuu CWznXCMnFMjq xxxtQKXqEva CHejQpiOihza BJuzQGqgoaOO BCXbLbwjhNxi paWZyWFJRnK hzIIYXDLbwW tnBwHdqAOJy BTMmtaRHuZkn BjNcgQdKVRVz BQBBGADJtYdD BfReuXewpBNz BIlewULiDclD BXSTcNUTyOpz BIBjTuJFUlFz HVHFqTSdhkn CCDIQyFwHFqv CXCUbCwuHcBz BRcisUEIXCZT BCiowJSjIAyf CRJvhiyusscX CGnWHuodzCwH FZausuqumQI CKuuCspsxHGA BmplerIIOYbs fYAIyfdPVQY vqfHvrZwwrs BatZafFKmejM CJwIqjFyGQI sIaJBEujjhk llWFMiZJDhE XKCcbWjaoqg HSwoViNfKuQ CHIunvAihnSw BWxKSWbopTQY BqtSikytFVfM XmEPURumfOA KLumCLVNhJk BlXCuUTlADmh cdOXkhxQuxV BlTjMHCKpfpF QMHzRHkypHN vqlfbWuYUdF BmKIDNyxSpWh BXPhTlgYAOKB BwgXODgBdsAJ CFYIWtKfZzax BmxXAyjBnsTt YHIDvVNMQxV CJLNxppjQvSR YkjHcVORExV BCphzsUYbjVV QCduTAUVXNV CNoEsHLvcMjN OldQgnKmKGy CMIeEFEeQtkq BAQUqVoiOcHe BFGOKFmHjYDO COSDzStKWPZm lTndzCrUglG BTdUBZYycEzu CSDmduXrYrOC LYptcuoCVcq SHBuGZAvJYa hgpwAHhMgYK BedlRGcPxxFW XhWxSIyqxOC iZlWbVGmsuy ByFrsvmeQuAK BMdZIfrOfdEK BRKcmKSLPgor sTcqWnGxnsL EBZmUapBDLf BdLsgwGyQjqz BhRPXujgsiyj CVbiGeBeWINH uMwBQSyvqVn CIdaLtKFdlXv yiSAhZOdUSD CIigNgVqHFvv BQeMYIDWwmeT YmCzAZnDtlX BlwUrnNRsGzP BduXUBpVaaIr BeVrjTszeAwL BuBBfpRpvmbP cJGvIdOPOff SkweRVuANUL BBcZHLoqDycb GvPNEFOkwfA CEXZuHXKQqPg fOXxQtJzvnw BjwtHdNDGVss CWLyTYdjYcrQ nAzbBgFIkgs BpekYmQUDQIM BurcxCoEfIjQ HEnISEqobuE CGhhizLnomWU ijnZEvVCqAM ijzWoRcUaTQ CIXXGcTOWyJY irnvQQYFTXQ CFbITUUZozzB BLBeADjHPGOV CFRnnxpXNDst gpPuIZrcczR COceCayFnhfR CLKlcAyntRLB PzVvqwTgpEt fJtRNjbHqbx HriuaWDCvlZ BuyfZLFNYNGF BuQGkKPOKgZZ spofxitSaSF OGTIXEhpdnx CUZoqrcSFKDx CPdHuAdSlILR hzGHYLwAwWV WjzlYjIGFTi BvNBwaUuIlcO BtDSELjfSCyG CEFbZSywxRAe TmnvPGYngym BVsxKHtJuZOG BQvCiFkvXhZK RXQrwfXcmdq CLuizRaQAPku CDaoHasLTbJq BDQKOZuaFAdq BdWVwCDzNvOG xhezUKdTpDi sxdgomXAySG hQDAmMdeXbC fowcqvxgXji DkCGkVvJbmG BHRACgEzyYXC mkhwKdNCImW BpFyiLZcVDJq YFVbYbjfTHS BXkeQWSSQywO CJfDzmylCoKH uoorBlBNpJL BxbDSILEYGkf tFJJluwpOcf BIFgzHiEQNRr CImxNVuGDwVL UlZmClAFSsf CQZSMjvOscDT JEcDIsVFfz BazooVoJDRtb wufaHRcFCLz BEIfxQRkEXJr CKeguoNZgfvT CVpkaBrXiJIf CCMrKNBlXJJL BeHOnsMyKrxr CRcCWojsVMJb BrRKhHiEZtWn BkjeLqPGIVHz YSMsWZzTenD BZjmrRRnpCUf CBtVyLgCPKGX BTfdkNyHbaqH BBALusxYiAcg BaiDwIBbirXU eIpFlyHxibU BzoOphfZtLnU CWUxoGnokcYQ HcVDqSKJTmo BmqLdfOnKtiY BueoPbzPolgA BUwNShiwvCNM cYihNjAKjWI BAywGSpdqagw BfHkRFyEfisg CMIgaQymwlfU CHJGaccTIHbl BFyfWWiAfdoh KSrReokxvRt BgoKWpsiKeyJ BhVOneGkSBqZ QEYdwvjZmfF qyYWAOPqcip BRtuQzfMdfNd BIdCJkVUlgNt BJqLTfgwpoch ByrLoWKqjgnF CPVPaSRbIKsh eKtoHhbWuQx wODWjdATnWK BGeNgUFADZWK BLpjuQfLWcLW BEnLofuwulDm CPOoEMmSORKa ihNkVnGGNMy DfPytLNJaiK BOfhzRpRlWKq CWmzwpNyWBwi BBmLnwazGCfG rUUajXfuGfG CSECPldFdWCq ByTmGKRvXWfm BCVdheHAuEOa rurBpTvHIfm BPQXbPUtcTeq BVQxTAyCxmgS BxGErkGIGBvW CMOXQwEwNhia BAFhIueAohGq BelKflRiYdcT hVUZRxMxHrn BftkpBlTvsxf BOiBqzngzXcz yMShhKClwHH BitQPfPXybxP uLagSwXsyhf vJgkqfxsxmL BAjaafRTsRTH CSQskMazLyDX uUWyItpxUz BpVfnCYzjdZP BmFQirUFcLyb BjyJjFmpNYUj COVxGUujCSRf BkmhOZQBuDsz BSpPExdXkOTX CBAmKnHJdSWb ThQwBJGmsIT XvfaikwVcyM BnrBBxPKJckk BLIHrWBsKtWs CIscpsFmDAOc CKjtdHiKjlok BTdpITAbUBLI GTYPvUceQfo BodGdzkxUBqc CWWCJlbEsgVw afkCwLhHZTI BRNCKPZxOfTI BePwHbHHUPRQ axqNphNaqFQ BhbYGbGywnBw YbPqfaLLRxw BPjOqvKfrajY CHxfQUoMSvSc BEfvRWFpiRlg CBqoYCCWeOkE skKOgYlZrCc BSbqUyeFiIPo BTgNjYXwSdgE CFbmfLlotrtg cAgYlMAEAhA CLFylYOpfXGM YYwILKBNMUF UlgrhkoLsxh rGUNrqPijuN CXfTobBiERfZ CMaHntMkcTGN CXDzrcAhRexh HmftovtrHIF BsRWUXwcribZ rsqsDJhrJsV JpgdCgXrxCd BWpSFEablqKN IViOdjweLcV COgMoCMBpTNB GECOoYwHgYV EwDRUXhXWvJ LvhWlgXxPtB vwWihaJWpfZ BhyAfuZeOVOu BCCqOWWheakm BbWnipWwgmBi BIrMWotqzqpi BhLWZtshOBYG ugbhvGFTxna GcftekoOzOO gvigmQTJjlC BVriAVQpfZTK CAyYOiMSLfWu JnzOZpWMwXL BQcyOykxpEzb CTcAJjTTPoXr hVhMmmClDtj BdGjNlBKTRUX CEPBxwptCRLr BJiCEtCVtlcX BWsRmgidaHhz WDLzhbDxif BPzVbhlahaHL IZLayvALOJD BFIVSfPqJhvb DwknDbmPpJz bShxlAWaNoH skoSYKVMFQI BoPCyVZcMlgo qxKaclCNFwI kzOwGHrJxJU JPobkHobjiA BJGuRePKjnDM BlmFIuPJdAFU GkOTMFdwqJE yuVQtIQniiw BdYdKDBKYfRU CTUDoBwFIBwI GgYJkjMWSxk CMcLZLaOIatU bwANxErcxWR BMHdGTTpbMhF wqgZuBCaAIZ BSeBQCbslESx BugHsBARaPWR QCsbVuhFLZV KvVwmFONcNV CIVnMDtLbBux BlRsPJNvwlOx BcljvAKTHeBl CWClcGnpZent fnJLMyOdIgZ CNwIjvyYmLIJ wTdNGzAkuOB CThplWReAxOx HFriYAhQTtF BgSJmdziOruR CUBVQyAcGqx CQVTKSZumFEZ CNTyemkoSdgJ SRFOZmenrgJ CRgjztEzRIOh BqpzCrEvFxuS BpXweaKUCNCC CQNANAJqQYEK BtTSfGrZmisq BXMYPYCASeay PVECoyCPrJW BkzhLrcfQPlm BigvJrhiEQa BcrwpyaSZeOi zwXfnSwsPmS BRqQMYjSRunu WBCPPTUueiS BFoyjkmwpzSC jjZxZSicMei BCbzxzcSTvqC BoSZevmUuqHu BzPIgquRiHuS erLEssMTKvO ZtMqoRqkTlm BavUMeSHOaUq FPSThgYtQKS BeJikpownXSi vXkSVLhJnlm dJqoWHhVPyC beCrPigBPAq BJKDLVlKDaRm BLFNSiAubXtm OxLBTGQohai BOwRLmblHIeD BAJxvKLElnLP BLIGhpabJdnf CKQfPUYoDaML VqAUhzIbGmD CKUjmtiDlbgL CNNHoScijsML BgEFSVycktZX ZDJlyNrBpBX rsCeoBWEqQb BiEOCzVNARGz BCtynauowHZX CCWbkmwcIDIL BZRrWwgNtxDP BCdptfAxLKPP CQPdlDtaKlLv HUSWVhwCYTf BuuUtCfHeRmz guDklJAnwDA BKtgvamQBNcc pGtGPEBXrDw CMqklDINOVXg pfHdiflCajA CIlJcbiStrZY BKPbmfifeLZY BMjQAcmSGFnA CSbeqaJOoZLQ bcJruSRRynw ahIaetgENrQ BvXxKikEEpYs BjytCHtTzJak BNxyLLRDlbaE CLVDukAXAkqU CDvaaejAmRrw BHpeZQIXbrGV BDMNdFiBCYkN qtKsiiYdyrh YkIDFkIPrVp BXfmktcgvMnR sGbFEZItdkd FKzOZPudsOl bPwFeqRYBqF BfLvebvACtpZ VdlspcESUrB BhIRNYDOJRxZ CTgfBUWiTCAd CVemNkRPauHx BpbJwFPhKjAN BXYpqAhOkskt CSWGVgPyEelZ YyIgbKWTCZJ CEhdTJOEHlCF tgUQnKlDCG CAhDtUREngIe cbaIQDclLLy BsYbpPPkJRdq CRTqJcgdoUTi BRPxVaWfDrby CFfPVVKgzfSG BQEMZcRStAvS CWmzxNLWishr BWPnESZENjPD CRXdDvSvuODD DySUdKjmNZb CATqHCYhdEvz ULSIeHwJKqX CAnrPyZZFjHj BUtkRRgmSDzT BIXDJaOMSovT BkSIgftSybYP CUYEmSqgJlqn KTBBilXWnVL BcPvfCbclEfT CGuBHlSVUnYP kWzOxklvUTj BRRSNzVjJAXz BxVcYLoVRIDD QyatxdlcqX CSBeegQeaVRb NXpEYDaQTaH BDBBEMrfvZcT
end PySem.W.Fast
open PySem PySem.W PyProof.Rows
set_option maxRecDepth 100000 in
set_option maxHeartbeats 0 in
theorem PySem.Challenge.cw_ribbonloft_k03_brackets_there_and_back_holds : PySem.Challenge.rw_ribbonloft_k03_brackets_there_and_back.Holds := by
 w_on;o_law;k_head;(case hw=>w_witness2)
 k_fill
 refine L2.xC (l:=PySem.Challenge.rw_ribbonloft_k03_brackets_there_and_back) (n:=63) (k:=30) (x := "_law_script") (CX:=L2.CX0) (sp:=RS.spL 30 K03.p 33) rfl (by decide) rfl ⟨rfl,by decide,by decide⟩ (fun w h Y=>PySem.W.kIn_of Y) ?F ?S ?C
 case F =>
  intro w mg fa h KX G hmg
  have T:K03.sA (L2.KOf KX) mg:=by
   dsimp only[L2.KOf];constructor
   iterate 34 (refine' K03.Eh KX G ?a ?l ?c ?k;(case a=>k_is);(case l=>k_is);(case c=>k_is);(case k=>k_is))
   iterate 14 k_is
   exact⟨_,by k_is⟩;refine' ⟨_,?n,RS.vm ?c⟩;(case n=>k_is);(case c=>constructor;k_exc;(iterate 7 k_is);kit_is;(iterate 16 (refine' RS.wK ?n ?k ?s ?e;(case n=>k_is);(case k=>kit_is);(case s=>k_is);(case e=>decide +kernel))));refine' ⟨_,?n,RS.vm ?c⟩;(case n=>k_is);(case c=>constructor;k_exc;(iterate 7 k_is);kit_is;(iterate 16 (refine' RS.wK ?n ?k ?s ?e;(case n=>k_is);(case k=>kit_is);(case s=>k_is);(case e=>decide +kernel))));exact⟨_,by k_is⟩;exact⟨_,by k_is⟩;exact⟨_,by k_is⟩;exact⟨_,by k_is⟩;exact⟨_,by k_is⟩;exact⟨_,by k_is⟩;exact⟨_,by k_is⟩;exact⟨_,by k_is⟩;exact⟨_,by k_is⟩;exact⟨_,by k_is⟩;exact⟨_,by k_is⟩;exact⟨_,by k_is⟩;exact⟨_,by k_is⟩;exact⟨_,by k_is⟩;exact⟨_,by k_is⟩
  have tp:=K03.BQ KX G T;obtain⟨fa',fd,h1,h2,h3,h4⟩:=tp.defs 33 _ rfl;have e0:=hmg.symm.trans h1;cases e0;refine⟨fd,fun s u=>?_,fun base kb nb=>RS.CY K03.Gr tp 30 33 _ _ rfl rfl _ _ h2⟩;obtain⟨oc,od,kV,doc,pm,an,cdv,ct,osl,e9,_,_⟩:=h2.ex;subst e9;exact .of_eq rfl
 case S=>exact fun K H a ns hl hO hS=>RS.Ed hO hS (K03.main ns hl)
 case C=>exact fun _ _ _ _ h=>h
