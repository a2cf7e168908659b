import PyProof.Rows.All
import Wide.All
import OpenK.AllK
import Wide.FinOn
import PyProof.EqAt
import PyProof.EqKinds
import PyProof.TupleCall
import PySem.Str
import PyProof.NeKinds
import PyProof.CompMap
import PyProof.CompFree
import PyProof.EnumMake
import PyProof.Draws
import PyProof.ListRange
import PyProof.ConsumeWalk
import PyProof.Rows.SetFrom
import PyProof.SetRoads
import PyProof.ZipIter
import PyProof.Rows.SumAny
import PyProof.Rows.SortWalk
import PyProof.Rows.SeqMore2
import PyProof.Rows.SeqMore
import PySem.Challenge.RW_ribbonloft_k27_whole_rows_of_great_frame
set_option Elab.async false
set_option linter.all false
set_option maxRecDepth 100000
set_option maxHeartbeats 4000000
set_option genSizeOf false
set_option genSizeOfSpec false
section
local macro_rules
|`(def $d $s:optDeclSig $v:declVal)=>`(theorem $d $(Lean.TSyntax.mk (Lean.mkNode ``Lean.Parser.Command.declSig #[s.raw[0],s.raw[1][0]])):declSig $v:declVal)
|`(abbrev $d $s:optDeclSig $v:declVal)=>`(noncomputable def $d $s:optDeclSig $v:declVal)
namespace RL
open PySem (Str)
@[reducible]noncomputable def Ky:=Sum Int Str
inductive D where
 | non
 | bl (b:Bool)
 | int (i:Int)
 | str (x:Str)
 | tup (xs:List D)
 | lst (xs:List D)
 | dK (ks:List Ky) (vs:List D)
 | dT (ks:List (List Ky)) (vs:List D)
 | scr (xs:List D)
 | exc (c:Str)
 deriving Inhabited
mutual
noncomputable def D.imm:D->Bool
 | .tup xs=>aq xs
 | .lst _=>false
 | .dK _ _=>false
 | .dT _ _=>false
 | .scr xs=>aq xs
 | _=>true
noncomputable def aq:List D->Bool
 | []=>true
 | d::r=>d.imm&&aq r
end
inductive Bop where | add | sub | mul | fdiv | mod | pow
 deriving DecidableEq
inductive Cop where | lt | le | gt | ge | eq | ne
 deriving DecidableEq
inductive Bi where | len | list | tuple | int | all | any | lenSet | sorted | sortedSet | abs | sum
 deriving DecidableEq
inductive Ty where | int | bool | list | tuple | str
 deriving DecidableEq
mutual
inductive E where
 | var (i:Nat)
 | cst (d:D)
 | glb (x:Str) (i:Int)
 | bin (o:Bop) (a b:E)
 | cmp (c:Cop) (a b:E)
 | chain (c c':Cop) (a b e:E)
 | inD (neg:Bool) (a b:E)
 | and (a b:E)
 | or (a b:E)
 | not (a:E)
 | ifx (t a b:E)
 | tup (es:Es)
 | lst (es:Es)
 | ix (a b:E)
 | ixD (a b:E)
 | slT (a b:E)
 | rev (a:E)
 | call (f:Nat) (es:Es)
 | bi (b:Bi) (a:E)
 | max (a b:E)
 | min (a b:E)
 | isi (a:E) (t:Ty)
 | rng1 (a:E)
 | rng2 (a b:E)
 | rng3 (c:Int) (a b:E)
 | neg (a:E)
 | comp (e:E) (tg:List Nat) (it:It) (c:E)
 | compA (e:E) (tg:List Nat) (it:It)
 | compL (e:E) (tg:List Nat) (it:It)
 | count (a b:E)
 | dk0
 | dt0
inductive Es where
 | nil
 | cons (e:E) (es:Es)
inductive It where
 | seq (e:E)
 | rng1 (a:E)
 | rng2 (a b:E)
 | rng3 (c:Int) (a b:E)
 | enm (e:E)
end
mutual
inductive S where
 | asg (i:Nat) (e:E)
 | own (i:Nat) (e:E)
 | unp (is:List Nat) (e:E)
 | par (i j:Nat) (a b:E)
 | app (i:Nat) (e:E)
 | put (i:Nat) (k e:E)
 | pop (i j:Nat)
 | ife (t:E) (a b:Ss)
 | ifp (i:Nat) (e:E) (a b:Ss)
 | forr (tg:List Nat) (it:It) (b:Ss)
 | whil (t:E) (b:Ss)
 | mexc (f:Nat) (es:Es) (ps ms:List Nat)
 | maug (i f:Nat) (es:Es) (ps ms:List Nat)
 | ret (e:E)
 | exc (e:E)
 | rais (c:Str) (ps:Es)
inductive Ss where
 | nil
 | cons (s:S) (r:Ss)
end
@[reducible]noncomputable def St:=List (Option D)
@[reducible]noncomputable def Cl:=Nat->List D->Option D
abbrev most:Nat:=100000
abbrev cB{α:Type}(xs:List α)(i:Int):Option α :=
 if 0<=i then xs[i.toNat]? else if -(xs.length:Int)<=i then xs[(i+xs.length).toNat]? else none
abbrev oh(n:Nat)(i:Int):Option Nat :=
 if 0<=i then(if i<n then some i.toNat else none)else if -(n:Int)<=i then some (i+n).toNat else none
abbrev cutAt(n:Nat)(i:Int):Nat:=if 0<=i then min i.toNat n else(i+n).toNat
abbrev aA:Bop->D->D->Option D
 | .add,.int a,.int b=>some (.int (a+b))
 | .add,.str a,.str b=>if a.length+b.length<=most then some (.str (a++b))else none
 | .add,.lst a,.lst b=>if a.length+b.length<=most then some (.lst (a++b))else none
 | .add,.tup a,.tup b=>if a.length+b.length<=most/\0<a.length then some (.tup (a++b))else none
 | .sub,.int a,.int b=>some (.int (a-b))
 | .mul,.int a,.int b=>if(-(2 ^ 64)<a/\a<2 ^ 64)\/(-(2 ^ 64)<b/\b<2 ^ 64)then some (.int (a*b))else none
 | .mul,.lst a,.int b=>if 0<=b/\b<=most/\a.length*b.toNat<=most then some (.lst (List.replicate b.toNat a).flatten)else none
 | .fdiv,.int a,.int b=>if 0<b/\b<2 ^ 200 then some (.int (a / b))else none
 | .mod,.int a,.int b=>if 0<b then some (.int (a%b))else none
 | .pow,.int a,.int b=>if 0<=b/\b<=1000/\a.natAbs<2 ^ 64 then some (.int (a ^ b.toNat))else none
 | _,_,_=>none
abbrev eqs(f:D->D->Option Bool):List D->List D->Option Bool
 | a::r,b::s=>(f a b).bind fun e=>(eqs f r s).map fun k=>e&&k
 | _,_=>some true
abbrev eqD:Nat->D->D->Option Bool
 | _,.int a,.int b=>some (a == b)
 | _,.str a,.str b=>some (a == b)
 | _,.bl a,.bl b=>some (a == b)
 | n+1,.tup a,.tup b=>(eqs (eqD n) a b).map fun k=>k&&a.length == b.length
 | n+1,.lst a,.lst b=>(eqs (eqD n) a b).map fun k=>k&&a.length == b.length
 | _,_,_=>none
abbrev bF:Cop->D->D->Option Bool
 | .lt,.int a,.int b=>some (decide (a<b))
 | .le,.int a,.int b=>some (decide (a<=b))
 | .gt,.int a,.int b=>some (decide (b<a))
 | .ge,.int a,.int b=>some (decide (b<=a))
 | .eq,a,b=>eqD 8 a b
 | .ne,a,b=>(eqD 8 a b).map not
 | _,_,_=>none
abbrev truth:D->Option Bool
 | .bl b=>some b
 | .lst xs=>some (!xs.isEmpty)
 | .tup xs=>some (!xs.isEmpty)
 | .int i=>some (i != 0)
 | _=>none
abbrev cG:List D->Option (List Int)
 | []=>some []
 | .int i::r=>(cG r).map (i :: ·)
 | _=>none
abbrev fH:List D->Option (List Bool)
 | []=>some []
 | .bl i::r=>(fH r).map (i :: ·)
 | _=>none
abbrev strs?:List D->Option (List Str)
 | []=>some []
 | .str i::r=>(strs? r).map (i :: ·)
 | _=>none
abbrev fK(a:Int):List Int->List Int
 | []=>[a]
 | b::r=>if a<=b then a::b::r else b::fK a r
abbrev sortI:List Int->List Int
 | []=>[]
 | a::r=>fK a (sortI r)
abbrev gp(xs:List Int):List Int:=xs.foldl (fun m k=>if m.any (· == k)then m else m++[k]) []
abbrev items:D->Option (List D)
 | .lst xs=>some xs
 | .tup xs=>some xs
 | _=>none
abbrev eW:D->Option (List D)
 | .lst xs=>some xs
 | .tup xs=>some xs
 | .str x=>some (x.cps.toList.map fun c=>.str ⟨#[c]⟩)
 | _=>none
abbrev biV:Bi->D->Option D
 | .len,.str x=>if x.length<=most then some (.int x.length)else none
 | .len,.dK ks _=>some (.int ks.length)
 | .len,.dT ks _=>some (.int ks.length)
 | .len,d=>(items d).map fun xs=>.int xs.length
 | .list,d=>(items d).map .lst
 | .tuple,d=>(items d).map .tup
 | .int,.bl b=>some (.int (if b then 1 else 0))
 | .int,.int i=>some (.int i)
 | .int,_=>none
 | .all,.lst xs=>(fH xs).map fun bs=>.bl (bs.all id)
 | .any,.lst xs=>(fH xs).map fun bs=>.bl (bs.any id)
 | .all,_=>none
 | .any,_=>none
 | .lenSet,.lst xs=>if xs.length<=1000 then(cG xs).map fun is=>.int (gp is).length else none
 | .lenSet,_=>none
 | .sorted,.lst xs=>if xs.length<64 then(cG xs).map fun is=>.lst ((sortI is).map .int)else none
 | .sorted,_=>none
 | .sortedSet,.lst xs=>(cG xs).map fun is=>.lst ((sortI (gp is)).map .int)
 | .sortedSet,_=>none
 | .abs,.int i=>some (.int (if i<0 then -i else i))
 | .abs,_=>none
 | .sum,.lst xs=>(cG xs).map fun is=>.int is.sum
 | .sum,_=>none
abbrev yz:Ty->D->Option Bool
 | .int,.int _=>some true
 | .int,.bl _=>some true
 | .bool,.bl _=>some true
 | .list,.lst _=>some true
 | .tuple,.tup _=>some true
 | .str,.str _=>some true
 | _,.non=>some false
 | _,.bl _=>some false
 | _,.int _=>some false
 | _,.str _=>some false
 | _,.tup _=>some false
 | _,.lst _=>some false
 | _,_=>none
abbrev keyOf:D->Option Ky
 | .int i=>some (.inl i)
 | .str x=>some (.inr x)
 | _=>none
abbrev keysOf:List D->Option (List Ky)
 | []=>some []
 | d::r=>(keyOf d).bind fun k=>(keysOf r).map (k :: ·)
abbrev aF{κ:Type} [DecidableEq κ]:List κ->List D->κ->Option D
 | k::ks,v::vs,x=>if k=x then some v else aF ks vs x
 | _,_,_=>none
abbrev putD{κ:Type} [DecidableEq κ](ks:List κ)(vs:List D)(x:κ)(d:D):List κ × List D :=
 if x∈ks then(ks,List.zipWith (fun k v=>if k=x then d else v) ks vs)else(ks++[x],vs++[d])
abbrev ixV:D->D->Option D
 | .lst xs,.int i=>cB xs i
 | .tup xs,.int i=>cB xs i
 | .str x,.int i=>if x.length<=most then(cB x.cps.toList i).map fun c=>.str ⟨#[c]⟩else none
 | _,_=>none
abbrev nO:D->D->Option D
 | .dK ks vs,k=>(keyOf k).bind (aF ks vs)
 | .dT ks vs,.tup k=>(keysOf k).bind (aF ks vs)
 | _,_=>none
abbrev zM:D->D->Option Bool
 | .dK ks vs,k=>(keyOf k).map fun k=>(aF ks vs k).isSome
 | .dT ks vs,.tup k=>(keysOf k).map fun k=>(aF ks vs k).isSome
 | _,_=>none
abbrev flat:D->Bool
 | .int _=>true
 | .str _=>true
 | _=>false
abbrev eqF:D->D->Bool
 | .int a,.int b=>a == b
 | .str a,.str b=>a == b
 | _,_=>false
abbrev inV(a b:D):Option Bool :=
 (items b).bind fun xs=>if flat a&&xs.all flat then some (xs.any fun x=>eqF x a)else none
abbrev ox:D->D->Option D
 | .scr xs,.int k=>some (.lst (xs.take (cutAt xs.length k)))
 | .lst xs,.int k=>some (.lst (xs.take (cutAt xs.length k)))
 | .tup xs,.int k=>if cutAt xs.length k<xs.length then some (.tup (xs.take (cutAt xs.length k)))else none
 | _,_=>none
abbrev cM(lo:Int):Nat->List D
 | 0=>[]
 | n+1=>.int lo::cM (lo+1) n
abbrev bP(c lo:Int):Nat->List D
 | 0=>[]
 | n+1=>.int lo::bP c (lo+c) n
abbrev aG(c a b:Int):Nat:=(if c > 0 then(if a<b then(b-a-1) / c+1 else 0)else(if a > b then(a-b-1) / (-c)+1 else 0)).toNat
abbrev cH:D->D->Option (List D)
 | .int a,.int b=>if(b-a).toNat<=most/\-(2 ^ 60)<=a/\a<2 ^ 60/\-(2 ^ 60)<=b/\b<2 ^ 60 then some (cM a (b-a).toNat)else none
 | _,_=>none
abbrev dG(c:Int):D->D->Option (List D)
 | .int a,.int b=>if c≠0/\-(2 ^ 60)<c/\c<2 ^ 60/\aG c a b<=most/\-(2 ^ 60)<=a/\a<2 ^ 60/\-(2 ^ 60)<=b/\b<2 ^ 60 then some (bP c a (aG c a b))else none
 | _,_=>none
abbrev di(i:Int):List D->List D
 | []=>[]
 | d::r=>.tup [.int i,d]::di (i+1) r
abbrev GR:List D->List D->List D
 | a::r,b::s=>.tup [a,b]::GR r s
 | _,_=>[]
abbrev bo:List Nat->List D->St->Option St
 | [],[],σ=>some σ
 | i::is,d::ds,σ=>bo is ds (σ.set i (some d))
 | _,_,_=>none
abbrev a8(tg:List Nat)(d:D)(σ:St):Option St :=
 match tg with
 | [i]=>some (σ.set i (some d))
 | tg=>match d with
  | .tup ds=>bo tg ds σ
  | .lst ds=>bo tg ds σ
  | _=>none
abbrev kJ(y:Option D)(ys:List D):Option (List D) :=
 match y with
 | some e=>if e.imm then some (e::ys)else none
 | none=>some ys
abbrev cq(f:St->Option (Option D))(tg:List Nat)(σ:St):List D->Option (List D)
 | []=>some []
 | d::r=>(a8 tg d σ).bind fun σ1=>(f σ1).bind fun y=>(cq f tg σ r).bind (kJ y)
abbrev a9:D->Bool
 | .lst xs=>aq xs
 | .dK _ vs=>aq vs
 | .dT _ vs=>aq vs
 | _=>false
abbrev hW(f:St->Option D)(fr:Bool)(tg:List Nat)(σ:St):List D->Option (List D)
 | []=>some []
 | d::r=>(a8 tg d σ).bind fun σ1=>(f σ1).bind fun y=>if a9 y&&fr then(hW f fr tg σ r).map (y :: ·)else none
abbrev fits(xs:List D):Option (List D):=if xs.length<=most then some xs else none
abbrev aH:E->Bool
 | .lst _=>true
 | .tup _=>true
 | .comp _ _ _ _=>true
 | .compA _ _ _=>true
 | .compL _ _ _=>true
 | .bin _ _ _=>true
 | .slT _ _=>true
 | .rev _=>true
 | .call _ _=>true
 | .bi _ _=>true
 | .rng1 _=>true
 | .rng2 _ _=>true
 | .rng3 _ _ _=>true
 | .dk0=>true
 | .dt0=>true
 | _=>false
abbrev Af(n c:Str):Bool:=n == c || c == "RibbonError" || c == "ValueError"
abbrev zH(y:Option D):D->Option D
 | .bl true=>y
 | .bl false=>some (.bl false)
 | _=>none
abbrev orV(y:Option D):D->Option D
 | .bl false=>y
 | .bl true=>some (.bl true)
 | _=>none
abbrev GK:D->Option D
 | .lst xs=>some (.lst xs.reverse)
 | .tup xs=>some (.tup xs.reverse)
 | _=>none
abbrev Fz:D->Option D
 | .int i=>some (.int (-i))
 | _=>none
abbrev Dt:D->D->Option D
 | .int i,.int j=>some (.int (if j > i then j else i))
 | _,_=>none
abbrev F6:D->D->Option D
 | .int i,.int j=>some (.int (if j<i then j else i))
 | _,_=>none
abbrev Fi:D->D->Option D
 | .lst xs,.int i=>(cG xs).map fun is=>.int (is.count i:Nat)
 | _,_=>none
@[simp] theorem sv_andt {y:Option D}:zH y (.bl true)=y:=rfl
@[simp] theorem sv_andf {y:Option D}:zH y (.bl false)=some (.bl false):=rfl
@[simp] theorem sv_ort {y:Option D}:orV y (.bl true)=some (.bl true):=rfl
@[simp] theorem sv_orf {y:Option D}:orV y (.bl false)=y:=rfl
@[simp] theorem sv_max {i j:Int}:Dt (.int i) (.int j)=some (.int (if j > i then j else i)):=rfl
@[simp] theorem sv_min {i j:Int}:F6 (.int i) (.int j)=some (.int (if j<i then j else i)):=rfl
@[simp] theorem sv_neg {i:Int}:Fz (.int i)=some (.int (-i)):=rfl
mutual
noncomputable def ev(cl:Cl)(σ:St):E->Option D
 | .var i=>(σ[i]?).bind id
 | .cst d=>some d
 | .glb _ i=>some (.int i)
 | .bin o a b=>(ev cl σ a).bind fun x=>(ev cl σ b).bind fun y=>aA o x y
 | .cmp c a b=>(ev cl σ a).bind fun x=>(ev cl σ b).bind fun y=>(bF c x y).map .bl
 | .chain c c' a b e=>(ev cl σ a).bind fun x=>(ev cl σ b).bind fun y=>(bF c x y).bind fun k=>if k then(ev cl σ e).bind fun z=>(bF c' y z).map .bl else some (.bl false)
 | .inD neg a b=>(ev cl σ a).bind fun x=>(ev cl σ b).bind fun y=>(zM y x).map fun k=>.bl (if neg then !k else k)
 | .and a b=>(ev cl σ a).bind (zH (ev cl σ b))
 | .or a b=>(ev cl σ a).bind (orV (ev cl σ b))
 | .not a=>((ev cl σ a).bind truth).map fun k=>.bl (!k)
 | .ifx t a b=>((ev cl σ t).bind truth).bind fun k=>if k then ev cl σ a else ev cl σ b
 | .tup es=>(evs cl σ es).map .tup
 | .lst es=>(evs cl σ es).map .lst
 | .ix a b=>(ev cl σ a).bind fun x=>(ev cl σ b).bind fun y=>ixV x y
 | .ixD a b=>(ev cl σ a).bind fun x=>(ev cl σ b).bind fun y=>nO x y
 | .slT a b=>(ev cl σ a).bind fun x=>(ev cl σ b).bind fun y=>ox x y
 | .rev a=>(ev cl σ a).bind GK
 | .call f es=>(evs cl σ es).bind fun ds=>cl f ds
 | .bi b a=>(ev cl σ a).bind fun x=>biV b x
 | .max a b=>(ev cl σ a).bind fun x=>(ev cl σ b).bind fun y=>Dt x y
 | .min a b=>(ev cl σ a).bind fun x=>(ev cl σ b).bind fun y=>F6 x y
 | .isi a t=>(ev cl σ a).bind fun x=>(yz t x).map .bl
 | .rng1 a=>(ev cl σ a).bind fun x=>(cH (.int 0) x).map .lst
 | .rng2 a b=>(ev cl σ a).bind fun x=>(ev cl σ b).bind fun y=>(cH x y).map .lst
 | .rng3 c a b=>(ev cl σ a).bind fun x=>(ev cl σ b).bind fun y=>(dG c x y).map .lst
 | .neg a=>(ev cl σ a).bind Fz
 | .comp e tg it c=>(aU cl σ it).bind fun ds=>(fits ds).bind fun ds=>(cq (fun σ1=>((ev cl σ1 c).bind truth).bind fun k=>if k then(ev cl σ1 e).map some else some none) tg σ ds).map .lst
 | .compA e tg it=>(aU cl σ it).bind fun ds=>(fits ds).bind fun ds=>(cq (fun σ1=>(ev cl σ1 e).map some) tg σ ds).map .lst
 | .compL e tg it=>(aU cl σ it).bind fun ds=>(fits ds).bind fun ds=>(hW (fun σ1=>ev cl σ1 e) (aH e) tg σ ds).map .lst
 | .count a b=>(ev cl σ a).bind fun x=>(ev cl σ b).bind fun y=>Fi x y
 | .dk0=>some (.dK [] [])
 | .dt0=>some (.dT [] [])
noncomputable def evs(cl:Cl)(σ:St):Es->Option (List D)
 | .nil=>some []
 | .cons e es=>(ev cl σ e).bind fun d=>(evs cl σ es).map (d :: ·)
noncomputable def aU(cl:Cl)(σ:St):It->Option (List D)
 | .seq e=>(ev cl σ e).bind items
 | .rng1 a=>(ev cl σ a).bind fun x=>cH (.int 0) x
 | .rng2 a b=>(ev cl σ a).bind fun x=>(ev cl σ b).bind fun y=>cH x y
 | .rng3 c a b=>(ev cl σ a).bind fun x=>(ev cl σ b).bind fun y=>dG c x y
 | .enm e=>(ev cl σ e).bind fun x=>(eW x).map (di 0)
end
abbrev clX(cl:Cl)(f:Nat)(ds:List D):Option Str:=(cl (f+1000) ds).bind fun d=>match d with
 | .str x=>some x
 | _=>none
mutual
noncomputable def evX(cl:Cl)(σ:St):E->Option Str
 | .call f es=>match evs cl σ es with
  | some ds=>clX cl f ds
  | none=>ET cl σ es
 | .ix a _=>evX cl σ a
 | _=>none
noncomputable def ET(cl:Cl)(σ:St):Es->Option Str
 | .nil=>none
 | .cons e es=>match ev cl σ e with
  | some _=>ET cl σ es
  | none=>evX cl σ e
end
abbrev written:D->Bool
 | .int i=>decide (i.natAbs<2 ^ 1900)
 | _=>false
inductive Out where
 | nx
 | rt (d:D)
abbrev avE(M:List Nat):E->Bool
 | .var j=>!M.contains j
 | .ix a _=>avE M a
 | .call _ _=>true
 | .compL _ _ _=>true
 | .ifx _ a b=>avE M a&&avE M b
 | _=>false
abbrev yp(M:List Nat):It->Bool
 | .seq e=>avE M e || aH e
 | .enm e=>avE M e || aH e
 | _=>true
abbrev aW(M:List Nat)(e:E)(d:D):Bool :=
 d.imm || (a9 d&&(aH e || match e with | .var i=>M.contains i | _=>false))
abbrev aP(M:List Nat)(e:E)(d:D):Bool:=d.imm || (a9 d&&aH e) || avE M e
abbrev isVar:E->Bool
 | .var _=>true
 | _=>false
abbrev fw(M ps:List Nat):Nat->Es->List D->Bool
 | _,.nil,[]=>true
 | q,.cons e es,d::ds=>(if ps.contains q then isVar e else aP M e d)&&fw M ps (q+1) es ds
 | _,_,_=>false
abbrev da:D->D->D->Option D
 | .lst xs,.int k,d=>(oh xs.length k).map fun j=>.lst (xs.set j d)
 | .dK ks vs,k,d=>(keyOf k).bind fun k=>if ks.length<most then some (.dK (putD ks vs k d).1 (putD ks vs k d).2)else none
 | .dT ks vs,.tup k,d=>(keysOf k).bind fun k=>if ks.length<most then some (.dT (putD ks vs k d).1 (putD ks vs k d).2)else none
 | _,_,_=>none
abbrev aO(f:St->Option (Out × St))(tg:List Nat):List D->St->Option (Out × St)
 | [],σ=>some (.nx,σ)
 | d::r,σ=>if d.imm then(a8 tg d σ).bind fun σ1=>(f σ1).bind fun p=>match p.1 with
   | .nx=>aO f tg r p.2
   | .rt d=>some (.rt d,p.2)
  else none
abbrev whF(t:St->Option Bool)(f:St->Option (Out × St)):Nat->St->Option (Out × St)
 | 0,_=>none
 | n+1,σ=>(t σ).bind fun k=>if k then(f σ).bind fun p=>match p.1 with
   | .nx=>whF t f n p.2
   | .rt d=>some (.rt d,p.2)
  else some (.nx,σ)
abbrev A6(f:St->Option (Out × St))(fx:St->Option (Str × St))(tg:List Nat):List D->St->Option (Str × St)
 | [],_=>none
 | d::r,σ=>if d.imm then(a8 tg d σ).bind fun σ1=>match f σ1 with
   | some p=>match p.1 with
    | .nx=>A6 f fx tg r p.2
    | .rt _=>none
   | none=>fx σ1
  else none
mutual
noncomputable def evS(cl:Cl)(M:List Nat):S->St->Option (Out × St)
 | .asg i e,σ=>(ev cl σ e).bind fun d=>if aP M e d then some (.nx,σ.set i (some d))else none
 | .own i e,σ=>(ev cl σ e).bind fun d=>if a9 d&&aH e then some (.nx,σ.set i (some d))else none
 | .unp is e,σ=>(ev cl σ e).bind fun d=>(items d).bind fun ds=>if aq ds then(bo is ds σ).map fun σ1=>(.nx,σ1)else none
 | .par i j a b,σ=>(ev cl σ a).bind fun x=>(ev cl σ b).bind fun y=>if x.imm&&y.imm then some (.nx,(σ.set i (some x)).set j (some y))else none
 | .app i e,σ=>(ev cl σ e).bind fun d=>((σ[i]?).bind id).bind fun l=>match l with
  | .lst xs=>if d.imm&&decide (xs.length<most)then some (.nx,σ.set i (some (.lst (xs++[d]))))else none
  | _=>none
 | .put i k e,σ=>(ev cl σ e).bind fun d=>(ev cl σ k).bind fun kk=>((σ[i]?).bind id).bind fun l=>if d.imm then(da l kk d).map fun l'=>(.nx,σ.set i (some l'))else none
 | .pop i j,σ=>((σ[i]?).bind id).bind fun l=>match l with
  | .lst xs=>(xs[xs.length-1]?).map fun d=>(.nx,(σ.set i (some (.lst xs.dropLast))).set j (some d))
  | _=>none
 | .ife t a b,σ=>((ev cl σ t).bind truth).bind fun k=>if k then ag cl M a σ else ag cl M b σ
 | .ifp i e a b,σ=>((σ[i]?).bind id).bind fun l=>match l with
  | .lst xs=>(xs[xs.length-1]?).bind fun d=>(ev cl (σ.set i (some (.lst xs.dropLast))) e).bind fun y=>match d,y with
   | .int p,.int q=>if decide (p=q)then ag cl M b (σ.set i (some (.lst xs.dropLast)))else ag cl M a (σ.set i (some (.lst xs.dropLast)))
   | _,_=>none
  | _=>none
 | .forr tg it b,σ=>(aU cl σ it).bind fun ds=>aO (ag cl M b) tg ds σ
 | .whil t b,σ=>whF (fun σ=>(ev cl σ t).bind truth) (ag cl M b) most σ
 | .mexc f es ps ms,σ=>(evs cl σ es).bind fun ds=>if fw M ps 0 es ds then(cl f ds).bind fun r=>match r with
  | .tup (_::outs)=>(bo ms outs σ).map fun σ1=>(.nx,σ1)
  | _=>none
  else none
 | .maug i f es ps ms,σ=>((σ[i]?).bind id).bind fun x=>(evs cl σ es).bind fun ds=>if fw M ps 0 es ds then(cl f ds).bind fun r=>match r with
  | .tup (y::outs)=>match x,y with
   | .int a,.int b=>(bo ms outs σ).map fun σ1=>(.nx,σ1.set i (some (.int (a+b))))
   | _,_=>none
  | _=>none
  else none
 | .ret e,σ=>(ev cl σ e).bind fun d=>if aW M e d then some (.rt d,σ)else none
 | .exc e,σ=>(ev cl σ e).map fun _=>(.nx,σ)
 | .rais _ _,_=>none
noncomputable def ag(cl:Cl)(M:List Nat):Ss->St->Option (Out × St)
 | .nil,σ=>some (.nx,σ)
 | .cons s r,σ=>(evS cl M s σ).bind fun p=>match p.1 with
  | .nx=>ag cl M r p.2
  | .rt d=>some (.rt d,p.2)
noncomputable def HH(cl:Cl)(M:List Nat):S->St->Option (Str × St)
 | .asg _ e,σ=>(evX cl σ e).map fun x=>(x,σ)
 | .own _ e,σ=>(evX cl σ e).map fun x=>(x,σ)
 | .unp _ e,σ=>(evX cl σ e).map fun x=>(x,σ)
 | .exc e,σ=>(evX cl σ e).map fun x=>(x,σ)
 | .ret e,σ=>(evX cl σ e).map fun x=>(x,σ)
 | .ife t a b,σ=>((ev cl σ t).bind truth).bind fun k=>if k then mN cl M a σ else mN cl M b σ
 | .forr tg it b,σ=>(aU cl σ it).bind fun ds=>A6 (ag cl M b) (mN cl M b) tg ds σ
 | .rais c ps,σ=>(evs cl σ ps).bind fun ds=>if ds.all written then some (c,σ)else none
 | _,_=>none
noncomputable def mN(cl:Cl)(M:List Nat):Ss->St->Option (Str × St)
 | .nil,_=>none
 | .cons s r,σ=>match evS cl M s σ with
  | some p=>match p.1 with
   | .nx=>mN cl M r p.2
   | .rt _=>none
  | none=>HH cl M s σ
end
structure Fn where
 ps:Nat
 nn:Nat
 M:List Nat
 mp:List Nat
 body:Ss
abbrev dU(σ:St):List Nat->Option (List D)
 | []=>some []
 | i::is=>((σ[i]?).bind id).bind fun d=>(dU σ is).map (d :: ·)
abbrev aN(fn:Fn)(d:D)(σ:St):Option D :=
 if fn.mp.isEmpty then some d else if d.imm then(dU σ fn.mp).map fun os=>.tup (d::os)else none
abbrev a5(T:List Fn):Nat->Cl
 | 0,_,_=>none
 | n+1,f,ds=>match T[f]? with
  | some fn=>if ds.length=fn.ps then(ag (a5 T n) fn.M fn.body (ds.map some++List.replicate (fn.nn-fn.ps) none)).bind fun p=>match p.1 with
   | .nx=>aN fn .non p.2
   | .rt d=>aN fn d p.2
   else none
  | none=>(T[f-1000]?).bind fun fn=>if ds.length=fn.ps/\fn.mp=[]then(mN (a5 T n) fn.M fn.body (ds.map some++List.replicate (fn.nn-fn.ps) none)).map fun p=>.str p.1 else none
end RL
namespace RT
open RL
abbrev e8:Fn :=
 ⟨1,1,[],[],(.cons (.ret (.and (.isi (.var 0) .int) (.not (.isi (.var 0) .bool)))) .nil)⟩
abbrev cT(f_is_number:Nat):Fn :=
 ⟨1,1,[],[],(.cons (.ret (.and (.call f_is_number (.cons (.var 0) .nil)) (.chain .le .le (.cst (.int 1)) (.var 0) (.glb "MOST_PEGS" 10)))) .nil)⟩
abbrev fC(f_is_peg_count:Nat):Fn :=
 ⟨1,1,[],[],(.cons (.ife (.not (.call f_is_peg_count (.cons (.var 0) .nil))) (.cons (.rais "BadPegs" (.cons (.glb "MOST_PEGS" 10) .nil)) .nil) .nil) .nil)⟩
abbrev nj:Fn :=
 ⟨3,3,[0,0],[0],(.cons (.put 0 (.var 1) (.var 2)) (.cons (.put 0 (.var 2) (.var 1)) .nil))⟩
abbrev gr:Fn :=
 ⟨1,1,[],[],(.cons (.ret (.bin .fdiv (.bi .len (.var 0)) (.cst (.int 2)))) .nil)⟩
abbrev kT(f_check_pegs:Nat):Fn :=
 ⟨1,1,[],[],(.cons (.exc (.call f_check_pegs (.cons (.var 0) .nil))) (.cons (.ret (.bi .tuple (.bin .add (.rng2 (.var 0) (.bin .mul (.cst (.int 2)) (.var 0))) (.rng1 (.var 0))))) .nil))⟩
abbrev nT(f_hang_hook f_plain f_check_row:Nat):Ss :=
 (.cons (.maug 3 f_hang_hook (.cons (.var 2) (.cons (.var 4) .nil)) [0] [2]) .nil)
abbrev mI(f_hang_hook f_plain f_check_row:Nat):Fn :=
 ⟨2,5,[2],[],(.cons (.exc (.call f_check_row (.cons (.var 0) (.cons (.var 1) .nil)))) (.cons (.own 2 (.bi .list (.call f_plain (.cons (.var 0) .nil)))) (.cons (.asg 3 (.cst (.int 0))) (.cons (.forr [4] (.seq (.var 1)) (nT f_hang_hook f_plain f_check_row)) (.cons (.ret (.tup (.cons (.bi .tuple (.var 2)) (.cons (.var 3) .nil)))) .nil)))))⟩
abbrev eB(f_tie f_pegs_of:Nat):Fn :=
 ⟨2,4,[0,0],[0],(.cons (.asg 2 (.bin .add (.call f_pegs_of (.cons (.var 0) .nil)) (.var 1))) (.cons (.asg 3 (.bin .add (.var 2) (.cst (.int 1)))) (.cons (.ife (.cmp .eq (.ix (.var 0) (.var 2)) (.var 3)) (.cons (.ret (.cst (.int 1))) .nil) .nil) (.cons (.mexc f_tie (.cons (.var 0) (.cons (.ix (.var 0) (.var 2)) (.cons (.ix (.var 0) (.var 3)) .nil))) [0] [0]) (.cons (.mexc f_tie (.cons (.var 0) (.cons (.var 2) (.cons (.var 3) .nil))) [0] [0]) (.cons (.ret (.cst (.int 0))) .nil))))))⟩
abbrev iK(f_is_number:Nat):Fn :=
 ⟨2,2,[],[],(.cons (.ret (.and (.call f_is_number (.cons (.var 1) .nil)) (.chain .le .le (.cst (.int 0)) (.var 1) (.bin .sub (.var 0) (.cst (.int 2)))))) .nil)⟩
abbrev i5(f_is_hook f_check_pegs:Nat):Ss :=
 (.cons (.ife (.not (.call f_is_hook (.cons (.var 0) (.cons (.var 2) .nil)))) (.cons (.rais "BadHook" (.cons (.var 2) (.cons (.var 0) .nil))) .nil) .nil) .nil)
abbrev gf(f_is_hook f_check_pegs:Nat):Fn :=
 ⟨2,3,[],[],(.cons (.exc (.call f_check_pegs (.cons (.var 0) .nil))) (.cons (.forr [2] (.seq (.var 1)) (i5 f_is_hook f_check_pegs)) .nil))⟩
abbrev ky:Fn :=
 ⟨1,3,[],[],(.cons (.asg 1 (.bin .mod (.bin .add (.bin .mul (.var 0) (.cst (.int 48271))) (.cst (.int 11))) (.cst (.int 2147483647)))) (.cons (.asg 2 (.bin .mod (.bin .add (.bin .add (.bin .mul (.var 1) (.var 1)) (.bin .mul (.cst (.int 40692)) (.var 1))) (.var 0)) (.cst (.int 2147483399)))) (.cons (.ret (.bin .mod (.bin .add (.bin .add (.bin .mul (.var 2) (.var 2)) (.bin .mul (.cst (.int 69621)) (.var 2))) (.var 1)) (.cst (.int 2147483563)))) .nil)))⟩
abbrev jG(f_law_mix:Nat):Ss :=
 (.cons (.asg 3 (.bin .add (.bin .mul (.var 3) (.cst (.int 2147483563))) (.call f_law_mix (.cons (.bin .add (.bin .add (.var 2) (.bin .mul (.cst (.int 1009)) (.var 1))) (.bin .mul (.cst (.int 7919)) (.var 4))) .nil)))) .nil)
abbrev kO(f_law_mix:Nat):Fn :=
 ⟨2,5,[],[],(.cons (.asg 2 (.bin .add (.bin .mul (.cst (.int 7)) (.var 1)) (.cst (.int 3)))) (.cons (.ife (.cmp .gt (.bi .len (.var 0)) (.cst (.int 0))) (.cons (.asg 2 (.bin .add (.ix (.var 0) (.bin .mod (.var 1) (.bi .len (.var 0)))) (.bin .mul (.cst (.int 9973)) (.bin .fdiv (.var 1) (.bi .len (.var 0)))))) .nil) .nil) (.cons (.ife (.and (.cmp .lt (.var 1) (.bi .len (.var 0))) (.cmp .ge (.var 2) (.bin .pow (.cst (.int 10)) (.cst (.int 18))))) (.cons (.ret (.bin .sub (.var 2) (.bin .pow (.cst (.int 10)) (.cst (.int 18))))) .nil) .nil) (.cons (.asg 3 (.cst (.int 0))) (.cons (.forr [4] (.rng1 (.cst (.int 40))) (jG f_law_mix)) (.cons (.ret (.var 3)) .nil))))))⟩
abbrev gz(f_law_raw:Nat):Ss :=
 (.cons (.app 4 (.bin .mod (.var 3) (.var 5))) (.cons (.asg 3 (.bin .fdiv (.var 3) (.var 5))) .nil))
abbrev eR(f_law_raw:Nat):Fn :=
 ⟨3,6,[4],[],(.cons (.asg 3 (.call f_law_raw (.cons (.var 0) (.cons (.var 1) .nil)))) (.cons (.own 4 (.lst .nil)) (.cons (.forr [5] (.seq (.var 2)) (gz f_law_raw)) (.cons (.ret (.var 4)) .nil))))⟩
abbrev cC(f_law_digits:Nat):Ss :=
 (.cons (.ife (.cmp .lt (.var 2) (.cst (.int 2))) (.cons (.ret (.lst .nil)) .nil) .nil) (.cons (.asg 8 (.bin .mod (.var 7) (.bin .sub (.var 2) (.cst (.int 1))))) (.cons (.ife (.and (.cmp .ne (.var 4) (.lst .nil)) (.cmp .eq (.bin .mod (.var 7) (.cst (.int 3))) (.cst (.int 1)))) (.cons (.asg 8 (.min (.bin .sub (.var 2) (.cst (.int 2))) (.max (.cst (.int 0)) (.bin .add (.ix (.var 4) (.neg (.cst (.int 1)))) (.ix (.lst (.cons (.cst (.int 1)) (.cons (.neg (.cst (.int 1))) (.cons (.cst (.int 0)) .nil)))) (.bin .mod (.bin .mod (.var 7) (.cst (.int 7))) (.cst (.int 3)))))))) .nil) .nil) (.cons (.app 4 (.var 8)) .nil))))
abbrev fv(f_law_digits:Nat):Ss :=
 (.cons (.asg 6 (.call f_law_digits (.cons (.var 0) (.cons (.bin .add (.var 1) (.bin .fdiv (.var 5) (.cst (.int 12)))) (.cons (.bin .mul (.lst (.cons (.cst (.int 97)) .nil)) (.cst (.int 12))) .nil))))) (.cons (.forr [7] (.seq (.slT (.var 6) (.bin .sub (.var 3) (.var 5)))) (cC f_law_digits)) .nil))
abbrev dC(f_law_digits:Nat):Fn :=
 ⟨4,9,[4],[],(.cons (.own 4 (.lst .nil)) (.cons (.forr [5] (.rng3 (12) (.cst (.int 0)) (.var 3)) (fv f_law_digits)) (.cons (.ret (.var 4)) .nil)))⟩
abbrev ic(f_names_back:Nat):Fn :=
 ⟨1,2,[],[],(.cons (.ret (.and (.isi (.var 0) .tuple) (.bi .all (.compA (.call f_names_back (.cons (.var 0) (.cons (.var 1) .nil))) [1] (.rng1 (.bi .len (.var 0))))))) .nil)⟩
abbrev iu(f_is_number:Nat):Fn :=
 ⟨2,3,[],[],(.cons (.asg 2 (.ix (.var 0) (.var 1))) (.cons (.ret (.and (.call f_is_number (.cons (.var 2) .nil)) (.and (.chain .le .lt (.cst (.int 0)) (.var 2) (.bi .len (.var 0))) (.cmp .eq (.ix (.var 0) (.var 2)) (.var 1))))) .nil))⟩
abbrev bQ:Ss :=
 (.cons (.ife (.cmp .gt (.var 3) (.var 2)) (.cons (.app 1 (.var 2)) .nil) (.cons (.ife (.cmp .eq (.var 3) (.var 2)) (.cons (.ife (.var 1) (.cons (.ret (.cst (.bl false))) .nil) .nil) .nil) (.cons (.ifp 1 (.var 3) (.cons (.ret (.cst (.bl false))) .nil) .nil) .nil)) .nil)) .nil)
abbrev fR:Fn :=
 ⟨1,4,[1],[],(.cons (.own 1 (.lst .nil)) (.cons (.forr [2,3] (.enm (.var 0)) (bQ)) (.cons (.ret (.cst (.bl true))) .nil)))⟩
abbrev gI(f_is_uncrossed f_in_round f_is_pairing f_is_peg_count f_pegs_of:Nat):Fn :=
 ⟨1,5,[],[],(.cons (.asg 1 (.call f_pegs_of (.cons (.var 0) .nil))) (.cons (.ife (.or (.cmp .ne (.bi .len (.var 0)) (.bin .mul (.cst (.int 2)) (.var 1))) (.or (.not (.call f_is_peg_count (.cons (.var 1) .nil))) (.not (.call f_is_pairing (.cons (.var 0) .nil))))) (.cons (.ret (.cst (.bl false))) .nil) .nil) (.cons (.asg 2 (.comp (.var 3) [3,4] (.enm (.var 0)) (.cmp .eq (.var 3) (.var 4)))) (.cons (.ret (.and (.not (.var 2)) (.call f_is_uncrossed (.cons (.call f_in_round (.cons (.var 0) .nil)) .nil)))) .nil))))⟩
abbrev eD(f_is_frame:Nat):Fn :=
 ⟨1,1,[],[],(.cons (.ife (.not (.call f_is_frame (.cons (.var 0) .nil))) (.cons (.rais "BadFrame" .nil) .nil) .nil) .nil)⟩
abbrev mW(f_check_frame:Nat):Fn :=
 ⟨1,3,[],[],(.cons (.exc (.call f_check_frame (.cons (.var 0) .nil))) (.cons (.ret (.comp (.tup (.cons (.var 1) (.cons (.var 2) .nil))) [1,2] (.enm (.var 0)) (.cmp .lt (.var 1) (.var 2)))) .nil))⟩
abbrev dm:Fn :=
 ⟨2,2,[],[],(.cons (.ret (.ifx (.cmp .lt (.var 1) (.var 0)) (.var 1) (.bin .sub (.bin .sub (.bin .mul (.cst (.int 3)) (.var 0)) (.cst (.int 1))) (.var 1)))) .nil)⟩
abbrev gJ(f_moved f_round_place f_pegs_of:Nat):Fn :=
 ⟨1,3,[],[],(.cons (.asg 1 (.call f_pegs_of (.cons (.var 0) .nil))) (.cons (.ret (.call f_moved (.cons (.var 0) (.cons (.compA (.call f_round_place (.cons (.var 1) (.cons (.var 2) .nil))) [2] (.rng1 (.bin .mul (.cst (.int 2)) (.var 1)))) .nil)))) .nil))⟩
abbrev ma:Ss :=
 (.cons (.put 2 (.ix (.var 1) (.var 3)) (.ix (.var 1) (.var 4))) .nil)
abbrev kZ:Fn :=
 ⟨2,5,[2],[],(.cons (.own 2 (.bin .mul (.lst (.cons (.cst (.int 0)) .nil)) (.bi .len (.var 0)))) (.cons (.forr [3,4] (.enm (.var 0)) (ma)) (.cons (.ret (.bi .tuple (.var 2))) .nil)))⟩
abbrev dA:Fn :=
 ⟨1,2,[],[],(.cons (.ret (.bi .tuple (.bin .add (.compA (.bin .add (.var 0) (.var 1)) [1] (.rng1 (.var 0))) (.rng1 (.var 0))))) .nil)⟩
abbrev lO(f_law_plain:Nat):Ss :=
 (.cons (.put 2 (.var 3) (.bin .add (.var 3) (.cst (.int 1)))) (.cons (.put 2 (.bin .add (.var 3) (.cst (.int 1))) (.var 3)) .nil))
abbrev gF(f_law_plain:Nat):Fn :=
 ⟨2,4,[2],[],(.cons (.own 2 (.bi .list (.call f_law_plain (.cons (.var 0) .nil)))) (.cons (.forr [3] (.seq (.tup (.cons (.var 1) (.cons (.bin .add (.var 0) (.var 1)) .nil)))) (lO f_law_plain)) (.cons (.ret (.bi .tuple (.var 2))) .nil)))⟩
abbrev fD:Fn :=
 ⟨1,1,[],[],(.cons (.ret (.bin .add (.rng1 (.var 0)) (.rng3 (-1) (.bin .sub (.bin .mul (.cst (.int 2)) (.var 0)) (.cst (.int 1))) (.bin .sub (.var 0) (.cst (.int 1)))))) .nil)⟩
abbrev cX(f_law_circle:Nat):Ss :=
 (.cons (.ife (.cmp .eq (.var 6) (.cst (.str "("))) (.cons (.app 4 (.ix (.var 2) (.var 5))) .nil) (.cons (.pop 4 8) (.cons (.put 3 (.var 8) (.ix (.var 2) (.var 5))) (.cons (.put 3 (.ix (.var 2) (.var 5)) (.var 8)) .nil)))) .nil)
abbrev eP(f_law_circle:Nat):Fn :=
 ⟨1,9,[3,4],[],(.cons (.asg 1 (.bin .fdiv (.bi .len (.var 0)) (.cst (.int 2)))) (.cons (.asg 2 (.call f_law_circle (.cons (.var 1) .nil))) (.cons (.own 3 (.compA (.cst (.int 0)) [7] (.seq (.var 2)))) (.cons (.own 4 (.lst .nil)) (.cons (.forr [5,6] (.enm (.var 0)) (cX f_law_circle)) (.cons (.ret (.bi .tuple (.var 3))) .nil))))))⟩
abbrev fZ:Ss :=
 (.cons (.par 0 6 (.bin .fdiv (.var 0) (.cst (.int 2))) (.bin .mod (.var 0) (.cst (.int 2)))) (.cons (.asg 5 (.or (.cmp .eq (.var 3) (.cst (.int 0))) (.and (.cmp .lt (.var 3) (.var 4)) (.cmp .eq (.var 6) (.cst (.int 1)))))) (.cons (.asg 2 (.bin .add (.var 2) (.ix (.lst (.cons (.cst (.str ")")) (.cons (.cst (.str "(")) .nil))) (.bi .int (.var 5))))) (.cons (.asg 3 (.bin .add (.var 3) (.ix (.lst (.cons (.neg (.cst (.int 1))) (.cons (.cst (.int 1)) .nil))) (.bi .int (.var 5))))) .nil))))
abbrev jL:Fn :=
 ⟨2,7,[],[],(.cons (.asg 2 (.cst (.str ""))) (.cons (.asg 3 (.cst (.int 0))) (.cons (.forr [4] (.rng3 (-1) (.bin .mul (.cst (.int 2)) (.var 1)) (.cst (.int 0))) (fZ)) (.cons (.ret (.var 2)) .nil))))⟩
abbrev bH:Ss :=
 (.cons (.ife (.cmp .eq (.ixD (.var 4) (.var 7)) (.var 9)) (.cons (.put 4 (.var 7) (.var 8)) .nil) .nil) .nil)
abbrev cj:Ss :=
 (.cons (.par 8 9 (.ixD (.var 4) (.var 5)) (.ixD (.var 4) (.var 6))) (.cons (.forr [7] (.seq (.var 2)) (bH)) .nil))
abbrev dF:Ss :=
 (.cons (.forr [6] (.seq (.tup (.cons (.ix (.var 1) (.var 5)) (.cons (.bin .sub (.ix (.var 0) (.bin .add (.var 3) (.var 5))) (.var 3)) .nil)))) (cj)) .nil)
abbrev dE:Ss :=
 (.cons (.put 4 (.var 5) (.var 5)) .nil)
abbrev bW:Fn :=
 ⟨3,10,[4],[],(.cons (.asg 3 (.bin .fdiv (.bi .len (.var 0)) (.cst (.int 2)))) (.cons (.own 4 .dk0) (.cons (.forr [5] (.seq (.var 2)) (dE)) (.cons (.forr [5] (.seq (.var 2)) (dF)) (.cons (.ret (.bi .lenSet (.compA (.ixD (.var 4) (.var 5)) [5] (.seq (.var 2))))) .nil)))))⟩
abbrev du(f_law_rings_by:Nat):Ss :=
 (.cons (.ife (.cmp .eq (.cmp .eq (.ix (.var 7) (.cst (.int 0))) (.cst (.str "high"))) (.cmp .ge (.ix (.var 7) (.cst (.int 1))) (.var 2))) (.cons (.put 6 (.bin .mod (.ix (.var 7) (.cst (.int 1))) (.var 2)) (.cst (.bl true))) (.cons (.asg 7 (.ixD (.var 3) (.tup (.cons (.ix (.lst (.cons (.cst (.str "high")) (.cons (.cst (.str "low")) .nil))) (.bi .int (.cmp .eq (.ix (.var 7) (.cst (.int 0))) (.cst (.str "high"))))) (.cons (.bin .mod (.bin .add (.ix (.var 7) (.cst (.int 1))) (.var 2)) (.bin .mul (.cst (.int 2)) (.var 2))) .nil))))) .nil)) .nil) .nil)
abbrev fY(f_law_rings_by:Nat):Ss :=
 (.cons (.asg 7 (.ixD (.var 3) (.tup (.cons (.ix (.lst (.cons (.cst (.str "high")) (.cons (.cst (.str "low")) .nil))) (.bi .int (.cmp .ge (.var 4) (.var 2)))) (.cons (.var 4) .nil))))) (.cons (.forr [8] (.rng1 (.bin .mul (.cst (.int 4)) (.var 2))) (du f_law_rings_by)) (.cons (.app 5 (.ix (.var 7) (.cst (.int 1)))) .nil)))
abbrev gc(f_law_rings_by:Nat):Ss :=
 (.cons (.put 3 (.tup (.cons (.cst (.str "high")) (.cons (.var 4) .nil))) (.tup (.cons (.cst (.str "high")) (.cons (.ix (.var 0) (.var 4)) .nil)))) (.cons (.put 3 (.tup (.cons (.cst (.str "low")) (.cons (.var 4) .nil))) (.tup (.cons (.cst (.str "low")) (.cons (.ix (.var 1) (.var 4)) .nil)))) .nil))
abbrev dk(f_law_rings_by:Nat):Fn :=
 ⟨2,9,[3,5,6],[],(.cons (.asg 2 (.bin .fdiv (.bi .len (.var 0)) (.cst (.int 2)))) (.cons (.own 3 .dt0) (.cons (.forr [4] (.rng1 (.bin .mul (.cst (.int 2)) (.var 2))) (gc f_law_rings_by)) (.cons (.own 5 (.lst .nil)) (.cons (.own 6 .dk0) (.cons (.forr [4] (.rng1 (.bin .mul (.cst (.int 2)) (.var 2))) (fY f_law_rings_by)) (.cons (.ret (.tup (.cons (.bi .tuple (.var 5)) (.cons (.call f_law_rings_by (.cons (.var 0) (.cons (.var 1) (.cons (.comp (.var 4) [4] (.rng1 (.var 2)) (.inD true (.var 4) (.var 6))) .nil)))) .nil)))) .nil)))))))⟩
abbrev gH:Fn :=
 ⟨1,3,[],[],(.cons (.asg 1 (.bin .fdiv (.bi .len (.var 0)) (.cst (.int 2)))) (.cons (.ret (.bi .tuple (.compA (.bin .mod (.bin .add (.ix (.var 0) (.bin .mod (.bin .add (.var 2) (.var 1)) (.bin .mul (.cst (.int 2)) (.var 1)))) (.var 1)) (.bin .mul (.cst (.int 2)) (.var 1))) [2] (.rng1 (.bin .mul (.cst (.int 2)) (.var 1)))))) .nil))⟩
abbrev iR(f_law_hung f_law_over f_law_from_text f_law_text f_law_hook f_law_plain f_law_digits:Nat):Fn :=
 ⟨3,7,[],[],(.cons (.unp [4,5,6] (.call f_law_digits (.cons (.var 0) (.cons (.var 1) (.cons (.lst (.cons (.cst (.int 8)) (.cons (.bin .pow (.cst (.int 10)) (.cst (.int 12))) (.cons (.max (.cst (.int 1)) (.bin .sub (.var 2) (.cst (.int 1)))) .nil)))) .nil))))) (.cons (.ife (.cmp .eq (.var 4) (.cst (.int 0))) (.cons (.ret (.call f_law_plain (.cons (.var 2) .nil))) .nil) .nil) (.cons (.ife (.and (.cmp .eq (.var 4) (.cst (.int 1))) (.cmp .gt (.var 2) (.cst (.int 1)))) (.cons (.ret (.call f_law_hook (.cons (.var 2) (.cons (.var 6) .nil)))) .nil) .nil) (.cons (.asg 3 (.call f_law_from_text (.cons (.call f_law_text (.cons (.var 5) (.cons (.var 2) .nil))) .nil))) (.cons (.ife (.cmp .eq (.var 4) (.cst (.int 2))) (.cons (.ret (.ix (.call f_law_hung (.cons (.var 3) (.cons (.call f_law_over (.cons (.var 3) .nil)) .nil))) (.cst (.int 0)))) .nil) .nil) (.cons (.ret (.var 3)) .nil))))))⟩
abbrev oz(f_ties f_pegs_of:Nat):Fn :=
 ⟨1,8,[],[],(.cons (.asg 1 (.call f_pegs_of (.cons (.var 0) .nil))) (.cons (.asg 2 (.compL (.bi .sorted (.lst (.cons (.bin .mod (.var 4) (.var 1)) (.cons (.bin .mod (.var 5) (.var 1)) .nil)))) [4,5] (.seq (.call f_ties (.cons (.var 0) .nil))))) (.cons (.ret (.compA (.bi .len (.comp (.var 6) [6,7] (.seq (.var 2)) (.chain .le .lt (.var 6) (.var 3) (.var 7)))) [3] (.rng1 (.bin .sub (.var 1) (.cst (.int 1)))))) .nil)))⟩
abbrev sO(f_seams:Nat):Fn :=
 ⟨1,1,[],[],(.cons (.ret (.bin .fdiv (.bi .sum (.call f_seams (.cons (.var 0) .nil))) (.cst (.int 2)))) .nil)⟩
abbrev eT:Ss :=
 (.cons (.put 2 (.var 5) (.bin .add (.ix (.var 2) (.var 5)) (.cst (.int 1)))) .nil)
abbrev ij:Ss :=
 (.cons (.forr [5] (.rng2 (.bin .mod (.var 3) (.var 1)) (.bin .mod (.var 4) (.var 1))) (eT)) .nil)
abbrev iN:Fn :=
 ⟨1,6,[2],[],(.cons (.asg 1 (.bin .fdiv (.bi .len (.var 0)) (.cst (.int 2)))) (.cons (.own 2 (.compA (.cst (.int 0)) [5] (.rng1 (.bin .sub (.var 1) (.cst (.int 1)))))) (.cons (.forr [3,4] (.enm (.var 0)) (ij)) (.cons (.ret (.var 2)) .nil))))⟩
abbrev et(f_pegs_of:Nat):Fn :=
 ⟨2,3,[],[],(.cons (.ret (.comp (.var 2) [2] (.rng1 (.bin .sub (.call f_pegs_of (.cons (.var 0) .nil)) (.cst (.int 1)))) (.cmp .eq (.ix (.var 0) (.bin .add (.var 1) (.var 2))) (.bin .add (.bin .add (.var 1) (.var 2)) (.cst (.int 1)))))) .nil)⟩
abbrev f9(f_neighbours_tied f_take_off f_check_frame:Nat):Ss :=
 (.cons (.app 2 (.ix (.var 3) (.cst (.int 0)))) (.cons (.mexc f_take_off (.cons (.var 1) (.cons (.ix (.var 3) (.cst (.int 0))) .nil)) [0] [1]) (.cons (.asg 3 (.call f_neighbours_tied (.cons (.var 1) (.cons (.cst (.int 0)) .nil)))) .nil)))
abbrev fW(f_neighbours_tied f_take_off f_check_frame:Nat):Fn :=
 ⟨1,4,[1,2],[],(.cons (.exc (.call f_check_frame (.cons (.var 0) .nil))) (.cons (.own 1 (.bi .list (.var 0))) (.cons (.own 2 (.lst .nil)) (.cons (.asg 3 (.call f_neighbours_tied (.cons (.var 1) (.cons (.cst (.int 0)) .nil)))) (.cons (.whil (.var 3) (f9 f_neighbours_tied f_take_off f_check_frame)) (.cons (.ret (.var 2)) .nil))))))⟩
abbrev jQ(f_tie f_next_across:Nat):Fn :=
 ⟨2,4,[0,0],[0],(.cons (.asg 2 (.call f_next_across (.cons (.var 0) (.cons (.var 1) .nil)))) (.cons (.asg 3 (.ix (.var 0) (.var 2))) (.cons (.mexc f_tie (.cons (.var 0) (.cons (.var 2) (.cons (.var 1) .nil))) [0] [0]) (.cons (.mexc f_tie (.cons (.var 0) (.cons (.var 3) (.cons (.bin .add (.var 1) (.cst (.int 1))) .nil))) [0] [0]) .nil))))⟩
abbrev gC(f_pegs_of:Nat):Fn :=
 ⟨2,5,[],[],(.cons (.asg 2 (.call f_pegs_of (.cons (.var 0) .nil))) (.cons (.asg 3 (.bin .add (.rev (.rng1 (.var 1))) (.rng2 (.var 2) (.bin .add (.bin .add (.var 2) (.var 1)) (.cst (.int 1)))))) (.cons (.ret (.ix (.comp (.var 4) [4] (.seq (.var 3)) (.cmp .gt (.bin .mod (.ix (.var 0) (.var 4)) (.var 2)) (.var 1))) (.cst (.int 0)))) .nil)))⟩
end RT
namespace M
abbrev hg(l r:Nat)(g:Nat->Nat):Nat->Nat:=fun x=>if g l=r then g x else if x=r then l else if x=l then r else if x=g r then g l else if x=g l then g r else g x
section
variable{l r s p q:Nat}{g:Nat->Nat}
def F5(e:g l=r):hg l r g=g:=by funext x;unfold hg;rw[if_pos e]
def C8(hlr:l≠r)(h:∀ x,g (g x)=x)(n1:g l≠l)(n2:g r≠r)(x:Nat):hg l r g (hg l r g x)=x:=by
 by_cases e:g l=r
 ·rw[F5 e];exact h x
 ·have k:∀ y,hg l r g y=if y=r then l else if y=l then r else if y=g r then g l else if y=g l then g r else g y:=fun y=>by unfold hg;rw[if_neg e]
  rw[k x,k];grind
def yE(hlr:l≠r)(h:∀ x,g (g x)=x)(n1:g l≠l)(n2:g r≠r){x:Nat}(nx:g x≠x):hg l r g x≠x:=by
 unfold hg;grind
end
end M
namespace RL
abbrev evF(cl:Cl)(fn:Fn)(ds:List D):Option D:=if ds.length=fn.ps then(ag cl fn.M fn.body (ds.map some++List.replicate (fn.nn-fn.ps) none)).bind fun p=>match p.1 with
  | .nx=>aN fn .non p.2
  | .rt d=>aN fn d p.2
  else none
def ao{T:List Fn}{n f:Nat}{fn:Fn}{ds:List D}(h:T[f]?=some fn):a5 T (n+1) f ds=evF (a5 T n) fn ds:=by
 rw[a5,h];rfl
abbrev L(xs:List Nat):List D:=xs.map fun(i:Nat)=>.int (i:Int)
def t5{f:St->Option (Out × St)}{tg:List Nat}(I:List D->St->Prop):∀ (ds done:List D) (σ:St),(∀ pre d post σ,done++ds=pre++d::post->I pre σ->d.imm=true/\∃ σ2,(a8 tg d σ).bind f=some (.nx,σ2)/\I (pre++[d]) σ2)->I done σ->∃ σ',aO f tg ds σ=some (.nx,σ')/\I (done++ds) σ'
 | [],done,σ,_,h=>⟨σ,rfl,by simpa using h⟩
 | d::ds,done,σ,hs,h=>by
  obtain⟨im,σ2,h1,h3⟩:=hs done d ds σ rfl h;obtain⟨σ',h4,h5⟩:=t5 I ds (done++[d]) σ2 (fun pre e post σ he=>hs pre e post σ (by simpa using he)) h3;refine⟨σ',?_,by simpa using h5⟩;rw[aO,if_pos im]
  cases hb:a8 tg d σ with
  | none=>rw[hb]at h1;cases h1
  |some σ1=>
   rw[hb]at h1;simp only[Option.bind_some]at h1 ⊢;rw[h1];exact h4
def tG{f:St->Option (Out × St)}{tg:List Nat}{ds:List D}{σ:St}(I:List D->St->Prop)(h0:I [] σ)(hs:∀ pre d post σ,ds=pre++d::post->I pre σ->d.imm=true/\∃ σ2,(a8 tg d σ).bind f=some (.nx,σ2)/\I (pre++[d]) σ2):∃ σ',aO f tg ds σ=some (.nx,σ')/\I ds σ' :=
 t5 I ds [] σ (by simpa using hs) h0
@[simp] theorem tf_lst {a:Es}:aH (.lst a)=true:=rfl
@[simp] theorem tf_tup {a:Es}:aH (.tup a)=true:=rfl
@[simp] theorem tf_comp {a:E} {b:List Nat} {c:It} {d:E}:aH (.comp a b c d)=true:=rfl
@[simp] theorem tf_compA {a:E} {b:List Nat} {c:It}:aH (.compA a b c)=true:=rfl
@[simp] theorem tf_bin {a:Bop} {b:E} {c:E}:aH (.bin a b c)=true:=rfl
@[simp] theorem tf_slT {a:E} {b:E}:aH (.slT a b)=true:=rfl
@[simp] theorem tf_rev {a:E}:aH (.rev a)=true:=rfl
@[simp] theorem tf_call {a:Nat} {b:Es}:aH (.call a b)=true:=rfl
@[simp] theorem tf_bi {a:Bi} {b:E}:aH (.bi a b)=true:=rfl
@[simp] theorem tf_rng1 {a:E}:aH (.rng1 a)=true:=rfl
@[simp] theorem tf_rng2 {a:E} {b:E}:aH (.rng2 a b)=true:=rfl
@[simp] theorem tf_rng3 {a:Int} {b:E} {c:E}:aH (.rng3 a b c)=true:=rfl
@[simp] theorem tf_dk0:aH .dk0=true:=rfl
@[simp] theorem tf_dt0:aH .dt0=true:=rfl
end RL
namespace RM
open RL RT
section basics
variable{a b:Int}
def dD:bF .lt (.int a) (.int b)=some (decide (a<b)):=rfl
def oT:bF .le (.int a) (.int b)=some (decide (a<=b)):=rfl
def lY:bF .gt (.int a) (.int b)=some (decide (b<a)):=rfl
def yu:bF .ge (.int a) (.int b)=some (decide (b<=a)):=rfl
def dO:bF .eq (.int a) (.int b)=some (a == b):=rfl
def HG:bF .ne (.int a) (.int b)=some (!(a == b)):=rfl
def bJ:aA .add (.int a) (.int b)=some (.int (a+b)):=rfl
def dI:aA .sub (.int a) (.int b)=some (.int (a-b)):=rfl
def cP(h:0<b):aA .mod (.int a) (.int b)=some (.int (a%b)):=by dsimp only[aA];rw[if_pos h]
def iC(h:0<b)(h':b<2 ^ 200):aA .fdiv (.int a) (.int b)=some (.int (a / b)):=by dsimp only[aA];rw[if_pos ⟨h,h'⟩]
def bZ(h1:-(2 ^ 64)<a)(h2:a<2 ^ 64):aA .mul (.int a) (.int b)=some (.int (a*b)):=by dsimp only[aA];rw[if_pos (.inl ⟨h1,h2⟩)]
def xr(h1:-(2 ^ 64)<b)(h2:b<2 ^ 64):aA .mul (.int a) (.int b)=some (.int (a*b)):=by dsimp only[aA];rw[if_pos (.inr ⟨h1,h2⟩)]
def yo(k:Bool):truth (.bl k)=some k:=rfl
end basics
def t9{xs:List Nat}{pre post:List D}{d:D}(h:L xs=pre++d::post):∃ p x q,xs=p++x::q/\pre=L p/\d=.int (x:Nat)/\post=L q:=by
 unfold L at h;obtain⟨p,r,rfl,h1,h2⟩:=List.map_eq_append_iff.mp h;obtain⟨x,q,rfl,h3,h4⟩:=List.map_eq_cons_iff.mp h2;exact⟨p,x,q,rfl,h1.symm,h3.symm,h4.symm⟩
def vk:∀ {a b:List Nat},L a=L b->a=b
 | [],[],_=>rfl
 | [],_::_,h=>by simp[L]at h
 | _::_,[],h=>by simp[L]at h
 | x::a,y::b,h=>by
  unfold L at h;rw[List.map_cons,List.map_cons,List.cons.injEq]at h
  have h1:(x:Int)=y:=by injection h.1
  rw[vk (a:=a) (b:=b) h.2,Int.ofNat_inj.mp h1]
def bU{f:St->Option (Out × St)}{tg:List Nat}{xs:List Nat}{σ:St}(I:List Nat->St->Prop)(h0:I [] σ)(hs:∀ p x q σ,xs=p++x::q->I p σ->∃ σ2,(a8 tg (.int (x:Nat)) σ).bind f=some (.nx,σ2)/\I (p++[x]) σ2):∃ σ',aO f tg (L xs) σ=some (.nx,σ')/\I xs σ':=by
 obtain⟨σ',e,p,hp,hi⟩:=tG (f:=f) (tg:=tg) (ds:=L xs) (σ:=σ) (fun pre σ=>∃ p,pre=L p/\I p σ) ⟨[],rfl,h0⟩ (by
  rintro pre d post σ hd ⟨p',hp',hi⟩;obtain⟨p,x,q,rfl,rfl,rfl,rfl⟩:=t9 hd;have:=vk hp';subst this;obtain⟨σ2,h1,h2⟩:=hs p x q σ rfl hi
  exact⟨rfl,σ2,h1,p++[x],by simp[L],h2⟩)
 have:=vk hp;subst this;exact⟨σ',e,hi⟩
def aM(xs:List Nat):(L xs).length=xs.length:=by simp[L]
def n6(xs:List Nat)(i:Nat):(L xs)[i]?=(xs[i]?).map fun(i:Nat)=>.int (i:Int):=by simp[L]
def Az(xs:List Nat)(i j:Nat):(L xs).set i (.int j)=L (xs.set i j):=by simp[L,List.map_set]
def bj:∀ xs:List Nat,aq (L xs)=true
 | []=>rfl
 | x::xs=>by
  show((D.int x).imm&&aq (L xs))=true;rw[bj xs];rfl
def de(xs ys:List Nat):L (xs++ys)=L xs++L ys:=by simp[L]
def eI{α:Type}(xs:List α)(i:Nat):cB xs (i:Int)=xs[i]?:=by
 unfold cB;rw[if_pos (Int.natCast_nonneg i)];rfl
def zJ{n i:Nat}(h:i<n):oh n (i:Int)=some i:=by
 unfold oh;rw[if_pos (Int.natCast_nonneg i),if_pos (by lia)];rfl
def mh(a:Nat):∀ n:Nat,cM (a:Int) n=L (List.range' a n)
 | 0=>rfl
 | n+1=>by
  rw[cM,List.range'_succ];have:=mh (a+1) n;rw[show((a+1:Nat):Int)=(a:Int)+1 by lia]at this;rw[this];rfl
def eN{a b:Nat}(h1:a<=1000)(h2:b<=1000):cH (.int a) (.int b)=some (L (List.range' a (b-a))):=by
 dsimp only[cH]
 have:((b:Int)-a).toNat=b-a:=by lia
 rw[if_pos ⟨by unfold most;lia,by lia,by lia,by lia,by lia⟩,this,mh]
section
variable{cl:Cl}
def gA(i:Int):evF cl e8 [.int i]=some (.bl true):=rfl
def hV{f:Nat}(h:∀ i:Int,cl f [.int i]=some (.bl true))(i:Int):evF cl (cT f) [.int i]=some (.bl (decide (1<=i/\i<=10))):=by
 simp[evF,cT,ag,evS,ev,evs,h,bF,aW,D.imm,aN];by_cases h1:1<=i<;>simp[h1,aW,D.imm,aN]
def oD{f:Nat}{i:Int}(h:cl f [.int i]=some (.bl true)):evF cl (fC f) [.int i]=some .non:=by
 simp[evF,fC,ag,evS,ev,evs,h,truth,aN]
def u0(xs:List Nat){i j:Nat}(hi:i<xs.length)(hj:j<xs.length):evF cl nj [.lst (L xs),.int i,.int j]=some (.tup [.non,.lst (L ((xs.set i j).set j i))]):=by
 simp[evF,nj,ag,evS,ev,evs,da,oh,hi,hj,D.imm,aN,dU,aM,Az]
def lI(xs:List D):evF cl gr [.lst xs]=some (.int (xs.length / 2)):=rfl
def rH(xs:List D):evF cl gr [.tup xs]=some (.int (xs.length / 2)):=rfl
abbrev ay(n:Nat):List Nat:=List.range' n n++List.range' 0 n
def run_plain{f:Nat}{n:Nat}(hn:n<=10)(h:cl f [.int n]=some .non):evF cl (kT f) [.int n]=some (.tup (L (ay n))):=by
 have e1:=eN (a:=n) (b:=2*n) (by lia) (by lia);rw[show 2*n-n=n by lia,show((2*n:Nat):Int)=2*(n:Int) by lia]at e1;have e2:=eN (a:=0) (b:=n) (by lia) (by lia);rw[Nat.sub_zero]at e2
 have e3:aA .mul (.int 2) (.int n)=some (.int (2*n)):=by
  dsimp only[aA];rw[if_pos (by lia)]
 have e4:aA .add (.lst (L (List.range' n n))) (.lst (L (List.range' 0 n)))=some (.lst (L (ay n))):=by
  dsimp only[aA];rw[if_pos (by simp[aM,most];lia),ay,de]
 simp only[Int.natCast_zero]at e2;simp[evF,kT,ag,evS,ev,evs,h,e1,e2,e3,e4,biV,items,aW,D.imm,bj,aN]
def tq{f:Nat}(h:∀ i:Int,cl f [.int i]=some (.bl true))(n i:Int):evF cl (iK f) [.int n,.int i]=some (.bl (decide (0<=i/\i<=n-2))):=by
 simp[evF,iK,ag,evS,ev,evs,h,bF,aA];by_cases h1:0<=i<;>simp[h1,aW,D.imm,aN]
def pT{f g:Nat}{n:Nat}{row:List Nat}(h1:cl g [.int n]=some .non)(h2:∀ i∈row,cl f [.int n,.int i]=some (.bl true)):evF cl (gf f g) [.int n,.lst (L row)]=some .non:=by
 obtain⟨σ',e,o',rfl⟩:=tG (f:=ag cl [] (i5 f g)) (tg:=[2]) (ds:=L row) (σ:=[some (.int n),some (.lst (L row)),none])
  (fun _ σ=>∃ o,σ=[some (.int n),some (.lst (L row)),o]) ⟨none,rfl⟩ (by
   rintro pre d post σ hd ⟨o,rfl⟩;obtain⟨p,x,q,rfl,rfl,rfl,rfl⟩:=t9 hd;have hx:=h2 x (by simp);refine⟨rfl,[some (.int n),some (.lst (L (p++x::q))),some (.int x)],?_,⟨_,rfl⟩⟩
   simp[a8,i5,ag,evS,ev,evs,hx,truth])
 simp[evF,gf,ag,evS,ev,evs,h1,aU,items];simp[e,aN]
abbrev at'(f:List Nat)(x:Nat):Nat:=(f[x]?).getD x
abbrev bE(f:List Nat)(l:Nat):List Nat:=if at' f l=l+1 then f else(((f.set (at' f l) (at' f (l+1))).set (at' f (l+1)) (at' f l)).set l (l+1)).set (l+1) l
abbrev dJ(f:List Nat)(l:Nat):Nat:=if at' f l=l+1 then 1 else 0
structure Frm(n:Nat)(f:List Nat):Prop where
 len:f.length=2*n
 lt:∀ x,x<2*n->at' f x<2*n
 inv:∀ x,at' f (at' f x)=x
 no:∀ x,x<2*n->at' f x≠x
def dB{f:List Nat}{x:Nat}(h:x<f.length):f[x]?=some (at' f x):=by simp[at',h]
def eC{f:List Nat}{x:Nat}(h:f.length<=x):at' f x=x:=by simp[at',h]
def bY{f:List Nat}{i j x:Nat}(h:i<f.length):at' (f.set i j) x=if x=i then j else at' f x:=by
 unfold at';rw[List.getElem?_set];by_cases e:i=x
 ·subst e;simp[h]
 ·simp[e,Ne.symm e]
def gQ{n:Nat}{f:List Nat}(F:Frm n f){l:Nat}(hl:l+1<2*n):at' (bE f l)=M.hg l (l+1) (at' f):=by
 funext x;unfold bE M.hg;have a1:=F.lt l (by lia);have a2:=F.lt (l+1) hl;have hlen:=F.len;by_cases e:at' f l=l+1
 ·rw[if_pos e,if_pos e]
 ·rw[if_neg e,if_neg e,bY (by simp;lia),bY (by simp;lia),bY (by simp;lia),bY (by lia)]
def jY{f:List Nat}{l:Nat}:(bE f l).length=f.length:=by
 unfold bE;split
 ·rfl
 ·simp
def mm{n:Nat}{f:List Nat}(F:Frm n f){l:Nat}(hl:l+1<2*n):Frm n (bE f l):=by
 have n1:=F.no l (by lia);have n2:=F.no (l+1) hl;refine⟨by rw[jY];exact F.len,fun x hx=>?_,fun x=>?_,fun x hx=>?_⟩
 ·rw[gQ F hl];unfold M.hg;have a1:=F.lt l (by lia);have a2:=F.lt (l+1) hl;have a3:=F.lt x hx
  repeat' split
  all_goals lia
 ·rw[gQ F hl];exact M.C8 (by lia) F.inv n1 n2 x
 ·rw[gQ F hl];exact M.yE (by lia) F.inv n1 n2 (F.no x hx)
def xJ{n:Nat}{f g:List Nat}(F:f.length=2*n)(G:g.length=2*n)(h:at' f=at' g):f=g:=by
 apply List.ext_getElem?;intro i;by_cases hi:i<2*n
 ·rw[dB (by lia),dB (by lia),h]
 ·rw[List.getElem?_eq_none (by lia),List.getElem?_eq_none (by lia)]
def pR{f_tie f_pegs:Nat}{n:Nat}{f:List Nat}{i:Nat}(F:Frm n f)(hi:i+1<n)(hp:∀ xs:List D,cl f_pegs [.lst xs]=some (.int (xs.length / 2)))
 (ht:∀ (xs:List Nat) (i j:Nat),i<xs.length->j<xs.length->cl f_tie [.lst (L xs),.int i,.int j]=some (.tup [.non,.lst (L ((xs.set i j).set j i))])) :
  evF cl (eB f_tie f_pegs) [.lst (L f),.int i]=some (.tup [.int (dJ f (n+i)),.lst (L (bE f (n+i)))]):=by
 have hlen:=F.len
 have h2:((2*n:Nat):Int) / 2=n:=by lia
 have g1:((L f).length:Int) / 2=n:=by rw[aM,hlen];exact h2
 have hl:n+i+1<2*n:=by lia
 have k1:f[n+i]?=some (at' f (n+i)):=dB (by lia);have k2:f[n+i+1]?=some (at' f (n+i+1)):=dB (by lia)
 have p1:∀ k:Nat,cB (L f) ((n:Int)+(k:Int))=(f[n+k]?).map fun(i:Nat)=>.int (i:Int):=fun k=>by
  have:=eI (L f) (n+k);rw[show((n+k:Nat):Int)=(n:Int)+(k:Int) by lia]at this;rw[this,n6]
 have p2:=p1 (i+1);rw[show(n:Int)+((i+1:Nat):Int)=(n:Int)+(i:Int)+1 by lia,show n+(i+1)=n+i+1 by lia]at p2;have a1:=F.lt (n+i) (by lia);have a2:=F.lt (n+i+1) hl;have t1:=ht f (at' f (n+i)) (at' f (n+i+1)) (by lia) (by lia);have t2:=ht ((f.set (at' f (n+i)) (at' f (n+i+1))).set (at' f (n+i+1)) (at' f (n+i))) (n+i) (n+i+1) (by simp;lia) (by simp;lia);rw[show((n+i:Nat):Int)=(n:Int)+(i:Int) by lia,show((n+i+1:Nat):Int)=(n:Int)+(i:Int)+1 by lia]at t2;by_cases e:at' f (n+i)=n+i+1
 ·have e':((at' f (n+i):Nat):Int)=(n:Int)+(i:Int)+1:=by lia
  simp[evF,eB,ag,evS,ev,evs,hp,g1,aA,aP,D.imm,ixV,p1,p2,k1,k2,bF,eqD,truth,e',aW,aN,dU,dJ,bE,e]
 ·have e':¬ ((at' f (n+i):Nat):Int)=(n:Int)+(i:Int)+1:=by lia
  simp[evF,eB,ag,evS,ev,evs,hp,g1,aA,aP,D.imm,ixV,p1,p2,k1,k2,bF,eqD,truth,e',aW,aN,dU,dJ,bE,e,fw,isVar,t1,t2,bo]
end
end RM
namespace RL
section
variable{cl:Cl}{M:List Nat}{σ σ':St}{e t:E}{d:D}{r a b:Ss}{i j:Nat}{res:Option (Out × St)}
def aR:ag cl M .nil σ=some (.nx,σ):=by rw[ag]
def eh{s:S}(h:evS cl M s σ=some (.nx,σ'))(k:ag cl M r σ'=res):ag cl M (.cons s r) σ=res:=by
 rw[ag,h];exact k
def qc{s:S}(h:evS cl M s σ=some (.rt d,σ')):ag cl M (.cons s r) σ=some (.rt d,σ'):=by
 rw[ag,h];rfl
def aI(h:ev cl σ e=some d)(ok:aP M e d=true)(k:ag cl M r (σ.set i (some d))=res):ag cl M (.cons (.asg i e) r) σ=res :=
 eh (by rw[evS,h];show(if aP M e d=true then _ else _)=_;rw[if_pos ok]) k
def eA(h:ev cl σ e=some d)(ok:(a9 d&&aH e)=true)(k:ag cl M r (σ.set i (some d))=res):ag cl M (.cons (.own i e) r) σ=res :=
 eh (by rw[evS,h];show(if(a9 d&&aH e)=true then _ else _)=_;rw[if_pos ok]) k
def De(h:ev cl σ e=some d)(k:ag cl M r σ=res):ag cl M (.cons (.exc e) r) σ=res :=
 eh (by rw[evS,h];rfl) k
def aX(h:ev cl σ e=some d)(ok:aW M e d=true):ag cl M (.cons (.ret e) r) σ=some (.rt d,σ) :=
 qc (by rw[evS,h];show(if aW M e d=true then _ else _)=_;rw[if_pos ok])
def iV(h:(ev cl σ t).bind truth=some true)(h1:ag cl M a σ=some (.nx,σ'))(k:ag cl M r σ'=res):ag cl M (.cons (.ife t a b) r) σ=res :=
 eh (by rw[evS,h];exact h1) k
def fM(h:(ev cl σ t).bind truth=some true)(h1:ag cl M a σ=some (.rt d,σ')):ag cl M (.cons (.ife t a b) r) σ=some (.rt d,σ') :=
 qc (by rw[evS,h];exact h1)
def k5(h:(ev cl σ t).bind truth=some false)(h1:ag cl M b σ=some (.nx,σ'))(k:ag cl M r σ'=res):ag cl M (.cons (.ife t a b) r) σ=res :=
 eh (by rw[evS,h];exact h1) k
def l4(h:(ev cl σ t).bind truth=some false)(h1:ag cl M b σ=some (.rt d,σ')):ag cl M (.cons (.ife t a b) r) σ=some (.rt d,σ') :=
 qc (by rw[evS,h];exact h1)
def cW(h:(ev cl σ t).bind truth=some false)(k:ag cl M r σ=res):ag cl M (.cons (.ife t a .nil) r) σ=res:=k5 h aR k
def sf{is:List Nat}{ds:List D}(h:ev cl σ e=some d)(hd:items d=some ds)(im:aq ds=true)(hs:bo is ds σ=some σ')(k:ag cl M r σ'=res):ag cl M (.cons (.unp is e) r) σ=res :=
 eh (by rw[evS,h,Option.bind_some,hd];show(if aq ds=true then _ else _)=_;rw[if_pos im,hs];rfl) k
def kH{x y:D}{e':E}(h:ev cl σ e=some x)(h':ev cl σ e'=some y)(im:(x.imm&&y.imm)=true)(k:ag cl M r ((σ.set i (some x)).set j (some y))=res):ag cl M (.cons (.par i j e e') r) σ=res :=
 eh (by rw[evS,h,Option.bind_some,h'];show(if(x.imm&&y.imm)=true then _ else _)=_;rw[if_pos im]) k
def qW{xs:List D}(h:ev cl σ e=some d)(hi:(σ[i]?).bind id=some (.lst xs))(im:d.imm=true)(hl:xs.length<most)(k:ag cl M r (σ.set i (some (.lst (xs++[d]))))=res):ag cl M (.cons (.app i e) r) σ=res :=
 eh (by rw[evS,h,Option.bind_some,hi];show(if(d.imm&&decide (xs.length<most))=true then _ else _)=_;rw[if_pos (by rw[im,decide_eq_true hl];rfl)]) k
def kC{x kk l l':D}{e':E}(h:ev cl σ e'=some x)(h':ev cl σ e=some kk)(hi:(σ[i]?).bind id=some l)(im:x.imm=true)(hp:da l kk x=some l')(k:ag cl M r (σ.set i (some l'))=res):ag cl M (.cons (.put i e e') r) σ=res :=
 eh (by rw[evS,h,Option.bind_some,h',Option.bind_some,hi,Option.bind_some,if_pos im,hp];rfl) k
def DR{xs:List D}(hi:(σ[i]?).bind id=some (.lst (xs++[d])))(k:ag cl M r ((σ.set i (some (.lst xs))).set j (some d))=res):ag cl M (.cons (.pop i j) r) σ=res :=
 eh (by rw[evS,hi];simp) k
def cN{tg:List Nat}{it:It}{ds:List D}{b:Ss}(h:aU cl σ it=some ds)(h1:aO (ag cl M b) tg ds σ=some (.nx,σ'))(k:ag cl M r σ'=res):ag cl M (.cons (.forr tg it b) r) σ=res :=
 eh (by rw[evS,h];exact h1) k
def nL{tg:List Nat}{it:It}{ds:List D}{b:Ss}(h:aU cl σ it=some ds)(h1:aO (ag cl M b) tg ds σ=some (.rt d,σ')):ag cl M (.cons (.forr tg it b) r) σ=some (.rt d,σ') :=
 qc (by rw[evS,h];exact h1)
def FC{b:Ss}(h1:whF (fun σ=>(ev cl σ t).bind truth) (ag cl M b) most σ=some (.nx,σ'))(k:ag cl M r σ'=res):ag cl M (.cons (.whil t b) r) σ=res :=
 eh (by rw[evS];exact h1) k
def oH{f:Nat}{es:Es}{ps ms:List Nat}{ds outs:List D}(h:evs cl σ es=some ds)(ok:fw M ps 0 es ds=true)(hc:cl f ds=some (.tup (d::outs)))(hs:bo ms outs σ=some σ')(k:ag cl M r σ'=res):ag cl M (.cons (.mexc f es ps ms) r) σ=res :=
 eh (by rw[evS,h,Option.bind_some,if_pos ok,hc,Option.bind_some];show Option.map _ (bo ms outs σ)=_;rw[hs];rfl) k
def aa(h:(σ[i]?).bind id=some d):ev cl σ (.var i)=some d:=by rw[ev];exact h
def aj:ev cl σ (.cst d)=some d:=by rw[ev]
def x_call{f:Nat}{es:Es}{ds:List D}(h:evs cl σ es=some ds)(hc:cl f ds=some d):ev cl σ (.call f es)=some d:=by rw[ev,h];exact hc
def bK:evs cl σ .nil=some []:=by rw[evs]
def aE{es:Es}{ds:List D}(h:ev cl σ e=some d)(hr:evs cl σ es=some ds):evs cl σ (.cons e es)=some (d::ds):=by rw[evs,h,Option.bind_some,hr];rfl
def dR{f:Nat}(h:ev cl σ e=some d){x:D}(hc:cl f [d]=some x):ev cl σ (.call f (.cons e .nil))=some x:=x_call (aE h bK) hc
def gB{f:Nat}{e':E}{d' x:D}(h:ev cl σ e=some d)(h':ev cl σ e'=some d')(hc:cl f [d,d']=some x):ev cl σ (.call f (.cons e (.cons e' .nil)))=some x:=x_call (aE h (aE h' bK)) hc
def oI{f:Nat}{e' e'':E}{d' d'' x:D}(h:ev cl σ e=some d)(h':ev cl σ e'=some d')(h'':ev cl σ e''=some d'')(hc:cl f [d,d',d'']=some x):ev cl σ (.call f (.cons e (.cons e' (.cons e'' .nil))))=some x:=x_call (aE h (aE h' (aE h'' bK))) hc
def az{o:Bop}{e':E}{x y:D}(h:ev cl σ e=some x)(h':ev cl σ e'=some y)(hb:aA o x y=some d):ev cl σ (.bin o e e')=some d:=by rw[ev,h,Option.bind_some,h'];exact hb
def aT{o:Cop}{e':E}{x y:D}{k:Bool}(h:ev cl σ e=some x)(h':ev cl σ e'=some y)(hb:bF o x y=some k):ev cl σ (.cmp o e e')=some (.bl k):=by rw[ev,h,Option.bind_some,h',Option.bind_some,hb];rfl
def cA{e':E}{x y:D}(h:ev cl σ e=some x)(h':ev cl σ e'=some y)(hb:ixV x y=some d):ev cl σ (.ix e e')=some d:=by rw[ev,h,Option.bind_some,h'];exact hb
def bN{o:Bi}{x:D}(h:ev cl σ e=some x)(hb:biV o x=some d):ev cl σ (.bi o e)=some d:=by rw[ev,h];exact hb
def A5{e':E}{x y:D}(h:ev cl σ e=some x)(h':ev cl σ e'=some y)(hb:ox x y=some d):ev cl σ (.slT e e')=some d:=by rw[ev,h,Option.bind_some,h'];exact hb
def Ap{xs:List D}(h:ev cl σ e=some (.lst xs)):ev cl σ (.rev e)=some (.lst xs.reverse):=by rw[ev,h];rfl
def j8{e':E}{x y:D}(h:ev cl σ e=some x)(h':ev cl σ e'=some y)(hb:nO x y=some d):ev cl σ (.ixD e e')=some d:=by rw[ev,h,Option.bind_some,h'];exact hb
def Aw{t:Ty}{x:D}{k:Bool}(h:ev cl σ e=some x)(hb:yz t x=some k):ev cl σ (.isi e t)=some (.bl k):=by rw[ev,h,Option.bind_some,hb];rfl
def A1{k:Int}(h:ev cl σ e=some (.int k)):ev cl σ (.neg e)=some (.int (-k)):=by rw[ev,h];rfl
def FV{e':E}{x y:Int}(h:ev cl σ e=some (.int x))(h':ev cl σ e'=some (.int y)):ev cl σ (.max e e')=some (.int (if y > x then y else x)):=by rw[ev,h,Option.bind_some,h'];rfl
def nU{c c':Cop}{e' e'':E}{x y z:D}{k:Bool}(h:ev cl σ e=some x)(h':ev cl σ e'=some y)(h'':ev cl σ e''=some z)(b1:bF c x y=some true)(b2:bF c' y z=some k):ev cl σ (.chain c c' e e' e'')=some (.bl k):=by rw[ev,h,Option.bind_some,h',Option.bind_some,b1,Option.bind_some,if_pos rfl,h'',Option.bind_some,b2];rfl
def rJ{c c':Cop}{e' e'':E}{x y:D}(h:ev cl σ e=some x)(h':ev cl σ e'=some y)(b1:bF c x y=some false):ev cl σ (.chain c c' e e' e'')=some (.bl false):=by rw[ev,h,Option.bind_some,h',Option.bind_some,b1];rfl
def Bb{x:D}{ds:List D}(h:ev cl σ e=some x)(hr:cH (.int 0) x=some ds):ev cl σ (.rng1 e)=some (.lst ds):=by rw[ev,h,Option.bind_some,hr];rfl
def BM{e':E}{x y:D}{ds:List D}(h:ev cl σ e=some x)(h':ev cl σ e'=some y)(hr:cH x y=some ds):ev cl σ (.rng2 e e')=some (.lst ds):=by rw[ev,h,Option.bind_some,h',Option.bind_some,hr];rfl
def cY{es:Es}{ds:List D}(h:evs cl σ es=some ds):ev cl σ (.lst es)=some (.lst ds):=by rw[ev,h];rfl
def uI{es:Es}{ds:List D}(h:evs cl σ es=some ds):ev cl σ (.tup es)=some (.tup ds):=by rw[ev,h];rfl
def fz{e':E}(h:ev cl σ e=some (.bl true))(h':ev cl σ e'=some d):ev cl σ (.and e e')=some d:=by rw[ev,h];exact h'
def iT{e':E}(h:ev cl σ e=some (.bl false)):ev cl σ (.and e e')=some (.bl false):=by rw[ev,h];rfl
def uL{e':E}(h:ev cl σ e=some (.bl false))(h':ev cl σ e'=some d):ev cl σ (.or e e')=some d:=by rw[ev,h];exact h'
def G9{e':E}(h:ev cl σ e=some (.bl true)):ev cl σ (.or e e')=some (.bl true):=by rw[ev,h];rfl
def Gp{k:Bool}(h:(ev cl σ e).bind truth=some k):ev cl σ (.not e)=some (.bl (!k)):=by rw[ev,h];rfl
def k7{k:Bool}(h:ev cl σ e=some (.bl k)):ev cl σ (.not e)=some (.bl (!k)):=Gp (by rw[h];rfl)
def bL{k:Bool}(h:ev cl σ e=some (.bl k)):(ev cl σ e).bind truth=some k:=by rw[h];rfl
def eg{tg:List Nat}{it:It}{ds ys:List D}(h:aU cl σ it=some ds)(hf:ds.length<=most)(hm:cq (fun σ1=>(ev cl σ1 e).map some) tg σ ds=some ys):ev cl σ (.compA e tg it)=some (.lst ys):=by
 rw[ev,h,Option.bind_some,fits,if_pos hf,Option.bind_some,hm];rfl
def rz{tg:List Nat}{it:It}{ds ys:List D}(h:aU cl σ it=some ds)(hf:ds.length<=most)(hm:cq (fun σ1=>((ev cl σ1 t).bind truth).bind fun k=>if k then(ev cl σ1 e).map some else some none) tg σ ds=some ys):ev cl σ (.comp e tg it t)=some (.lst ys):=by
 rw[ev,h,Option.bind_some,fits,if_pos hf,Option.bind_some,hm];rfl
def fj{x:D}{ds:List D}(h:ev cl σ e=some x)(hr:cH (.int 0) x=some ds):aU cl σ (.rng1 e)=some ds:=by rw[aU,h];exact hr
def CS{e':E}{x y:D}{ds:List D}(h:ev cl σ e=some x)(h':ev cl σ e'=some y)(hr:cH x y=some ds):aU cl σ (.rng2 e e')=some ds:=by rw[aU,h,Option.bind_some,h'];exact hr
def so{c:Int}{e':E}{x y:D}{ds:List D}(h:ev cl σ e=some x)(h':ev cl σ e'=some y)(hr:dG c x y=some ds):aU cl σ (.rng3 c e e')=some ds:=by rw[aU,h,Option.bind_some,h'];exact hr
def dY{x:D}{ds:List D}(h:ev cl σ e=some x)(hr:items x=some ds):aU cl σ (.seq e)=some ds:=by rw[aU,h];exact hr
def pV{x:D}{ds:List D}(h:ev cl σ e=some x)(hr:eW x=some ds):aU cl σ (.enm e)=some (di 0 ds):=by rw[aU,h,Option.bind_some,hr];rfl
end
def wN{f:St->Option (Out × St)}{tg:List Nat}{σ:St}:aO f tg [] σ=some (.nx,σ):=rfl
def oC{f:St->Option (Out × St)}{tg:List Nat}{d:D}{r:List D}{σ σ1 σ2:St}{res:Option (Out × St)}(im:d.imm=true)(hb:a8 tg d σ=some σ1)(h:f σ1=some (.nx,σ2))(k:aO f tg r σ2=res):aO f tg (d::r) σ=res:=by
 rw[aO,if_pos im,hb,Option.bind_some,h];exact k
def bf{cl:Cl}{fn:Fn}{ds:List D}{d:D}{σ':St}(hl:ds.length=fn.ps)(hm:fn.mp=[])(h:ag cl fn.M fn.body (ds.map some++List.replicate (fn.nn-fn.ps) none)=some (.rt d,σ')):evF cl fn ds=some d:=by
 unfold evF;rw[if_pos hl,h];show aN fn d σ'=_;unfold aN;rw[hm];rfl
end RL
set_option maxHeartbeats 1000000
namespace RL
open PySem (Str)
section
variable{cl:Cl}{M:List Nat}{σ σ' σ1:St}{e t:E}{d:D}{r a b:Ss}{i j:Nat}{c:Str}
end
end RL
namespace RT
open RL
end RT
namespace RM
open RL RT
section
variable{cl:Cl}
abbrev hangs(n:Nat):List Nat->List Nat × Nat->List Nat × Nat
 | [],s=>s
 | i::row,s=>hangs n row (bE s.1 (n+i),s.2+dJ s.1 (n+i))
def kP(n:Nat):∀ (a b:List Nat) (s:List Nat × Nat),hangs n (a++b) s=hangs n b (hangs n a s)
 | [],_,_=>rfl
 | i::a,b,s=>by
  rw[List.cons_append,hangs,hangs,kP n a b]
def pM{n:Nat}:∀ {row:List Nat} {s:List Nat × Nat},(∀ i∈row,i+1<n)->Frm n s.1->Frm n (hangs n row s).1
 | [],_,_,F=>F
 | i::row,s,h,F=>by
  rw[hangs];have:=h i List.mem_cons_self;exact pM (fun j hj=>h j (List.mem_cons_of_mem _ hj)) (mm F (by lia))
def plain_at(n x:Nat):at' (ay n) x=if x<n then n+x else if x<2*n then x-n else x:=by
 unfold at' ay;by_cases h1:x<n
 ·rw[List.getElem?_append_left (by simpa using h1),if_pos h1];simp[h1]
 ·rw[List.getElem?_append_right (by simpa using h1),if_neg h1];by_cases h2:x<2*n
  ·rw[if_pos h2];simp[show x-n<n by lia]
  ·rw[if_neg h2];simp[show ¬ x-n<n by lia]
def bI(n:Nat):Frm n (ay n):=by
 refine⟨by simp[ay];lia,fun x hx=>?_,fun x=>?_,fun x hx=>?_⟩
 ·rw[plain_at];repeat' split
  all_goals lia
 ·rw[plain_at,plain_at];repeat' split
  all_goals lia
 ·rw[plain_at];repeat' split
  all_goals lia
def yP{hh pl cr:Nat}{n:Nat}{row:List Nat}(hn:n<=10)(hrow:∀ i∈row,i+1<n)(h1:cl cr [.int n,.lst (L row)]=some .non)(h2:cl pl [.int n]=some (.tup (L (ay n))))
 (h3:∀ (f:List Nat) (i:Nat),Frm n f->i+1<n->cl hh [.lst (L f),.int i]=some (.tup [.int (dJ f (n+i)),.lst (L (bE f (n+i)))])) :
  evF cl (mI hh pl cr) [.int n,.lst (L row)]=some (.tup [.tup (L (hangs n row (ay n,0)).1),.int (hangs n row (ay n,0)).2]):=by
 obtain⟨σ',e,o',rfl⟩:=bU (f:=ag cl [2] (nT hh pl cr)) (tg:=[4]) (xs:=row) (σ:=[some (.int n),some (.lst (L row)),some (.lst (L (ay n))),some (.int 0),none])
  (fun p σ=>∃ o,σ=[some (.int n),some (.lst (L row)),some (.lst (L (hangs n p (ay n,0)).1)),some (.int (hangs n p (ay n,0)).2),o]) ⟨none,rfl⟩ (by
   rintro p x q σ rfl ⟨o,rfl⟩;have F:Frm n (hangs n p (ay n,0)).1:=pM (fun i hi=>hrow i (by simp[hi])) (bI n);have hx:=h3 (hangs n p (ay n,0)).1 x F (hrow x (by simp));refine⟨[some (.int n),some (.lst (L (p++x::q))),some (.lst (L (hangs n (p++[x]) (ay n,0)).1)),some (.int (hangs n (p++[x]) (ay n,0)).2),some (.int x)],?_,_,rfl⟩
   simp[a8,nT,ag,evS,ev,evs,hx,fw,isVar,aP,D.imm,bo,kP,hangs])
 simp[evF,mI,ag,evS,ev,evs,h1,h2,aU,items,biV,a9,bj,aP,D.imm];simp[e,ev,evs,biV,items,aW,D.imm,aq,bj,aN]
end
abbrev LI(xs:List Int):List D:=xs.map D.int
def v9(xs:List Int):(LI xs).length=xs.length:=by simp[LI]
def w6:∀ xs:List Int,aq (LI xs)=true
 | []=>rfl
 | x::xs=>by
  show((D.int x).imm&&aq (LI xs))=true;rw[w6 xs];rfl
section
variable{cl:Cl}
def mod_lt{a b:Int}(h:0<b):0<=a%b/\a%b<b:=⟨Int.emod_nonneg _ (by lia),Int.emod_lt_of_pos _ h⟩
def C0(s:Int):∃ m:Int,evF cl ky [.int s]=some (.int m):=by
 have a1:=mod_lt (a:=s*48271+11) (b:=2147483647) (by decide);generalize h1:(s*48271+11)%2147483647=one at a1;have a2:=mod_lt (a:=one*one+40692*one+s) (b:=2147483399) (by decide);generalize h2:(one*one+40692*one+s)%2147483399=two at a2
 exact⟨_,bf rfl rfl (aI (d:=.int one) (az (az (az (aa rfl) aj (xr (by decide) (by decide))) aj bJ) aj (by rw[cP (by decide),h1])) rfl
  (aI (d:=.int two) (az (az (az (az (aa rfl) (aa rfl) (bZ (by lia) (by lia))) (az aj (aa rfl) (bZ (by decide) (by decide))) bJ) (aa rfl) bJ) aj (by rw[cP (by decide),h2])) rfl
  (aX (az (az (az (az (aa rfl) (aa rfl) (bZ (by omega) (by omega))) (az aj (aa rfl) (bZ (by decide) (by decide))) bJ) (aa rfl) bJ) aj (cP (by decide))) rfl)))⟩
def C5{f:Nat}(h:∀ s:Int,∃ m:Int,cl f [.int s]=some (.int m)){ns:List Int}(hl:ns.length<=63){k:Nat}(hk:k<=1000):∃ r:Int,evF cl (kO f) [.lst (LI ns),.int k]=some (.int r):=by
 have pw:aA .pow (.int 10) (.int 18)=some (.int 1000000000000000000):=rfl
 have rest:∀ c:Int,∃ r σ',ag cl [] (.cons (.asg 3 (.cst (.int 0))) (.cons (.forr [4] (.rng1 (.cst (.int 40))) (jG f)) (.cons (.ret (.var 3)) .nil))) [some (.lst (LI ns)),some (.int k),some (.int c),none,none]=some (.rt (.int r),σ'):=by
  intro c;have hr:cH (.int 0) (.int 40)=some (L (List.range' 0 40)):=congrArg some (mh 0 40)
  obtain⟨σ',e,r,o,rfl⟩:=bU (f:=ag cl [] (jG f)) (tg:=[4]) (xs:=List.range' 0 40) (σ:=[some (.lst (LI ns)),some (.int k),some (.int c),some (.int 0),none])
   (fun p σ=>∃ (r:Int) (o:Option D),σ=[some (.lst (LI ns)),some (.int k),some (.int c),some (.int r),o]) ⟨0,none,rfl⟩ (by
    rintro p x q σ hx ⟨r,o,rfl⟩;obtain⟨m,hm⟩:=h (c+1009*k+7919*x)
    exact⟨_,aI (az (az (aa rfl) aj (xr (by decide) (by decide))) (dR (az (az (aa rfl) (az aj (aa rfl) (bZ (by decide) (by decide))) bJ) (az aj (aa rfl) (bZ (by decide) (by decide))) bJ) hm) bJ) rfl aR,_,_,rfl⟩)
  exact⟨r,_,aI aj rfl (cN (fj aj hr) e (aX (aa rfl) rfl))⟩
 have len:biV .len (.lst (LI ns))=some (.int ns.length):=congrArg (fun n:Nat=>some (D.int n)) (v9 ns)
 have first:ev cl [some (.lst (LI ns)),some (.int k),none,none,none] (.bin .add (.bin .mul (.cst (.int 7)) (.var 1)) (.cst (.int 3)))=some (.int (7*k+3)):=az (az aj (aa rfl) (bZ (by decide) (by decide))) aj bJ
 by_cases h0:0<ns.length
 ·have hmod:=mod_lt (a:=(k:Int)) (b:=(ns.length:Int)) (by lia);obtain⟨j,hj⟩:=Int.eq_ofNat_of_zero_le hmod.1
  have hjl:j<ns.length:=by lia
  have ix:ixV (.lst (LI ns)) (.int ((k:Int)%ns.length))=some (.int ns[j]):=by
   show cB (LI ns) _=_;rw[hj,eI];simp[LI,hjl]
  obtain⟨r,σ',hr⟩:=rest (ns[j]+9973*((k:Int) / ns.length));generalize hc:ns[j]+9973*((k:Int) / ns.length)=cell at hr
  have cel:∀ {r':Ss} {res:Option (Out × St)},ag cl [] r' [some (.lst (LI ns)),some (.int k),some (.int cell),none,none]=res->ag cl [] (.cons (.asg 2 (.bin .add (.bin .mul (.cst (.int 7)) (.var 1)) (.cst (.int 3)))) (.cons (.ife (.cmp .gt (.bi .len (.var 0)) (.cst (.int 0))) (.cons (.asg 2 (.bin .add (.ix (.var 0) (.bin .mod (.var 1) (.bi .len (.var 0)))) (.bin .mul (.cst (.int 9973)) (.bin .fdiv (.var 1) (.bi .len (.var 0)))))) .nil) .nil) r')) [some (.lst (LI ns)),some (.int k),none,none,none]=res:=fun z =>
   aI first rfl (iV (bL (aT (bN (aa rfl) len) aj (by rw[lY,decide_eq_true (by lia)]))) (aI (d:=.int cell) (az (cA (aa rfl) (az (aa rfl) (bN (aa rfl) len) (cP (by lia))) ix) (az aj (az (aa rfl) (bN (aa rfl) len) (iC (by lia) (by lia))) (bZ (by decide) (by decide))) (by rw[bJ,hc])) rfl aR) z)
  by_cases h1:k<ns.length
  ·have c1:bF .lt (.int (k:Nat)) (.int (ns.length:Nat))=some true:=by rw[dD,decide_eq_true (by lia)]
   by_cases h2:(1000000000000000000:Int)<=cell
   ·exact⟨_,bf rfl rfl (cel (fM (bL (fz (aT (aa rfl) (bN (aa rfl) len) c1) (aT (aa rfl) (az aj aj pw) (by rw[yu,decide_eq_true h2])))) (aX (az (aa rfl) (az aj aj pw) dI) rfl)))⟩
   ·exact⟨r,bf rfl rfl (cel (cW (bL (fz (aT (aa rfl) (bN (aa rfl) len) c1) (aT (aa rfl) (az aj aj pw) (by rw[yu,decide_eq_false h2])))) hr))⟩
  ·exact⟨r,bf rfl rfl (cel (cW (bL (iT (aT (aa rfl) (bN (aa rfl) len) (by rw[dD,decide_eq_false (by lia)])))) hr))⟩
 ·obtain⟨r,σ',hr⟩:=rest (7*k+3);exact⟨r,bf rfl rfl (aI first rfl (cW (bL (aT (bN (aa rfl) len) aj (by rw[lY,decide_eq_false (by lia)]))) (cW (bL (iT (aT (aa rfl) (bN (aa rfl) len) (by rw[dD,decide_eq_false (by lia)])))) hr)))⟩
end
section
variable{cl:Cl}
abbrev iy(ds sizes:List Nat):Prop:=ds.length=sizes.length/\∀ (i d s:Nat),ds[i]?=some d->sizes[i]?=some s->d<s
def iy.snoc{ds sizes:List Nat}{d s:Nat}(h:iy ds sizes)(hd:d<s):iy (ds++[d]) (sizes++[s]):=by
 refine⟨by simp[h.1],fun i x y h1 h2=>?_⟩;by_cases hi:i<ds.length
 ·rw[List.getElem?_append_left hi]at h1;rw[List.getElem?_append_left (by rw[<-h.1];exact hi)]at h2;exact h.2 i x y h1 h2
 ·rw[List.getElem?_append_right (by lia)]at h1;rw[List.getElem?_append_right (by rw[<-h.1];lia)]at h2;rw[h.1]at h1
  cases hk:i-sizes.length with
  | zero=>rw[hk]at h1 h2;simp at h1 h2;lia
  | succ k=>rw[hk]at h1;simp at h1
def vv{f:Nat}{scr:D}{k:Nat}{sizes:List Nat}{r:Int}(h:cl f [scr,.int k]=some (.int r))(hp:∀ s∈sizes,0<s/\s<2 ^ 200)(hlen:sizes.length<=1000):∃ ds:List Nat,iy ds sizes/\evF cl (eR f) [scr,.int k,.lst (L sizes)]=some (.lst (L ds)):=by
 obtain⟨σ',e,r',ds,o,hds,rfl⟩:=bU (f:=ag cl [4] (gz f)) (tg:=[5]) (xs:=sizes) (σ:=[some scr,some (.int k),some (.lst (L sizes)),some (.int r),some (.lst []),none])
  (fun p σ=>∃ (r:Int) (ds:List Nat) (o:Option D),iy ds p/\σ=[some scr,some (.int k),some (.lst (L sizes)),some (.int r),some (.lst (L ds)),o]) ⟨r,[],none,⟨rfl,by simp⟩,rfl⟩ (by
   rintro p x q σ hx ⟨r,ds,o,hds,rfl⟩;have hx0:=hp x (by rw[hx];simp)
   have hpl:p.length<1000:=by
    have:=congrArg List.length hx;simp at this;lia
   have hx1:(0:Int)<x:=by lia
   have hx2:(x:Int)<2 ^ 200:=by
    have:=hx0.2;lia
   obtain⟨d,hd⟩:=Int.eq_ofNat_of_zero_le (Int.emod_nonneg r (show(x:Int)≠0 by lia))
   have hdx:d<x:=by
    have:=Int.emod_lt_of_pos r hx1;lia
   refine⟨[some scr,some (.int k),some (.lst (L sizes)),some (.int (r / x)),some (.lst (L (ds++[d]))),some (.int x)],?_,_,_,_,hds.snoc hdx,rfl⟩
   have hl:(L ds).length<most:=by
    rw[aM,hds.1];unfold most;lia
   simp[a8,gz,ag,evS,ev,cP hx1,iC hx1 hx2,hd,D.imm,hl,aP,de]
   rfl)
 refine⟨ds,hds,?_⟩;simp[evF,eR,ag,evS,ev,evs,aU,items,h,aP,D.imm,a9,aq];simp[e,ev,aW,a9,bj,aN]
end
section
variable{cl:Cl}
def lT(c:Nat):∀ (n a:Nat),bP (c:Int) (a:Int) n=L (List.range' a n c)
 | 0,a=>rfl
 | n+1,a=>by
  rw[bP,List.range'_succ];have:=lT c n (a+c);rw[show((a+c:Nat):Int)=(a:Int)+(c:Int) by lia]at this;rw[this];rfl
def ne_nil(hs:List Nat):bF .ne (.lst (L hs)) (.lst [])=some (!hs.isEmpty):=by
 cases hs with
 | nil=>rfl
 |cons h t=>
  show((eqs (eqD 7) (D.int h::L t) []).map fun k=>k&&(D.int h::L t).length == ([]:List D).length).map not=_;simp[eqs]
def AU{hs:List Nat}(h:hs≠[]):∃ m,m∈hs/\cB (L hs) (-1)=some (.int (m:Nat)):=by
 have hl:0<hs.length:=List.length_pos_iff.mpr h;refine⟨hs[hs.length-1],List.getElem_mem _,?_⟩;unfold cB;rw[if_neg (by decide),if_pos (by rw[aM];lia),aM,show((-1:Int)+hs.length).toNat=hs.length-1 by lia,n6,List.getElem?_eq_getElem (by omega)];rfl
def zN(x:Nat):∃ v:Int,(v=1\/v=-1\/v=0)/\cB [D.int 1,D.int (-1),D.int 0] ((x:Int)%7%3)=some (.int v):=by
 have h:x%7%3=0\/x%7%3=1\/x%7%3=2:=by lia
 have e:(x:Int)%7%3=((x%7%3:Nat):Int):=by lia
 rw[e,eI];rcases h with h | h | h
 ·exact⟨1,.inl rfl,by rw[h];rfl⟩
 ·exact⟨-1,.inr (.inl rfl),by rw[h];rfl⟩
 ·exact⟨0,.inr (.inr rfl),by rw[h];rfl⟩
def u5{f:Nat}{scr:D}{k size start n x:Nat}{hs steps:List Nat}{o7 o8:Option D}(hn:2<=n)(hh:∀ h∈hs,h+1<n)(hl:hs.length<10000):∃ m:Nat,m+1<n /\
  (a8 [7] (.int (x:Nat)) [some scr,some (.int k),some (.int n),some (.int size),some (.lst (L hs)),some (.int start),some (.lst (L steps)),o7,o8]).bind (ag cl [4] (cC f)) =
   some (.nx,[some scr,some (.int k),some (.int n),some (.int size),some (.lst (L (hs++[m]))),some (.int start),some (.lst (L steps)),some (.int x),some (.int m)]):=by
 have hlen:(L hs).length<most:=by rw[aM];unfold most;lia
 have c1:¬ (n:Int)<2:=by lia
 have pos1:(0:Int)<(n:Int)-1:=by lia
 have ap:∀ m:Nat,L hs++[D.int m]=L (hs++[m]):=fun m=>by rw[de];rfl
 obtain⟨m0,hm0⟩:=Int.eq_ofNat_of_zero_le (Int.emod_nonneg (x:Int) (show(n:Int)-1≠0 by lia))
 have hm0':m0+1<n:=by
  have:=Int.emod_lt_of_pos (x:Int) pos1;lia
 by_cases hc:hs.isEmpty=false/\(x:Int)%3=1
 ·have hne:hs≠[]:=by
   intro z;subst z;cases hc.1
  obtain⟨m1,hm1,e1⟩:=AU hne;obtain⟨v,hv,e2⟩:=zN x;have hm1':=hh m1 hm1
  have fin:∃ m:Nat,(if(if(m1:Int)+v > 0 then(m1:Int)+v else 0)<(n:Int)-2 then(if(m1:Int)+v > 0 then(m1:Int)+v else 0)else(n:Int)-2)=(m:Int)/\m+1<n:=by
   refine⟨(if(if(m1:Int)+v > 0 then(m1:Int)+v else 0)<(n:Int)-2 then(if(m1:Int)+v > 0 then(m1:Int)+v else 0)else(n:Int)-2).toNat,?_,?_⟩<;>rcases hv with rfl | rfl | rfl<;>(repeat' split)<;>lia
  obtain⟨m,em,hm⟩:=fin;refine⟨m,hm,?_⟩;simp only[a8,Option.bind_some,cC,ag,evS,ev,sv_andt,sv_andf,sv_max,sv_min,sv_neg,evs,List.set_cons_succ,List.set_cons_zero,List.getElem?_cons_succ,List.getElem?_cons_zero,id,dD,c1,decide_false,Option.map_some,yo,Bool.false_eq_true,if_false,dI,cP pos1,hm0,aP,D.imm,Bool.true_or,if_true,ne_nil,hc.1,Bool.not_false,cP (show(0:Int)<3 by decide),cP (show(0:Int)<7 by decide),hc.2,dO,beq_self_eq_true,ixV,e1,e2,bJ,em,Bool.and_eq_true,decide_eq_true_eq,true_and,hlen,ap]
 ·refine⟨m0,hm0',?_⟩;by_cases h1:hs.isEmpty=false
  ·have h2:((x:Int)%3 == 1)=false:=by
    have:¬ (x:Int)%3=1:=fun z=>hc ⟨h1,z⟩;simpa using this
   simp only[a8,Option.bind_some,cC,ag,evS,ev,sv_andt,sv_andf,sv_max,sv_min,sv_neg,evs,List.set_cons_succ,List.set_cons_zero,List.getElem?_cons_succ,List.getElem?_cons_zero,id,dD,c1,decide_false,Option.map_some,yo,Bool.false_eq_true,if_false,dI,cP pos1,hm0,aP,D.imm,Bool.true_or,if_true,ne_nil,h1,Bool.not_false,cP (show(0:Int)<3 by decide),dO,h2,Bool.and_eq_true,decide_eq_true_eq,true_and,hlen,ap]
  ·have h1':hs.isEmpty=true:=by
    cases hz:hs.isEmpty with
    | true=>rfl
    | false=>exact absurd hz h1
   simp only[a8,Option.bind_some,cC,ag,evS,ev,sv_andt,sv_andf,sv_max,sv_min,sv_neg,evs,List.set_cons_succ,List.set_cons_zero,List.getElem?_cons_succ,List.getElem?_cons_zero,id,dD,c1,decide_false,Option.map_some,yo,Bool.false_eq_true,if_false,dI,cP pos1,hm0,aP,D.imm,Bool.true_or,if_true,ne_nil,h1',Bool.not_true,Bool.and_eq_true,decide_eq_true_eq,true_and,hlen,ap]
def we(xs:List Nat)(n:Nat):(L xs).take n=L (xs.take n):=by simp[L]
end
section
variable{n:Nat}{f:List Nat}{l:Nat}
end
abbrev dpf:Nat->List Bool->Option Nat
 | d,[]=>some d
 | d,true::r=>dpf (d+1) r
 | 0,false::_=>none
 | d+1,false::r=>dpf d r
def fT(b:Bool):∀ (w:List Bool) (d:Nat),dpf d (w++[b])=(dpf d w).bind fun e=>dpf e [b]
 | [],d=>rfl
 | true::r,d=>by simpa[dpf]using fT b r (d+1)
 | false::r,0=>rfl
 | false::r,d+1=>by simpa[dpf]using fT b r d
abbrev sg(b:Bool):Nat:=if b then 40 else 41
abbrev tx(w:List Bool):PySem.Str:=⟨(w.map sg).toArray⟩
def qu(w:List Bool):(tx w).length=w.length:=by simp[tx,PySem.Str.length]
def Dj(w v:List Bool):tx w++tx v=tx (w++v):=by
 show PySem.Str.mk _=_;simp[tx]
def Ef:(PySem.Str.ofString "")=tx []:=by decide +kernel
def uE:(PySem.Str.ofString "(")=tx [true]:=by decide +kernel
def FL:(PySem.Str.ofString ")")=tx [false]:=by decide +kernel
def kd:∀ (k a:Nat),k<=a->bP (-1) (a:Int) k=L ((List.range k).map fun i=>a-i)
 | 0,_,_=>rfl
 | k+1,a,h=>by
  rw[bP,List.range_succ_eq_map];have:=kd k (a-1) (by lia)
  have e:(a:Int)+-1=((a-1:Nat):Int):=by lia
  rw[e,this];simp[L];intro i hi;lia
def dz{k:Nat}{g:Nat->Nat}{p q:List Nat}{x:Nat}(h:(List.range k).map g=p++x::q):p.length<k/\x=g p.length:=by
 have l:((List.range k).map g).length=(p++x::q).length:=by rw[h]
 have e:((List.range k).map g)[p.length]?=(p++x::q)[p.length]?:=by rw[h]
 simp at l e;obtain⟨y,hy,e⟩:=e;refine⟨by lia,?_⟩;rw[List.getElem?_range (by lia)]at hy;cases hy;exact e.symm
def xo{w v:List Bool}(h:w.length+v.length<=most):aA .add (.str (tx w)) (.str (tx v))=some (.str (tx (w++v))):=by
 dsimp only[aA];rw[qu,qu,if_pos h,Dj]
def yL{r:Int}{n:Nat}(hn:n<=10):∃ w:List Bool,w.length=2*n/\dpf 0 w=some 0/\evF cl jL [.int r,.int n]=some (.str (tx w)):=by
 have e1:aA .mul (.int 2) (.int n)=some (.int (2*n)):=bZ (by decide) (by decide)
 have e2:dG (-1) (.int (2*(n:Int))) (.int 0)=some (L ((List.range (2*n)).map fun i=>2*n-i)):=by
  have hN:aG (-1) (2*(n:Int)) 0=2*n:=by
   unfold aG;rw[show(- -1:Int)=1 from rfl,Int.ediv_one,if_neg (by decide)];split<;>lia
  dsimp only[dG];rw[hN];rw[if_pos ⟨by decide,by decide,by decide,by unfold most;lia,by lia,by lia,by lia,by lia⟩];have:=kd (2*n) (2*n) (Nat.le_refl _);rw[<-this];rfl
 obtain⟨σ',e,I⟩:=bU (f:=ag cl [] fZ) (tg:=[4]) (xs:=(List.range (2*n)).map fun i=>2*n-i) (σ:=[some (.int r),some (.int n),some (.str (tx [])),some (.int 0),none,none,none])
  (fun p σ=>∃ (r:Int) (w:List Bool) (d:Nat) (o4 o5 o6:Option D),σ=[some (.int r),some (.int n),some (.str (tx w)),some (.int d),o4,o5,o6]/\w.length=p.length/\dpf 0 w=some d/\d+p.length<=2*n/\(d+p.length)%2=0) ⟨r,[],0,none,none,none,rfl,rfl,rfl,by simp,rfl⟩ (by
   rintro p x q σ hx ⟨r,w,d,o4,o5,o6,rfl,hw,hd,hl,hp⟩;obtain⟨h1,h2⟩:=dz hx;have m1:aA .fdiv (.int r) (.int 2)=some (.int (r / 2)):=iC (by decide) (by decide);have m2:aA .mod (.int r) (.int 2)=some (.int (r%2)):=cP (by decide);generalize hr:r%2=st at m2
   have tx1:ixV (.lst [.str (PySem.Str.ofString ")"),.str (PySem.Str.ofString "(")]) (.int 1)=some (.str (tx [true])):=by rw[uE];rfl
   have tx0:ixV (.lst [.str (PySem.Str.ofString ")"),.str (PySem.Str.ofString "(")]) (.int 0)=some (.str (tx [false])):=by rw[FL];rfl
   by_cases up:d=0\/(d<x/\st=1)
   ·have ee:ev cl [some (.int (r / 2)),some (.int n),some (.str (tx w)),some (.int d),some (.int x),o5,some (.int st)] (.or (.cmp .eq (.var 3) (.cst (.int 0))) (.and (.cmp .lt (.var 3) (.var 4)) (.cmp .eq (.var 6) (.cst (.int 1)))))=some (.bl true):=by
     by_cases h0:d=0
     ·subst h0;exact G9 (aT (aa rfl) aj rfl)
     ·have g:d<x/\st=1:=by lia
      have hb:((d:Int) == 0)=false:=beq_eq_false_iff_ne.mpr (by lia);exact uL (aT (aa rfl) aj (by rw[dO,hb])) (fz (aT (aa rfl) (aa rfl) (by rw[dD,decide_eq_true (by lia)])) (aT (aa rfl) aj (by rw[dO,g.2];rfl)))
    exact⟨_,show ag cl [] fZ [some (.int r),some (.int n),some (.str (tx w)),some (.int d),some (.int x),o5,o6]=some (.nx,_)from kH (az (aa rfl) aj m1) (az (aa rfl) aj m2) rfl (aI ee rfl (aI (az (aa rfl) (cA (cY (aE aj (aE aj bK))) (bN (aa rfl) rfl) tx1) (xo (by simp[most];lia))) rfl (aI (d:=.int ((d+1:Nat):Int)) (az (aa rfl) (cA (cY (aE (A1 aj) (aE aj bK))) (bN (aa rfl) rfl) rfl) rfl) rfl aR))),
     r / 2,w++[true],d+1,_,_,_,rfl,by simp[hw],by rw[fT,hd];rfl,by simp;omega,by simp;lia⟩
   ·have hd0:0<d:=by lia
    have ee:ev cl [some (.int (r / 2)),some (.int n),some (.str (tx w)),some (.int d),some (.int x),o5,some (.int st)] (.or (.cmp .eq (.var 3) (.cst (.int 0))) (.and (.cmp .lt (.var 3) (.var 4)) (.cmp .eq (.var 6) (.cst (.int 1)))))=some (.bl false):=by
     have hb:((d:Int) == 0)=false:=beq_eq_false_iff_ne.mpr (by lia);refine uL (aT (aa rfl) aj (by rw[dO,hb])) ?_;by_cases hx:d<x
     ·have h1:(st == 1)=false:=beq_eq_false_iff_ne.mpr (by lia);exact fz (aT (aa rfl) (aa rfl) (by rw[dD,decide_eq_true (by lia)])) (aT (aa rfl) aj (by rw[dO,h1]))
     ·exact iT (aT (aa rfl) (aa rfl) (by rw[dD,decide_eq_false (by lia)]))
    have es:aA .add (.int (d:Nat)) (.int (-1))=some (.int ((d-1:Nat):Int)):=by rw[bJ];congr 2;lia
    exact⟨_,show ag cl [] fZ [some (.int r),some (.int n),some (.str (tx w)),some (.int d),some (.int x),o5,o6]=some (.nx,_)from kH (az (aa rfl) aj m1) (az (aa rfl) aj m2) rfl (aI ee rfl (aI (az (aa rfl) (cA (cY (aE aj (aE aj bK))) (bN (aa rfl) rfl) tx0) (xo (by simp[most];lia))) rfl (aI (az (aa rfl) (cA (cY (aE (A1 aj) (aE aj bK))) (bN (aa rfl) rfl) rfl) es) rfl aR))),
     r / 2,w++[false],d-1,_,_,_,rfl,by simp[hw],by rw[fT,hd];obtain⟨e,rfl⟩:∃ e,d=e+1:=⟨d-1,by lia⟩;rfl,by simp;lia,by simp;lia⟩)
 obtain⟨r',w,d,o4,o5,o6,rfl,hw,hd,hl,hp⟩:=I;simp at hw hl
 have:d=0:=by lia
 subst this;refine⟨w,hw,hd,?_⟩;rw[<-Ef]at e;exact bf rfl rfl (aI aj rfl (aI aj rfl (cN (so (az aj (aa rfl) e1) aj e2) e (aX (aa rfl) rfl))))
abbrev rd(n q:Nat):Nat:=if q<n then q else 3*n-1-q
def aK{n q:Nat}(h:q<2*n):rd n q<2*n:=by unfold rd;split<;>omega
def b8{n q:Nat}(h:q<2*n):rd n (rd n q)=q:=by
 unfold rd;by_cases e:q<n
 ·rw[if_pos e,if_pos e]
 ·rw[if_neg e,if_neg (by omega)];lia
def ju{n p q:Nat}(hp:p<2*n)(hq:q<2*n)(h:rd n p=rd n q):p=q:=by rw[<-b8 hp,h,b8 hq]
abbrev rnd(n:Nat)(f:List Nat)(q:Nat):Nat:=rd n (at' f (rd n q))
structure Val(n:Nat)(f:List Nat):Prop where
 frm:Frm n f
 nox:∀ q q',q<2*n->q'<2*n->¬ (q<q'/\q'<rnd n f q/\rnd n f q<rnd n f q')
structure Mt(n k:Nat)(f S:List Nat):Prop where
 len:f.length=2*n
 kn:k<=2*n
 up:S.Pairwise (·<·)
 lt:∀ s∈S,s<k
 ok:∀ q,q<k->q∉S->rnd n f q<k/\rnd n f q∉S/\rnd n f q≠q/\rnd n f (rnd n f q)=q
 bt:∀ q s,q<k->q∉S->s∈S->¬ (q<s/\s<rnd n f q)
 nox:∀ q q',q<k->q'<k->q∉S->q'∉S->¬ (q<q'/\q'<rnd n f q/\rnd n f q<rnd n f q')
def Mt.push{n k:Nat}{f S:List Nat}(m:Mt n k f S)(hk:k<2*n):Mt n (k+1) f (S++[k]):=by
 have nk:∀ q,q<k+1->q∉S++[k]->q<k/\q∉S:=by
  intro q h1 h2;simp at h2;exact⟨by lia,h2.1⟩
 refine⟨m.len,by lia,?_,?_,?_,?_,?_⟩
 ·rw[List.pairwise_append];exact⟨m.up,by simp,fun a ha b hb=>by simp at hb;have:=m.lt a ha;lia⟩
 ·intro s hs;simp at hs;rcases hs with h | h
  ·have:=m.lt s h;lia
  ·lia
 ·intro q h1 h2;obtain⟨a,b⟩:=nk q h1 h2;obtain⟨c1,c2,c3,c4⟩:=m.ok q a b;exact⟨by lia,by simp;exact⟨c2,by lia⟩,c3,c4⟩
 ·intro q s h1 h2 hs;obtain⟨a,b⟩:=nk q h1 h2;simp at hs;rcases hs with h | h
  ·exact m.bt q s a b h
  ·have:=(m.ok q a b).1;lia
 ·intro q q' h1 h2 h3 h4;obtain⟨a,b⟩:=nk q h1 h3;obtain⟨a',b'⟩:=nk q' h2 h4;exact m.nox q q' a a' b b'
def Cq{n k m:Nat}{f:List Nat}(hl:f.length=2*n)(hk:k<2*n)(hm:m<2*n){q:Nat}(hq:q<2*n):rnd n ((f.set (rd n m) (rd n k)).set (rd n k) (rd n m)) q=if q=k then m else if q=m then k else rnd n f q:=by
 have l1:=aK hk;have l2:=aK hm;unfold rnd;rw[bY (by simp;lia),bY (by lia)];by_cases h1:q=k
 ·subst h1;rw[if_pos rfl,if_pos rfl,b8 hm]
 ·rw[if_neg (fun h=>h1 (ju hq hk h)),if_neg h1];by_cases h2:q=m
  ·subst h2;rw[if_pos rfl,if_pos rfl,b8 hk]
  ·rw[if_neg (fun h=>h2 (ju hq hm h)),if_neg h2]
def Mt.pop{n k m:Nat}{f S:List Nat}(h:Mt n k f (S++[m]))(hk:k<2*n):Mt n (k+1) ((f.set (rd n m) (rd n k)).set (rd n k) (rd n m)) S:=by
 have hmk:m<k:=h.lt m (by simp)
 have hm:m<2*n:=by lia
 have P:=fun q hq=>Cq (f:=f) h.len hk hm (q:=q) hq;have up:=List.pairwise_append.mp h.up;have hmS:∀ s∈S,s<m:=fun s hs=>up.2.2 s hs m (by simp)
 have kS:k∉S:=fun c=>by have:=hmS k c;lia
 have mS:m∉S:=fun c=>by have:=hmS m c;lia
 have cs:∀ q,q<k+1->q∉S->q=k\/q=m\/(q≠k/\q≠m/\q<k/\q∉S++[m]):=by
  intro q h1 h2;by_cases e1:q=k
  ·exact .inl e1
  ·by_cases e2:q=m
   ·exact .inr (.inl e2)
   ·exact .inr (.inr ⟨e1,e2,by lia,by simp;exact⟨h2,e2⟩⟩)
 have old:∀ q,q<k->q∉S++[m]->rnd n f q<k/\rnd n f q∉S/\rnd n f q≠m/\rnd n f q≠q/\rnd n f (rnd n f q)=q:=by
  intro q h1 h2;obtain⟨c1,c2,c3,c4⟩:=h.ok q h1 h2;simp at c2;exact⟨c1,c2.1,c2.2,c3,c4⟩
 refine⟨by simp[h.len],by lia,up.1,fun s hs=>by have:=hmS s hs;lia,?_,?_,?_⟩
 ·intro q h1 h2
  rcases cs q h1 h2 with rfl | rfl | ⟨e1,e2,e3,e4⟩
  ·rw[P q hk,if_pos rfl,P m hm,if_neg (by lia),if_pos rfl];exact⟨by lia,mS,by lia,rfl⟩
  ·rw[P q hm,if_neg (by lia),if_pos rfl,P k hk,if_pos rfl];exact⟨by lia,kS,by lia,rfl⟩
  ·obtain⟨c1,c2,c3,c4,c5⟩:=old q e3 e4;rw[P q (by lia),if_neg e1,if_neg e2,P _ (by lia),if_neg (by lia),if_neg c3];exact⟨by lia,c2,c4,c5⟩
 ·intro q s h1 h2 hs;have:=hmS s hs
  rcases cs q h1 h2 with rfl | rfl | ⟨e1,e2,e3,e4⟩
  ·lia
  ·lia
  ·rw[P q (by lia),if_neg e1,if_neg e2];exact h.bt q s e3 e4 (by simp[hs])
 ·intro q q' h1 h2 h3 h4
  rcases cs q h1 h3 with rfl | rfl | ⟨e1,e2,e3,e4⟩
  ·lia
  ·rw[P q hm,if_neg (by lia),if_pos rfl]
   rcases cs q' h2 h4 with rfl | rfl | ⟨d1,d2,d3,d4⟩
   ·lia
   ·lia
   ·rw[P q' (by lia),if_neg d1,if_neg d2];have:=(old q' d3 d4).1;lia
  ·rw[P q (by lia),if_neg e1,if_neg e2];have a:=(old q e3 e4).1
   rcases cs q' h2 h4 with rfl | rfl | ⟨d1,d2,d3,d4⟩
   ·lia
   ·have:=h.bt q q' e3 e4 (by simp);lia
   ·rw[P q' (by lia),if_neg d1,if_neg d2];exact h.nox q q' e3 d3 e4 d4
def Mt.val{n:Nat}{f:List Nat}(h:Mt n (2*n) f [])(hlt:∀ x,x<2*n->at' f x<2*n):Val n f:=by
 refine⟨⟨h.len,hlt,?_,?_⟩,fun q q' h1 h2=>h.nox q q' h1 h2 (by simp) (by simp)⟩
 ·intro x;by_cases hx:x<2*n
  ·have a:=(h.ok (rd n x) (aK hx) (by simp)).2.2.2;unfold rnd at a;rw[b8 hx,b8 (hlt x hx)]at a;exact ju (hlt _ (hlt x hx)) hx a
  ·have e:at' f x=x:=eC (by rw[h.len];lia);rw[e,e]
 ·intro x hx e;have a:=(h.ok (rd n x) (aK hx) (by simp)).2.2.1;unfold rnd at a;rw[b8 hx,e]at a;exact a rfl
def vZ{β:Type}{f:St->Option (Out × St)}{tg:List Nat}(g:β->D)(im:∀ b,(g b).imm=true)(I:List β->St->Prop):∀ (w done:List β) (σ:St),(∀ u b v σ,done++w=u++b::v->I u σ->∃ σ2,(a8 tg (.tup [.int u.length,g b]) σ).bind f=some (.nx,σ2)/\I (u++[b]) σ2)->I done σ->∃ σ',aO f tg (di done.length (w.map g)) σ=some (.nx,σ')/\I (done++w) σ'
 | [],done,σ,_,h=>⟨σ,rfl,by simpa using h⟩
 | b::w,done,σ,hs,h=>by
  obtain⟨σ2,h1,h3⟩:=hs done b w σ rfl h;obtain⟨σ',h4,h5⟩:=vZ g im I w (done++[b]) σ2 (fun pre e post σ he=>hs pre e post σ (by simpa using he)) h3;refine⟨σ',?_,by simpa using h5⟩;rw[List.map_cons,di,aO,if_pos (by simp[D.imm,aq,im])];rw[show((done++[b]).length:Int)=(done.length:Int)+1 by simp]at h4
  cases hb:a8 tg (.tup [.int done.length,g b]) σ with
  | none=>rw[hb]at h1;cases h1
  |some σ1=>
   rw[hb]at h1;simp only[Option.bind_some]at h1 ⊢;rw[h1];exact h4
abbrev cI(n:Nat):List Nat:=(List.range (2*n)).map (rd n)
def qp(n:Nat):(cI n).length=2*n:=by simp[cI]
def Ci{n:Nat}(h:1<=n):cI n=List.range' 0 n++(List.range n).map (fun i=>(2*n-1)-i):=by
 unfold cI;rw[show 2*n=n+n by lia,List.range_add,List.map_append,<-List.range_eq_range',List.map_map];congr 1
 ·conv=>rhs;rw[<-List.map_id (List.range n)]
  apply List.map_congr_left;intro i hi;simp at hi;simp[rd,hi]
 ·apply List.map_congr_left;intro i hi;simp at hi;show rd n (n+i)=_;unfold rd;rw[if_neg (by lia)];lia
def BH{a b:Nat}(h:b<=a)(ha:a<=1000):dG (-1) (.int (a:Int)) (.int ((a:Int)-b))=some (L ((List.range b).map fun i=>a-i)):=by
 have hN:aG (-1) (a:Int) ((a:Int)-b)=b:=by
  unfold aG;rw[show(- -1:Int)=1 from rfl,Int.ediv_one,if_neg (by decide)];split<;>lia
 dsimp only[dG];rw[hN];rw[if_pos ⟨by decide,by decide,by decide,by unfold most;lia,by lia,by lia,by lia,by lia⟩];rw[kd b a h]
def vo{n:Nat}(h1:1<=n)(hn:n<=10):evF cl fD [.int n]=some (.lst (L (cI n))):=by
 have e1:aA .mul (.int 2) (.int n)=some (.int (2*n)):=bZ (by decide) (by decide);have e2:=eN (a:=0) (b:=n) (by lia) (by lia);rw[Nat.sub_zero]at e2;simp only[Int.natCast_zero]at e2;have e3:=BH (a:=2*n-1) (b:=n) (by lia) (by lia);rw[show((2*n-1:Nat):Int)=2*n-1 by lia,show 2*(n:Int)-1-n=n-1 by lia]at e3
 have e4:aA .add (.lst (L (List.range' 0 n))) (.lst (L ((List.range n).map fun i=>2*n-1-i)))=some (.lst (L (cI n))):=by
  dsimp only[aA];rw[if_pos (by simp[aM,most];lia),Ci h1,de]
 simp[evF,fD,ag,evS,ev,evs,e1,e2,e3,e4,dI,aW,D.imm,a9,bj,aN]
def oS{n q:Nat}(h:q<2*n):ixV (.lst (L (cI n))) (.int (q:Int))=some (.int ((rd n q:Nat):Int)):=by
 show cB _ _=_;rw[eI,n6];simp[cI,h]
def gm{f:List Nat}{i j:Nat}(h:i<f.length):da (.lst (L f)) (.int (i:Int)) (.int (j:Int))=some (.lst (L (f.set i j))):=by
 dsimp only[da];rw[aM,zJ h];simp[Az]
def jA(v:List Bool):∀ (w:List Bool) (d:Nat),dpf d (w++v)=(dpf d w).bind fun e=>dpf e v
 | [],d=>rfl
 | true::r,d=>by simpa[dpf]using jA v r (d+1)
 | false::r,0=>rfl
 | false::r,d+1=>by simpa[dpf]using jA v r d
def qU:∀ (w:List Bool) (d:Nat) {e:Nat},dpf d w=some e->e<=d+w.length
 | [],d,e,h=>by cases h;simp
 | true::r,d,e,h=>by have:=qU r (d+1) h;simp;lia
 | false::r,0,e,h=>nomatch h
 | false::r,d+1,e,h=>by have:=qU r d h;simp;lia
def zeros(cl:Cl)(σ:St):∀ xs:List Nat,cq (fun σ1=>(ev cl σ1 (.cst (.int 0))).map some) [7] σ (L xs)=some (L (List.replicate xs.length 0))
 | []=>rfl
 | x::r=>by
  rw[show L (x::r)=.int x::L r from rfl,cq,zeros cl σ r];rfl
def pP{fc:Nat}{n:Nat}{w:List Bool}(h1:1<=n)(hn:n<=10)(hc:cl fc [.int n]=some (.lst (L (cI n))))(hw:w.length=2*n)(hd:dpf 0 w=some 0):∃ f:List Nat,Val n f/\evF cl (eP fc) [.str (tx w)]=some (.tup (L f)):=by
 obtain⟨σ',e,I⟩:=vZ (f:=ag cl [3,4] (cX fc)) (tg:=[5,6]) (fun b:Bool=>D.str (tx [b])) (fun _=>rfl)
  (fun u σ=>∃ (f S:List Nat) (o5 o6 o8:Option D),σ=[some (.str (tx w)),some (.int n),some (.lst (L (cI n))),some (.lst (L f)),some (.lst (L (S.map (rd n)))),o5,o6,none,o8]/\dpf 0 u=some S.length/\Mt n u.length f S/\∀ x,x<2*n->at' f x<2*n)
  w [] [some (.str (tx w)),some (.int n),some (.lst (L (cI n))),some (.lst (L (List.replicate (2*n) 0))),some (.lst (L [])),none,none,none,none] (by
   rintro u b v σ hu ⟨f,S,o5,o6,o8,rfl,hS,m,hlt⟩
   have hk:u.length<2*n:=by
    rw[<-hw];have:=congrArg List.length hu;simp at this;lia
   have hdb:∃ d,dpf S.length [b]=some d:=by
    have:dpf 0 (u++b::v)=some 0:=by rw[<-hu];exact hd
    rw[jA,hS]at this
    revert this
    cases b with
    | true=>exact fun _=>⟨_,rfl⟩
    |false=>
     cases S.length with
     | zero=>exact fun h=>nomatch h
     | succ d=>exact fun _=>⟨_,rfl⟩
   cases b with
   |true=>
    refine⟨[some (.str (tx w)),some (.int n),some (.lst (L (cI n))),some (.lst (L f)),some (.lst (L ((S++[u.length]).map (rd n)))),some (.int u.length),some (.str (tx [true])),none,o8],?_,f,S++[u.length],_,_,_,rfl,?_,by simpa using m.push hk,hlt⟩
    ·have hl:S.length<most:=by have:=qU u 0 hS;unfold most;lia
     have ap:L ((S++[u.length]).map (rd n))=L (S.map (rd n))++[.int ((rd n u.length:Nat):Int)]:=by simp[L]
     rw[ap];exact show ag cl [3,4] (cX fc) [some (.str (tx w)),some (.int n),some (.lst (L (cI n))),some (.lst (L f)),some (.lst (L (S.map (rd n)))),some (.int u.length),some (.str (tx [true])),none,o8]=some (.nx,_)from iV (bL (aT (k:=true) (aa rfl) aj (by rw[uE];decide))) (qW (cA (aa rfl) (aa rfl) (oS hk)) rfl rfl (by rw[aM,List.length_map];exact hl) aR) aR
    ·rw[fT,hS];simp[dpf]
   |false=>
    obtain⟨d,hdb⟩:=hdb
    have hS0:S≠[]:=by
     rintro rfl;simp[dpf]at hdb
    obtain⟨S0,m0,rfl⟩:∃ S0 m0,S=S0++[m0]:=⟨S.dropLast,S.getLast hS0,(List.dropLast_concat_getLast hS0).symm⟩
    have hm0:m0<u.length:=m.lt m0 (by simp);have c:=oS hk;have p1:=gm (f:=f) (i:=rd n m0) (j:=rd n u.length) (by rw[m.len];exact aK (by lia));have p2:=gm (f:=f.set (rd n m0) (rd n u.length)) (i:=rd n u.length) (j:=rd n m0) (by rw[List.length_set,m.len];exact aK (by lia));refine⟨[some (.str (tx w)),some (.int n),some (.lst (L (cI n))),some (.lst (L ((f.set (rd n m0) (rd n u.length)).set (rd n u.length) (rd n m0)))),some (.lst (L (S0.map (rd n)))),some (.int u.length),some (.str (tx [false])),none,some (.int ((rd n m0:Nat):Int))],?_,_,S0,_,_,_,rfl,?_,by simpa using m.pop hk,?_⟩
    ·have ap:L ((S0++[m0]).map (rd n))=L (S0.map (rd n))++[.int ((rd n m0:Nat):Int)]:=by simp[L]
     rw[ap];exact show ag cl [3,4] (cX fc) [some (.str (tx w)),some (.int n),some (.lst (L (cI n))),some (.lst (L f)),some (.lst (L (S0.map (rd n))++[.int ((rd n m0:Nat):Int)])),some (.int u.length),some (.str (tx [false])),none,o8]=some (.nx,_)from k5 (bL (aT (k:=false) (aa rfl) aj (by rw[uE];decide))) (DR rfl (kC (cA (aa rfl) (aa rfl) c) (aa rfl) rfl rfl p1 (kC (aa rfl) (cA (aa rfl) (aa rfl) c) rfl rfl p2 aR))) aR
    ·rw[fT,hS];simp[dpf]
    ·intro x hx;rw[bY (by simp[m.len];exact aK (by lia)),bY (by rw[m.len];exact aK (by lia))];have:=aK (n:=n) (q:=m0) (by lia);have:=aK (n:=n) (q:=u.length) (by lia);have:=hlt x hx
     repeat' split
     all_goals lia)
  ⟨List.replicate (2*n) 0,[],none,none,none,rfl,rfl,⟨by simp,by simp,by simp,by simp,by simp,by simp,by simp⟩,fun x hx=>by simp[at',hx];lia⟩
 obtain⟨f,S,o5,o6,o8,rfl,hS,m,hlt⟩:=I;simp only[List.nil_append]at hS m;rw[hd]at hS;have hS0:S=[]:=List.eq_nil_of_length_eq_zero (by simpa using hS.symm);subst hS0;rw[hw]at m;refine⟨f,m.val hlt,?_⟩
 have len:biV .len (.str (tx w))=some (.int ((2*n:Nat):Int)):=by
  dsimp only[biV];rw[qu,hw,if_pos (by unfold most;lia)]
 have dv:aA .fdiv (.int ((2*n:Nat):Int)) (.int 2)=some (.int (n:Nat)):=by
  rw[iC (by decide) (by decide)];congr 2;lia
 have it:eW (.str (tx w))=some (w.map fun b=>D.str (tx [b])):=by
  simp[eW,tx,Function.comp_def]
 have z:=zeros cl [some (.str (tx w)),some (.int n),some (.lst (L (cI n))),none,none,none,none,none,none] (cI n);rw[qp]at z
 exact bf rfl rfl (aI (az (bN (aa rfl) len) aj dv) rfl (aI (dR (aa rfl) hc) (by unfold aP;rw[show a9 (.lst (L (cI n)))=true from bj _];rfl) (eA (eg (dY (aa rfl) rfl) (by rw[aM,qp];unfold most;lia) z) (by rw[show a9 (.lst (L (List.replicate (2*n) 0)))=true from bj _];rfl) (eA (cY bK) rfl
  (cN (pV (aa rfl) it) e (aX (bN (aa rfl) rfl) (by unfold aW;rw[show(D.tup (L f)).imm=true from bj _];rfl)))))))
def gj{F:St->Option (Option D)}{tg:List Nat}{σ:St}{g:Nat->D}(im:∀ x,(g x).imm=true):∀ xs:List Nat,(∀ x∈xs,(a8 tg (.int (x:Nat)) σ).bind F=some (some (g x)))->cq F tg σ (L xs)=some (xs.map g)
 | [],_=>rfl
 | x::r,h=>by
  have a:=h x (by simp);have b:=gj im r (fun y hy=>h y (by simp[hy]));rw[show L (x::r)=.int x::L r from rfl,cq]
  cases hb:a8 tg (.int (x:Nat)) σ with
  | none=>rw[hb]at a;cases a
  |some σ1=>
   rw[hb]at a;simp only[Option.bind_some]at a ⊢;rw[a,b];simp[kJ,im]
def x9{F:St->Option (Option D)}{tg:List Nat}{σ:St}{g:Nat->D}{c:Nat->Bool}(im:∀ x,(g x).imm=true):∀ xs:List Nat,(∀ x∈xs,(a8 tg (.int (x:Nat)) σ).bind F=some (if c x then some (g x)else none))->cq F tg σ (L xs)=some ((xs.filter c).map g)
 | [],_=>rfl
 | x::r,h=>by
  have a:=h x (by simp);have b:=x9 im r (fun y hy=>h y (by simp[hy]));rw[show L (x::r)=.int x::L r from rfl,cq]
  cases hb:a8 tg (.int (x:Nat)) σ with
  | none=>rw[hb]at a;cases a
  |some σ1=>
   rw[hb]at a;simp only[Option.bind_some]at a ⊢;rw[a,b];cases hc:c x<;>simp[kJ,im,hc]
def yR(xs:List Nat)(g:Nat->Nat):(xs.map fun x=>D.int (g x:Nat))=L (xs.map g):=by simp[L]
def kL{xs:List Nat}(h:xs.length<=1000):fits (L xs)=some (L xs):=by
 unfold fits;rw[if_pos (by rw[aM];unfold most;lia)]
def bO{n:Nat}(h:n<=1000):cH (.int 0) (.int n)=some (L (List.range n)):=by
 have e2:=eN (a:=0) (b:=n) (by lia) h;rw[Nat.sub_zero,<-List.range_eq_range']at e2;exact e2
def nK{n:Nat}(hn:n<=100):evF cl dA [.int n]=some (.tup (L (ay n))):=by
 have e2:=bO (n:=n) (by lia)
 have e3:=gj (F:=fun σ1=>(ev cl σ1 (.bin .add (.var 0) (.var 1))).map some) (tg:=[1]) (σ:=[some (.int n),none]) (g:=fun x=>.int ((n+x:Nat):Int)) (fun _=>rfl) (List.range n) (by
  intro x _
  simp[a8,ev,bJ])
 rw[yR]at e3
 have e4:aA .add (.lst (L ((List.range n).map fun x=>n+x))) (.lst (L (List.range n)))=some (.lst (L (ay n))):=by
  dsimp only[aA];rw[if_pos (by simp[aM,most];lia),ay,de];congr 3
  ·rw[List.range'_eq_map_range]
  ·rw[List.range_eq_range']
 have e5:=kL (xs:=List.range n) (by simp;lia);simp only[evF,dA,ag,evS,ev,aU];simp[ev,e2,e5];simp[ev]at e3;rw[e3];simp[e4,biV,items,aW,D.imm,bj,aN]
def ka{n:Nat}(hn:n<=10):evF cl dA [.int n]=some (.tup (L (ay n))):=nK (by lia)
def pe{n q:Nat}(h:q<2*n):rnd n (ay n) q=2*n-1-q:=by
 unfold rnd rd;by_cases c:q<n
 ·rw[if_pos c,plain_at,if_pos c,if_neg (by lia)];lia
 ·have e:at' (ay n) (3*n-1-q)=2*n-1-q:=by rw[plain_at,if_neg (by omega),if_pos (by omega)];lia
  rw[if_neg c,e,if_pos (by omega)]
def eM(n:Nat):Val n (ay n):=by
 refine⟨bI n,fun q q' h1 h2=>?_⟩;rw[pe h1,pe h2];omega
abbrev aw(n i:Nat):List Nat:=bE (ay n) (n+i)
def gN{n i x:Nat}(h:i+1<n):at' (aw n i) x=if x=n+i+1 then n+i else if x=n+i then n+i+1 else if x=i+1 then i else if x=i then i+1 else if x<n then n+x else if x<2*n then x-n else x:=by
 have F:=bI n;unfold aw bE
 have a1:at' (ay n) (n+i)=i:=by rw[plain_at,if_neg (by lia),if_pos (by lia)];lia
 have a2:at' (ay n) (n+i+1)=i+1:=by rw[plain_at,if_neg (by lia),if_pos (by lia)];lia
 have hl:=F.len;rw[a1,a2,if_neg (by lia),bY (by simp;lia),bY (by simp;lia),bY (by simp;lia),bY (by lia),plain_at]
set_option synthInstance.maxSize 10000 in
set_option synthInstance.maxHeartbeats 0 in
def ya:∀ n,n<11->∀ i,i<n->i+1<n->∀ q,q<2*n->∀ q',q'<2*n->¬ (q<q'/\q'<rnd n (aw n i) q/\rnd n (aw n i) q<rnd n (aw n i) q'):=by decide +kernel
def c9{n i:Nat}(hn:n<=10)(h:i+1<n):Val n (aw n i):=⟨mm (bI n) (by lia),fun q q' h1 h2=>ya n (by lia) i (by lia) h q h1 q' h2⟩
def qt{fp:Nat}{n i:Nat}(hn:n<=10)(hi:i+1<n)(hp:cl fp [.int n]=some (.tup (L (ay n)))):evF cl (gF fp) [.int n,.int i]=some (.tup (L (aw n i))):=by
 have hl:=(bI n).len
 have e:aw n i=((((ay n).set i (i+1)).set (i+1) i).set (n+i) (n+i+1)).set (n+i+1) (n+i):=by
  unfold aw bE
  have a1:at' (ay n) (n+i)=i:=by rw[plain_at,if_neg (by lia),if_pos (by lia)];lia
  have a2:at' (ay n) (n+i+1)=i+1:=by rw[plain_at,if_neg (by lia),if_pos (by lia)];lia
  rw[a1,a2,if_neg (by lia)]
 have p1:=gm (f:=ay n) (i:=i) (j:=i+1) (by lia);have p2:=gm (f:=(ay n).set i (i+1)) (i:=i+1) (j:=i) (by simp;lia);have p3:=gm (f:=((ay n).set i (i+1)).set (i+1) i) (i:=n+i) (j:=n+i+1) (by simp;lia);have p4:=gm (f:=(((ay n).set i (i+1)).set (i+1) i).set (n+i) (n+i+1)) (i:=n+i+1) (j:=n+i) (by simp;lia);rw[<-e]at p4;simp only[Int.natCast_add,Int.natCast_one]at p1 p2 p3 p4;simp[evF,gF,ag,evS,ev,evs,hp,biV,items,a9,bj,aU,bJ,aO,D.imm,a8,lO,p1,p2,p3,p4,aW,aN]
abbrev aZ(n:Nat)(f:List Nat):List Nat:=(List.range (2*n)).map fun p=>(at' f ((p+n)%(2*n))+n)%(2*n)
def oZ{n:Nat}{f:List Nat}{p:Nat}(h:p<2*n):at' (aZ n f) p=(at' f ((p+n)%(2*n))+n)%(2*n):=by
 simp[at',aZ,h]
def half{xs:List D}{n:Nat}(h:xs.length=2*n):biV .len (.tup xs)=some (.int (2*n)):=by
 simp[biV,items,h]
def uV(n:Nat):aA .fdiv (.int (2*(n:Int))) (.int 2)=some (.int n):=by
 rw[iC (by decide) (by decide)];congr 2;lia
def fh{f:List Nat}{x:Nat}(h:x<f.length):ixV (.tup (L f)) (.int (x:Nat))=some (.int (at' f x:Nat)):=by
 show cB _ _=_;rw[eI,n6,dB h];rfl
def r8{n:Nat}{f:List Nat}(h1:1<=n)(hn:n<=10)(hf:f.length=2*n):evF cl gH [.tup (L f)]=some (.tup (L (aZ n f))):=by
 have e1:aA .mul (.int 2) (.int n)=some (.int (2*n)):=bZ (by decide) (by decide);have e2:=bO (n:=2*n) (by lia);rw[show((2*n:Nat):Int)=2*(n:Int) by lia]at e2
 have e3:=gj (F:=fun σ1=>(ev cl σ1 (.bin .mod (.bin .add (.ix (.var 0) (.bin .mod (.bin .add (.var 2) (.var 1)) (.bin .mul (.cst (.int 2)) (.var 1)))) (.var 1)) (.bin .mul (.cst (.int 2)) (.var 1)))).map some) (tg:=[2]) (σ:=[some (.tup (L f)),some (.int n),none]) (g:=fun p=>.int (((at' f ((p+n)%(2*n))+n)%(2*n):Nat):Int)) (fun _=>rfl) (List.range (2*n)) (by
  intro x _
  have m1:aA .mod (.int ((x:Int)+n)) (.int (2*(n:Int)))=some (.int (((x+n)%(2*n):Nat):Int)):=by
   rw[cP (by lia)];simp
  have m2:=fh (f:=f) (x:=(x+n)%(2*n)) (by rw[hf];exact Nat.mod_lt _ (by lia))
  have m3:aA .mod (.int ((at' f ((x+n)%(2*n)):Nat)+(n:Int))) (.int (2*(n:Int)))=some (.int (((at' f ((x+n)%(2*n))+n)%(2*n):Nat):Int)):=by
   rw[cP (by lia)];simp
  simp only[a8,ev,List.set,Option.bind_some,List.getElem?_cons_zero,List.getElem?_cons_succ,id,e1,bJ,m1,m2,m3,Option.map_some])
 rw[yR]at e3;have e5:=kL (xs:=List.range (2*n)) (by simp;lia);have e6:=half (xs:=L f) (n:=n) (by rw[aM,hf]);have e7:=uV n;simp only[evF,gH,ag,evS,ev,aU];simp[ev,e2,e5,e1,e6,e7,aP,D.imm];simp[ev]at e3;rw[e3];simp[biV,items,aW,D.imm,bj,aN,aZ]
section dicts
variable{κ:Type} [DecidableEq κ]
def qJ:∀ {ks:List κ} {vs:List D} {x:κ} {d:D} {y:κ},ks.length=vs.length->x∉ks->aF (ks++[x]) (vs++[d]) y=if x=y then some d else aF ks vs y
 | [],[],x,d,y,_,_=>by simp[aF]
 | k::ks,v::vs,x,d,y,h,hn=>by
  simp at h hn;have:=qJ (ks:=ks) (vs:=vs) (x:=x) (d:=d) (y:=y) h hn.2;simp only[List.cons_append,aF];by_cases e:k=y
  ·rw[if_pos e,if_pos e,if_neg (fun c=>hn.1 (c.trans e.symm))]
  ·rw[if_neg e,if_neg e,this]
def qQ:∀ {ks:List κ} {vs:List D} {x:κ} {d:D} {y:κ},ks.length=vs.length->x∈ks->aF ks (List.zipWith (fun k v=>if k=x then d else v) ks vs) y=if x=y then some d else aF ks vs y
 | k::ks,v::vs,x,d,y,h,hm=>by
  simp at h;simp only[List.zipWith_cons_cons,aF];by_cases e:k=y
  ·rw[if_pos e,if_pos e];by_cases e':k=x
   ·rw[if_pos e',if_pos (e'.symm.trans e)]
   ·rw[if_neg e',if_neg (fun c=>e' (e.trans c.symm))]
  ·rw[if_neg e,if_neg e];by_cases hx:x∈ks
   ·exact qQ h hx
   ·have kx:x=k:=by simpa[hx]using hm
    rw[if_neg (fun c=>e (kx.symm.trans c))]
    have:List.zipWith (fun k v=>if k=x then d else v) ks vs=vs:=by
     clear e hm kx
     induction ks generalizing vs with
     | nil=>cases vs with | nil=>rfl | cons _ _=>simp at h
     | cons a ks ih=>cases vs with
      | nil=>simp at h
      |cons b vs=>
       simp at h hx;simp only[List.zipWith_cons_cons];rw[if_neg (fun c=>hx.1 c.symm),ih (vs:=vs) (h:=h) (hx:=hx.2)]
    rw[this]
def eL{ks:List κ}{vs:List D}{x:κ}{d:D}{y:κ}(h:ks.length=vs.length):aF (putD ks vs x d).1 (putD ks vs x d).2 y=if x=y then some d else aF ks vs y:=by
 unfold putD;split
 ·exact qQ h ‹_›
 ·exact qJ h ‹_›
def fX{ks:List κ}{vs:List D}{x:κ}{d:D}(h:ks.length=vs.length):(putD ks vs x d).1.length=(putD ks vs x d).2.length/\(putD ks vs x d).1.length<=ks.length+1:=by
 unfold putD;split<;>simp[h]
end dicts
abbrev sd(b:Bool):PySem.Str:=if b then PySem.Str.ofString "high" else PySem.Str.ofString "low"
def qd(b:Bool):(sd b == PySem.Str.ofString "high")=b:=by cases b<;>decide +kernel
def CH{a b:Bool}(h:sd a=sd b):a=b:=by
 have:=qd a;rw[h,qd]at this;exact this.symm
abbrev nk(b:Bool)(p:Nat):List Ky:=[.inr (sd b),.inl (p:Int)]
def rV{a b:Bool}{p q:Nat}(h:nk a p=nk b q):a=b/\p=q:=by
 unfold nk at h;injection h with h1 h2;injection h1 with h1;injection h2 with h2;injection h2 with h2;exact⟨CH h1,by lia⟩
abbrev bh(b:Bool)(x:Nat):D:=.tup [.str (sd b),.int x]
abbrev pick(h l:List Nat)(b:Bool):List Nat:=if b then h else l
abbrev k6(h l:List Nat)(k:Nat)(ks:List (List Ky))(vs:List D):Prop:=ks.length=vs.length/\ks.length<=2*k/\∀ b p,p<k->aF ks vs (nk b p)=some (bh b (at' (pick h l b) p))
def k6.next{h l:List Nat}{k:Nat}{ks:List (List Ky)}{vs:List D}(N:k6 h l k ks vs):k6 h l (k+1) (putD (putD ks vs (nk true k) (bh true (at' h k))).1 (putD ks vs (nk true k) (bh true (at' h k))).2 (nk false k) (bh false (at' l k))).1 (putD (putD ks vs (nk true k) (bh true (at' h k))).1 (putD ks vs (nk true k) (bh true (at' h k))).2 (nk false k) (bh false (at' l k))).2:=by
 obtain⟨n1,n2,n3⟩:=N;obtain⟨a1,a2⟩:=fX (x:=nk true k) (d:=bh true (at' h k)) n1;obtain⟨b1,b2⟩:=fX (x:=nk false k) (d:=bh false (at' l k)) a1;refine⟨b1,by lia,fun b p hp=>?_⟩;rw[eL a1,eL n1];by_cases e:p=k
 ·subst e;cases b
  ·rw[if_pos rfl];rfl
  ·rw[if_neg (fun c=>by have:=(rV c).1;cases this),if_pos rfl];rfl
 ·rw[if_neg (fun c=>e (rV c).2.symm),if_neg (fun c=>e (rV c).2.symm)];exact n3 b p (by lia)
def xE{fr:Nat}{n:Nat}{h l:List Nat}(hn:n<=10)(hh:h.length=2*n)(hl:l.length=2*n):∃ ks vs o,k6 h l (2*n) ks vs/\aO (ag cl [3,5,6] (gc fr)) [4] (L (List.range (2*n))) [some (.tup (L h)),some (.tup (L l)),some (.int n),some (.dT [] []),none,none,none,none,none]=some (.nx,[some (.tup (L h)),some (.tup (L l)),some (.int n),some (.dT ks vs),o,none,none,none,none]):=by
 obtain⟨σ',e,ks,vs,o,rfl,N⟩:=bU (f:=ag cl [3,5,6] (gc fr)) (tg:=[4]) (xs:=List.range (2*n)) (σ:=[some (.tup (L h)),some (.tup (L l)),some (.int n),some (.dT [] []),none,none,none,none,none])
  (fun p σ=>∃ ks vs o,σ=[some (.tup (L h)),some (.tup (L l)),some (.int n),some (.dT ks vs),o,none,none,none,none]/\k6 h l p.length ks vs) ⟨[],[],none,rfl,rfl,by simp,by simp⟩ (by
   rintro p x q σ hx ⟨ks,vs,o,rfl,N⟩;obtain⟨h1,h2⟩:=dz (g:=id) (by simpa using hx);simp only[id]at h2;subst h2;have i1:=fh (f:=h) (x:=p.length) (by lia);have i2:=fh (f:=l) (x:=p.length) (by lia);have a:=fX (x:=nk true p.length) (d:=bh true (at' h p.length)) N.1
   have m1:ks.length<most:=by have:=N.2.1;unfold most;lia
   have m2:(putD ks vs (nk true p.length) (bh true (at' h p.length))).1.length<most:=by have:=N.2.1;unfold most;lia
   refine⟨_,?_,_,_,some (.int (p.length:Int)),rfl,by simpa using N.next⟩;have k1:keysOf [.str (PySem.Str.ofString "high"),.int (p.length:Int)]=some (nk true p.length):=rfl;have k2:keysOf [.str (PySem.Str.ofString "low"),.int (p.length:Int)]=some (nk false p.length):=rfl
   have u1:da (.dT ks vs) (.tup [.str (PySem.Str.ofString "high"),.int (p.length:Int)]) (.tup [.str (PySem.Str.ofString "high"),.int (at' h p.length:Nat)])=some (.dT (putD ks vs (nk true p.length) (bh true (at' h p.length))).1 (putD ks vs (nk true p.length) (bh true (at' h p.length))).2):=by
    dsimp only[da];rw[k1,Option.bind_some,if_pos m1];rfl
   have u2:∀ ks vs,ks.length<most->da (.dT ks vs) (.tup [.str (PySem.Str.ofString "low"),.int (p.length:Int)]) (.tup [.str (PySem.Str.ofString "low"),.int (at' l p.length:Nat)])=some (.dT (putD ks vs (nk false p.length) (bh false (at' l p.length))).1 (putD ks vs (nk false p.length) (bh false (at' l p.length))).2):=by
    intro ks vs m;dsimp only[da];rw[k2,Option.bind_some,if_pos m];rfl
   simp only[a8,gc,ag,evS,ev,evs,List.set,Option.bind_some,List.getElem?_cons_zero,List.getElem?_cons_succ,id,i1,i2,Option.map_some,D.imm,aq,Bool.and_self,if_true,u1,u2 _ _ m2])
 simp only[List.length_range]at N;exact⟨ks,vs,o,N,e⟩
abbrev stp(n:Nat)(h l:List Nat)(s:Bool × Nat):Bool × Nat:=if s.1=decide (n<=s.2)then(!s.1,at' (pick h l (!s.1)) ((s.2+n)%(2*n)))else s
abbrev itr(n:Nat)(h l:List Nat):Nat->Bool × Nat->Bool × Nat
 | 0,s=>s
 | i+1,s=>stp n h l (itr n h l i s)
abbrev Tr(n:Nat)(s:Bool × Nat)(m:Nat):Prop:=s.1=decide (n<=s.2)/\s.2%n=m
abbrev GD(gk:List Ky)(gv:List D)(k:Nat)(P:Nat->Prop):Prop:=gk.length=gv.length/\gk.length<=k/\∀ m:Nat,(aF gk gv (.inl (m:Int))).isSome=true↔P m
def GD.put{gk:List Ky}{gv:List D}{k:Nat}{P:Nat->Prop}(G:GD gk gv k P)(m0:Nat)(d:D):GD (putD gk gv (.inl (m0:Int)) d).1 (putD gk gv (.inl (m0:Int)) d).2 (k+1) (fun m=>P m\/m0=m):=by
 obtain⟨g1,g2,g3⟩:=G;obtain⟨a1,a2⟩:=fX (x:=(.inl (m0:Int):Ky)) (d:=d) g1;refine⟨a1,by lia,fun m=>?_⟩;rw[eL g1];by_cases e:m0=m
 ·subst e;simp
 ·rw[if_neg (fun c=>e (by injection c;lia)),g3];simp[e]
def GD.mono{gk:List Ky}{gv:List D}{k k':Nat}{P Q:Nat->Prop}(G:GD gk gv k P)(hk:k<=k')(h:∀ m,P m↔Q m):GD gk gv k' Q :=
 ⟨G.1,by have:=G.2.1;lia,fun m=>(G.2.2 m).trans (h m)⟩
abbrev hst(n:Nat)(h l:List Nat)(ks:List (List Ky))(vs:List D)(o4:Option D)(fnd:List Nat)(gk:List Ky)(gv:List D)(o7 o8:Option D):St :=
 [some (.tup (L h)),some (.tup (L l)),some (.int n),some (.dT ks vs),o4,some (.lst (L fnd)),some (.dK gk gv),o7,o8]
section
variable{fr n:Nat}{h l:List Nat}{ks:List (List Ky)}{vs:List D}{fnd:List Nat}
def rS(b:Bool)(x:Nat):ixV (bh b x) (.int 0)=some (.str (sd b)):=rfl
def mr(b:Bool)(x:Nat):ixV (bh b x) (.int 1)=some (.int (x:Nat)):=rfl
def mC(b:Bool):ixV (.lst [.str (PySem.Str.ofString "high"),.str (PySem.Str.ofString "low")]) (.int (if b=true then 1 else 0))=some (.str (sd !b)):=by cases b<;>rfl
def Bv(h1:1<=n)(hn:n<=10)(N:k6 h l (2*n) ks vs){b:Bool}{x:Nat}(hx:x<2*n){gk:List Ky}{gv:List D}{k:Nat}{P:Nat->Prop}(G:GD gk gv k P)(hk:k<=2000)(o4 o8:Option D)(t:D) :
  ∃ gk' gv',GD gk' gv' (k+1) (fun m=>P m\/Tr n (b,x) m)/\(a8 [8] t (hst n h l ks vs o4 fnd gk gv (some (bh b x)) o8)).bind (ag cl [3,5,6] (du fr))=some (.nx,hst n h l ks vs o4 fnd gk' gv' (some (bh (stp n h l (b,x)).1 (stp n h l (b,x)).2)) (some t)):=by
 have e1:aA .mul (.int 2) (.int n)=some (.int (2*n)):=bZ (by decide) (by decide)
 have cnd:ev cl (hst n h l ks vs o4 fnd gk gv (some (bh b x)) (some t)) (.cmp .eq (.cmp .eq (.ix (.var 7) (.cst (.int 0))) (.cst (.str "high"))) (.cmp .ge (.ix (.var 7) (.cst (.int 1))) (.var 2)))=some (.bl (b == decide (n<=x))):=by
  simp only[hst,ev,Option.bind_some,List.getElem?_cons_zero,List.getElem?_cons_succ,id,rS,mr,bF,eqD,qd,Option.map_some];simp
 by_cases e:b=decide (n<=x)
 ·refine⟨_,_,(G.put (x%n) (.bl true)).mono (Nat.le_refl _) (fun m=>by simp[Tr,e]),?_⟩
  have m1:aA .mod (.int (x:Nat)) (.int n)=some (.int ((x%n:Nat):Int)):=by rw[cP (by lia)];simp
  have m2:aA .mod (.int ((x:Nat)+(n:Int))) (.int (2*(n:Int)))=some (.int (((x+n)%(2*n):Nat):Int)):=by rw[cP (by lia)];simp
  have u:da (.dK gk gv) (.int ((x%n:Nat):Int)) (.bl true)=some (.dK (putD gk gv (.inl ((x%n:Nat):Int)) (.bl true)).1 (putD gk gv (.inl ((x%n:Nat):Int)) (.bl true)).2):=by
   dsimp only[da,keyOf];rw[Option.bind_some,if_pos (by have:=G.2.1;unfold most;lia)]
  have lk:nO (.dT ks vs) (.tup [.str (sd !b),.int (((x+n)%(2*n):Nat):Int)])=some (bh (!b) (at' (pick h l !b) ((x+n)%(2*n)))):=by
   have:=N.2.2 (!b) ((x+n)%(2*n)) (Nat.mod_lt _ (by lia));rw[<-this];rfl
  have s1:stp n h l (b,x)=(!b,at' (pick h l !b) ((x+n)%(2*n))):=by unfold stp;rw[if_pos e]
  rw[s1]
  have eb:(b == decide (n<=x))=true:=by simp[e]
  rw[eb]at cnd;simp only[a8,hst,List.set,Option.bind_some,du,ag,evS]at cnd ⊢;rw[cnd];simp only[Option.bind_some,truth,if_true,ag,evS,ev,evs,List.getElem?_cons_zero,List.getElem?_cons_succ,id,rS,mr,m1,u,D.imm,Option.map_some,List.set,bF,eqD,qd,biV,mC,bJ,e1,m2,lk];have ok:aP [3,5,6] (.ixD (.var 3) (.tup (.cons (.ix (.lst (.cons (.cst (.str "high")) (.cons (.cst (.str "low")) .nil))) (.bi .int (.cmp .eq (.ix (.var 7) (.cst (.int 0))) (.cst (.str "high"))))) (.cons (.bin .mod (.bin .add (.ix (.var 7) (.cst (.int 1))) (.var 2)) (.bin .mul (.cst (.int 2)) (.var 2))) .nil)))) (bh (!b) (at' (pick h l !b) ((x+n)%(2*n))))=true:=rfl;rw[if_pos ok];rfl
 ·refine⟨gk,gv,G.mono (by lia) (fun m=>by simp[Tr,e]),?_⟩
  have s1:stp n h l (b,x)=(b,x):=by unfold stp;rw[if_neg e]
  rw[s1]
  have eb:(b == decide (n<=x))=false:=by simp[e]
  rw[eb]at cnd;simp only[a8,hst,List.set,Option.bind_some,du,ag,evS]at cnd ⊢;rw[cnd];simp[truth,ag]
def DJ(hh:∀ x,x<2*n->at' h x<2*n)(hl:∀ x,x<2*n->at' l x<2*n){s:Bool × Nat}(hs:s.2<2*n):(stp n h l s).2<2*n:=by
 unfold stp;split
 ·have m:(s.2+n)%(2*n)<2*n:=Nat.mod_lt _ (by lia);cases s.1
  ·exact hh _ m
  ·exact hl _ m
 ·exact hs
def gZ(hh:∀ x,x<2*n->at' h x<2*n)(hl:∀ x,x<2*n->at' l x<2*n){s:Bool × Nat}(hs:s.2<2*n):∀ i,(itr n h l i s).2<2*n
 | 0=>hs
 | i+1=>DJ hh hl (gZ hh hl hs i)
abbrev Met(n:Nat)(h l:List Nat)(s:Bool × Nat)(i:Nat)(m:Nat):Prop:=∃ j,j<i/\Tr n (itr n h l j s) m
def B1(h1:1<=n)(hn:n<=10)(N:k6 h l (2*n) ks vs)(hh:∀ x,x<2*n->at' h x<2*n)(hl:∀ x,x<2*n->at' l x<2*n){s:Bool × Nat}(hs:s.2<2*n){gk:List Ky}{gv:List D}{k:Nat}{P:Nat->Prop}(G:GD gk gv k P)(hk:k<=1000)(o4 o8:Option D) :
  ∃ gk' gv' o8',GD gk' gv' (k+4*n) (fun m=>P m\/Met n h l s (4*n) m)/\aO (ag cl [3,5,6] (du fr)) [8] (L (List.range (4*n))) (hst n h l ks vs o4 fnd gk gv (some (bh s.1 s.2)) o8)=some (.nx,hst n h l ks vs o4 fnd gk' gv' (some (bh (itr n h l (4*n) s).1 (itr n h l (4*n) s).2)) o8'):=by
 obtain⟨σ',e,gk',gv',o8',rfl,G'⟩:=bU (f:=ag cl [3,5,6] (du fr)) (tg:=[8]) (xs:=List.range (4*n)) (σ:=hst n h l ks vs o4 fnd gk gv (some (bh s.1 s.2)) o8)
  (fun p σ=>∃ gk' gv' o8',σ=hst n h l ks vs o4 fnd gk' gv' (some (bh (itr n h l p.length s).1 (itr n h l p.length s).2)) o8'/\GD gk' gv' (k+p.length) (fun m=>P m\/Met n h l s p.length m))
  ⟨gk,gv,o8,rfl,G.mono (by simp) (fun m=>by simp[Met])⟩ (by
   rintro p x q σ hx ⟨gk',gv',o8',rfl,G'⟩;obtain⟨a1,a2⟩:=dz (g:=id) (by simpa using hx);obtain⟨gk2,gv2,G2,e2⟩:=Bv (cl:=cl) (fr:=fr) (fnd:=fnd) h1 hn N (gZ hh hl hs p.length) G' (by lia) o4 o8' (.int (x:Nat)) (b:=(itr n h l p.length s).1);refine⟨_,e2,gk2,gv2,_,by rw[List.length_append];rfl,G2.mono (by simp;lia) (fun m=>?_)⟩;simp only[Met,List.length_append,List.length_singleton];constructor
   ·rintro((hp | ⟨j,h1,h2⟩) | h2)
    ·exact .inl hp
    ·exact .inr ⟨j,by lia,h2⟩
    ·exact .inr ⟨p.length,by lia,h2⟩
   ·rintro(hp | ⟨j,h1,h2⟩)
    ·exact .inl (.inl hp)
    ·by_cases hj:j=p.length
     ·subst hj;exact .inr h2
     ·exact .inl (.inr ⟨j,by lia,h2⟩))
 simp only[List.length_range]at G' e;exact⟨gk',gv',o8',G',e⟩
abbrev beg(n:Nat)(h l:List Nat)(p:Nat):Bool × Nat:=(decide (p<n),at' (pick h l (decide (p<n))) p)
abbrev a7(n:Nat)(h l:List Nat):List Nat:=(List.range (2*n)).map fun p=>(itr n h l (4*n) (beg n h l p)).2
abbrev Gn(n:Nat)(h l:List Nat)(k m:Nat):Prop:=∃ p,p<k/\Met n h l (beg n h l p) (4*n) m
def GB(b:Bool):ixV (.lst [.str (PySem.Str.ofString "high"),.str (PySem.Str.ofString "low")]) (.int (if b=true then 1 else 0))=some (.str (sd !b)):=mC b
def Bp(h1:1<=n)(hn:n<=10)(N:k6 h l (2*n) ks vs)(hh:∀ x,x<2*n->at' h x<2*n)(hl:∀ x,x<2*n->at' l x<2*n)(o4 o7 o8:Option D) :
  ∃ gk gv o4' o7' o8',GD gk gv 1000 (Gn n h l (2*n))/\aO (ag cl [3,5,6] (fY fr)) [4] (L (List.range (2*n))) (hst n h l ks vs o4 [] [] [] o7 o8)=some (.nx,hst n h l ks vs o4' (a7 n h l) gk gv o7' o8'):=by
 have e4:aA .mul (.int 4) (.int n)=some (.int (4*n)):=bZ (by decide) (by decide);have r4:=bO (n:=4*n) (by lia);rw[show((4*n:Nat):Int)=4*(n:Int) by lia]at r4
 obtain⟨σ',e,gk,gv,o4',o7',o8',rfl,G⟩:=bU (f:=ag cl [3,5,6] (fY fr)) (tg:=[4]) (xs:=List.range (2*n)) (σ:=hst n h l ks vs o4 [] [] [] o7 o8)
  (fun p σ=>∃ gk gv o4' o7' o8',σ=hst n h l ks vs o4' ((List.range p.length).map fun p=>(itr n h l (4*n) (beg n h l p)).2) gk gv o7' o8'/\GD gk gv (40*p.length) (Gn n h l p.length))
  ⟨[],[],o4,o7,o8,rfl,rfl,by simp,fun m=>by simp[aF,Gn]⟩ (by
   rintro p x q σ hx ⟨gk,gv,o4',o7',o8',rfl,G⟩;obtain⟨a1,a2⟩:=dz (g:=id) (by simpa using hx);simp only[id]at a2;subst a2
   have hb:(beg n h l p.length).2<2*n:=by
    unfold beg pick;cases decide (p.length<n)
    ·exact hl _ a1
    ·exact hh _ a1
   obtain⟨gk2,gv2,o82,G2,e2⟩:=B1 (cl:=cl) (fr:=fr) (fnd:=(List.range p.length).map fun p=>(itr n h l (4*n) (beg n h l p)).2) h1 hn N hh hl hb G (by lia) (some (.int (p.length:Nat))) o8'
   have c1:bF .ge (.int (p.length:Nat)) (.int n)=some (!decide (p.length<n)):=by
    rw[yu];congr 1;by_cases c:p.length<n
    ·simp[c]
    ·simp[c];lia
   have lk:nO (.dT ks vs) (.tup [.str (sd (decide (p.length<n))),.int (p.length:Nat)])=some (bh (beg n h l p.length).1 (beg n h l p.length).2):=by
    have:=N.2.2 (decide (p.length<n)) p.length a1;rw[show bh (beg n h l p.length).1 (beg n h l p.length).2=bh (decide (p.length<n)) (at' (pick h l (decide (p.length<n))) p.length)from rfl,<-this];rfl
   have sx:=mC (!decide (p.length<n));rw[Bool.not_not]at sx;refine⟨hst n h l ks vs (some (.int (p.length:Nat))) ((List.range (p++[p.length]).length).map fun p=>(itr n h l (4*n) (beg n h l p)).2) gk2 gv2 (some (bh (itr n h l (4*n) (beg n h l p.length)).1 (itr n h l (4*n) (beg n h l p.length)).2)) o82,?_,gk2,gv2,_,_,_,rfl,G2.mono (by simp;lia) (fun m=>?_)⟩
   ·have ok:aP [3,5,6] (.ixD (.var 3) (.tup (.cons (.ix (.lst (.cons (.cst (.str "high")) (.cons (.cst (.str "low")) .nil))) (.bi .int (.cmp .ge (.var 4) (.var 2)))) (.cons (.var 4) .nil)))) (bh (beg n h l p.length).1 (beg n h l p.length).2)=true:=rfl;simp only[a8,hst,List.set,Option.bind_some,fY,ag,evS,ev,evs,aU,List.getElem?_cons_zero,List.getElem?_cons_succ,id,c1,Option.map_some,biV,sx,lk,e4,r4]at e2 ⊢;rw[if_pos ok];simp only[Option.bind_some,e4,r4,List.getElem?_cons_zero,List.getElem?_cons_succ,id,e2,mr]
    have ml:((D.int (((itr n h l (4*n) (beg n h l p.length)).2:Nat):Int)).imm&&decide ((L (List.map (fun p=>(itr n h l (4*n) (beg n h l p)).snd) (List.range p.length))).length<most))=true:=by
     simp[D.imm,aM,most];lia
    rw[if_pos ml];simp[L,List.range_succ]
   ·simp only[Gn,List.length_append,List.length_singleton];constructor
    ·rintro(⟨j,h1,h2⟩ | h2)
     ·exact⟨j,by lia,h2⟩
     ·exact⟨p.length,by lia,h2⟩
    ·rintro⟨j,h1,h2⟩;by_cases hj:j=p.length
     ·subst hj;exact .inr h2
     ·exact .inl ⟨j,by lia,h2⟩)
 simp only[List.length_range]at G e;exact⟨gk,gv,o4',o7',o8',G.mono (by lia) (fun _=>Iff.rfl),e⟩
def qK(h1:1<=n)(hn:n<=10)(h2:h.length=2*n)(l2:l.length=2*n)(hh:∀ x,x<2*n->at' h x<2*n)(hl:∀ x,x<2*n->at' l x<2*n) :
  ∃ inner:List Nat,(∀ m,m∈inner↔m<n/\¬ Gn n h l (2*n) m)/\inner.length<=n/\∀ r:Int,cl fr [.tup (L h),.tup (L l),.lst (L inner)]=some (.int r)->evF cl (dk fr) [.tup (L h),.tup (L l)]=some (.tup [.tup (L (a7 n h l)),.int r]):=by
 have e1:aA .mul (.int 2) (.int n)=some (.int (2*n)):=bZ (by decide) (by decide);have r2:=bO (n:=2*n) (by lia);rw[show((2*n:Nat):Int)=2*(n:Int) by lia]at r2;have r1:=bO (n:=n) (by lia);obtain⟨ks,vs,o,N,en⟩:=xE (cl:=cl) (fr:=fr) hn h2 l2;obtain⟨gk,gv,o4,o7,o8,G,eb⟩:=Bp (cl:=cl) (fr:=fr) h1 hn N hh hl o none none;refine⟨(List.range n).filter fun m:Nat=>!(aF gk gv (.inl (m:Int))).isSome,fun m=>?_,?_,?_⟩
 ·have:=G.2.2 m;simp[<-this]
 ·have:=List.length_filter_le (fun m:Nat=>!(aF gk gv (.inl (m:Int))).isSome) (List.range n);simpa using this
 ·intro r hr;have e6:=half (xs:=L h) (n:=n) (by rw[aM,h2]);have e7:=uV n;have ft:=kL (xs:=List.range n) (by simp;lia)
  have mc:=x9 (F:=fun σ1=>((ev cl σ1 (.inD true (.var 4) (.var 6))).bind truth).bind fun k=>if k then(ev cl σ1 (.var 4)).map some else some none) (tg:=[4]) (σ:=hst n h l ks vs o4 (a7 n h l) gk gv o7 o8) (g:=fun m=>.int (m:Nat)) (c:=fun m=>!(aF gk gv (.inl (m:Int))).isSome) (fun _=>rfl) (List.range n) (by
   intro x _;simp only[a8,hst,List.set,Option.bind_some,ev,List.getElem?_cons_zero,List.getElem?_cons_succ,id,zM,keyOf,Option.map_some,truth,if_true]
   cases(aF gk gv (.inl (x:Int))).isSome<;>rfl)
  simp only[evF,dk,ag,evS,ev,aU];simp[ev,e6,e7,aP,D.imm,a9,aq,e1,r2];rw[en];simp[ag,evS,ev,evs,aU,e1,r2,a9,aq,D.imm];simp[hst]at eb;rw[show L []=[]from rfl]at eb;rw[eb];simp[ag,evS,ev,evs,aU,r1,ft,biV,items];simp[ev,hst]at mc;rw[mc];rw[show(List.map (fun m:Nat=>D.int (m:Int)) (List.filter (fun m:Nat=>(aF gk gv (Sum.inl (m:Int))).isNone) (List.range n)))=L (List.filter (fun m:Nat=>(aF gk gv (Sum.inl (m:Int))).isNone) (List.range n))from rfl];simp at hr;simp[hr,aW,D.imm,aq,bj,aN]
end
def qq{κ:Type} [DecidableEq κ]:∀ {ks:List κ} {vs:List D} {x:κ} {d:D},aF ks vs x=some d->x∈ks
 | k::ks,v::vs,x,d,h=>by
  rw[aF]at h;by_cases e:k=x
  ·simp[e]
  ·rw[if_neg e]at h;simp[qq h]
def Aa{κ:Type} [DecidableEq κ]{ks:List κ}{vs:List D}{x:κ}{d e:D}(h:aF ks vs x=some d):(putD ks vs x e).1=ks:=by
 unfold putD;rw[if_pos (qq h)]
abbrev HI(inner:List Nat)(hk:List Ky)(hv:List D):Prop:=hk.length=hv.length/\hk.length<=10/\∀ m∈inner,∃ v:Int,aF hk hv (.inl (m:Int))=some (.int v)
def HI.put{inner:List Nat}{hk:List Ky}{hv:List D}(H:HI inner hk hv){m:Nat}(hm:m∈inner)(v:Int):HI inner (putD hk hv (.inl (m:Int)) (.int v)).1 (putD hk hv (.inl (m:Int)) (.int v)).2:=by
 obtain⟨a,b,c⟩:=H;obtain⟨v0,h0⟩:=c m hm;refine⟨(fX a).1,by rw[Aa h0];exact b,fun i hi=>?_⟩;rw[eL a];by_cases e:(.inl (m:Int):Ky)=.inl (i:Int)
 ·rw[if_pos e];exact⟨v,rfl⟩
 ·rw[if_neg e];exact c i hi
abbrev rst(n:Nat)(h l inner:List Nat)(hk:List Ky)(hv:List D)(o5 o6 o7 o8 o9:Option D):St :=
 [some (.tup (L h)),some (.tup (L l)),some (.lst (L inner)),some (.int n),some (.dK hk hv),o5,o6,o7,o8,o9]
section
variable{n:Nat}{h l inner:List Nat}
def gb{hk:List Ky}{hv:List D}{m:Nat}{v:Int}(e:aF hk hv (.inl (m:Int))=some (.int v)):nO (.dK hk hv) (.int (m:Nat))=some (.int v):=e
def AS{hk:List Ky}{hv:List D}(H:HI inner hk hv)(o5 o6 o7:Option D)(keep go:Int):∃ hk' hv' o7',HI inner hk' hv'/\aO (ag cl [4] bH) [7] (L inner) (rst n h l inner hk hv o5 o6 o7 (some (.int keep)) (some (.int go)))=some (.nx,rst n h l inner hk' hv' o5 o6 o7' (some (.int keep)) (some (.int go))):=by
 obtain⟨σ',e,hk',hv',o7',rfl,H'⟩:=bU (f:=ag cl [4] bH) (tg:=[7]) (xs:=inner) (σ:=rst n h l inner hk hv o5 o6 o7 (some (.int keep)) (some (.int go)))
  (fun p σ=>∃ hk' hv' o7',σ=rst n h l inner hk' hv' o5 o6 o7' (some (.int keep)) (some (.int go))/\HI inner hk' hv') ⟨hk,hv,o7,rfl,H⟩ (by
   rintro p x q σ hx ⟨hk',hv',o7',rfl,H'⟩
   have hm:x∈inner:=by rw[hx];simp
   obtain⟨v,hv0⟩:=H'.2.2 x hm;have lk:=gb hv0;by_cases c:v=go
   ·refine⟨_,?_,_,_,some (.int (x:Nat)),rfl,H'.put hm keep⟩
    have cc:(v == go)=true:=by simp[c]
    have u:da (.dK hk' hv') (.int (x:Nat)) (.int keep)=some (.dK (putD hk' hv' (.inl (x:Int)) (.int keep)).1 (putD hk' hv' (.inl (x:Int)) (.int keep)).2):=by
     dsimp only[da,keyOf];rw[Option.bind_some,if_pos (by have:=H'.2.1;unfold most;lia)]
    simp only[a8,rst,List.set,Option.bind_some,bH,ag,evS,ev,List.getElem?_cons_zero,List.getElem?_cons_succ,id,lk,dO,cc,Option.map_some,truth,if_true,D.imm,u]
   ·refine⟨_,?_,hk',hv',some (.int (x:Nat)),rfl,H'⟩
    have cc:(v == go)=false:=by simp[c]
    simp only[a8,rst,List.set,Option.bind_some,bH,ag,evS,ev,List.getElem?_cons_zero,List.getElem?_cons_succ,id,lk,dO,cc,Option.map_some,truth]
    rfl)
 exact⟨hk',hv',o7',H',e⟩
def zK{hk:List Ky}{hv:List D}(H:HI inner hk hv){m:Nat}(hm:m∈inner){xs:List Nat}(hxs:∀ x∈xs,x∈inner)(o6 o7 o8 o9:Option D):∃ hk' hv' o6' o7' o8' o9',HI inner hk' hv'/\aO (ag cl [4] cj) [6] (L xs) (rst n h l inner hk hv (some (.int (m:Nat))) o6 o7 o8 o9)=some (.nx,rst n h l inner hk' hv' (some (.int (m:Nat))) o6' o7' o8' o9'):=by
 obtain⟨σ',e,hk',hv',o6',o7',o8',o9',rfl,H'⟩:=bU (f:=ag cl [4] cj) (tg:=[6]) (xs:=xs) (σ:=rst n h l inner hk hv (some (.int (m:Nat))) o6 o7 o8 o9)
  (fun p σ=>∃ hk' hv' o6' o7' o8' o9',σ=rst n h l inner hk' hv' (some (.int (m:Nat))) o6' o7' o8' o9'/\HI inner hk' hv') ⟨hk,hv,o6,o7,o8,o9,rfl,H⟩ (by
   rintro p x q σ hx ⟨hk',hv',o6',o7',o8',o9',rfl,H'⟩;have hx':x∈inner:=hxs x (by rw[hx];simp);obtain⟨v,hv0⟩:=H'.2.2 x hx';obtain⟨w,hw0⟩:=H'.2.2 m hm;have lk:=gb hv0;have lw:=gb hw0;obtain⟨hk2,hv2,o72,H2,e2⟩:=AS (cl:=cl) (n:=n) (h:=h) (l:=l) H' (some (.int (m:Nat))) (some (.int (x:Nat))) o7' w v;refine⟨_,?_,hk2,hv2,some (.int (x:Nat)),o72,some (.int w),some (.int v),rfl,H2⟩
   ·simp only[a8,rst,List.set,Option.bind_some,cj,ag,evS,ev,aU,items,List.getElem?_cons_zero,List.getElem?_cons_succ,id,lk,lw,D.imm,Bool.and_self,if_true]at e2 ⊢;rw[e2]
    rfl)
 exact⟨hk',hv',o6',o7',o8',o9',H',e⟩
def ints_map(v:Nat->Int):∀ xs:List Nat,cG (xs.map fun m=>.int (v m))=some (xs.map v)
 | []=>rfl
 | x::r=>by simp[cG,ints_map v r]
def wb(hn:n<=10)(h2:h.length=2*n)(l2:l.length=2*n)(hi:inner.length<=n)(hin:∀ m∈inner,m<n/\at' l m∈inner/\∃ j∈inner,at' h (n+m)=n+j):∃ r:Int,evF cl bW [.tup (L h),.tup (L l),.lst (L inner)]=some (.int r):=by
 have e6:=half (xs:=L h) (n:=n) (by rw[aM,h2]);have e7:=uV n
 obtain⟨σ1,l1,hk,hv,o5,rfl,H0,H1,H2⟩:=bU (f:=ag cl [4] dE) (tg:=[5]) (xs:=inner) (σ:=rst n h l inner [] [] none none none none none)
  (fun p σ=>∃ hk hv o5,σ=rst n h l inner hk hv o5 none none none none/\hk.length=hv.length/\hk.length<=p.length/\∀ m∈p,∃ v:Int,aF hk hv (.inl (m:Int))=some (.int v)) ⟨[],[],none,rfl,rfl,by simp,by simp⟩ (by
   rintro p x q σ hx ⟨hk,hv,o5,rfl,H0,H1,H2⟩
   have hp:p.length<10:=by
    have:=congrArg List.length hx;simp at this;lia
   have pl:=fX (x:=(.inl (x:Int):Ky)) (d:=.int (x:Nat)) H0;refine⟨_,?_,(putD hk hv (.inl (x:Int)) (.int (x:Nat))).1,(putD hk hv (.inl (x:Int)) (.int (x:Nat))).2,some (.int (x:Nat)),rfl,pl.1,by have:=pl.2;simp;lia,fun m hm=>?_⟩
   ·have u:da (.dK hk hv) (.int (x:Nat)) (.int (x:Nat))=some (.dK (putD hk hv (.inl (x:Int)) (.int (x:Nat))).1 (putD hk hv (.inl (x:Int)) (.int (x:Nat))).2):=by
     dsimp only[da,keyOf];rw[Option.bind_some,if_pos (by unfold most;lia)]
    simp only[a8,rst,List.set,Option.bind_some,dE,ag,evS,ev,List.getElem?_cons_zero,List.getElem?_cons_succ,id,D.imm,if_true,u,Option.map_some]
   ·rw[eL H0];by_cases e:(.inl (x:Int):Ky)=.inl (m:Int)
    ·rw[if_pos e];exact⟨_,rfl⟩
    ·rw[if_neg e];simp at hm;rcases hm with hm | hm
     ·exact H2 m hm
     ·exact absurd (by rw[hm]) e)
 have H:HI inner hk hv:=⟨H0,by lia,H2⟩
 obtain⟨σ2,l2',hk',hv',o5',o6',o7',o8',o9',rfl,H'⟩:=bU (f:=ag cl [4] dF) (tg:=[5]) (xs:=inner) (σ:=rst n h l inner hk hv o5 none none none none)
  (fun p σ=>∃ hk hv o5 o6 o7 o8 o9,σ=rst n h l inner hk hv o5 o6 o7 o8 o9/\HI inner hk hv) ⟨hk,hv,o5,none,none,none,none,rfl,H⟩ (by
   rintro p x q σ hx ⟨hk',hv',o5',o6',o7',o8',o9',rfl,H'⟩
   have hm:x∈inner:=by rw[hx];simp
   obtain⟨xn,ha,j,hj,hjj⟩:=hin x hm;obtain⟨hk2,hv2,o62,o72,o82,o92,H2,e2⟩:=zK (cl:=cl) (n:=n) (h:=h) (l:=l) H' hm (xs:=[at' l x,j]) (by intro y hy;simp at hy;rcases hy with rfl | rfl<;>assumption) o6' o7' o8' o9';have i1:=fh (f:=l) (x:=x) (by lia);have i2:=fh (f:=h) (x:=n+x) (by lia);rw[hjj]at i2
   have s1:((n+x:Nat):Int)=(n:Int)+x:=by lia
   have s2:((n+j:Nat):Int)-n=(j:Nat):=by lia
   rw[s1]at i2;refine⟨_,?_,hk2,hv2,some (.int (x:Nat)),o62,o72,o82,o92,rfl,H2⟩;simp only[a8,rst,List.set,Option.bind_some,dF,ag,evS,ev,evs,aU,items,List.getElem?_cons_zero,List.getElem?_cons_succ,id,i1,i2,bJ,dI,s2,Option.map_some]at e2 ⊢;simp only[L,List.map_cons,List.map_nil]at e2 ⊢;rw[e2]
   rfl)
 let v:Nat->Int:=fun m=>match aF hk' hv' (.inl (m:Int))with
  | some (.int v)=>v
  | _=>0
 have mc:=gj (F:=fun σ1=>(ev cl σ1 (.ixD (.var 4) (.var 5))).map some) (tg:=[5]) (σ:=rst n h l inner hk' hv' o5' o6' o7' o8' o9') (g:=fun m=>.int (v m)) (fun _=>rfl) inner (by
  intro x hx;obtain⟨w,hw⟩:=H'.2.2 x hx
  have vw:v x=w:=by simp only[v,hw]
  have lk:=gb hw
  simp only[a8,rst,List.set,Option.bind_some,ev,List.getElem?_cons_zero,List.getElem?_cons_succ,id,lk,Option.map_some,vw])
 have ft:=kL (xs:=inner) (by lia);refine⟨((gp (inner.map v)).length:Int),?_⟩
 have ls:biV .lenSet (.lst (inner.map fun m=>.int (v m)))=some (.int ((gp (inner.map v)).length:Int)):=by
  dsimp only[biV];rw[if_pos (by simp;lia),ints_map];rfl
 simp only[rst]at l1 l2' mc;simp only[evF,bW,ag,evS,ev,aU];simp[ev,e6,e7,aP,D.imm,a9,aq,items];rw[l1];simp[ag,evS,ev,aU,items];rw[l2'];simp[ag,evS,ev,aU,items,ft];simp[ev]at mc;rw[mc];simp[ls,aW,D.imm,aN]
end
abbrev bT(n:Nat)(f:List Nat):List Nat:=(List.range (2*n)).map fun p=>if p<n then(if at' f p<n then at' f p else p+n)else(if at' f (p-n)<n then at' f (p-n)+n else p-n)
def eU{n:Nat}{f:List Nat}{p:Nat}(h:p<2*n):at' (bT n f) p=if p<n then(if at' f p<n then at' f p else p+n)else(if at' f (p-n)<n then at' f (p-n)+n else p-n):=by
 unfold bT;rw[at'];rw[List.getElem?_map,List.getElem?_range h];rfl
def dh{n:Nat}{h l:List Nat}{s:Bool × Nat}(hs:stp n h l s=s):∀ i,itr n h l i s=s
 | 0=>rfl
 | i+1=>by rw[itr,dh hs i,hs]
def fP{n:Nat}{h l:List Nat}{s t:Bool × Nat}(hs:stp n h l s=t)(ht:stp n h l t=t):∀ i,itr n h l (i+1) s=t
 | 0=>hs
 | i+1=>by rw[itr,fP hs ht i,ht]
section
variable{n:Nat}{f:List Nat}
def tZ(F:Frm n f){p:Nat}(h:p<n):at' (aZ n f) p=if at' f (p+n)<n then at' f (p+n)+n else at' f (p+n)-n:=by
 rw[oZ (by lia),Nat.mod_eq_of_lt (a:=p+n) (by lia)];have:=F.lt (p+n) (by lia);split
 ·rw[Nat.mod_eq_of_lt (by lia)]
 ·rw[Nat.mod_eq_sub_mod (by lia),Nat.mod_eq_of_lt (by lia)];lia
def By(F:Frm n f){p:Nat}(h:n<=p)(h2:p<2*n):at' (aZ n f) p=if at' f (p-n)<n then at' f (p-n)+n else at' f (p-n)-n:=by
 rw[oZ (by lia),show(p+n)%(2*n)=p-n by rw[Nat.mod_eq_sub_mod (by lia),Nat.mod_eq_of_lt (by omega)];lia];have:=F.lt (p-n) (by lia);split
 ·rw[Nat.mod_eq_of_lt (by lia)]
 ·rw[Nat.mod_eq_sub_mod (by lia),Nat.mod_eq_of_lt (by lia)];lia
def uw(F:Frm n f){p:Nat}(hp:p<2*n):(∀ i,(itr n f (aZ n f) (i+1) (beg n f (aZ n f) p)).2=at' (bT n f) p)/\∀ i m,m<n->Tr n (itr n f (aZ n f) i (beg n f (aZ n f) p)) m->at' f (n+m)<n:=by
 rw[eU hp];by_cases h:p<n
 ·have b0:beg n f (aZ n f) p=(true,at' f p):=by simp[beg,h,pick]
  rw[b0,if_pos h];have l0:=F.lt p (by lia);by_cases c:at' f p<n
  ·have st:stp n f (aZ n f) (true,at' f p)=(true,at' f p):=by
    unfold stp;rw[if_neg (by simp;lia)]
   refine⟨fun i=>by rw[dh st,if_pos c],fun i m hm t=>?_⟩;rw[dh st]at t;have:=t.1;simp at this;lia
  ·have st:stp n f (aZ n f) (true,at' f p)=(false,p+n):=by
    unfold stp;rw[if_pos (by simp;lia)];show(false,at' (aZ n f) ((at' f p+n)%(2*n)))=_;rw[show(at' f p+n)%(2*n)=at' f p-n by rw[Nat.mod_eq_sub_mod (by lia),Nat.mod_eq_of_lt (by lia)];lia,tZ F (by lia),show at' f p-n+n=at' f p by lia,F.inv,if_pos h]
   have s2:stp n f (aZ n f) (false,p+n)=(false,p+n):=by
    unfold stp;rw[if_neg (by simp)]
   refine⟨fun i=>by rw[fP st s2,if_neg c],fun i m hm t=>?_⟩
   cases i with
   |zero=>
    have t2:=t.2;simp only[itr]at t2
    have:n+m=at' f p:=by
     rw[Nat.mod_eq_sub_mod (by lia),Nat.mod_eq_of_lt (by omega)]at t2;lia
    rw[this,F.inv];exact h
   |succ i=>
    rw[fP st s2]at t;have:=t.1;simp at this
 ·have b0:beg n f (aZ n f) p=(false,at' (aZ n f) p):=by simp[beg,h,pick]
  rw[b0,if_neg h,By F (by lia) hp];have l0:=F.lt (p-n) (by lia);by_cases c:at' f (p-n)<n
  ·rw[if_pos c,if_pos c]
   have st:stp n f (aZ n f) (false,at' f (p-n)+n)=(false,at' f (p-n)+n):=by
    unfold stp;rw[if_neg (by simp)]
   refine⟨fun i=>by rw[dh st],fun i m hm t=>?_⟩;rw[dh st]at t;have:=t.1;simp at this
  ·rw[if_neg c,if_neg c]
   have st:stp n f (aZ n f) (false,at' f (p-n)-n)=(true,p-n):=by
    unfold stp;rw[if_pos (by simp;lia)];show(true,at' f ((at' f (p-n)-n+n)%(2*n)))=_;rw[show at' f (p-n)-n+n=at' f (p-n) by lia,Nat.mod_eq_of_lt l0,F.inv]
   have s2:stp n f (aZ n f) (true,p-n)=(true,p-n):=by
    unfold stp;rw[if_neg (by simp;lia)]
   refine⟨fun i=>by rw[fP st s2],fun i m hm t=>?_⟩
   cases i with
   |zero=>
    have t2:=t.2;simp only[itr]at t2;rw[Nat.mod_eq_of_lt (by omega)]at t2
    have:n+m=at' f (p-n):=by lia
    rw[this,F.inv];lia
   |succ i=>
    rw[fP st s2]at t;have:=t.1;simp at this;lia
def wQ(h1:1<=n)(F:Frm n f):a7 n f (aZ n f)=bT n f:=by
 apply xJ (n:=n) (by simp[a7]) (by simp[bT]);funext p;by_cases hp:p<2*n
 ·have:=(uw F hp).1 (4*n-1);rw[<-this,show 4*n-1+1=4*n by lia];simp[at',a7,hp]
 ·rw[eC (by simp[a7];lia),eC (by simp[bT];lia)]
def qv(h1:1<=n)(F:Frm n f){m:Nat}(hm:m<n):Gn n f (aZ n f) (2*n) m↔at' f (n+m)<n:=by
 constructor
 ·rintro⟨p,hp,j,hj,t⟩;exact(uw F hp).2 j m hm t
 ·intro h;refine⟨at' f (n+m),by lia,0,by lia,?_⟩
  have b0:beg n f (aZ n f) (at' f (n+m))=(true,n+m):=by simp[beg,h,pick,F.inv]
  rw[itr,b0];refine⟨by simp,?_⟩;show(n+m)%n=m;rw[Nat.add_mod_left,Nat.mod_eq_of_lt hm]
def AQ(F:Frm n f):Frm n (bT n f):=by
 have lt:∀ x,x<2*n->at' (bT n f) x<2*n:=by
  intro x hx;rw[eU hx];have a:=F.lt x hx;have b:=F.lt (x-n) (by lia)
  repeat' split
  all_goals lia
 refine⟨by simp[bT],lt,fun x=>?_,fun x hx=>?_⟩
 ·by_cases hx:x<2*n
  ·rw[eU (lt x hx),eU hx];by_cases c:x<n
   ·rw[if_pos c];by_cases d:at' f x<n
    ·rw[if_pos d,if_pos d,F.inv,if_pos c]
    ·rw[if_neg d,if_neg (by lia),show x+n-n=x by lia,if_neg d]
   ·rw[if_neg c];by_cases d:at' f (x-n)<n
    ·rw[if_pos d,if_neg (by lia),show at' f (x-n)+n-n=at' f (x-n) by lia,F.inv,if_pos (by lia)];lia
    ·rw[if_neg d,if_pos (by lia),if_neg d];lia
  ·have e:at' (bT n f) x=x:=eC (by simp[bT];lia);rw[e,e]
 ·rw[eU hx];have a:=F.no x hx;have b:=F.no (x-n) (by lia)
  repeat' split
  all_goals lia
def xM(F:Frm n f){q:Nat}(h:q<n):rnd n f q=if at' f q<n then at' f q else 3*n-1-at' f q:=by
 unfold rnd;rw[show rd n q=q by simp[rd,h]];rfl
def uf(F:Frm n f){q:Nat}(h:q<2*n):rnd n (bT n f) q=if q<n then(if at' f q<n then at' f q else 2*n-1-q)else(if at' f (2*n-1-q)<n then 2*n-1-at' f (2*n-1-q)else 2*n-1-q):=by
 unfold rnd;rw[eU (aK h)];by_cases c:q<n
 ·have e:rd n q=q:=by simp[rd,c]
  rw[e,if_pos c,if_pos c];by_cases d:at' f q<n
  ·rw[if_pos d,if_pos d];simp[rd,d]
  ·rw[if_neg d,if_neg d];unfold rd;rw[if_neg (by lia)];lia
 ·have e:rd n q=3*n-1-q:=by simp[rd,c]
  rw[e,if_neg c,if_neg (by lia),show 3*n-1-q-n=2*n-1-q by lia];by_cases d:at' f (2*n-1-q)<n
  ·rw[if_pos d,if_pos d];unfold rd;rw[if_neg (by lia)];lia
  ·rw[if_neg d,if_neg d];unfold rd;rw[if_pos (by omega)]
def Cf(V:Val n f):Val n (bT n f):=by
 have F:=V.frm;refine⟨AQ F,fun q q' h1 h2=>?_⟩
 have X:∀ a b,a<n->b<n->at' f a<n->¬ (a<b/\b<at' f a/\(at' f a<at' f b\/n<=at' f b)):=by
  intro a b ha hb hc ⟨c1,c2,c3⟩;have:=V.nox a b (by lia) (by lia);rw[xM F ha,xM F hb,if_pos hc]at this;have lb:=F.lt b (by lia);split at this<;>lia
 rw[uf F h1,uf F h2];rintro⟨a1,a2,a3⟩;by_cases c:q<n
 ·rw[if_pos c]at a2 a3;by_cases d:at' f q<n
  ·rw[if_pos d]at a2 a3;rw[if_pos (by lia:q'<n)]at a3;have:=X q q' c (by lia) d;split at a3<;>lia
  ·rw[if_neg d]at a2 a3;by_cases c':q'<n
   ·rw[if_pos c']at a3;split at a3<;>omega
   ·rw[if_neg c']at a3;by_cases d':at' f (2*n-1-q')<n
    ·rw[if_pos d']at a3;have:=X (at' f (2*n-1-q')) q d' c (by rw[F.inv];omega);rw[F.inv]at this;lia
    ·rw[if_neg d']at a3;lia
 ·rw[if_neg c]at a2 a3;rw[if_neg (by lia:¬ q'<n)]at a3;by_cases d:at' f (2*n-1-q)<n
  ·rw[if_pos d]at a2 a3;by_cases d':at' f (2*n-1-q')<n
   ·rw[if_pos d']at a3;have:=X (at' f (2*n-1-q')) (at' f (2*n-1-q)) d' d (by rw[F.inv];omega);rw[F.inv,F.inv]at this;omega
   ·rw[if_neg d']at a3;lia
  ·rw[if_neg d]at a2 a3;omega
def rB{fr:Nat}(h1:1<=n)(hn:n<=10)(F:Frm n f)(hr:∀ inner:List Nat,inner.length<=n->(∀ m∈inner,m<n/\at' (aZ n f) m∈inner/\∃ j∈inner,at' f (n+m)=n+j)->∃ r:Int,cl fr [.tup (L f),.tup (L (aZ n f)),.lst (L inner)]=some (.int r)) :
  ∃ r:Int,evF cl (dk fr) [.tup (L f),.tup (L (aZ n f))]=some (.tup [.tup (L (bT n f)),.int r]):=by
 have ol:(aZ n f).length=2*n:=by simp[aZ]
 have olt:∀ x,x<2*n->at' (aZ n f) x<2*n:=fun x hx=>by
  rw[oZ hx];exact Nat.mod_lt _ (by lia)
 obtain⟨inner,i1,i2,i3⟩:=qK (cl:=cl) (fr:=fr) h1 hn F.len ol F.lt olt
 have i1':∀ m,m∈inner↔m<n/\n<=at' f (n+m):=by
  intro m;rw[i1];constructor
  ·rintro⟨a,b⟩;rw[qv h1 F a]at b;exact⟨a,by lia⟩
  ·rintro⟨a,b⟩;refine⟨a,?_⟩;rw[qv h1 F a];lia
 obtain⟨r,hr⟩:=hr inner i2 (fun m hm=>by
  obtain⟨a,b⟩:=(i1' m).mp hm;have lt:=F.lt (n+m) (by lia)
  have jm:at' f (n+m)-n∈inner:=by
   rw[i1'];refine⟨by lia,?_⟩;rw[show n+(at' f (n+m)-n)=at' f (n+m) by lia,F.inv];lia
  refine⟨a,?_,_,jm,by lia⟩;rw[tZ F a,Nat.add_comm m n,if_neg (by lia)]
  exact jm)
 exact⟨r,by rw[<-wQ h1 F];exact i3 r hr⟩
end
def xU{fhu fov ffr ftx fho fpl fdi:Nat}{scr:D}{k n:Nat}(h1:1<=n)(hn:n<=10)
 (hd:∃ ds:List Nat,iy ds [8,10 ^ 12,max 1 (n-1)]/\cl fdi [scr,.int k,.lst (L [8,10 ^ 12,max 1 (n-1)])]=some (.lst (L ds)))
 (hpl:cl fpl [.int n]=some (.tup (L (ay n))))
 (hho:∀ i:Nat,i+1<n->cl fho [.int n,.int i]=some (.tup (L (aw n i))))
 (htx:∀ r:Int,∃ w:List Bool,w.length=2*n/\dpf 0 w=some 0/\cl ftx [.int r,.int n]=some (.str (tx w)))
 (hfr:∀ w:List Bool,w.length=2*n->dpf 0 w=some 0->∃ f:List Nat,Val n f/\cl ffr [.str (tx w)]=some (.tup (L f)))
 (hov:∀ f:List Nat,f.length=2*n->cl fov [.tup (L f)]=some (.tup (L (aZ n f))))
 (hhu:∀ f:List Nat,Val n f->∃ (g:List Nat) (r:Int),Val n g/\cl fhu [.tup (L f),.tup (L (aZ n f))]=some (.tup [.tup (L g),.int r])) :
  ∃ f:List Nat,Val n f/\evF cl (iR fhu fov ffr ftx fho fpl fdi) [scr,.int k,.int n]=some (.tup (L f)):=by
 obtain⟨ds,⟨dl,dd⟩,hd⟩:=hd
 match ds,dl with
 |[a,b,c],_=>
  have hc:c<max 1 (n-1):=dd 2 c _ rfl rfl
  have mx:(if(n:Int)-1 > 1 then(n:Int)-1 else 1)=((max 1 (n-1):Nat):Int):=by
   split<;>lia
  have pw:aA .pow (.int 10) (.int 12)=some (.int ((10 ^ 12:Nat):Int)):=rfl;obtain⟨w,w1,w2,w3⟩:=htx b;obtain⟨f,V,f3⟩:=hfr w w1 w2;obtain⟨g,r,V',hu⟩:=hhu f V;have ho:=hov f V.frm.len
  have tl:∀ g:List Nat,aW [] (.cst .non) (.tup (L g))=true/\(D.tup (L g)).imm=true:=fun g=>by simp[aW,D.imm,bj]
  have ret:∀ (e:E) (g:List Nat),aW [] e (.tup (L g))=true:=fun e g=>by unfold aW;rw[(tl g).2];rfl
  have start:∀ {rest:Ss} {d:D},(∃ σ,ag cl [] rest [some scr,some (.int k),some (.int n),none,some (.int (a:Nat)),some (.int (b:Nat)),some (.int (c:Nat))]=some (.rt d,σ))->evF cl ⟨3,7,[],[],.cons (.unp [4,5,6] (.call fdi (.cons (.var 0) (.cons (.var 1) (.cons (.lst (.cons (.cst (.int 8)) (.cons (.bin .pow (.cst (.int 10)) (.cst (.int 12))) (.cons (.max (.cst (.int 1)) (.bin .sub (.var 2) (.cst (.int 1)))) .nil)))) .nil))))) rest⟩ [scr,.int k,.int n]=some d:=fun {rest d} ⟨σ,h⟩ =>
   bf rfl rfl (sf (oI (aa rfl) (aa rfl) (cY (aE aj (aE (az aj aj pw) (aE ((FV aj (az (aa rfl) aj dI)).trans (by rw[mx])) bK)))) hd) rfl rfl rfl h)
  have no:∀ {j:Nat},a≠j->∀ o,(ev cl [some scr,some (.int k),some (.int n),o,some (.int (a:Nat)),some (.int (b:Nat)),some (.int (c:Nat))] (.cmp .eq (.var 4) (.cst (.int (j:Nat)))))=some (.bl false):=fun {j} h o=>aT (aa rfl) aj (by rw[dO,beq_eq_false_iff_ne.mpr (by lia)]);have yes:∀ {j:Nat},a=j->∀ o,(ev cl [some scr,some (.int k),some (.int n),o,some (.int (a:Nat)),some (.int (b:Nat)),some (.int (c:Nat))] (.cmp .eq (.var 4) (.cst (.int (j:Nat)))))=some (.bl true):=fun {j} h o=>aT (aa rfl) aj (by rw[dO,h,beq_self_eq_true]);by_cases a0:a=0
  ·exact⟨ay n,eM n,start ⟨_,fM (bL (yes a0 _)) (aX (dR (aa rfl) hpl) (ret ..))⟩⟩
  ·by_cases a1:a=1/\1<n
   ·exact⟨aw n c,c9 hn (by lia),start ⟨_,cW (bL (no a0 _)) (fM (bL (fz (yes a1.1 _) (aT (aa rfl) aj (by rw[lY,decide_eq_true (by lia)])))) (aX (gB (aa rfl) (aa rfl) (hho c (by lia))) (ret ..)))⟩⟩
   ·have cnd:ev cl [some scr,some (.int k),some (.int n),none,some (.int (a:Nat)),some (.int (b:Nat)),some (.int (c:Nat))] (.and (.cmp .eq (.var 4) (.cst (.int 1))) (.cmp .gt (.var 2) (.cst (.int 1))))=some (.bl false):=by
     by_cases e1:a=1
     ·exact fz (yes e1 _) (aT (aa rfl) aj (by rw[lY,decide_eq_false (by lia)]))
     ·exact iT (no e1 _)
    have on:∀ {rest:Ss} {d:D},(∃ σ,ag cl [] rest [some scr,some (.int k),some (.int n),some (.tup (L f)),some (.int (a:Nat)),some (.int (b:Nat)),some (.int (c:Nat))]=some (.rt d,σ))->∃ σ,ag cl [] (.cons (.ife (.cmp .eq (.var 4) (.cst (.int 0))) (.cons (.ret (.call fpl (.cons (.var 2) .nil))) .nil) .nil) (.cons (.ife (.and (.cmp .eq (.var 4) (.cst (.int 1))) (.cmp .gt (.var 2) (.cst (.int 1)))) (.cons (.ret (.call fho (.cons (.var 2) (.cons (.var 6) .nil)))) .nil) .nil) (.cons (.asg 3 (.call ffr (.cons (.call ftx (.cons (.var 5) (.cons (.var 2) .nil))) .nil))) rest))) [some scr,some (.int k),some (.int n),none,some (.int (a:Nat)),some (.int (b:Nat)),some (.int (c:Nat))]=some (.rt d,σ):=fun⟨σ,h⟩ =>
     ⟨σ,cW (bL (no a0 _)) (cW (bL cnd) (aI (dR (gB (aa rfl) (aa rfl) w3) f3) (by unfold aP;rw[(tl f).2];rfl) h))⟩
    by_cases a2:a=2
    ·exact⟨g,V',start (on ⟨_,fM (bL (yes a2 _)) (aX (cA (gB (aa rfl) (dR (aa rfl) ho) hu) aj rfl) (ret ..))⟩)⟩
    ·exact⟨f,V,start (on ⟨_,cW (bL (no a2 _)) (aX (aa rfl) (ret ..))⟩)⟩
def iZ{F:St->Option (Option D)}{tg:List Nat}{σ:St}{h g:Nat->D}{c:Nat->Bool}(im:∀ x,(g x).imm=true):∀ xs:List Nat,(∀ x∈xs,(a8 tg (h x) σ).bind F=some (if c x then some (g x)else none))->cq F tg σ (xs.map h)=some ((xs.filter c).map g)
 | [],_=>rfl
 | x::r,hh=>by
  have a:=hh x (by simp);have b:=iZ im r (fun y hy=>hh y (by simp[hy]));rw[List.map_cons,cq]
  cases hb:a8 tg (h x) σ with
  | none=>rw[hb]at a;cases a
  |some σ1=>
   rw[hb]at a;simp only[Option.bind_some]at a ⊢;rw[a,b];cases hc:c x<;>simp[kJ,im,hc]
abbrev pr(f:List Nat)(p:Nat):D:=.tup [.int (p:Nat),.int (at' f p:Nat)]
def uq:∀ (f:List Nat) (k:Nat),di (k:Int) (L f)=(List.range f.length).map fun p=>.tup [.int ((k+p:Nat):Int),.int (at' f p:Nat)]
 | [],k=>rfl
 | x::r,k=>by
  rw[show L (x::r)=.int x::L r from rfl,di,show(k:Int)+1=((k+1:Nat):Int) by lia,uq r (k+1),List.length_cons,List.range_succ_eq_map,List.map_cons,List.map_map];congr 1;apply List.map_congr_left;intro p hp;simp at hp
  have e:at' (x::r) (p+1)=at' r p:=by simp[at',hp]
  simp[e];lia
def kK{f:List Nat}{m:Nat}(h:f.length=m):di 0 (L f)=(List.range m).map (pr f):=by
 have:=uq f 0;rw[h]at this;simp only[Nat.zero_add]at this;exact this
def rT{β:Type}{f:St->Option (Out × St)}{tg:List Nat}(g:β->D)(im:∀ b,(g b).imm=true)(I:List β->St->Prop):∀ (w done:List β) (σ:St),(∀ u b v σ,done++w=u++b::v->I u σ->∃ σ2,(a8 tg (g b) σ).bind f=some (.nx,σ2)/\I (u++[b]) σ2)->I done σ->∃ σ',aO f tg (w.map g) σ=some (.nx,σ')/\I (done++w) σ'
 | [],done,σ,_,h=>⟨σ,rfl,by simpa using h⟩
 | b::w,done,σ,hs,h=>by
  obtain⟨σ2,h1,h3⟩:=hs done b w σ rfl h;obtain⟨σ',h4,h5⟩:=rT g im I w (done++[b]) σ2 (fun pre e post σ he=>hs pre e post σ (by simpa using he)) h3;refine⟨σ',?_,by simpa using h5⟩;rw[List.map_cons,aO,if_pos (im b)]
  cases hb:a8 tg (g b) σ with
  | none=>rw[hb]at h1;cases h1
  |some σ1=>
   rw[hb]at h1;simp only[Option.bind_some]at h1 ⊢;rw[h1];exact h4
section
variable{n:Nat}{f:List Nat}
def mH{p:Nat}(hp:p<2*n):evF cl dm [.int n,.int (p:Nat)]=some (.int (rd n p:Nat)):=by
 have e1:aA .mul (.int 3) (.int n)=some (.int (3*n)):=bZ (by decide) (by decide);by_cases c:p<n
 ·have c1:decide ((p:Int)<n)=true:=by simp;lia
  simp[evF,dm,ag,evS,ev,dD,c1,truth,aW,D.imm,aN,rd,c]
 ·have c1:decide ((p:Int)<n)=false:=by simp;lia
  simp[evF,dm,ag,evS,ev,dD,c1,truth,e1,dI,aW,D.imm,aN,rd,c];lia
def xf{T:D}{to:Nat->Nat}(hn:n<=10)(F:Frm n f)(hT:∀ p:Nat,p<2*n->ixV T (.int (p:Nat))=some (.int (to p:Nat)))(hlt:∀ p,p<2*n->to p<2*n)(inj:∀ p q,p<2*n->q<2*n->to p=to q->p=q) :
  ∃ E:List Nat,E.length=2*n/\(∀ p,p<2*n->at' E (to p)=to (at' f p))/\evF cl kZ [.tup (L f),T]=some (.tup (L E)):=by
 have ln:=half (xs:=L f) (n:=n) (by rw[aM,F.len]);have en:=kK F.len
 have e0:aA .mul (.lst [.int 0]) (.int (2*(n:Int)))=some (.lst (L (List.replicate (2*n) 0))):=by
  dsimp only[aA];rw[if_pos ⟨by lia,by unfold most;lia,by simp[most];lia⟩]
  have:(2*(n:Int)).toNat=2*n:=by lia
  rw[this];simp[L]
 obtain⟨σ',e,E,o3,o4,rfl,El,EE⟩:=rT (f:=ag cl [2] ma) (tg:=[3,4]) (pr f) (fun _=>rfl)
  (fun u σ=>∃ (E:List Nat) (o3 o4:Option D),σ=[some (.tup (L f)),some T,some (.lst (L E)),o3,o4]/\E.length=2*n/\∀ p∈u,at' E (to p)=to (at' f p))
  (List.range (2*n)) [] [some (.tup (L f)),some T,some (.lst (L (List.replicate (2*n) 0))),none,none] (by
   rintro u p v σ hu ⟨E,o3,o4,rfl,El,EE⟩
   have hp:p<2*n:=by
    have:p∈List.range (2*n):=by
     simp only[List.nil_append]at hu;rw[hu];simp
    simpa using this
   have hpu:∀ x∈u,x<2*n/\x≠p:=by
    intro x hx;simp only[List.nil_append]at hu;have nd:(List.range (2*n)).Nodup:=List.nodup_range
    have m:x∈List.range (2*n):=by rw[hu];simp[hx]
    rw[hu,List.nodup_append]at nd;exact⟨by simpa using m,nd.2.2 x hx p (by simp)⟩
   have t1:=hT p hp;have t2:=hT (at' f p) (F.lt p hp);have pt:=gm (f:=E) (i:=to p) (j:=to (at' f p)) (by have:=hlt p hp;lia);refine⟨_,?_,E.set (to p) (to (at' f p)),some (.int (p:Nat)),some (.int (at' f p:Nat)),rfl,by simp[El],fun x hx=>?_⟩
   ·simp[a8,bo,pr,ma,ag,evS,ev,t1,t2,D.imm,pt]
   ·rw[bY (by have:=hlt p hp;lia)];simp at hx;rcases hx with hx | rfl
    ·rw[if_neg (fun c=>(hpu x hx).2 (inj x p (hpu x hx).1 hp c))];exact EE x hx
    ·rw[if_pos rfl])
  ⟨_,none,none,rfl,by simp,by simp⟩
 refine⟨E,El,fun p hp=>EE p (by simp[hp]),?_⟩;simp only[evF,kZ,ag,evS,ev,evs,aU];simp[ev,evs,ln,e0,a9,bj,eW,en];rw[e];simp[ag,evS,ev,biV,items,aW,D.imm,bj,aN]
def sk{fm frp fpo:Nat}(hn:n<=10)(F:Frm n f)(hpo:∀ xs:List D,cl fpo [.tup xs]=some (.int (xs.length / 2)))(hrp:∀ p:Nat,p<2*n->cl frp [.int n,.int (p:Nat)]=some (.int (rd n p:Nat)))
 (hm:∃ E:List Nat,E.length=2*n/\(∀ p,p<2*n->at' E (rd n p)=rd n (at' f p))/\cl fm [.tup (L f),.lst (L (cI n))]=some (.tup (L E))) :
  ∃ E:List Nat,E.length=2*n/\(∀ q,q<2*n->at' E q=rnd n f q)/\evF cl (gJ fm frp fpo) [.tup (L f)]=some (.tup (L E)):=by
 obtain⟨E,El,EE,hm⟩:=hm;refine⟨E,El,fun q hq=>?_,?_⟩
 ·have:=EE (rd n q) (aK hq);rw[b8 hq]at this;exact this
 ·have e1:aA .mul (.int 2) (.int n)=some (.int (2*n)):=bZ (by decide) (by decide);have r2:=bO (n:=2*n) (by lia);rw[show((2*n:Nat):Int)=2*(n:Int) by lia]at r2;have ft:=kL (xs:=List.range (2*n)) (by simp;lia);have po:=hpo (L f);rw[aM,F.len,show(((2*n:Nat):Int) / 2)=(n:Int) by lia]at po
  have mc:=gj (F:=fun σ1=>(ev cl σ1 (.call frp (.cons (.var 1) (.cons (.var 2) .nil)))).map some) (tg:=[2]) (σ:=[some (.tup (L f)),some (.int n),none]) (g:=fun p=>.int (rd n p:Nat)) (fun _=>rfl) (List.range (2*n)) (by
   intro x hx;simp at hx;have:=hrp x hx
   simp[a8,ev,evs,this])
  rw[yR,show(List.range (2*n)).map (fun p=>rd n p)=cI n from rfl]at mc;simp only[evF,gJ,ag,evS,ev,evs,aU];simp[ev,evs,po,aP,D.imm,e1,r2,ft];simp[ev,evs]at mc;rw[mc];simp[hm,aW,D.imm,bj,aN]
end
structure Op(r:Nat->Nat)(k:Nat)(W:List Nat):Prop where
 up:W.Pairwise (·<·)
 mem:∀ p,p∈W↔p<k/\k<=r p
section
variable{r:Nat->Nat}{m k:Nat}{W:List Nat}
def Op.push(O:Op r k W)(inv:∀ q,q<m->r (r q)=q)(hk:k<m)(h:k<r k):Op r (k+1) (W++[k]):=by
 refine⟨?_,fun p=>?_⟩
 ·rw[List.pairwise_append];exact⟨O.up,by simp,fun a ha b hb=>by simp at hb;have:=(O.mem a).mp ha;lia⟩
 ·simp only[List.mem_append,List.mem_singleton,O.mem];constructor
  ·rintro(⟨a,b⟩ | rfl)
   ·refine⟨by lia,?_⟩;by_cases c:r p=k
    ·have:=inv p (by lia);rw[c]at this;lia
    ·lia
   ·lia
  ·rintro⟨a,b⟩;by_cases c:p=k
   ·exact .inr c
   ·exact .inl ⟨by lia,by lia⟩
end
section
variable{n:Nat}{f:List Nat}
def qi{fu fi fp fc fo:Nat}(h1:1<=n)(hn:n<=10)(V:Val n f)(hpo:∀ xs:List D,cl fo [.tup xs]=some (.int (xs.length / 2)))(hc:cl fc [.int n]=some (.bl true))(hp:cl fp [.tup (L f)]=some (.bl true))
 (hi:∃ E:List Nat,E.length=2*n/\(∀ q,q<2*n->at' E q=rnd n f q)/\cl fi [.tup (L f)]=some (.tup (L E)))
 (hu:∀ E:List Nat,E.length=2*n->(∀ q,q<2*n->at' E (at' E q)=q)->(∀ q,q<2*n->at' E q≠q)->(∀ q q',q<2*n->q'<2*n->¬ (q<q'/\q'<at' E q/\at' E q<at' E q'))->(∀ q,q<2*n->at' E q<2*n)->cl fu [.tup (L E)]=some (.bl true)) :
  evF cl (gI fu fi fp fc fo) [.tup (L f)]=some (.bl true):=by
 have F:=V.frm;obtain⟨E,El,Ea,hi⟩:=hi;have rl:∀ q,q<2*n->rnd n f q<2*n:=fun q hq=>aK (F.lt _ (aK hq))
 have hu:=hu E El (fun q hq=>by
   rw[Ea q hq,Ea _ (rl q hq)];unfold rnd
   rw[b8 (F.lt _ (aK hq)),F.inv,b8 hq]) (fun q hq e=>by
   rw[Ea q hq]at e;unfold rnd at e;have:=congrArg (rd n) e;rw[b8 (F.lt _ (aK hq))]at this
   exact F.no _ (aK hq) this) (fun q q' h h'=>by
   rw[Ea q h,Ea q' h']
   exact V.nox q q' h h') (fun q hq=>by rw[Ea q hq];exact rl q hq)
 have e1:aA .mul (.int 2) (.int n)=some (.int (2*n)):=bZ (by decide) (by decide);have ln:=half (xs:=L f) (n:=n) (by rw[aM,F.len]);have po:=hpo (L f);rw[aM,F.len,show(((2*n:Nat):Int) / 2)=(n:Int) by lia]at po;have en:=kK F.len
 have ft:fits ((List.range (2*n)).map (pr f))=some ((List.range (2*n)).map (pr f)):=by
  unfold fits;rw[if_pos (by simp[most];lia)]
 have mc:=iZ (F:=fun σ1=>((ev cl σ1 (.cmp .eq (.var 3) (.var 4))).bind truth).bind fun k=>if k then(ev cl σ1 (.var 3)).map some else some none) (tg:=[3,4]) (σ:=[some (.tup (L f)),some (.int n),none,none,none]) (h:=pr f) (g:=fun p=>.int (p:Nat)) (c:=fun _=>false) (fun _=>rfl) (List.range (2*n)) (by
  intro x hx;simp at hx;have c2:((x:Int) == (at' f x:Nat))=false:=beq_eq_false_iff_ne.mpr (by have:=F.no x hx;lia)
  simp[a8,bo,pr,ev,dO,c2,truth])
 rw[show(List.range (2*n)).filter (fun _=>false)=[]from List.filter_eq_nil_iff.mpr (by simp),List.map_nil]at mc
 have ne0:bF .ne (.int (2*(n:Int))) (.int (2*(n:Int)))=some false:=by
  rw[HG];simp
 simp only[evF,gI,ag,evS,ev,evs,aU];simp[ev,evs,po,aP,D.imm,ln,e1,ne0,hc,hp,truth,ag,evS,aU,eW,en,ft];simp[ev]at mc;rw[mc];simp[ag,evS,ev,evs,a9,aq,hi,hu,truth,aW,D.imm,aN,avE]
def mT{fi:Nat}{x:D}(h:cl fi [x]=some (.bl true)):evF cl (eD fi) [x]=some .non:=by
 simp[evF,eD,ag,evS,ev,evs,h,truth,aN]
abbrev qf(n:Nat)(f:List Nat):D:=.lst (((List.range (2*n)).filter fun p=>decide (p<at' f p)).map (pr f))
def zQ{fc:Nat}(hn:n<=10)(F:Frm n f)(hc:cl fc [.tup (L f)]=some .non):evF cl (mW fc) [.tup (L f)]=some (qf n f):=by
 have en:=kK F.len
 have ft:fits ((List.range (2*n)).map (pr f))=some ((List.range (2*n)).map (pr f)):=by
  unfold fits;rw[if_pos (by simp[most];lia)]
 have mc:=iZ (F:=fun σ1=>((ev cl σ1 (.cmp .lt (.var 1) (.var 2))).bind truth).bind fun k=>if k then(ev cl σ1 (.tup (.cons (.var 1) (.cons (.var 2) .nil)))).map some else some none) (tg:=[1,2]) (σ:=[some (.tup (L f)),none,none]) (h:=pr f) (g:=pr f) (c:=fun p=>decide (p<at' f p)) (fun _=>rfl) (List.range (2*n)) (by
  intro x hx;by_cases c:x<at' f x
  ·have c2:decide ((x:Int)<(at' f x:Nat))=true:=by simp;lia
   simp[a8,bo,pr,ev,evs,dD,c2,truth,c]
  ·have c2:decide ((x:Int)<(at' f x:Nat))=false:=by simp;lia
   simp[a8,bo,pr,ev,evs,dD,c2,truth,c])
 have im:∀ xs:List Nat,aq (xs.map (pr f))=true:=by
  intro xs
  induction xs with
  | nil=>rfl
  | cons x r ih=>simp[aq,ih,pr,D.imm]
 simp only[evF,mW,ag,evS,ev,evs,aU];simp[ev,evs,hc,ag,evS,aU,eW,en,ft];simp[ev,evs]at mc;rw[mc];simp[aW,D.imm,a9,im,aN,qf]
end
def j6{β:Type}{F:St->Option (Option D)}{tg:List Nat}{σ:St}{h g:β->D}(im:∀ x,(g x).imm=true):∀ xs:List β,(∀ x∈xs,(a8 tg (h x) σ).bind F=some (some (g x)))->cq F tg σ (xs.map h)=some (xs.map g)
 | [],_=>rfl
 | x::r,hh=>by
  have a:=hh x (by simp);have b:=j6 im r (fun y hy=>hh y (by simp[hy]));rw[List.map_cons,cq]
  cases hb:a8 tg (h x) σ with
  | none=>rw[hb]at a;cases a
  |some σ1=>
   rw[hb]at a;simp only[Option.bind_some]at a ⊢;rw[a,b];simp[kJ,im]
section
variable{fs:Nat}{d:D}{kb ki kl kt:Bool}{res:Option (Out × St)}{r:Ss}
end
end RM
set_option maxHeartbeats 1000000
namespace RM
open RL RT
def vY{β:Type}{f:St->Option (Out × St)}{tg:List Nat}{d:D}{B:Prop}(g:β->D)(im:∀ b,(g b).imm=true)(I:List β->St->Prop):∀ (w done:List β) (σ:St),(∀ u b v σ,done++w=u++b::v->I u σ->(∃ σ2,(a8 tg (g b) σ).bind f=some (.nx,σ2)/\I (u++[b]) σ2)\/(B/\∃ σ2,(a8 tg (g b) σ).bind f=some (.rt d,σ2)))->I done σ->(∃ σ',aO f tg (w.map g) σ=some (.nx,σ')/\I (done++w) σ')\/(B/\∃ σ',aO f tg (w.map g) σ=some (.rt d,σ'))
 | [],done,σ,_,h=>.inl ⟨σ,rfl,by simpa using h⟩
 | b::w,done,σ,hs,h=>by
  rcases hs done b w σ rfl h with⟨σ2,h1,h3⟩ | ⟨hB,σ2,h1⟩
  ·have go:∀ {r:Option (Out × St)},aO f tg (w.map g) σ2=r->aO f tg ((b::w).map g) σ=r:=fun {r} e=>by
    rw[List.map_cons,aO,if_pos (im b)]
    cases hb:a8 tg (g b) σ with
    | none=>rw[hb]at h1;cases h1
    |some σ1=>
     rw[hb]at h1;simp only[Option.bind_some]at h1 ⊢;rw[h1];exact e
   rcases vY (d:=d) (B:=B) g im I w (done++[b]) σ2 (fun pre e post σ he=>hs pre e post σ (by simpa using he)) h3 with⟨σ',h4,h5⟩ | ⟨hB,σ',h4⟩
   ·exact .inl ⟨σ',go h4,by simpa using h5⟩
   ·exact .inr ⟨hB,σ',go h4⟩
  ·refine .inr ⟨hB,σ2,?_⟩;rw[List.map_cons,aO,if_pos (im b)]
   cases hb:a8 tg (g b) σ with
   | none=>rw[hb]at h1;cases h1
   |some σ1=>
    rw[hb]at h1;simp only[Option.bind_some]at h1 ⊢;rw[h1];rfl
def vR{cl:Cl}{M:List Nat}{σ:St}{i:Nat}{e:E}{a b r:Ss}{xs:List D}{p q:Int}{res:Option (Out × St)}(hi:(σ[i]?).bind id=some (.lst (xs++[.int p])))(h:ev cl (σ.set i (some (.lst xs))) e=some (.int q))(k:ag cl M (.cons (.ife (.cst (.bl (decide (p=q)))) b a) r) (σ.set i (some (.lst xs)))=res):ag cl M (.cons (.ifp i e a b) r) σ=res:=by
 have l:evS cl M (.ifp i e a b) σ=if decide (p=q)=true then ag cl M b (σ.set i (some (.lst xs)))else ag cl M a (σ.set i (some (.lst xs))):=by
  rw[evS,hi,Option.bind_some];show((xs++[D.int p])[(xs++[D.int p]).length-1]?).bind _=_;rw[show(xs++[D.int p])[(xs++[D.int p]).length-1]?=some (.int p) by simp,Option.bind_some,List.dropLast_concat,h];rfl
 have r':evS cl M (.ife (.cst (.bl (decide (p=q)))) b a) (σ.set i (some (.lst xs)))=if decide (p=q)=true then ag cl M b (σ.set i (some (.lst xs)))else ag cl M a (σ.set i (some (.lst xs))):=by
  rw[evS,aj];rfl
 rw[ag,r',<-l,<-ag]at k;exact k
abbrev Nx(r:Nat->Nat)(m:Nat):Prop:=∀ q q',q<q'->q'<r q->r q<m->¬ (r q<r q'\/r q'=q')
structure Oq(r:Nat->Nat)(k:Nat)(W:List Nat):Prop extends Op r k W where
 nx:Nx r k
 al:∀ q q',q<q'->q'<k->k<=r q->r q'≠q'
section
variable{r:Nat->Nat}{m k:Nat}{W:List Nat}
def Oq.push(O:Oq r k W)(inv:∀ q,q<m->r (r q)=q)(hk:k<m)(h:k<r k):Oq r (k+1) (W++[k]) where
 toOp:=O.toOp.push inv hk h
 nx:=fun q q' h1 h2 h3=>by
  by_cases c:r q=k
  ·exfalso;have:=inv q (by lia);rw[c]at this;lia
  ·exact O.nx q q' h1 h2 (by lia)
 al:=fun q q' h1 h2 h3=>by
  by_cases c:q'=k
  ·subst c;lia
  ·exact O.al q q' h1 (by lia) (by lia)
def Oq.alone(O:Oq r k [])(inv:∀ q,q<m->r (r q)=q)(hk:k<m)(h:r k=k):Oq r (k+1) []:=by
 have no:∀ q,q<k->k<=r q->False:=fun q h1 h2=>by
  have:=(O.mem q).mpr ⟨h1,h2⟩;cases this
 refine⟨⟨.nil,fun p=>⟨fun h=>(by cases h),fun⟨a,b⟩=>?_⟩⟩,fun q q' h1 h2 h3=>?_,fun q q' h1 h2 h3=>?_⟩
 ·by_cases c:p=k
  ·subst c;lia
  ·exact(no p (by lia) (by lia)).elim
 ·by_cases c:r q=k
  ·exfalso;have:=inv q (by lia);rw[c,h]at this;lia
  ·exact O.nx q q' h1 h2 (by lia)
 ·exact(no q (by lia) (by lia)).elim
def Oq.pop{W0:List Nat}(O:Oq r k (W0++[r k]))(inv:∀ q,q<m->r (r q)=q)(hk:k<m)(h:r k<k):Oq r (k+1) W0:=by
 have up:=O.up;rw[List.pairwise_append]at up;refine⟨⟨up.1,fun p=>?_⟩,fun q q' h1 h2 h3=>?_,fun q q' h1 h2 h3=>?_⟩
 ·constructor
  ·intro hp;have lt:=up.2.2 p hp (r k) (by simp);have:=(O.mem p).mp (by simp[hp]);refine⟨by lia,?_⟩;by_cases c:r p=k
   ·have i:=inv p (by lia);rw[c]at i;lia
   ·lia
  ·rintro⟨a,b⟩
   have pk:p≠k:=by rintro rfl;lia
   have:=(O.mem p).mpr ⟨by lia,by lia⟩;simp at this;rcases this with h | h
   ·exact h
   ·rw[h,inv k hk]at b;lia
 ·by_cases c:r q=k
  ·have i:=inv q (by lia);rw[c]at i;subst i;rintro(z | z)
   ·have mq:=(O.mem q').mpr ⟨by lia,by lia⟩;simp at mq;rcases mq with mq | mq
    ·have:=up.2.2 q' mq (r k) (by simp);lia
    ·lia
   ·exact O.al (r k) q' h1 (by lia) (by lia) z
  ·exact O.nx q q' h1 h2 (by lia)
 ·by_cases c:q'=k
  ·subst c;lia
  ·exact O.al q q' h1 (by lia) (by lia)
end
def BJ{cl:Cl}{m:Nat}{E:List Nat}(hm:m<=1000)(El:E.length=m)(inv:∀ q,q<m->at' E (at' E q)=q)(lt:∀ q,q<m->at' E q<m):∃ b:Bool,evF cl fR [.tup (L E)]=some (.bl b)/\(b=true->Nx (at' E) m)/\(Nx (at' E) m->b=true):=by
 have en:=kK El
 have st:=vY (B:=¬ Nx (at' E) m) (f:=ag cl [1] bQ) (tg:=[2,3]) (d:=.bl false) (pr E) (fun _=>rfl)
  (fun u σ=>∃ (W:List Nat) (o2 o3:Option D),σ=[some (.tup (L E)),some (.lst (L W)),o2,o3]/\Oq (at' E) u.length W/\W.length<=u.length)
  (List.range m) [] [some (.tup (L E)),some (.lst (L [])),none,none] (by
   rintro u p v σ hu ⟨W,o2,o3,rfl,O,Wl⟩;obtain⟨hk,hp⟩:=dz (g:=id) (by simpa using hu);simp only[id]at hp;subst hp
   have ml:(L W).length<most:=by rw[aM];unfold most;lia
   by_cases c:u.length<at' E u.length
   ·refine .inl ⟨_,show ag cl [1] bQ [some (.tup (L E)),some (.lst (L W)),some (.int (u.length:Nat)),some (.int (at' E u.length:Nat))]=some (.nx,_)from iV (bL (aT (k:=true) (aa rfl) (aa rfl) (by rw[lY,decide_eq_true (by lia)]))) (qW (aa rfl) rfl rfl ml aR) aR,W++[u.length],some (.int (u.length:Nat)),some (.int (at' E u.length:Nat)),?_,?_,?_⟩
    ·rw[de];rfl
    ·rw[List.length_append];exact O.push inv hk c
    ·simp;lia
   ·have cg:(ev cl [some (.tup (L E)),some (.lst (L W)),some (.int (u.length:Nat)),some (.int (at' E u.length:Nat))] (.cmp .gt (.var 3) (.var 2))).bind truth=some false:=bL (aT (k:=false) (aa rfl) (aa rfl) (by rw[lY,decide_eq_false (by lia)]));by_cases c2:at' E u.length=u.length
    ·have ce:(ev cl [some (.tup (L E)),some (.lst (L W)),some (.int (u.length:Nat)),some (.int (at' E u.length:Nat))] (.cmp .eq (.var 3) (.var 2))).bind truth=some true:=bL (aT (k:=true) (aa rfl) (aa rfl) (by rw[dO,c2,beq_self_eq_true]))
     cases W with
     |nil=>
      exact .inl ⟨_,show ag cl [1] bQ [some (.tup (L E)),some (.lst (L [])),some (.int (u.length:Nat)),some (.int (at' E u.length:Nat))]=some (.nx,_)from k5 cg (iV ce (cW (by rw[aa rfl];rfl) aR) aR) aR,[],_,_,rfl,by rw[List.length_append];exact O.alone inv hk c2,by simp⟩
     |cons w W=>
      exact .inr ⟨fun N=>by
       obtain⟨w1,w2⟩:=(O.mem w).mp (List.mem_cons_self ..)
       have wk:at' E w≠u.length:=fun z=>by
        have:=inv w (by lia);rw[z,c2]at this;lia
       exact N w u.length w1 (by lia) (lt w (by lia)) (.inr c2),_,show ag cl [1] bQ [some (.tup (L E)),some (.lst (L (w::W))),some (.int (u.length:Nat)),some (.int (at' E u.length:Nat))]=some (.rt (.bl false),_)from l4 cg (fM ce (fM (by rw[aa rfl];rfl) (aX aj rfl)))⟩
    ·have ce:(ev cl [some (.tup (L E)),some (.lst (L W)),some (.int (u.length:Nat)),some (.int (at' E u.length:Nat))] (.cmp .eq (.var 3) (.var 2))).bind truth=some false:=bL (aT (k:=false) (aa rfl) (aa rfl) (by rw[dO,beq_eq_false_iff_ne.mpr (by lia)]));have m1:at' E u.length∈W:=(O.mem _).mpr ⟨by lia,by rw[inv _ hk];exact Nat.le_refl _⟩;have ne:W≠[]:=List.ne_nil_of_mem m1;have dl:=List.dropLast_concat_getLast ne;generalize W.getLast ne=z at dl;generalize W.dropLast=W0 at dl;subst dl
     have hi:(([some (D.tup (L E)),some (.lst (L (W0++[z]))),some (.int (u.length:Nat)),some (.int (at' E u.length:Nat))]:St)[1]?).bind id=some (.lst (L W0++[.int (z:Nat)])):=by rw[de];rfl
     by_cases c3:z=at' E u.length
     ·refine .inl ⟨_,show ag cl [1] bQ [some (.tup (L E)),some (.lst (L (W0++[z]))),some (.int (u.length:Nat)),some (.int (at' E u.length:Nat))]=some (.nx,_)from k5 cg (k5 ce (vR hi (aa rfl) (iV (by rw[aj,decide_eq_true (by lia)];rfl) aR aR)) aR) aR,W0,_,_,rfl,?_,?_⟩
      ·rw[List.length_append];subst c3;exact O.pop inv hk (by lia)
      ·simp at Wl ⊢;lia
     ·exact .inr ⟨fun N=>by
       have up:=O.up;rw[List.pairwise_append]at up
       have m0:at' E u.length∈W0:=by
        rcases List.mem_append.mp m1 with h | h
        ·exact h
        ·exact absurd (List.mem_singleton.mp h).symm c3
       have lz:=up.2.2 _ m0 z (by simp);have zz:=(O.mem z).mp (by simp)
       have zk:at' E z≠u.length:=fun q=>by
        have:=inv z (by lia);rw[q]at this;exact c3 this.symm
       have i:=inv u.length hk
       exact N (at' E u.length) z lz (by rw[i];exact zz.1) (by rw[i];exact hk) (.inl (by rw[i];lia)),_,show ag cl [1] bQ [some (.tup (L E)),some (.lst (L (W0++[z]))),some (.int (u.length:Nat)),some (.int (at' E u.length:Nat))]=some (.rt (.bl false),_)from l4 cg (l4 ce (vR hi (aa rfl) (l4 (by rw[aj,decide_eq_false (by lia)];rfl) (aX aj rfl))))⟩)
  ⟨[],none,none,rfl,⟨⟨by simp,by simp⟩,fun q q' _ _ h=>absurd h (Nat.not_lt_zero _),fun q q' _ h=>absurd h (Nat.not_lt_zero _)⟩,by simp⟩
 rw[<-en]at st
 rcases st with⟨σ',e,W,o2,o3,rfl,O,_⟩ | ⟨nN,σ',e⟩
 ·refine⟨true,bf rfl rfl (eA (cY bK) rfl (cN (pV (aa rfl) rfl) e (aX aj rfl))),fun _=>?_,fun _=>rfl⟩;have:=O.nx;rw[List.nil_append,List.length_range]at this;exact this
 ·exact⟨false,bf rfl rfl (eA (cY bK) rfl (nL (pV (aa rfl) rfl) e)),(fun h=>by cases h),fun N=>absurd N nN⟩
end RM
set_option maxHeartbeats 1000000
namespace RM
open RL RT
abbrev xi(xs:List Int)(p:Nat):Int:=(xs[p]?).getD 0
abbrev nb(xs:List Int)(p:Nat):Bool:=decide (0<=xi xs p/\xi xs p<xs.length)&&decide (xi xs (xi xs p).toNat=p)
def AI{xs:List Int}{p:Nat}(h:p<xs.length):ixV (.tup (LI xs)) (.int (p:Nat))=some (.int (xi xs p)):=by
 show cB _ _=_;rw[eI];simp[LI,xi,h]
def rL(xs:List Int):biV .len (.tup (LI xs))=some (.int (xs.length:Nat)):=congrArg (fun n:Nat=>some (D.int n)) (v9 xs)
def bls{β:Type}(g:β->Bool):∀ xs:List β,fH (xs.map fun x=>D.bl (g x))=some (xs.map g)
 | []=>rfl
 | x::r=>by rw[List.map_cons,fH,bls g r];rfl
def nF{β:Type}(g:β->Bool)(xs:List β):biV .all (.lst (xs.map fun x=>D.bl (g x)))=some (.bl (xs.all g)):=by
 show(fH (xs.map fun x=>D.bl (g x))).map _=_;rw[bls,Option.map_some,List.all_map];rfl
section
variable{cl:Cl}{xs:List Int}
def DX{fn:Nat}(hnum:∀ i:Int,cl fn [.int i]=some (.bl true)){p:Nat}(hp:p<xs.length):evF cl (iu fn) [.tup (LI xs),.int (p:Nat)]=some (.bl (nb xs p)):=by
 unfold nb;have a1:ev cl [some (.tup (LI xs)),some (.int (p:Nat)),some (.int (xi xs p))] (.call fn (.cons (.var 2) .nil))=some (.bl true):=dR (aa rfl) (hnum _);have as:∀ {res:Option (Out × St)} {r:Ss},ag cl [] r [some (.tup (LI xs)),some (.int (p:Nat)),some (.int (xi xs p))]=res->ag cl [] (.cons (.asg 2 (.ix (.var 0) (.var 1))) r) [some (.tup (LI xs)),some (.int (p:Nat)),none]=res:=fun h=>aI (cA (aa rfl) (aa rfl) (AI hp)) rfl h;by_cases c:0<=xi xs p/\xi xs p<xs.length
 ·rw[decide_eq_true c,Bool.true_and];obtain⟨j,hj⟩:=Int.eq_ofNat_of_zero_le c.1;rw[hj]at c as a1 ⊢;have i2:=AI (xs:=xs) (p:=j) (by lia)
  exact bf rfl rfl (as (aX (fz a1 (fz (nU (k:=true) aj (aa rfl) (bN (aa rfl) (rL xs)) (by rw[oT,decide_eq_true c.1]) (by rw[dD,decide_eq_true c.2])) (aT (cA (aa rfl) (aa rfl) i2) (aa rfl) (by
   rw[dO,Int.toNat_natCast]
   congr 1)))) rfl))
 ·rw[decide_eq_false c,Bool.false_and];by_cases c1:0<=xi xs p
  ·exact bf rfl rfl (as (aX (fz a1 (iT (nU (k:=false) aj (aa rfl) (bN (aa rfl) (rL xs)) (by rw[oT,decide_eq_true c1]) (by rw[dD,decide_eq_false (fun z=>c ⟨c1,z⟩)])))) rfl))
  ·exact bf rfl rfl (as (aX (fz a1 (iT (rJ aj (aa rfl) (by rw[oT,decide_eq_false c1])))) rfl))
def sS{fb:Nat}(hm:xs.length<=1000)(hb:∀ p:Nat,p<xs.length->cl fb [.tup (LI xs),.int (p:Nat)]=some (.bl (nb xs p))):evF cl (ic fb) [.tup (LI xs)]=some (.bl ((List.range xs.length).all (nb xs))):=by
 have mc:=j6 (F:=fun σ1=>(ev cl σ1 (.call fb (.cons (.var 0) (.cons (.var 1) .nil)))).map some) (tg:=[1]) (σ:=[some (.tup (LI xs)),none]) (h:=fun p=>.int (p:Nat)) (g:=fun p=>.bl (nb xs p)) (fun _=>rfl) (List.range xs.length) (by
  intro p hp;show(ev cl [some (.tup (LI xs)),some (.int (p:Nat))] (.call fb (.cons (.var 0) (.cons (.var 1) .nil)))).map some=_;rw[gB (aa rfl) (aa rfl) (hb p (List.mem_range.mp hp))]
  rfl)
 exact bf rfl rfl (aX (fz (Aw (aa rfl) rfl) (bN (eg (fj (bN (aa rfl) (rL xs)) (bO hm)) (by rw[aM,List.length_range];unfold most;lia) mc) (nF _ _))) rfl)
def GS(f:List Nat):L f=LI (f.map Int.ofNat):=by unfold L LI;rw[List.map_map];rfl
def uY{m:Nat}{h:List Nat}(len:h.length=m)(lt:∀ q,q<m->at' h q<m)(inv:∀ q,q<m->at' h (at' h q)=q):(List.range (h.map Int.ofNat).length).all (nb (h.map Int.ofNat))=true:=by
 have x1:∀ q,q<m->xi (h.map Int.ofNat) q=(at' h q:Nat):=fun q hq=>by simp[xi,at',show q<h.length by lia]
 rw[List.all_eq_true,List.length_map,len];intro q hq;have hq:=List.mem_range.mp hq;have l:=lt q hq;unfold nb;rw[x1 q hq,Int.toNat_natCast,x1 _ l,inv q hq,List.length_map,len];rw[decide_eq_true ⟨by lia,by lia⟩];simp
end
structure Dg(T:List Fn)(mx rw dg:Nat):Prop where
 Ha:T[mx]?=some ky
 GU:T[rw]?=some (kO mx)
 GI:T[dg]?=some (eR rw)
def Dg.digits{T:List Fn}{mx rw dg:Nat}(h:Dg T mx rw dg){ns:List Int}(hl:ns.length<=63)(n:Nat){k:Nat}{sizes:List Nat}(hk:k<=1000)(hp:∀ s∈sizes,0<s/\s<2 ^ 200)(hz:sizes.length<=1000) :
  ∃ ds:List Nat,iy ds sizes/\a5 T (n+3) dg [.lst (LI ns),.int k,.lst (L sizes)]=some (.lst (L ds)):=by
 obtain⟨r,hr⟩:=C5 (cl:=a5 T (n+1)) (f:=mx) (fun s=>by
  obtain⟨m,hm⟩:=C0 (cl:=a5 T n) s
  exact⟨m,(ao h.Ha).trans hm⟩) hl hk
 obtain⟨ds,h1,h2⟩:=vv (cl:=a5 T (n+2)) (f:=rw) ((ao h.GU).trans hr) hp hz;exact⟨ds,h1,(ao h.GI).trans h2⟩
structure Dr(T:List Fn)(mx rw dg pl hk ci ft tx rg hu ov fr:Nat):Prop extends Dg T mx rw dg where
 zO:T[pl]?=some dA
 Hc:T[hk]?=some (gF pl)
 HC:T[ci]?=some fD
 HJ:T[ft]?=some (eP ci)
 GF:T[tx]?=some jL
 rY:T[rg]?=some bW
 qj:T[hu]?=some (dk rg)
 GP:T[ov]?=some gH
 GZ:T[fr]?=some (iR hu ov ft tx hk pl dg)
section
variable{T:List Fn}{mx rw dg pl hk ci ft tx rg hu ov fr:Nat}
def Dr.plain(h:Dr T mx rw dg pl hk ci ft tx rg hu ov fr)(n:Nat){k:Nat}(hk:k<=10):a5 T (n+1) pl [.int k]=some (.tup (L (ay k))):=(ao h.zO).trans (ka hk)
def Dr.hook(h:Dr T mx rw dg pl hk ci ft tx rg hu ov fr)(n:Nat){k i:Nat}(hk':k<=10)(hi:i+1<k):a5 T (n+2) hk [.int k,.int i]=some (.tup (L (aw k i))):=(ao h.Hc).trans (qt hk' hi (h.plain n hk'))
def Dr.DL(h:Dr T mx rw dg pl hk ci ft tx rg hu ov fr)(n:Nat){k:Nat}(h1:1<=k)(hk':k<=10):a5 T (n+1) ci [.int k]=some (.lst (L (cI k))):=(ao h.HC).trans (vo h1 hk')
def Dr.over(h:Dr T mx rw dg pl hk ci ft tx rg hu ov fr)(n:Nat){k:Nat}{f:List Nat}(h1:1<=k)(hk':k<=10)(hf:f.length=2*k):a5 T (n+1) ov [.tup (L f)]=some (.tup (L (aZ k f))):=(ao h.GP).trans (r8 h1 hk' hf)
def Dr.F3(h:Dr T mx rw dg pl hk ci ft tx rg hu ov fr){ns:List Int}(hl:ns.length<=63)(n:Nat){k m:Nat}(hk':k<=1000)(h1:1<=m)(hm:m<=10)
 (hh:∀ f:List Nat,Val m f->∃ (g:List Nat) (r:Int),Val m g/\a5 T (n+3) hu [.tup (L f),.tup (L (aZ m f))]=some (.tup [.tup (L g),.int r])):∃ f:List Nat,Val m f/\a5 T (n+4) fr [.lst (LI ns),.int k,.int m]=some (.tup (L f)):=by
 obtain⟨f,V,e⟩:=xU (cl:=a5 T (n+3)) (fhu:=hu) (fov:=ov) (ffr:=ft) (ftx:=tx) (fho:=hk) (fpl:=pl) (fdi:=dg) (scr:=.lst (LI ns)) (k:=k) h1 hm
  (h.digits hl n hk' (by
   intro s hs;simp only[List.mem_cons,List.not_mem_nil,or_false]at hs;rcases hs with rfl | rfl | rfl
   ·decide
   ·decide
   ·exact⟨by omega,Nat.lt_of_le_of_lt (show max 1 (m-1)<=10 by lia) (by decide)⟩) (by simp))
  (h.plain (n+2) hm) (fun i hi=>h.hook (n+1) hm hi)
  (fun r=>by
   obtain⟨w,h1,h2,h3⟩:=yL (cl:=a5 T (n+2)) (r:=r) hm
   exact⟨w,h1,h2,(ao h.GF).trans h3⟩)
  (fun w a b=>by
   obtain⟨f,V,e⟩:=pP (cl:=a5 T (n+2)) (fc:=ci) h1 hm (h.DL (n+1) h1 hm) a b
   exact⟨f,V,(ao h.HJ).trans e⟩)
  (fun f hf=>h.over (n+2) h1 hm hf) hh
 exact⟨f,V,(ao h.GZ).trans e⟩
def Dr.frame(h:Dr T mx rw dg pl hk ci ft tx rg hu ov fr){ns:List Int}(hl:ns.length<=63)(n:Nat){k m:Nat}(hk':k<=1000)(h1:1<=m)(hm:m<=10):∃ f:List Nat,Val m f/\a5 T (n+4) fr [.lst (LI ns),.int k,.int m]=some (.tup (L f)) :=
 h.F3 hl n hk' h1 hm fun f V=>by
  have F:=V.frm
  obtain⟨r,e⟩:=rB (cl:=a5 T (n+2)) (fr:=rg) h1 hm F (fun inner i1 i2=>by
   obtain⟨r,e⟩:=wb (cl:=a5 T (n+1)) hm F.len (by simp[aZ]) i1 i2
   exact⟨r,(ao h.rY).trans e⟩)
  exact⟨_,r,Cf V,(ao h.qj).trans e⟩
end
structure Ck(T:List Fn)(nu pc pa nb un if' cf po rp ir mv:Nat):Prop where
 Hi:T[nu]?=some e8
 Hs:T[pc]?=some (cT nu)
 Hl:T[pa]?=some (ic nb)
 GX:T[nb]?=some (iu nu)
 GV:T[un]?=some fR
 FK:T[if']?=some (gI un ir pa pc po)
 Hk:T[cf]?=some (eD if')
 DT:T[po]?=some gr
 Hu:T[rp]?=some dm
 GN:T[ir]?=some (gJ mv rp po)
 HB:T[mv]?=some kZ
section
variable{T:List Fn}{nu pc pa nb un if' cf po rp ir mv:Nat}
def Ck.num(h:Ck T nu pc pa nb un if' cf po rp ir mv)(n:Nat)(i:Int):a5 T (n+1) nu [.int i]=some (.bl true):=(ao h.Hi).trans (gA i)
def Ck.GL(h:Ck T nu pc pa nb un if' cf po rp ir mv)(n:Nat)(i:Int):a5 T (n+2) pc [.int i]=some (.bl (decide (1<=i/\i<=10))):=(ao h.Hs).trans (hV (h.num n) i)
def Ck.of(h:Ck T nu pc pa nb un if' cf po rp ir mv)(n:Nat)(xs:List D):a5 T (n+1) po [.tup xs]=some (.int (xs.length / 2)):=(ao h.DT).trans (rH xs)
def Ck.ofL(h:Ck T nu pc pa nb un if' cf po rp ir mv)(n:Nat)(xs:List D):a5 T (n+1) po [.lst xs]=some (.int (xs.length / 2)):=(ao h.DT).trans (lI xs)
def Ck.half(h:Ck T nu pc pa nb un if' cf po rp ir mv)(n:Nat){k:Nat}{f:List Nat}(hf:f.length=2*k):a5 T (n+1) po [.tup (L f)]=some (.int k):=by
 rw[h.of,aM,hf];congr 2;lia
def Ck.place(h:Ck T nu pc pa nb un if' cf po rp ir mv)(n:Nat){k p:Nat}(hp:p<2*k):a5 T (n+1) rp [.int k,.int (p:Nat)]=some (.int (rd k p:Nat)):=(ao h.Hu).trans (mH hp)
def Ck.move(h:Ck T nu pc pa nb un if' cf po rp ir mv)(n:Nat){k:Nat}{f:List Nat}{U:D}{to:Nat->Nat}(hk:k<=10)(F:Frm k f)(hT:∀ p:Nat,p<2*k->ixV U (.int (p:Nat))=some (.int (to p:Nat)))(hlt:∀ p,p<2*k->to p<2*k)(inj:∀ p q,p<2*k->q<2*k->to p=to q->p=q) :
  ∃ E:List Nat,E.length=2*k/\(∀ p,p<2*k->at' E (to p)=to (at' f p))/\a5 T (n+1) mv [.tup (L f),U]=some (.tup (L E)):=by
 obtain⟨E,h1,h2,h3⟩:=xf (cl:=a5 T n) (T:=U) (to:=to) hk F hT hlt inj;exact⟨E,h1,h2,(ao h.HB).trans h3⟩
def Ck.round(h:Ck T nu pc pa nb un if' cf po rp ir mv)(n:Nat){k:Nat}{f:List Nat}(hk:k<=10)(F:Frm k f):∃ E:List Nat,E.length=2*k/\(∀ q,q<2*k->at' E q=rnd k f q)/\a5 T (n+2) ir [.tup (L f)]=some (.tup (L E)):=by
 obtain⟨E,h1,h2,h3⟩:=sk (cl:=a5 T (n+1)) (fm:=mv) (frp:=rp) (fpo:=po) hk F (h.of n) (fun p hp=>h.place n hp) (h.move n (U:=.lst (L (cI k))) (to:=rd k) hk F (fun p hp=>oS hp) (fun p hp=>aK hp) (fun p q hp hq h=>ju hp hq h));exact⟨E,h1,h2,(ao h.GN).trans h3⟩
def Ck.frame(h:Ck T nu pc pa nb un if' cf po rp ir mv)(n:Nat){k:Nat}{f:List Nat}(h1:1<=k)(hk:k<=10)(V:Val k f):a5 T (n+4) if' [.tup (L f)]=some (.bl true) :=
 (ao h.FK).trans (qi h1 hk V (h.of (n+2)) (by rw[h.GL (n+1),decide_eq_true (by lia)])
  (by
   have F:=V.frm;have p:=(ao (n:=n+2) h.Hl).trans (sS (xs:=f.map Int.ofNat) (by rw[List.length_map,F.len];lia) fun q hq=>(ao h.GX).trans (DX (h.num n) hq));rw[uY F.len F.lt (fun q _=>F.inv q),<-GS]at p
   exact p)
  (h.round (n+1) hk V.frm) (fun E a b c d l=>(ao h.GV).trans (by
   obtain⟨w,e,_,hb⟩:=BJ (cl:=a5 T (n+2)) (m:=2*k) (by lia) a b l
   rw[hb fun q q' x y z w=>by
    have:=d q q' (by lia) (by lia);have:=c q' (by lia)
    lia]at e
   exact e)))
def Ck.check(h:Ck T nu pc pa nb un if' cf po rp ir mv)(n:Nat){k:Nat}{f:List Nat}(h1:1<=k)(hk:k<=10)(V:Val k f):a5 T (n+5) cf [.tup (L f)]=some .non:=(ao h.Hk).trans (mT (h.frame n h1 hk V))
def Ck.Ho(h:Ck T nu pc pa nb un if' cf po rp ir mv){ti:Nat}(hti:T[ti]?=some (mW cf))(n:Nat){k:Nat}{f:List Nat}(h1:1<=k)(hk:k<=10)(V:Val k f):a5 T (n+6) ti [.tup (L f)]=some (qf k f):=(ao hti).trans (zQ hk V.frm (h.check n h1 hk V))
end
inductive Pl:Nat->D->Prop
 | int (n:Nat) (i:Int):Pl n (.int i)
 | bl (n:Nat) (b:Bool):Pl n (.bl b)
 | str (n:Nat) (x:PySem.Str):Pl n (.str x)
 | tup (n:Nat) (xs:List D) (hl:xs.length<=1000) (h:∀ x∈xs,Pl n x):Pl (n+1) (.tup xs)
 | lst (n:Nat) (xs:List D) (hl:xs.length<=1000) (h:∀ x∈xs,Pl n x):Pl (n+1) (.lst xs)
def Pl.L{n:Nat}{xs:List Nat}(h:xs.length<=1000):Pl (n+1) (.tup (L xs)):=.tup _ _ (by rw[aM];exact h) fun x hx=>by
 obtain⟨a,_,rfl⟩:=List.mem_map.mp hx;exact .int _ _
abbrev Cyc(a b c d:Nat):Prop:=(a<b/\b<c/\c<d)\/(b<c/\c<d/\d<a)\/(c<d/\d<a/\a<b)\/(d<a/\a<b/\b<c)
def tX{m:Nat}{r:Nat->Nat}(inv:∀ q,q<m->r (r q)=q)(nox:∀ q q',q<m->q'<m->¬ (q<q'/\q'<r q/\r q<r q')){a b c d:Nat}(ha:a<m)(hb:b<m)(hc:c<m)(hd:d<m)(e1:r a=c)(e2:r b=d):¬ Cyc a b c d:=by
 have e3:r c=a:=by rw[<-e1];exact inv a ha
 have e4:r d=b:=by rw[<-e2];exact inv b hb
 rintro(h | h | h | h)
 ·exact nox a b ha hb ⟨h.1,by lia,by lia⟩
 ·exact nox b c hb hc ⟨h.1,by lia,by lia⟩
 ·exact nox c d hc hd ⟨h.1,by lia,by lia⟩
 ·exact nox d a hd ha ⟨h.1,by lia,by lia⟩
def gi{n:Nat}{f g:List Nat}(hf:f.length=n)(hg:g.length=n)(h:∀ x,x<n->at' f x=at' g x):f=g:=by
 refine List.ext_getElem? fun x=>?_;by_cases hx:x<n
 ·rw[dB (by lia),dB (by lia),h x hx]
 ·rw[List.getElem?_eq_none (by lia),List.getElem?_eq_none (by lia)]
structure Way(n:Nat)(to ba:Nat->Nat):Prop where
 lt:∀ p,p<2*n->to p<2*n
 blt:∀ p,p<2*n->ba p<2*n
 tb:∀ p,p<2*n->to (ba p)=p
 bt:∀ p,p<2*n->ba (to p)=p
 cyc:∀ a b c d,a<2*n->b<2*n->c<2*n->d<2*n->a<b->b<c->c<d->Cyc (rd n (ba (rd n a))) (rd n (ba (rd n b))) (rd n (ba (rd n c))) (rd n (ba (rd n d)))\/Cyc (rd n (ba (rd n d))) (rd n (ba (rd n c))) (rd n (ba (rd n b))) (rd n (ba (rd n a)))
abbrev bB(n:Nat)(to ba:Nat->Nat)(f:List Nat):List Nat:=(List.range (2*n)).map fun p=>to (at' f (ba p))
def gY(n:Nat)(to ba:Nat->Nat)(f:List Nat):(bB n to ba f).length=2*n:=by simp[bB]
def bM{n:Nat}{to ba:Nat->Nat}{f:List Nat}{p:Nat}(h:p<2*n):at' (bB n to ba f) p=to (at' f (ba p)):=by
 simp[bB,at',h]
def Way.val{n:Nat}{to ba:Nat->Nat}(W:Way n to ba){f:List Nat}(V:Val n f):Val n (bB n to ba f):=by
 have F:=V.frm;have hl:=gY n to ba f;refine⟨⟨hl,fun x hx=>?_,fun x=>?_,fun x hx e=>?_⟩,fun q q' hq hq' h=>?_⟩
 ·rw[bM hx];exact W.lt _ (F.lt _ (W.blt _ hx))
 ·by_cases hx:x<2*n
  ·have h1:=F.lt _ (W.blt _ hx);rw[bM hx,bM (W.lt _ h1),W.bt _ h1,F.inv,W.tb _ hx]
  ·rw[eC (f:=bB n to ba f) (x:=x) (by lia),eC (by lia)]
 ·rw[bM hx]at e;have h1:=F.lt _ (W.blt _ hx)
  have:at' f (ba x)=ba x:=by rw[<-W.bt _ h1,e]
  exact F.no _ (W.blt _ hx) this
 ·obtain⟨h1,h2,h3⟩:=h;have rl:∀ q,q<2*n->rnd n f q<2*n:=fun q hq=>aK (F.lt _ (aK hq))
  have rr:∀ q,q<2*n->rnd n f (rnd n f q)=q:=fun q hq=>by
   unfold rnd;rw[b8 (F.lt _ (aK hq)),F.inv,b8 hq]
  have key:∀ q,q<2*n->rnd n (bB n to ba f) q<2*n/\rnd n f (rd n (ba (rd n q)))=rd n (ba (rd n (rnd n (bB n to ba f) q))):=fun q hq=>by
   have a1:=aK hq;have a2:=W.blt _ a1;have a3:=F.lt _ a2;unfold rnd;rw[bM a1];refine⟨aK (W.lt _ a3),?_⟩;rw[b8 a2,b8 (W.lt _ a3),W.bt _ a3]
  obtain⟨k1,k2⟩:=key q hq;obtain⟨k3,k4⟩:=key q' hq';have bl:∀ q,q<2*n->rd n (ba (rd n q))<2*n:=fun q hq=>aK (W.blt _ (aK hq));rcases W.cyc q q' _ _ hq hq' k1 k3 h1 h2 h3 with c | c
  ·exact tX rr V.nox (bl _ hq) (bl _ hq') (bl _ k1) (bl _ k3) k2 k4 c
  ·refine tX rr V.nox (bl _ k3) (bl _ k1) (bl _ hq') (bl _ hq) ?_ ?_ c
   ·rw[<-k4,rr _ (bl _ hq')]
   ·rw[<-k2,rr _ (bl _ hq)]
abbrev ovr(n p:Nat):Nat:=if p<n then p+n else p-n
abbrev mir(n p:Nat):Nat:=if p<n then n-1-p else 3*n-1-p
def Am{n q:Nat}(c:q<n):rd n q=q:=by unfold rd;rw[if_pos c]
def Ao{n q:Nat}(c:¬ q<n):rd n q=3*n-1-q:=by unfold rd;rw[if_neg c]
def j7{n q:Nat}(c:q<n):ovr n q=q+n:=by unfold ovr;rw[if_pos c]
def kf{n q:Nat}(c:¬ q<n):ovr n q=q-n:=by unfold ovr;rw[if_neg c]
def fk{n p:Nat}(hp:p<2*n):ovr n p<2*n/\ovr n (ovr n p)=p:=by
 by_cases c:p<n
 ·rw[j7 c,kf (by lia)];exact⟨by lia,by lia⟩
 ·rw[kf c,j7 (by omega)];exact⟨by lia,by lia⟩
def nC{n q:Nat}(hq:q<2*n):rd n (ovr n (rd n q))=2*n-1-q:=by
 by_cases c:q<n
 ·rw[Am c,j7 c,Ao (by lia)];lia
 ·rw[Ao c,kf (by omega),Am (by omega)];lia
def cV(n:Nat):Way n (ovr n) (ovr n) :=
 ⟨fun p hp=>(fk hp).1,fun p hp=>(fk hp).1,fun p hp=>(fk hp).2,fun p hp=>(fk hp).2,fun a b c d ha hb hc hd h1 h2 h3=>.inr (.inl (by
  rw[nC ha,nC hb,nC hc,nC hd]
  exact⟨by lia,by lia,by omega⟩))⟩
def B3{n:Nat}{to ba to' ba':Nat->Nat}{f:List Nat}(W:Way n to ba)(W':Way n to' ba'):bB n to' ba' (bB n to ba f)=bB n (fun p=>to' (to p)) (fun p=>ba (ba' p)) f:=by
 refine gi (n:=2*n) (gY ..) (gY ..) fun p hp=>?_;rw[bM hp,bM (W'.blt _ hp),bM hp]
def CL{n:Nat}{to ba:Nat->Nat}{f:List Nat}(F:Frm n f)(h1:∀ p,p<2*n->to p=p)(h2:∀ p,p<2*n->ba p=p):bB n to ba f=f:=by
 refine gi (n:=2*n) (gY ..) F.len fun p hp=>?_;rw[bM hp,h2 p hp,h1 _ (F.lt _ hp)]
def cQ:∀ {a b:List Nat},a.Nodup->(∀ x∈a,x∈b)->a.length<=b.length
 | [],_,_,_=>Nat.zero_le _
 | x::r,b,hn,h=>by
  rw[List.nodup_cons]at hn;have hx:=h x List.mem_cons_self;have:=cQ (a:=r) (b:=b.erase x) hn.2 fun y hy=>(List.mem_erase_of_ne (fun e=>hn.1 (by rw[<-e];exact hy))).mpr (h y (List.mem_cons_of_mem _ hy));rw[List.length_erase_of_mem hx]at this;have:0<b.length:=List.length_pos_of_mem hx;simp only[List.length_cons];lia
abbrev cnt(n:Nat)(P:Nat->Bool):Nat:=((List.range n).filter P).length
def wD{n m:Nat}{P Q:Nat->Bool}(g:Nat->Nat)(h:∀ p,p<n->P p=true->g p<m/\Q (g p)=true)(inj:∀ p q,p<n->q<n->P p=true->P q=true->g p=g q->p=q):cnt n P<=cnt m Q:=by
 unfold cnt
 have:((List.range n).filter P).length=(((List.range n).filter P).map g).length:=by simp
 rw[this];refine cQ ?_ ?_
 ·rw[List.nodup_iff_pairwise_ne,List.pairwise_map];refine List.Pairwise.imp_of_mem ?_ ((List.nodup_iff_pairwise_ne.mp (List.nodup_range (n:=n))).filter P);intro a b ha hb hne e;simp only[List.mem_filter,List.mem_range]at ha hb;exact hne (inj a b ha.1 hb.1 ha.2 hb.2 e)
 ·intro x hx;obtain⟨p,hp,rfl⟩:=List.mem_map.mp hx;simp only[List.mem_filter,List.mem_range]at hp ⊢;exact h p hp.1 hp.2
def mD{f:D->D->Option Bool}:∀ xs:List D,(∀ x∈xs,f x x=some true)->eqs f xs xs=some true
 | [],_=>rfl
 | x::r,h=>by
  rw[eqs,h x List.mem_cons_self,Option.bind_some,mD r fun y hy=>h y (List.mem_cons_of_mem _ hy)];rfl
def G4:∀ (k n:Nat) (d:D),Pl k d->k<=n->eqD n d d=some true:=by
 intro k
 induction k with
 |zero=>
  intro n d p _
  cases p with
  | int i=>cases n<;>simp[eqD]
  | bl i=>cases n<;>simp[eqD]
  | str i=>cases n<;>simp[eqD]
 |succ k ih=>
  intro n d p hn
  obtain⟨m,rfl⟩:∃ m,n=m+1:=⟨n-1,by lia⟩
  cases p with
  | int i=>simp[eqD]
  | bl i=>simp[eqD]
  | str i=>simp[eqD]
  | tup _ xs hl h=>rw[eqD,mD xs fun x hx=>ih m x (h x hx) (by lia)];simp
  | lst _ xs hl h=>rw[eqD,mD xs fun x hx=>ih m x (h x hx) (by lia)];simp
def Ax{k:Nat}{d:D}(p:Pl k d)(h:k<=8):bF .ne d d=some false:=by
 show(eqD 8 d d).map not=some false;rw[G4 k 8 d p h];rfl
def Ga{ns:List Int}(hl:ns.length<=63):ox (.scr (LI ns)) (.int 63)=some (.lst (LI ns)):=by
 show some (D.lst ((LI ns).take (cutAt (LI ns).length 63)))=_;rw[List.take_of_length_le]
 have:(LI ns).length=ns.length:=by simp[LI]
 rw[this];unfold cutAt;rw[if_pos (by decide)];have:(63:Int).toNat=63:=rfl;lia
def zZ{cl:Cl}{m N:Nat}{M:List Nat}{B:Ss}{ns:List Int}(hl:ns.length<=63)(hN:N<=1000)
 (turn:∀ (k:Nat) (os:List (Option D)),k<N->os.length=m->∃ os',os'.length=m+1/\ag cl M B (some (.lst (LI ns))::some (.int (k:Nat))::os)=some (.nx,some (.lst (LI ns))::os')) :
  evF cl ⟨1,m+2,M,[],.cons (.asg 0 (.slT (.var 0) (.cst (.int 63)))) (.cons (.forr [1] (.rng1 (.cst (.int (N:Nat)))) B) (.cons (.ret (.cst (.bl true))) .nil))⟩ [.scr (LI ns)]=some (.bl true):=by
 have e1:=bO (n:=N) hN
 obtain⟨σ',e,os,hos,rfl⟩:=bU (f:=ag cl M B) (tg:=[1]) (xs:=List.range N) (σ:=some (.lst (LI ns))::List.replicate (m+1) none) (fun _ σ=>∃ os:List (Option D),os.length=m+1/\σ=some (.lst (LI ns))::os) ⟨_,by simp,rfl⟩ (by
  rintro p x q σ hx ⟨os,ho,rfl⟩
  have hxN:x<N:=by
   have:x∈List.range N:=by rw[hx];simp
   simpa using this
  cases os with
  | nil=>simp at ho
  |cons o os=>
   obtain⟨os',h1,h2⟩:=turn x os hxN (by simpa using ho)
   exact⟨_,by simpa[a8]using h2,os',h1,rfl⟩)
 exact bf rfl rfl (aI (A5 (aa rfl) aj (Ga hl)) (by simp[aP,D.imm,a9,w6]) (cN (fj aj e1) e (aX aj rfl)))
section
variable{cl:Cl}{n:Nat}{f:List Nat}
end
section
variable{T:List Fn}{nu pc pa nb un if' cf po rp ir mv:Nat}
def F8{n:Nat}{to ba:Nat->Nat}{f E:List Nat}(W:Way n to ba)(h1:E.length=2*n)(h2:∀ p,p<2*n->at' E (to p)=to (at' f p)):E=bB n to ba f:=by
 refine gi h1 (gY ..) fun p hp=>?_;rw[bM hp];have:=h2 (ba p) (W.blt _ hp);rw[W.tb _ hp]at this;exact this
end
end RM
set_option maxHeartbeats 1000000
namespace RT
open RL
end RT
namespace RM
open RL RT
section
variable{cl:Cl}{n:Nat}{f:List Nat}
def HA(x y:Nat):biV .sorted (.lst [.int (x:Nat),.int (y:Nat)])=some (.lst [.int ((if x<=y then x else y:Nat):Int),.int ((if x<=y then y else x:Nat):Int)]):=by
 show some (D.lst ((if(x:Int)<=(y:Int)then [(x:Int),(y:Int)]else [(y:Int),(x:Int)]).map .int))=_;by_cases c:x<=y
 ·rw[if_pos (by lia),if_pos c,if_pos c];rfl
 ·rw[if_neg (by lia),if_neg c,if_neg c];rfl
end
structure Two(m:Nat)(a b:Nat->Nat):Prop where
 al:∀ x,x<m->a x<m
 bl:∀ x,x<m->b x<m
 ai:∀ x,x<m->a (a x)=x
 bi:∀ x,x<m->b (b x)=x
abbrev wk(a b:Nat->Nat)(x:Nat):Nat->Nat
 | 0=>x
 | k+1=>if k%2=0 then b (wk a b x k)else a (wk a b x k)
abbrev Stp(a b:Nat->Nat)(x k:Nat):Prop:=wk a b x (k+1)=wk a b x k\/wk a b x (k+1)=x
noncomputable instance{a b:Nat->Nat}{x k:Nat}:Decidable (Stp a b x k):=inferInstanceAs (Decidable (_\/_))
section
variable{m:Nat}{a b:Nat->Nat}{x:Nat}
def eE{k:Nat}(h:k%2=0):wk a b x (k+1)=b (wk a b x k):=by rw[wk,if_pos h]
def gK{k:Nat}(h:k%2=1):wk a b x (k+1)=a (wk a b x k):=by rw[wk,if_neg (by lia)]
def iH(T:Two m a b)(hx:x<m):∀ k,wk a b x k<m
 | 0=>hx
 | k+1=>by
  rw[wk];split
  ·exact T.bl _ (iH T hx k)
  ·exact T.al _ (iH T hx k)
def je(T:Two m a b)(hx:x<m)(k:Nat):(if k%2=0 then b (wk a b x (k+1))else a (wk a b x (k+1)))=wk a b x k:=by
 have h:=iH T hx k;rw[wk];split
 ·exact T.bi _ h
 ·exact T.ai _ h
def Dy(T:Two m a b)(hx:x<m){i j:Nat}(hp:i%2=j%2)(h:wk a b x (i+1)=wk a b x (j+1)):wk a b x i=wk a b x j:=by
 rw[<-je T hx i,<-je T hx j,h,hp]
def uh(T:Two m a b)(hx:x<m){k:Nat}(hs:∀ j,j<k->¬ Stp a b x j){d:Nat}(hd:d%2=1):∀ i,i+(d+1)<=k->wk a b x i≠wk a b x (i+(d+1))
 | 0,hk,h=>hs d (by lia) (.inr (by rw[Nat.zero_add]at h;exact h.symm))
 | i+1,hk,h=>uh T hx hs hd i (by lia) (Dy T hx (i:=i) (j:=i+(d+1)) (by lia) (by rw[h];congr 1;lia))
def wF(T:Two m a b)(hx:x<m){k:Nat}(hs:∀ j,j<k->¬ Stp a b x j):∀ (c i:Nat),i+(2*c+1)<=k->wk a b x i≠wk a b x (i+(2*c+1))
 | 0,i,hk,h=>hs i (by lia) (.inl h.symm)
 | c+1,i,hk,h=>by
  refine wF T hx hs c (i+1) (by lia) ?_;have h1:=je T hx (i+(2*c+2));rw[show i+(2*c+2)+1=i+(2*(c+1)+1) by lia,<-h]at h1
  have h2:wk a b x (i+1)=if(i+(2*c+2))%2=0 then b (wk a b x i)else a (wk a b x i):=by
   rw[wk]
   have:(i+(2*c+2))%2=i%2:=by lia
   rw[this]
  rw[h2,h1];congr 1;lia
def l7(T:Two m a b)(hx:x<m){k:Nat}(hs:∀ j,j<k->¬ Stp a b x j){i j:Nat}(hij:i<j)(hj:j<=k):wk a b x i≠wk a b x j:=by
 obtain⟨d,rfl⟩:∃ d,j=i+(d+1):=⟨j-i-1,by lia⟩
 by_cases c:d%2=1
 ·exact uh T hx hs c i hj
 ·obtain⟨e,rfl⟩:∃ e,d=2*e:=⟨d / 2,by lia⟩
  exact wF T hx hs e i hj
def least{P:Nat->Prop} [DecidablePred P]:∀ n,P n->∃ k,k<=n/\P k/\∀ j,j<k->¬ P j:=by
 intro n
 induction n using Nat.strongRecOn with
 |_ n ih=>
  intro h;by_cases c:∃ j,j<n/\P j
  ·obtain⟨j,hj,hp⟩:=c;obtain⟨k,h1,h2,h3⟩:=ih j hj hp;exact⟨k,by lia,h2,h3⟩
  ·exact⟨n,Nat.le_refl _,h,fun j hj hp=>c ⟨j,hj,hp⟩⟩
def hX(T:Two m a b)(hx:x<m):∃ k,k<m/\Stp a b x k/\∀ j,j<k->¬ Stp a b x j:=by
 by_cases c:∃ k,k<m/\Stp a b x k
 ·obtain⟨k,h1,h2⟩:=c;obtain⟨j,h3,h4,h5⟩:=least k h2;exact⟨j,by lia,h4,h5⟩
 ·exfalso;have hs:∀ j,j<m->¬ Stp a b x j:=fun j hj h=>c ⟨j,hj,h⟩
  have nd:((List.range (m+1)).map (wk a b x)).Nodup:=by
   rw[List.nodup_iff_pairwise_ne,List.pairwise_map];refine List.Pairwise.imp_of_mem ?_ (List.pairwise_lt_range (n:=m+1));intro i j hi hj hlt;exact l7 T hx hs hlt (by have:=List.mem_range.mp hj;lia)
  have:=cQ nd (b:=List.range m) fun y hy=>by
   obtain⟨i,_,rfl⟩:=List.mem_map.mp hy;exact List.mem_range.mpr (iH T hx i)
  simp at this;lia
inductive Cn (a b:Nat->Nat) (x:Nat):Nat->Prop
 | refl:Cn a b x x
 | sa {y:Nat}:Cn a b x y->Cn a b x (a y)
 | sb {y:Nat}:Cn a b x y->Cn a b x (b y)
def Cn.lt(T:Two m a b)(hx:x<m){y:Nat}(h:Cn a b x y):y<m:=by
 induction h with
 | refl=>exact hx
 | sa _ ih=>exact T.al _ ih
 | sb _ ih=>exact T.bl _ ih
def Cn.trans{y z:Nat}(h:Cn a b x y)(h':Cn a b y z):Cn a b x z:=by
 induction h' with
 | refl=>exact h
 | sa _ ih=>exact .sa ih
 | sb _ ih=>exact .sb ih
def Cn.symm(T:Two m a b)(hx:x<m){y:Nat}(h:Cn a b x y):Cn a b y x:=by
 induction h with
 | refl=>exact .refl
 |@sa y h ih=>
  have:=Cn.sa (a:=a) (b:=b) (Cn.refl (x:=a y));rw[T.ai _ (h.lt T hx)]at this;exact this.trans ih
 |@sb y h ih=>
  have:=Cn.sb (a:=a) (b:=b) (Cn.refl (x:=b y));rw[T.bi _ (h.lt T hx)]at this;exact this.trans ih
def lD:∀ k,Cn a b x (wk a b x k)
 | 0=>.refl
 | k+1=>by
  rw[wk];split
  ·exact .sb (lD k)
  ·exact .sa (lD k)
def nX(T:Two m a b)(hx:x<m){k:Nat}(st:Stp a b x k)(hs:∀ j,j<k->¬ Stp a b x j)(h:a x=x\/∀ y,Cn a b x y->a y≠y/\b y≠y){y:Nat}(hy:Cn a b x y):∃ i,i<=k/\wk a b x i=y:=by
 have bx:∃ i,i<=k/\wk a b x i=b x:=by
  by_cases c:k=0
  ·subst c;refine⟨0,Nat.le_refl _,?_⟩;rcases st with st | st
   ·rw[eE rfl]at st;exact st.symm
   ·rw[eE rfl]at st;exact st.symm
  ·exact⟨1,by lia,eE rfl⟩
 have key:∀ j,0<j->j<=k->(∃ i,i<=k/\wk a b x i=a (wk a b x j))/\∃ i,i<=k/\wk a b x i=b (wk a b x j):=by
  intro j h0 hj;have prev:=je T hx (j-1);rw[show j-1+1=j by omega]at prev
  have next:∃ i,i<=k/\wk a b x i=wk a b x (j+1):=by
   by_cases c:j<k
   ·exact⟨j+1,by lia,rfl⟩
   ·have:j=k:=by lia
    subst this;rcases st with st | st
    ·exact⟨j,Nat.le_refl _,st.symm⟩
    ·exact⟨0,by lia,st.symm⟩
  by_cases c:j%2=0
  ·rw[if_neg (by lia)]at prev
   rw[eE c]at next
   exact⟨⟨j-1,by lia,prev.symm⟩,next⟩
  ·rw[if_pos (by lia)]at prev
   rw[gK (by lia)]at next
   exact⟨next,⟨j-1,by omega,prev.symm⟩⟩
 have ax:∃ i,i<=k/\wk a b x i=a x:=by
  rcases h with h | h
  ·exact⟨0,by lia,h.symm⟩
  ·rcases st with st | st
   ·exfalso;have hc:=h _ (lD k);by_cases c:k%2=0
    ·rw[eE c]at st;exact hc.2 st
    ·rw[gK (by lia)]at st;exact hc.1 st
   ·by_cases c:k%2=0
    ·exfalso;rw[eE c]at st
     have e:wk a b x k=b x:=by
      have:=congrArg b st;rw[T.bi _ (iH T hx k)]at this;exact this
     by_cases k0:k=0
     ·subst k0;exact(h x .refl).2 e.symm
     ·have:wk a b x 1=b x:=eE rfl;exact l7 T hx hs (i:=1) (j:=k) (by lia) (Nat.le_refl _) (by rw[this,e])
    ·rw[gK (by lia)]at st
     exact⟨k,Nat.le_refl _,by
      have:=congrArg a st;rw[T.ai _ (iH T hx k)]at this
      exact this⟩
 induction hy with
 | refl=>exact⟨0,by lia,rfl⟩
 |sa _ ih=>
  obtain⟨i,hi,rfl⟩:=ih;by_cases c:i=0
  ·subst c;exact ax
  ·exact(key i (by lia) hi).1
 |sb _ ih=>
  obtain⟨i,hi,rfl⟩:=ih;by_cases c:i=0
  ·subst c;exact bx
  ·exact(key i (by lia) hi).2
def lj(T:Two m a b)(hx:x<m){k:Nat}(st:Stp a b x k)(hs:∀ j,j<k->¬ Stp a b x j)(hb:∀ y,y<m->b y≠y)(ha:a x=x):k%2=1/\a (wk a b x k)=wk a b x k:=by
 have lk:=iH T hx k;by_cases c:k%2=0
 ·exfalso;rcases st with st | st
  ·rw[eE c]at st;exact hb _ lk st
  ·rw[eE c]at st
   have e:wk a b x k=b x:=by
    have:=congrArg b st;rw[T.bi _ lk]at this;exact this
   by_cases k0:k=0
   ·subst k0;exact hb x hx e.symm
   ·have:wk a b x 1=b x:=eE rfl;exact l7 T hx hs (i:=1) (j:=k) (by lia) (Nat.le_refl _) (by rw[this,e])
 ·refine⟨by lia,?_⟩;rcases st with st | st
  ·rw[gK (by lia)]at st;exact st
  ·exfalso;rw[gK (by lia)]at st
   have e:wk a b x k=x:=by rw[<-T.ai _ lk,st,ha]
   exact l7 T hx hs (i:=0) (j:=k) (by lia) (Nat.le_refl _) e.symm
end
structure bp(m:Nat)(a b:Nat->Nat)(S:List Nat):Prop where
 lt:∀ s∈S,s<m
 nd:S.Pairwise fun s t=>¬ Cn a b s t
 ring:∀ s∈S,∀ y,Cn a b s y->a y≠y/\b y≠y
 all:∀ x,x<m->(∃ s,s<m/\(a s=s\/b s=s)/\Cn a b s x)\/∃ s∈S,Cn a b s x
def bp.le{m:Nat}{a b:Nat->Nat}(T:Two m a b){S S':List Nat}(R:bp m a b S)(R':bp m a b S'):S.length<=S'.length:=by
 have pick:∀ s∈S,∃ t∈S',Cn a b t s:=fun s hs=>by
  rcases R'.all s (R.lt s hs)with⟨q,h1,h2,h3⟩ | h
  ·exfalso;have:=R.ring s hs q (h3.symm T h1);rcases h2 with h2 | h2
   ·exact this.1 h2
   ·exact this.2 h2
  ·exact h
 have:∀ s,∃ t,s∈S->t∈S'/\Cn a b t s:=fun s=>by
  by_cases hs:s∈S
  ·obtain⟨t,h1,h2⟩:=pick s hs;exact⟨t,fun _=>⟨h1,h2⟩⟩
  ·exact⟨0,fun z=>absurd z hs⟩
 obtain⟨g,hg⟩:=Classical.axiomOfChoice this
 have nd:(S.map g).Nodup:=by
  rw[List.nodup_iff_pairwise_ne,List.pairwise_map];refine List.Pairwise.imp_of_mem ?_ R.nd;intro s t hs ht hn e;obtain⟨h1,h2⟩:=hg s hs;obtain⟨h3,h4⟩:=hg t ht;rw[<-e]at h4;exact hn ((h2.symm T (R'.lt _ h1)).trans h4)
 have:=cQ nd (b:=S') fun y hy=>by
  obtain⟨s,hs,rfl⟩:=List.mem_map.mp hy;exact(hg s hs).1
 simpa using this
def bp.one{m:Nat}{a b:Nat->Nat}(T:Two m a b){S S':List Nat}(R:bp m a b S)(R':bp m a b S'):S.length=S'.length:=Nat.le_antisymm (R.le T R') (R'.le T R)
section
variable{cl:Cl}{m x:Nat}{a b:Nat->Nat}{A B:D}
abbrev wks(a b:Nat->Nat)(x k:Nat):List Nat:=(List.range (k+1)).map (wk a b x)
end
section
variable{cl:Cl}{m:Nat}{a b:Nat->Nat}{A B:D}
abbrev Pth(m:Nat)(a b:Nat->Nat)(y:Nat):Prop:=∃ s,s<m/\(a s=s\/b s=s)/\Cn a b s y
def C3{x k y:Nat}:y∈wks a b x k↔∃ i,i<=k/\wk a b x i=y:=by
 unfold wks;rw[List.mem_map];constructor
 ·rintro⟨i,hi,e⟩;exact⟨i,by have:=List.mem_range.mp hi;lia,e⟩
 ·rintro⟨i,hi,e⟩;exact⟨i,List.mem_range.mpr (by lia),e⟩
end
abbrev jn(n x:Nat):Nat:=if x<n then x else if x<2*n then x+n else if x<3*n then x-n else x
abbrev rb(n:Nat)(h l:List Nat)(x:Nat):Nat:=if x<2*n then at' h x else 2*n+at' l (x-2*n)
abbrev out(n p:Nat):Nat:=if p<n then p else p+2*n
section
variable{n:Nat}{h l:List Nat}
def two(F:Frm n h)(G:Frm n l):Two (4*n) (jn n) (rb n h l):=by
 refine⟨fun x hx=>?_,fun x hx=>?_,fun x hx=>?_,fun x hx=>?_⟩
 ·unfold jn;(repeat' split)<;>lia
 ·unfold rb;split
  ·have:=F.lt x (by lia);lia
  ·have:=G.lt (x-2*n) (by omega);lia
 ·unfold jn;(repeat' split)<;>lia
 ·unfold rb;by_cases c:x<2*n
  ·rw[if_pos c,if_pos (F.lt x c),F.inv]
  ·rw[if_neg c,if_neg (by lia),Nat.add_sub_cancel_left,G.inv];omega
def cS(F:Frm n h)(G:Frm n l){x:Nat}(hx:x<4*n):rb n h l x≠x:=by
 unfold rb;split
 ·rename_i c;exact F.no x c
 ·have:=G.no (x-2*n) (by omega);lia
def aL{p:Nat}(hp:p<2*n):out n p<4*n:=by unfold out;split<;>lia
def dt{p:Nat}(hp:p<2*n):jn n (out n p)=out n p:=by unfold out jn;(repeat' split)<;>lia
def nH{p q:Nat}(e:out n p=out n q)(hp:p<2*n)(hq:q<2*n):p=q:=by unfold out at e;(repeat' split at e)<;>lia
def vQ{x:Nat}(hx:x<4*n)(e:jn n x=x):∃ p,p<2*n/\x=out n p:=by
 by_cases c:x<n
 ·exact⟨x,by lia,by unfold out;rw[if_pos c]⟩
 ·have:3*n<=x:=by
   unfold jn at e
   (repeat' split at e)<;>lia
  exact⟨x-2*n,by lia,by unfold out;rw[if_neg (by lia)];lia⟩
abbrev en2(n:Nat)(s:Bool × Nat):Nat:=if s.1 then s.2 else 2*n+s.2
def D7{s:Bool × Nat}(hs:s.2<2*n)(c:s.1=decide (n<=s.2)):en2 n (stp n h l s)=rb n h l (jn n (en2 n s)):=by
 obtain⟨b,q⟩:=s;unfold stp;rw[if_pos c];dsimp only at c hs ⊢;rw[c];clear c;by_cases c:n<=q
 ·have e:(q+n)%(2*n)=q-n:=by rw[Nat.mod_eq_sub_mod (by lia),Nat.mod_eq_of_lt (by omega)];lia
  have e2:jn n q=q+n:=by unfold jn;rw[if_neg (by lia),if_pos hs]
  simp only[c,decide_true,Bool.not_true,en2,pick,if_true,Bool.false_eq_true,if_false,e,e2,rb];rw[if_neg (by lia),show q+n-2*n=q-n by lia]
 ·have e:(q+n)%(2*n)=q+n:=Nat.mod_eq_of_lt (by lia)
  have e2:jn n (2*n+q)=n+q:=by unfold jn;rw[if_neg (by lia),if_neg (by lia),if_pos (by lia)];lia
  simp only[c,decide_false,Bool.not_false,en2,pick,if_true,Bool.false_eq_true,if_false,e,e2,rb];rw[if_pos (by lia),Nat.add_comm]
def uH{s:Bool × Nat}(hs:s.2<2*n):s.1=decide (n<=s.2)↔jn n (en2 n s)≠en2 n s:=by
 obtain⟨b,q⟩:=s;dsimp only at hs;cases b
 ·simp only[en2,Bool.false_eq_true,if_false];by_cases c:n<=q
  ·simp only[c,decide_true,Bool.false_eq_true,false_iff,Classical.not_not];unfold jn;rw[if_neg (by lia),if_neg (by lia),if_neg (by lia)]
  ·simp only[c,decide_false,true_iff];unfold jn;rw[if_neg (by lia),if_neg (by lia),if_pos (by lia)];lia
 ·simp only[en2,if_true];by_cases c:n<=q
  ·simp only[c,decide_true,true_iff];unfold jn;rw[if_neg (by lia),if_pos hs];lia
  ·simp only[c,decide_false,Bool.true_eq_false,false_iff,Classical.not_not];unfold jn;rw[if_pos (by lia)]
def Cg{s:Bool × Nat}(c:¬ s.1=decide (n<=s.2)):stp n h l s=s:=by
 unfold stp;rw[if_neg c]
def Fp{p:Nat}(hp:p<2*n):en2 n (beg n h l p)=rb n h l (out n p):=by
 unfold beg en2 rb out pick;by_cases c:p<n
 ·simp only[c,decide_true,if_true];rw[if_pos (by lia)]
 ·simp only[c,decide_false,Bool.false_eq_true,if_false];rw[if_neg (by lia),show p+2*n-2*n=p by lia]
def jD(F:Frm n h)(G:Frm n l){p k:Nat}(hp:p<2*n)(st:Stp (jn n) (rb n h l) (out n p) k)(hs:∀ j,j<k->¬ Stp (jn n) (rb n h l) (out n p) j) :
  ∀ j,en2 n (itr n h l j (beg n h l p))=wk (jn n) (rb n h l) (out n p) (if 2*j+1<=k then 2*j+1 else k):=by
 have T:=two F G;obtain⟨k1,k2⟩:=lj T (aL hp) st hs (fun y hy=>cS F G hy) (dt hp)
 have blt:(beg n h l p).2<2*n:=by
  unfold beg pick;dsimp only;split
  ·exact F.lt p hp
  ·exact G.lt p hp
 intro j
 induction j with
 |zero=>
  rw[if_pos (by lia)];show en2 n (beg n h l p)=_;rw[Fp hp];exact(eE (k:=0) rfl).symm
 |succ j ih=>
  have hl:=gZ (fun x hx=>F.lt x hx) (fun x hx=>G.lt x hx) (h:=h) (l:=l) blt j;show en2 n (stp n h l (itr n h l j (beg n h l p)))=_;by_cases c:2*(j+1)+1<=k
  ·rw[if_pos (by lia)]at ih;rw[if_pos c]
   have ne:jn n (en2 n (itr n h l j (beg n h l p)))≠en2 n (itr n h l j (beg n h l p)):=by
    rw[ih];intro e;exact hs (2*j+1) (by lia) (.inl (by rw[gK (by lia)];exact e))
   rw[D7 hl ((uH hl).mpr ne),ih,<-gK (a:=jn n) (b:=rb n h l) (x:=out n p) (k:=2*j+1) (by lia),<-eE (a:=jn n) (b:=rb n h l) (x:=out n p) (k:=2*j+1+1) (by lia)];congr 1
  ·rw[if_neg c]
   have e:(if 2*j+1<=k then 2*j+1 else k)=k:=by split<;>lia
   rw[e]at ih;rw[Cg (fun z=>(uH hl).mp z (by rw[ih];exact k2)),ih]
def cz:(a7 n h l).length=2*n:=by simp[a7]
def sG{p:Nat}(hp:p<2*n):at' (a7 n h l) p=(itr n h l (4*n) (beg n h l p)).2:=by simp[a7,at',hp]
def pj(F:Frm n h)(G:Frm n l){p k:Nat}(hp:p<2*n)(hk:k<4*n)(st:Stp (jn n) (rb n h l) (out n p) k)(hs:∀ j,j<k->¬ Stp (jn n) (rb n h l) (out n p) j) :
  at' (a7 n h l) p<2*n/\wk (jn n) (rb n h l) (out n p) k=out n (at' (a7 n h l) p):=by
 have T:=two F G;obtain⟨k1,k2⟩:=lj T (aL hp) st hs (fun y hy=>cS F G hy) (dt hp);have w:=jD F G hp st hs (4*n);rw[show(if 2*(4*n)+1<=k then 2*(4*n)+1 else k)=k by split<;>lia]at w;rw[sG hp]
 have blt:(beg n h l p).2<2*n:=by
  unfold beg pick;dsimp only;split
  ·exact F.lt p hp
  ·exact G.lt p hp
 have hl:=gZ (fun x hx=>F.lt x hx) (fun x hx=>G.lt x hx) (h:=h) (l:=l) blt (4*n);refine⟨hl,?_⟩;rw[<-w];have no:¬ (itr n h l (4*n) (beg n h l p)).1=decide (n<=(itr n h l (4*n) (beg n h l p)).2):=fun z=>(uH hl).mp z (by rw[w];exact k2);generalize itr n h l (4*n) (beg n h l p)=s at *;obtain⟨b,q⟩:=s;unfold en2 out;dsimp only at no hl ⊢;cases b
 ·rw[if_neg (by decide)];have:¬ q<n:=fun c=>no (by simp[show ¬ n<=q by lia]);rw[if_neg this];lia
 ·rw[if_pos rfl]
  have:q<n:=by
   apply Classical.byContradiction;intro c;exact no (by simp[show n<=q by lia])
  rw[if_pos this]
def found_iff(F:Frm n h)(G:Frm n l){p q:Nat}(hp:p<2*n)(hq:q<2*n)(ne:p≠q):at' (a7 n h l) p=q↔Cn (jn n) (rb n h l) (out n p) (out n q):=by
 have T:=two F G;obtain⟨k,hk,st,hs⟩:=hX T (aL hp);obtain⟨e1,e2⟩:=pj F G hp hk st hs;constructor
 ·intro e;rw[<-e,<-e2];exact lD k
 ·intro c;obtain⟨i,hi,e⟩:=nX T (aL hp) st hs (.inl (dt hp)) c
  have fx:jn n (wk (jn n) (rb n h l) (out n p) i)=wk (jn n) (rb n h l) (out n p) i:=by rw[e];exact dt hq
  have ik:i=k:=by
   apply Classical.byContradiction;intro z
   have i0:i≠0:=fun z=>by
    subst z;exact ne (nH e hp hq)
   by_cases c:i%2=1
   ·exact hs i (by lia) (.inl (by rw[gK c];exact fx))
   ·have:=je T (aL hp) (i-1);rw[show i-1+1=i by lia,if_neg (by lia),fx]at this;exact hs (i-1) (by lia) (.inl (by rw[show i-1+1=i by lia];exact this))
  subst ik;rw[e2]at e;exact(nH e e1 hq)
def cL(F:Frm n h)(G:Frm n l):Frm n (a7 n h l):=by
 have T:=two F G
 have lt:∀ p,p<2*n->at' (a7 n h l) p<2*n/\at' (a7 n h l) p≠p:=fun p hp=>by
  obtain⟨k,hk,st,hs⟩:=hX T (aL hp);obtain⟨e1,e2⟩:=pj F G hp hk st hs;obtain⟨k1,k2⟩:=lj T (aL hp) st hs (fun y hy=>cS F G hy) (dt hp);refine⟨e1,fun e=>?_⟩;rw[e]at e2;exact l7 T (aL hp) hs (i:=0) (j:=k) (by lia) (Nat.le_refl _) e2.symm
 refine⟨cz,fun p hp=>(lt p hp).1,fun p=>?_,fun p hp=>(lt p hp).2⟩;by_cases hp:p<2*n
 ·obtain⟨l1,l2⟩:=lt p hp;have c:=(found_iff F G hp l1 (Ne.symm l2)).mp rfl;exact(found_iff F G l1 hp l2).mpr (c.symm T (aL hp))
 ·rw[eC (f:=a7 n h l) (x:=p) (by rw[cz];lia),eC (by rw[cz];lia)]
end
section
variable{cl:Cl}{n:Nat}{h l:List Nat}
def Cs{β:Type}{σ:St}{e:E}{i:Nat}{u g:β->D}(im:∀ x,(g x).imm=true)(xs:List β)(h:∀ x∈xs,ev cl (σ.set i (some (u x))) e=some (g x)):cq (fun σ1=>(ev cl σ1 e).map some) [i] σ (xs.map u)=some (xs.map g) :=
 j6 im xs fun x hx=>by
  show Option.map some (ev cl (σ.set i (some (u x))) e)=_;rw[h x hx];rfl
def AO{σ:St}{e:E}{i:Nat}{g:Nat->D}(im:∀ x,(g x).imm=true)(xs:List Nat)(h:∀ x∈xs,ev cl (σ.set i (some (.int (x:Nat)))) e=some (g x)):cq (fun σ1=>(ev cl σ1 e).map some) [i] σ (L xs)=some (xs.map g) :=
 Cs im xs h
end
section
variable{n:Nat}{h l:List Nat}
def Pth.step{m:Nat}{a b:Nat->Nat}{x y:Nat}(h:Pth m a b x)(c:Cn a b x y):Pth m a b y:=by
 obtain⟨s,h1,h2,h3⟩:=h;exact⟨s,h1,h2,h3.trans c⟩
def fV{m:Nat}(hm:m<n):jn n (n+m)=2*n+m:=by unfold jn;rw[if_neg (by lia),if_pos (by lia)];lia
def i8{m:Nat}(hm:m<n):jn n (2*n+m)=n+m:=by unfold jn;rw[if_neg (by lia),if_neg (by lia),if_pos (by lia)];lia
def nB{a b:Nat->Nat}{x y:Nat}(e:a x=y):Cn a b x y:=by rw[<-e];exact .sa .refl
def l5{a b:Nat->Nat}{x y:Nat}(e:b x=y):Cn a b x y:=by rw[<-e];exact .sb .refl
def rW(F:Frm n h)(G:Frm n l){m:Nat}(hm:m<n):Gn n h l (2*n) m↔Pth (4*n) (jn n) (rb n h l) (n+m):=by
 have T:=two F G;constructor
 ·rintro⟨p,hp,j,hj,t1,t2⟩;obtain⟨k,hk,st,hs⟩:=hX T (aL hp);have w:=jD F G hp st hs j;refine⟨out n p,aL hp,.inl (dt hp),?_⟩
  have c:Cn (jn n) (rb n h l) (out n p) (en2 n (itr n h l j (beg n h l p))):=by rw[w];exact lD _
  have blt:(beg n h l p).2<2*n:=by
   unfold beg pick;dsimp only;split
   ·exact F.lt p hp
   ·exact G.lt p hp
  have hl:=gZ (fun x hx=>F.lt x hx) (fun x hx=>G.lt x hx) (h:=h) (l:=l) blt j;generalize itr n h l j (beg n h l p)=s at *;obtain⟨b,q⟩:=s;dsimp only at t1 t2 hl;unfold en2 at c;cases b
  ·simp only[Bool.false_eq_true,if_false]at c
   have:q<n:=by
    apply Classical.byContradiction;intro z;rw[decide_eq_true (by lia)]at t1;cases t1
   rw[Nat.mod_eq_of_lt this]at t2;subst t2;have:=Cn.sa c;rw[i8 hm]at this;exact this
  ·rw[if_pos rfl]at c;have:n<=q:=of_decide_eq_true t1.symm;rw[Nat.mod_eq_sub_mod this,Nat.mod_eq_of_lt (by lia)]at t2;rw[show n+m=q by lia];exact c
 ·rintro⟨s,h1,h2,h3⟩;have h2:jn n s=s:=h2.resolve_right (cS F G h1);obtain⟨p,hp,rfl⟩:=vQ h1 h2;obtain⟨k,hk,st,hs⟩:=hX T (aL hp);obtain⟨k1,k2⟩:=lj T (aL hp) st hs (fun y hy=>cS F G hy) (dt hp);obtain⟨i,hi,e⟩:=nX T (aL hp) st hs (.inl (dt hp)) h3;have na:=fV hm
  have i0:i≠0:=fun z=>by
   subst z;have:=dt hp;rw[show out n p=n+m from e,na]at this;lia
  have ik:i≠k:=fun z=>by
   subst z;rw[e,na]at k2;lia
  have blt:(beg n h l p).2<2*n:=by
   unfold beg pick;dsimp only;split
   ·exact F.lt p hp
   ·exact G.lt p hp
  by_cases c:i%2=1
  ·obtain⟨j,rfl⟩:∃ j,i=2*j+1:=⟨i / 2,by lia⟩
   have w:=jD F G hp st hs j;rw[if_pos hi,e]at w;have hl:=gZ (fun x hx=>F.lt x hx) (fun x hx=>G.lt x hx) (h:=h) (l:=l) blt j;refine⟨p,hp,j,by lia,?_⟩;unfold Tr;generalize itr n h l j (beg n h l p)=s at *;obtain⟨b,q⟩:=s;unfold en2 at w;dsimp only at w hl ⊢;cases b
   ·rw[if_neg (by decide)]at w;lia
   ·rw[if_pos rfl]at w;subst w;exact⟨(decide_eq_true (by lia)).symm,by rw[Nat.mod_eq_sub_mod (by lia),Nat.mod_eq_of_lt (by lia)];lia⟩
  ·obtain⟨j,rfl⟩:∃ j,i=2*j+1+1:=⟨i / 2-1,by lia⟩
   have w:=jD F G hp st hs j;rw[gK (by lia)]at e
   have e':wk (jn n) (rb n h l) (out n p) (2*j+1)=2*n+m:=by
    have:=congrArg (jn n) e;rw[T.ai _ (iH T (aL hp) _),na]at this;exact this
   rw[if_pos (by lia),e']at w;have hl:=gZ (fun x hx=>F.lt x hx) (fun x hx=>G.lt x hx) (h:=h) (l:=l) blt j;refine⟨p,hp,j,by lia,?_⟩;unfold Tr;generalize itr n h l j (beg n h l p)=s at *;obtain⟨b,q⟩:=s;unfold en2 at w;dsimp only at w hl ⊢;cases b
   ·rw[if_neg (by decide)]at w
    have:q=m:=by lia
    subst this;exact⟨(decide_eq_false (by lia)).symm,Nat.mod_eq_of_lt hm⟩
   ·rw[if_pos rfl]at w;lia
def fQ(F:Frm n h)(G:Frm n l){x:Nat}(hx:x<4*n)(np:¬ Pth (4*n) (jn n) (rb n h l) x):∃ m,m<n/\(x=n+m\/x=2*n+m)/\¬ Pth (4*n) (jn n) (rb n h l) (n+m):=by
 have no:jn n x≠x:=fun e=>np ⟨x,hx,.inl e,.refl⟩;by_cases c:x<2*n
 ·have:n<=x:=by
   apply Classical.byContradiction;intro z;exact no (by unfold jn;rw[if_pos (by lia)])
  exact⟨x-n,by omega,.inl (by lia),by rw[show n+(x-n)=x by lia];exact np⟩
 ·have:x<3*n:=by
   apply Classical.byContradiction;intro z;exact no (by unfold jn;rw[if_neg (by lia),if_neg (by lia),if_neg (by lia)])
  refine⟨x-2*n,by omega,.inr (by lia),fun z=>np (z.step ?_)⟩;have:=fV (n:=n) (m:=x-2*n) (by omega);rw[show 2*n+(x-2*n)=x by lia]at this;exact nB this
def r9(F:Frm n h)(G:Frm n l){m:Nat}(hm:m<n)(np:¬ Pth (4*n) (jn n) (rb n h l) (n+m)):at' l m<n/\¬ Pth (4*n) (jn n) (rb n h l) (n+at' l m)/\Cn (jn n) (rb n h l) (n+m) (n+at' l m):=by
 have T:=two F G;have hl:=G.lt m (by lia)
 have e:rb n h l (2*n+m)=2*n+at' l m:=by unfold rb;rw[if_neg (by lia),show 2*n+m-2*n=m by lia]
 have c:Cn (jn n) (rb n h l) (n+m) (2*n+at' l m):=(nB (fV hm)).trans (l5 e);have np':¬ Pth (4*n) (jn n) (rb n h l) (2*n+at' l m):=fun z=>np (z.step (c.symm T (by lia)));obtain⟨j,hj,e1 | e1,e2⟩:=fQ F G (by lia) np'
 ·lia
 ·have:at' l m=j:=by lia
  rw[this];refine⟨hj,e2,?_⟩;rw[this]at c;have:=Cn.sa c;rw[i8 hj]at this;exact this
def p6(F:Frm n h)(G:Frm n l){m:Nat}(hm:m<n)(np:¬ Pth (4*n) (jn n) (rb n h l) (n+m)):∃ j,j<n/\at' h (n+m)=n+j/\¬ Pth (4*n) (jn n) (rb n h l) (n+j)/\Cn (jn n) (rb n h l) (n+m) (n+j):=by
 have T:=two F G;have hl:=F.lt (n+m) (by lia)
 have e:rb n h l (n+m)=at' h (n+m):=by unfold rb;rw[if_pos (by lia)]
 have c:Cn (jn n) (rb n h l) (n+m) (at' h (n+m)):=l5 e;have np':¬ Pth (4*n) (jn n) (rb n h l) (at' h (n+m)):=fun z=>np (z.step (c.symm T (by lia)));obtain⟨j,hj,e1 | e1,e2⟩:=fQ F G (by lia) np'
 ·exact⟨j,hj,e1,e2,by rw[<-e1];exact c⟩
 ·lia
def yH(F:Frm n h)(G:Frm n l){inner:List Nat}(hin:∀ m,m∈inner↔m<n/\¬ Pth (4*n) (jn n) (rb n h l) (n+m)){f:Nat->Int}
 (f1:∀ x∈inner,∀ y∈inner,f x=f y->Cn (jn n) (rb n h l) (n+x) (n+y))(f2:∀ m∈inner,f (at' l m)=f m)(f3:∀ m∈inner,∀ j,at' h (n+m)=n+j->f j=f m) :
  ∃ S,bp (4*n) (jn n) (rb n h l) S/\(gp (inner.map f)).length=S.length:=by
 have T:=two F G
 have f4:∀ x∈inner,∀ z,Cn (jn n) (rb n h l) (n+x) z->∃ m∈inner,(z=n+m\/z=2*n+m)/\f m=f x:=by
  intro x hx z c
  induction c with
  | refl=>exact⟨x,hx,.inl rfl,rfl⟩
  |sa _ ih=>
   obtain⟨m,hm,e | e,ef⟩:=ih
   ·exact⟨m,hm,.inr (by rw[e,fV ((hin m).mp hm).1]),ef⟩
   ·exact⟨m,hm,.inl (by rw[e,i8 ((hin m).mp hm).1]),ef⟩
  |sb _ ih=>
   obtain⟨m,hm,e | e,ef⟩:=ih
   ·have mn:=((hin m).mp hm).1;obtain⟨j,h1,h2,h3,_⟩:=p6 F G ((hin m).mp hm).1 ((hin m).mp hm).2;exact⟨j,(hin j).mpr ⟨h1,h3⟩,.inl (by rw[e];unfold rb;rw[if_pos (by lia),h2]),by rw[f3 m hm j h2,ef]⟩
   ·obtain⟨h1,h2,_⟩:=r9 F G ((hin m).mp hm).1 ((hin m).mp hm).2;exact⟨at' l m,(hin _).mpr ⟨h1,h2⟩,.inr (by rw[e];unfold rb;rw[if_neg (by lia),show 2*n+m-2*n=m by lia]),by rw[f2 m hm,ef]⟩
 have kB:∀ xs:List Nat,∃ R:List Nat,(∀ r∈R,r∈xs)/\R.map f=gp (xs.map f)/\(R.Pairwise fun r t=>f r≠f t)/\∀ x∈xs,∃ r∈R,f r=f x:=by
  intro xs
  suffices H:∀ (ys:List Nat) (R:List Nat) (done:List Nat),(∀ r∈R,r∈done)->(R.Pairwise fun r t=>f r≠f t)->(∀ x∈done,∃ r∈R,f r=f x)->∃ R':List Nat,(∀ r∈R',r∈done++ys)/\R'.map f=(ys.map f).foldl (fun m k=>if m.any (· == k)then m else m++[k]) (R.map f)/\(R'.Pairwise fun r t=>f r≠f t)/\∀ x∈done++ys,∃ r∈R',f r=f x by
   obtain⟨R,h1,h2,h3,h4⟩:=H xs [] [] (by simp) .nil (by simp);exact⟨R,by simpa using h1,h2,h3,by simpa using h4⟩
  intro ys
  induction ys with
  | nil=>intro R done h1 h2 h3;exact⟨R,by simpa using h1,rfl,h2,by simpa using h3⟩
  |cons y ys ih=>
   intro R done h1 h2 h3;by_cases c:(R.map f).any (· == f y)=true
   ·obtain⟨R',g1,g2,g3,g4⟩:=ih R (done++[y]) (fun r hr=>by simp[h1 r hr]) h2 (fun x hx=>by
     rcases List.mem_append.mp hx with hx | hx
     ·exact h3 x hx
     ·have:x=y:=by simpa using hx
      subst this
      simpa using c)
    exact⟨R',by simpa using g1,by rw[List.map_cons,List.foldl_cons,if_pos c];exact g2,g3,by simpa using g4⟩
   ·obtain⟨R',g1,g2,g3,g4⟩:=ih (R++[y]) (done++[y]) (fun r hr=>by
     rcases List.mem_append.mp hr with hr | hr
     ·simp[h1 r hr]
     ·simp at hr;simp[hr]) (by
     rw[List.pairwise_append];refine⟨h2,by simp,fun r hr t ht e=>c ?_⟩
     have:t=y:=by simpa using ht
     subst this
     simpa using⟨r,hr,e⟩) (fun x hx=>by
     rcases List.mem_append.mp hx with hx | hx
     ·obtain⟨r,a1,a2⟩:=h3 x hx;exact⟨r,by simp[a1],a2⟩
     ·have:x=y:=by simpa using hx
      subst this
      exact⟨x,by simp,rfl⟩)
    exact⟨R',by simpa using g1,by rw[List.map_cons,List.foldl_cons,if_neg c];simpa using g2,g3,by simpa using g4⟩
 obtain⟨R,r1,r2,r3,r4⟩:=kB inner;refine⟨R.map fun m=>n+m,⟨fun s hs=>?_,?_,fun s hs y hy=>?_,fun x hx=>?_⟩,by rw[<-r2];simp⟩
 ·obtain⟨m,hm,rfl⟩:=List.mem_map.mp hs;have:=((hin m).mp (r1 m hm)).1;lia
 ·rw[List.pairwise_map];refine List.Pairwise.imp_of_mem ?_ r3;intro a b ha hb ne c;obtain⟨m,hm,e | e,ef⟩:=f4 a (r1 a ha) _ c
  ·have:m=b:=by lia
   subst this;exact ne ef.symm
  ·have:=((hin m).mp hm).1;have:=((hin b).mp (r1 b hb)).1;lia
 ·obtain⟨m,hm,rfl⟩:=List.mem_map.mp hs;obtain⟨j,hj,e,_⟩:=f4 m (r1 m hm) y hy;have jn':=((hin j).mp hj).1;refine⟨?_,cS F G (by rcases e with rfl | rfl<;>lia)⟩;rcases e with rfl | rfl
  ·rw[fV jn'];lia
  ·rw[i8 jn'];lia
 ·by_cases np:Pth (4*n) (jn n) (rb n h l) x
  ·exact .inl np
  ·obtain⟨m,hm,e,nm⟩:=fQ F G hx np;have mi:=(hin m).mpr ⟨hm,nm⟩;obtain⟨r,hr,er⟩:=r4 m mi;refine .inr ⟨n+r,List.mem_map.mpr ⟨r,hr,rfl⟩,?_⟩;have c:=f1 r (r1 r hr) m mi er;rcases e with rfl | rfl
   ·exact c
   ·exact c.trans (nB (fV hm))
end
section
variable{cl:Cl}{n:Nat}{h l inner:List Nat}
abbrev HF(inner:List Nat)(hk:List Ky)(hv:List D)(f:Nat->Int):Prop:=hk.length=hv.length/\hk.length<=10/\∀ m∈inner,aF hk hv (.inl (m:Int))=some (.int (f m))
def HF.hi{hk:List Ky}{hv:List D}{f:Nat->Int}(H:HF inner hk hv f):HI inner hk hv:=⟨H.1,H.2.1,fun m hm=>⟨f m,H.2.2 m hm⟩⟩
def HF.put{hk:List Ky}{hv:List D}{f:Nat->Int}(H:HF inner hk hv f){m:Nat}(hm:m∈inner)(v:Int):HF inner (putD hk hv (.inl (m:Int)) (.int v)).1 (putD hk hv (.inl (m:Int)) (.int v)).2 (fun x=>if x=m then v else f x):=by
 obtain⟨p1,p2,_⟩:=H.hi.put hm v;refine⟨p1,p2,fun x hx=>?_⟩;rw[eL H.1];dsimp only;by_cases c:x=m
 ·subst c;rw[if_pos rfl,if_pos rfl]
 ·rw[if_neg (fun e=>c (by injection e with e;lia)),if_neg c];exact H.2.2 x hx
def xI{hk:List Ky}{hv:List D}(hl:hk.length<=10)(x:Nat)(d:D):da (.dK hk hv) (.int (x:Nat)) d=some (.dK (putD hk hv (.inl (x:Int)) d).1 (putD hk hv (.inl (x:Int)) d).2):=by
 dsimp only[da,keyOf];rw[Option.bind_some,if_pos (by unfold most;lia)]
def qV{hk:List Ky}{hv:List D}{f:Nat->Int}(H:HF inner hk hv f)(o5 o6 o7:Option D)(keep go:Int):∃ hk' hv' o7',HF inner hk' hv' (fun x=>if f x=go then keep else f x)/\aO (ag cl [4] bH) [7] (L inner) (rst n h l inner hk hv o5 o6 o7 (some (.int keep)) (some (.int go)))=some (.nx,rst n h l inner hk' hv' o5 o6 o7' (some (.int keep)) (some (.int go))):=by
 obtain⟨σ',e,hk',hv',o7',g,rfl,H',hg⟩:=bU (f:=ag cl [4] bH) (tg:=[7]) (xs:=inner) (σ:=rst n h l inner hk hv o5 o6 o7 (some (.int keep)) (some (.int go)))
  (fun p σ=>∃ (hk':List Ky) (hv':List D) (o7':Option D) (g:Nat->Int),σ=rst n h l inner hk' hv' o5 o6 o7' (some (.int keep)) (some (.int go))/\HF inner hk' hv' g/\∀ x,g x=if x∈p then(if f x=go then keep else f x)else f x) ⟨hk,hv,o7,f,rfl,H,fun x=>by simp⟩ (by
   rintro p x q σ hx ⟨hk',hv',o7',g,rfl,H',hg⟩
   have hm:x∈inner:=by rw[hx];simp
   have lk:=gb (H'.2.2 x hm);show ∃ σ2,ag cl [4] bH (rst n h l inner hk' hv' o5 o6 (some (.int (x:Nat))) (some (.int keep)) (some (.int go)))=some (.nx,σ2)/\_;by_cases c:g x=go
   ·refine⟨rst n h l inner (putD hk' hv' (.inl (x:Int)) (.int keep)).1 (putD hk' hv' (.inl (x:Int)) (.int keep)).2 o5 o6 (some (.int (x:Nat))) (some (.int keep)) (some (.int go)),iV (bL (aT (j8 (aa rfl) (aa rfl) lk) (aa rfl) (by rw[dO];congr 1;simp[c]))) (kC (aa rfl) (aa rfl) rfl rfl (xI H'.2.1 x _) aR) aR,_,_,_,_,rfl,H'.put hm keep,fun y=>?_⟩;by_cases e:y=x
    ·subst e;rw[if_pos rfl,if_pos (by simp)];rw[hg]at c;split at c
     ·split
      ·rfl
      ·rename_i z1 z2;rw[if_neg z2]at c;exact absurd c z2
     ·rw[if_pos c]
    ·rw[if_neg e,hg y];simp[e]
   ·refine⟨rst n h l inner hk' hv' o5 o6 (some (.int (x:Nat))) (some (.int keep)) (some (.int go)),cW (bL (aT (j8 (aa rfl) (aa rfl) lk) (aa rfl) (by rw[dO];congr 1;simp[c]))) aR,_,_,_,_,rfl,H',fun y=>?_⟩;by_cases e:y=x
    ·subst e;rw[if_pos (by simp)];rw[hg]at c ⊢;split at c
     ·rename_i z;rw[if_pos z]
     ·rename_i z;rw[if_neg z,if_neg c]
    ·rw[hg y]
     simp[e])
 refine⟨hk',hv',o7',⟨H'.1,H'.2.1,fun m hm=>?_⟩,e⟩;rw[H'.2.2 m hm,hg m,if_pos hm]
abbrev Tog(n:Nat)(h l inner:List Nat)(f:Nat->Int):Prop:=∀ x∈inner,∀ y∈inner,f x=f y->Cn (jn n) (rb n h l) (n+x) (n+y)
abbrev mg(f:Nat->Int)(m o x:Nat):Int:=if f x=f o then f m else f x
def mG{f:Nat->Int}{m o a b:Nat}(e:f a=f b):mg f m o a=mg f m o b:=by unfold mg;rw[e]
def Ak{f:Nat->Int}{m o:Nat}:mg f m o o=mg f m o m:=by
 unfold mg;rw[if_pos rfl];split<;>rfl
def Tog.merge(F:Frm n h)(G:Frm n l){f:Nat->Int}(t:Tog n h l inner f)(hlt:∀ m∈inner,m<n){m o:Nat}(hm:m∈inner)(ho:o∈inner)(c:Cn (jn n) (rb n h l) (n+m) (n+o)):Tog n h l inner (mg f m o):=by
 have T:=two F G;intro x hx y hy e;have lx:=hlt x hx;have ly:=hlt y hy;have lm:=hlt m hm;have lo:=hlt o ho;unfold mg at e;split at e
 ·rename_i e1;split at e
  ·rename_i e2;exact t x hx y hy (e1.trans e2.symm)
  ·exact(t x hx o ho e1).trans ((c.symm T (by lia)).trans (t m hm y hy e))
 ·split at e
  ·rename_i e2;exact(t x hx m hm e).trans (c.trans (t o ho y hy e2.symm))
  ·exact t x hx y hy e
def uG(h1:1<=n)(hn:n<=10)(F:Frm n h)(G:Frm n l)(hil:inner.length<=n)(hin:∀ m,m∈inner↔m<n/\¬ Pth (4*n) (jn n) (rb n h l) (n+m)):∃ S:List Nat,bp (4*n) (jn n) (rb n h l) S/\evF cl bW [.tup (L h),.tup (L l),.lst (L inner)]=some (.int (S.length:Nat)):=by
 have e6:=half (xs:=L h) (n:=n) (by rw[aM,F.len])
 obtain⟨σ1,l1,hk,hv,o5,rfl,H0,H1,H2⟩:=bU (f:=ag cl [4] dE) (tg:=[5]) (xs:=inner) (σ:=rst n h l inner [] [] none none none none none)
  (fun p σ=>∃ hk hv o5,σ=rst n h l inner hk hv o5 none none none none/\hk.length=hv.length/\hk.length<=p.length/\∀ m∈p,aF hk hv (.inl (m:Int))=some (.int (m:Nat))) ⟨[],[],none,rfl,rfl,by simp,by simp⟩ (by
   rintro p x q σ hx ⟨hk,hv,o5,rfl,H0,H1,H2⟩
   have hp:p.length<10:=by
    have:=congrArg List.length hx;simp at this;lia
   have pl:=fX (x:=(.inl (x:Int):Ky)) (d:=.int (x:Nat)) H0;refine⟨rst n h l inner (putD hk hv (.inl (x:Int)) (.int (x:Nat))).1 (putD hk hv (.inl (x:Int)) (.int (x:Nat))).2 (some (.int (x:Nat))) none none none none,kC (cl:=cl) (M:=[4]) (σ:=rst n h l inner hk hv (some (.int (x:Nat))) none none none none) (r:=.nil) (aa rfl) (aa rfl) rfl rfl (xI (by lia) x _) aR,_,_,_,rfl,pl.1,by have:=pl.2;simp;lia,fun m hm=>?_⟩;rw[eL H0];by_cases e:(.inl (x:Int):Ky)=.inl (m:Int)
   ·rw[if_pos e];injection e with e
    have:x=m:=by lia
    rw[this]
   ·rw[if_neg e];simp at hm;rcases hm with hm | hm
    ·exact H2 m hm
    ·exact absurd (by rw[hm]) e)
 have H:HF inner hk hv (fun m=>(m:Int)):=⟨H0,by lia,H2⟩
 obtain⟨σ2,l2',hk',hv',o5',o6',o7',o8',o9',f,rfl,H',t,pr⟩:=bU (f:=ag cl [4] dF) (tg:=[5]) (xs:=inner) (σ:=rst n h l inner hk hv o5 none none none none)
  (fun p σ=>∃ (hk:List Ky) (hv:List D) (o5 o6 o7 o8 o9:Option D) (f:Nat->Int),σ=rst n h l inner hk hv o5 o6 o7 o8 o9/\HF inner hk hv f/\Tog n h l inner f/\∀ m∈p,f (at' l m)=f m/\∀ j,at' h (n+m)=n+j->f j=f m) ⟨hk,hv,o5,none,none,none,none,_,rfl,H,fun x _ y _ e=>by
   have e:(x:Int)=(y:Int):=e
   have:x=y:=by lia
   subst this
   exact .refl,by simp⟩ (by
   rintro p x q σ hx ⟨hk',hv',o5',o6',o7',o8',o9',f,rfl,H',t,pr⟩
   have hm:x∈inner:=by rw[hx];simp
   have hsub:∀ m∈p,m∈inner:=fun m hm=>by rw[hx];simp[hm]
   have hlt:∀ m∈inner,m<n:=fun m hm=>((hin m).mp hm).1;have xn:=hlt x hm;obtain⟨ln,lp,lc⟩:=r9 F G xn ((hin x).mp hm).2;obtain⟨j,jn',hjj,jp,jc⟩:=p6 F G xn ((hin x).mp hm).2;have li:=(hin _).mpr ⟨ln,lp⟩;have ji:=(hin _).mpr ⟨jn',jp⟩;obtain⟨hk2,hv2,o72,H2,e2⟩:=qV (cl:=cl) (n:=n) (h:=h) (l:=l) H' (some (.int (x:Nat))) (some (.int (at' l x:Nat))) o7' (f x) (f (at' l x));have t2:=t.merge F G hlt hm li lc;have H2:HF inner hk2 hv2 (mg f x (at' l x)):=H2;obtain⟨hk3,hv3,o73,H3,e3⟩:=qV (cl:=cl) (n:=n) (h:=h) (l:=l) H2 (some (.int (x:Nat))) (some (.int (j:Nat))) o72 (mg f x (at' l x) x) (mg f x (at' l x) j);have H3:HF inner hk3 hv3 (mg (mg f x (at' l x)) x j):=H3;have t3:=t2.merge F G hlt hm ji jc
   have s1:ag cl [4] cj (rst n h l inner hk' hv' (some (.int (x:Nat))) (some (.int (at' l x:Nat))) o7' o8' o9')=some (.nx,rst n h l inner hk2 hv2 (some (.int (x:Nat))) (some (.int (at' l x:Nat))) o72 (some (.int (f x))) (some (.int (f (at' l x))))) :=
    kH (j8 (aa rfl) (aa rfl) (gb (H'.2.2 x hm))) (j8 (aa rfl) (aa rfl) (gb (H'.2.2 _ li))) rfl (cN (dY (aa rfl) rfl) e2 aR)
   have s2:ag cl [4] cj (rst n h l inner hk2 hv2 (some (.int (x:Nat))) (some (.int (j:Nat))) o72 (some (.int (f x))) (some (.int (f (at' l x)))))=some (.nx,rst n h l inner hk3 hv3 (some (.int (x:Nat))) (some (.int (j:Nat))) o73 (some (.int (mg f x (at' l x) x))) (some (.int (mg f x (at' l x) j)))) :=
    kH (j8 (aa rfl) (aa rfl) (gb (H2.2.2 x hm))) (j8 (aa rfl) (aa rfl) (gb (H2.2.2 _ ji))) rfl (cN (dY (aa rfl) rfl) e3 aR)
   have i1:=fh (f:=l) (x:=x) (by rw[G.len];lia);have i2:=fh (f:=h) (x:=n+x) (by rw[F.len];lia);rw[hjj]at i2;refine⟨rst n h l inner hk3 hv3 (some (.int (x:Nat))) (some (.int (j:Nat))) o73 (some (.int (mg f x (at' l x) x))) (some (.int (mg f x (at' l x) j))),cN (cl:=cl) (M:=[4]) (σ:=rst n h l inner hk' hv' (some (.int (x:Nat))) o6' o7' o8' o9') (dY (x:=.tup [.int (at' l x:Nat),.int (j:Nat)]) (uI (aE (cA (aa rfl) (aa rfl) i1) (aE (az (cA (aa rfl) (az (aa rfl) (aa rfl) (by rw[bJ];rfl)) i2) (aa rfl) (by rw[dI];congr 2;lia)) bK))) rfl) ?_ aR,_,_,_,_,_,_,_,_,rfl,H3,t3,fun m hm'=>?_⟩
   ·exact oC rfl rfl s1 (oC rfl rfl s2 wN)
   ·rcases List.mem_append.mp hm' with hp | hp
    ·obtain⟨q1,q2⟩:=pr m hp;exact⟨mG (mG q1),fun j' hj'=>mG (mG (q2 j' hj'))⟩
    ·have:m=x:=by simpa using hp
     subst this;refine⟨mG Ak,fun j' hj'=>?_⟩
     have:j'=j:=by lia
     subst this
     exact Ak)
 obtain⟨S,R,hS⟩:=yH F G hin t (fun m hm=>(pr m hm).1) (fun m hm=>(pr m hm).2);refine⟨S,R,?_⟩;have mc:=AO (cl:=cl) (σ:=rst n h l inner hk' hv' o5' o6' o7' o8' o9') (e:=.ixD (.var 4) (.var 5)) (i:=5) (g:=fun m=>.int (f m)) (fun _=>rfl) inner (fun x hx=>j8 (aa rfl) (aa rfl) (gb (H'.2.2 x hx)))
 have ls:biV .lenSet (.lst (inner.map fun m=>.int (f m)))=some (.int (S.length:Nat)):=by
  dsimp only[biV];rw[if_pos (by simp;lia),ints_map,<-hS];rfl
 exact bf rfl rfl (aI (az (bN (aa rfl) e6) aj (uV n)) rfl (eA (d:=.dK [] []) (by rw[ev]) rfl (cN (dY (aa rfl) rfl) l1 (cN (dY (aa rfl) rfl) l2' (aX (bN (eg (dY (aa rfl) rfl) (by rw[aM];unfold most;lia) mc) ls) rfl)))))
end
section
variable{T:List Fn}{nu pc pa nb un if' cf po rp ir mv rn mk rg jb pu c2 hu:Nat}
end
section
variable{T:List Fn}{mx rw dg pl hk ci ft tx rg hu ov fr:Nat}
end
section
variable{n:Nat}{f:List Nat}
def lW{p:Nat}(hp:p<2*n):Cn (jn n) (rb n (ay n) f) (out n p) (2*n+p):=by
 unfold out;split
 ·rename_i c
  have e:rb n (ay n) f p=n+p:=by unfold rb;rw[if_pos (by lia),plain_at,if_pos c]
  exact(l5 e).trans (nB (fV c))
 ·rw[Nat.add_comm];exact .refl
def m7{p:Nat}(hp:p<2*n):Cn (jn n) (rb n f (ay n)) (out n p) p:=by
 unfold out;split
 ·exact .refl
 ·rename_i c
  have e:rb n f (ay n) (p+2*n)=2*n+(p-n):=by unfold rb;rw[if_neg (by lia),show p+2*n-2*n=p by lia,plain_at,if_neg c,if_pos hp]
  have:=i8 (n:=n) (m:=p-n) (by lia);rw[show n+(p-n)=p by lia]at this;exact(l5 e).trans (nB this)
def oj(F:Frm n f):a7 n (ay n) f=f:=by
 have T:=two (bI n) F;refine gi cz F.len fun p hp=>?_;have hl:=F.lt p hp;refine(found_iff (bI n) F hp hl (Ne.symm (F.no p hp))).mpr ?_
 have e:rb n (ay n) f (2*n+p)=2*n+at' f p:=by unfold rb;rw[if_neg (by lia),show 2*n+p-2*n=p by lia]
 exact(lW hp).trans ((l5 e).trans ((lW hl).symm T (aL hl)))
def oP(F:Frm n f):a7 n f (ay n)=f:=by
 have T:=two F (bI n);refine gi cz F.len fun p hp=>?_;have hl:=F.lt p hp;refine(found_iff F (bI n) hp hl (Ne.symm (F.no p hp))).mpr ?_
 have e:rb n f (ay n) p=at' f p:=by unfold rb;rw[if_pos hp]
 exact(m7 hp).trans ((l5 e).trans ((m7 hl).symm T (aL hl)))
def om(F:Frm n f):bp (4*n) (jn n) (rb n (ay n) f) []:=by
 refine⟨by simp,.nil,by simp,fun x hx=>.inl ?_⟩;apply Classical.byContradiction;intro np;obtain⟨m,hm,_,nm⟩:=fQ (bI n) F hx np;refine nm ⟨out n m,aL (by lia),.inl (dt (by lia)),?_⟩;have:=Cn.sa (lW (n:=n) (f:=f) (p:=m) (by lia));rw[i8 hm]at this;exact this
def oU(F:Frm n f):bp (4*n) (jn n) (rb n f (ay n)) []:=by
 refine⟨by simp,.nil,by simp,fun x hx=>.inl ?_⟩;apply Classical.byContradiction;intro np;obtain⟨m,hm,_,nm⟩:=fQ F (bI n) hx np;exact nm ⟨out n (n+m),aL (by lia),.inl (dt (by lia)),m7 (by lia)⟩
end
def my{xs:List Nat}{b:Nat->Nat}(nd:xs.Nodup)(cl:∀ x∈xs,b x∈xs)(bi:∀ x∈xs,b (b x)=x)(no:∀ x∈xs,b x≠x):xs.length%2=0:=by
 have h1:(xs.filter fun x=>decide (x<b x)).length<=(xs.filter fun x=>decide (b x<x)).length:=by
  have:(xs.filter fun x=>decide (x<b x)).length=((xs.filter fun x=>decide (x<b x)).map b).length:=by simp
  rw[this];refine cQ ?_ fun y hy=>?_
  ·rw[List.nodup_iff_pairwise_ne,List.pairwise_map];refine List.Pairwise.imp_of_mem ?_ (List.nodup_iff_pairwise_ne.mp (nd.filter _));intro x y hx hy hne e;rw[List.mem_filter]at hx hy;exact hne (by rw[<-bi x hx.1,e,bi y hy.1])
  ·obtain⟨x,hx,rfl⟩:=List.mem_map.mp hy;rw[List.mem_filter,decide_eq_true_eq]at hx ⊢;exact⟨cl x hx.1,by rw[bi x hx.1];exact hx.2⟩
 have h2:(xs.filter fun x=>decide (b x<x)).length<=(xs.filter fun x=>decide (x<b x)).length:=by
  have:(xs.filter fun x=>decide (b x<x)).length=((xs.filter fun x=>decide (b x<x)).map b).length:=by simp
  rw[this];refine cQ ?_ fun y hy=>?_
  ·rw[List.nodup_iff_pairwise_ne,List.pairwise_map];refine List.Pairwise.imp_of_mem ?_ (List.nodup_iff_pairwise_ne.mp (nd.filter _));intro x y hx hy hne e;rw[List.mem_filter]at hx hy;exact hne (by rw[<-bi x hx.1,e,bi y hy.1])
  ·obtain⟨x,hx,rfl⟩:=List.mem_map.mp hy;rw[List.mem_filter,decide_eq_true_eq]at hx ⊢;exact⟨cl x hx.1,by rw[bi x hx.1];exact hx.2⟩
 have h3:∀ ys:List Nat,(∀ x∈ys,b x≠x)->ys.length=(ys.filter fun x=>decide (x<b x)).length+(ys.filter fun x=>decide (b x<x)).length:=by
  intro ys
  induction ys with
  | nil=>intro _;rfl
  |cons y ys ih=>
   intro h;have i:=ih fun x hx=>h x (List.mem_cons_of_mem _ hx);have hy:=h y List.mem_cons_self;rw[List.filter_cons,List.filter_cons];by_cases c:y<b y
   ·rw[if_pos (decide_eq_true c),if_neg (by rw[decide_eq_true_eq];lia)];simp only[List.length_cons];lia
   ·rw[if_neg (by rw[decide_eq_true_eq];exact c),if_pos (decide_eq_true (by lia))];simp only[List.length_cons];lia
 have:=h3 xs no;lia
section
variable{n:Nat}{h l:List Nat}
abbrev rp(n x:Nat):Nat:=if x<2*n then rd n x else 2*n+rd n (x-2*n)
abbrev phi(n:Nat)(Q:List Nat)(x:Nat):Nat:=(Q.filter fun y=>decide (y<2*n↔x<2*n)&&decide (rp n y<rp n x)).length
def gx(Q:List Nat)(P R:Nat->Bool):(Q.filter P).length=(Q.filter fun y=>P y&&R y).length+(Q.filter fun y=>P y && !R y).length:=by
 induction Q with
 | nil=>rfl
 |cons y Q ih=>
  rw[List.filter_cons,List.filter_cons,List.filter_cons];cases P y<;>cases R y<;>simp[ih]<;>lia
def bR{Q:List Nat}{P R:Nat->Bool}(e:∀ y∈Q,P y=R y):(Q.filter P).length=(Q.filter R).length:=by rw[List.filter_congr e]
def mL{x y:Nat}(hx:x<4*n)(hy:y<4*n)(e:rp n x=rp n y):x=y:=by
 unfold rp at e;have:∀ q,q<2*n->rd n q<2*n:=fun q hq=>aK hq;split at e<;>split at e
 ·exact ju (by lia) (by lia) e
 ·have:=this x (by lia);lia
 ·have:=this y (by lia);lia
 ·have:=ju (n:=n) (p:=x-2*n) (q:=y-2*n) (by omega) (by omega) (by lia);omega
def xB(V:Val n h)(W:Val n l){x y:Nat}(hx:x<4*n)(hy:y<4*n):¬ (rp n x<rp n y/\rp n y<rp n (rb n h l x)/\rp n (rb n h l x)<rp n (rb n h l y)):=by
 have F:=V.frm;have G:=W.frm;have T:=two F G;rintro⟨h1,h2,h3⟩;have r2:∀ q,q<2*n->rd n q<2*n:=fun q hq=>aK hq;by_cases cx:x<2*n
 ·have ex:rb n h l x=at' h x:=by unfold rb;rw[if_pos cx]
  have lx:=F.lt x cx;by_cases cy:y<2*n
  ·have ey:rb n h l y=at' h y:=by unfold rb;rw[if_pos cy]
   have ly:=F.lt y cy;rw[ex]at h2 h3;rw[ey]at h3;unfold rp at h1 h2 h3;rw[if_pos cx,if_pos cy]at h1;rw[if_pos cy,if_pos lx]at h2;rw[if_pos lx,if_pos ly]at h3;refine V.nox (rd n x) (rd n y) (aK cx) (aK cy) ?_;unfold rnd;rw[b8 cx,b8 cy];exact⟨h1,h2,h3⟩
  ·rw[ex]at h2;unfold rp at h2;rw[if_neg cy,if_pos lx]at h2;have:=r2 _ lx;lia
 ·have ex:rb n h l x=2*n+at' l (x-2*n):=by unfold rb;rw[if_neg cx]
  have lx:=G.lt (x-2*n) (by omega);by_cases cy:y<2*n
  ·unfold rp at h1;rw[if_neg cx,if_pos cy]at h1;have:=r2 _ cy;lia
  ·have ey:rb n h l y=2*n+at' l (y-2*n):=by unfold rb;rw[if_neg cy]
   have ly:=G.lt (y-2*n) (by omega);rw[ex]at h2 h3;rw[ey]at h3;unfold rp at h1 h2 h3;rw[if_neg cx,if_neg cy]at h1;rw[if_neg cy,if_neg (by lia),Nat.add_sub_cancel_left]at h2;rw[if_neg (by lia),if_neg (by lia),Nat.add_sub_cancel_left,Nat.add_sub_cancel_left]at h3;refine W.nox (rd n (x-2*n)) (rd n (y-2*n)) (aK (by omega)) (aK (by omega)) ?_;unfold rnd;rw[b8 (by omega),b8 (by omega)];exact⟨by lia,by lia,by lia⟩
structure Cls(n:Nat)(h l Q:List Nat):Prop where
 nd:Q.Nodup
 lt:∀ y∈Q,y<4*n
 b:∀ y∈Q,rb n h l y∈Q
 a:∀ y∈Q,jn n y∈Q
def nG(F:Frm n h)(G:Frm n l){x:Nat}(hx:x<4*n):rb n h l x<2*n↔x<2*n:=by
 unfold rb;split
 ·rename_i c;have:=F.lt x c;lia
 ·lia
def FZ(V:Val n h)(W:Val n l){Q:List Nat}(C:Cls n h l Q){x:Nat}(hx:x<4*n)(hq:x∉Q):phi n Q (rb n h l x)%2=phi n Q x%2:=by
 have F:=V.frm;have G:=W.frm;have T:=two F G
 have key:∀ x,x<4*n->x∉Q->rp n x<rp n (rb n h l x)->phi n Q (rb n h l x)%2=phi n Q x%2:=by
  intro x hx hq lt;have bl:=T.bl x hx;have bq:rb n h l x∉Q:=fun z=>hq (by have:=C.b _ z;rw[T.bi x hx]at this;exact this);have sd:=nG F G (h:=h) (l:=l) hx
  have e:phi n Q (rb n h l x)=phi n Q x+(Q.filter fun y=>decide (y<2*n↔x<2*n)&&(decide (rp n x<rp n y)&&decide (rp n y<rp n (rb n h l x)))).length:=by
   unfold phi;rw[gx Q (fun y=>decide (y<2*n↔rb n h l x<2*n)&&decide (rp n y<rp n (rb n h l x))) (fun y=>decide (rp n y<rp n x))];congr 1
   ·refine bR fun y hy=>?_;rw[Bool.eq_iff_iff];simp only[Bool.and_eq_true,decide_eq_true_eq];rw[sd];lia
   ·refine bR fun y hy=>?_;have ne:rp n y≠rp n x:=fun e=>hq (mL (C.lt y hy) hx e▸hy);rw[Bool.eq_iff_iff];simp only[Bool.and_eq_true,decide_eq_true_eq,Bool.not_eq_true',decide_eq_false_iff_not];rw[sd];lia
  have ev:=my (b:=rb n h l) (xs:=Q.filter fun y=>decide (y<2*n↔x<2*n)&&(decide (rp n x<rp n y)&&decide (rp n y<rp n (rb n h l x)))) (C.nd.filter _) (fun y hy=>by
   simp only[List.mem_filter,Bool.and_eq_true,decide_eq_true_eq]at hy ⊢;obtain⟨y1,y2,y3,y4⟩:=hy;have ly:=C.lt y y1;have lb:=T.bl y ly;refine⟨C.b y y1,by rw[nG F G ly];exact y2,?_⟩;have n1:=xB V W hx ly;have n2:=xB V W lb hx;rw[T.bi y ly]at n2;have ne1:rp n (rb n h l y)≠rp n x:=fun e=>hq (mL lb hx e▸C.b y y1);have ne2:rp n (rb n h l y)≠rp n (rb n h l x):=fun e=>bq (mL lb bl e▸C.b y y1)
   lia) (fun y hy=>by
   simp only[List.mem_filter]at hy
   exact T.bi y (C.lt y hy.1)) (fun y hy=>by
   simp only[List.mem_filter]at hy
   exact cS F G (C.lt y hy.1))
  lia
 by_cases c:rp n x<rp n (rb n h l x)
 ·exact key x hx hq c
 ·have bl:=T.bl x hx;have bq:rb n h l x∉Q:=fun z=>hq (by have:=C.b _ z;rw[T.bi x hx]at this;exact this);have ne:rp n (rb n h l x)≠rp n x:=fun e=>cS F G hx (mL bl hx e);have:=key (rb n h l x) bl bq (by rw[T.bi x hx];lia);rw[T.bi x hx]at this;exact this.symm
def ud(F:Frm n h)(G:Frm n l){Q:List Nat}(C:Cls n h l Q):(Q.filter fun y=>decide (y<2*n)).length%2=0:=by
 have T:=two F G;refine my (b:=rb n h l) (C.nd.filter _) (fun y hy=>?_) (fun y hy=>?_) (fun y hy=>?_)
 ·simp only[List.mem_filter,decide_eq_true_eq]at hy ⊢;exact⟨C.b y hy.1,(nG F G (C.lt y hy.1)).mpr hy.2⟩
 ·simp only[List.mem_filter]at hy;exact T.bi y (C.lt y hy.1)
 ·simp only[List.mem_filter]at hy;exact cS F G (C.lt y hy.1)
set_option synthInstance.maxSize 10000 in
set_option synthInstance.maxHeartbeats 0 in
def jh:∀ n,n<11->∀ m,m<n->∀ y,y<4*n->(decide (y<2*n↔2*n+m<2*n)&&decide (rp n y<rp n (2*n+m)))=decide (2*n<=y/\y<2*n+m) /\
  (y≠n+m->(decide (y<2*n) && !decide (rp n y<rp n (n+m)))=decide (n<=y/\y<n+m))/\(decide (y<2*n↔n+m<2*n)&&decide (rp n y<rp n (n+m)))=(decide (y<2*n)&&decide (rp n y<rp n (n+m))) /\
  (2*n<=y->y<2*n+m->n<=jn n y/\jn n y<n+m)/\(n<=y->y<n+m->2*n<=jn n y/\jn n y<2*n+m):=by decide +kernel
def tN(hn:n<11)(F:Frm n h)(G:Frm n l){Q:List Nat}(C:Cls n h l Q){m:Nat}(hm:m<n)(hq:n+m∉Q):phi n Q (2*n+m)%2=phi n Q (n+m)%2:=by
 have T:=two F G
 have swap:(Q.filter fun y=>decide (2*n<=y/\y<2*n+m)).length=(Q.filter fun y=>decide (n<=y/\y<n+m)).length:=by
  have go:∀ (P R:Nat->Bool),(∀ y,y<4*n->P y=true->R (jn n y)=true)->(Q.filter P).length<=(Q.filter R).length:=fun P R hPR=>by
   have:(Q.filter P).length=((Q.filter P).map (jn n)).length:=by simp
   rw[this];refine cQ ?_ fun y hy=>?_
   ·rw[List.nodup_iff_pairwise_ne,List.pairwise_map];refine List.Pairwise.imp_of_mem ?_ (List.nodup_iff_pairwise_ne.mp (C.nd.filter _));intro x y hx hy hne e;rw[List.mem_filter]at hx hy;exact hne (by rw[<-T.ai x (C.lt x hx.1),e,T.ai y (C.lt y hy.1)])
   ·obtain⟨x,hx,rfl⟩:=List.mem_map.mp hy;rw[List.mem_filter]at hx ⊢;exact⟨C.a x hx.1,hPR x (C.lt x hx.1) hx.2⟩
  refine Nat.le_antisymm (go _ _ fun y hy e=>?_) (go _ _ fun y hy e=>?_)
  ·rw[decide_eq_true_eq]at e ⊢;exact(jh n hn m hm y hy).2.2.2.1 e.1 e.2
  ·rw[decide_eq_true_eq]at e ⊢;exact(jh n hn m hm y hy).2.2.2.2 e.1 e.2
 have e1:phi n Q (2*n+m)=(Q.filter fun y=>decide (2*n<=y/\y<2*n+m)).length:=bR fun y hy=>(jh n hn m hm y (C.lt y hy)).1
 have e2:phi n Q (n+m)+(Q.filter fun y=>decide (n<=y/\y<n+m)).length=(Q.filter fun y=>decide (y<2*n)).length:=by
  rw[gx Q (fun y=>decide (y<2*n)) (fun y=>decide (rp n y<rp n (n+m)))];congr 1
  ·exact bR fun y hy=>(jh n hn m hm y (C.lt y hy)).2.2.1
  ·exact(bR fun y hy=>(jh n hn m hm y (C.lt y hy)).2.1 fun e=>hq (e▸hy)).symm
 have e3:=ud F G C;lia
def EY(hn:n<11)(V:Val n h)(W:Val n l){Q:List Nat}(C:Cls n h l Q){x z:Nat}(hx:x<4*n)(hq:x∉Q)(c:Cn (jn n) (rb n h l) x z):z∉Q/\phi n Q z%2=phi n Q x%2:=by
 have F:=V.frm;have G:=W.frm;have T:=two F G
 induction c with
 | refl=>exact⟨hq,rfl⟩
 |@sa y hy ih=>
  obtain⟨i1,i2⟩:=ih;have ly:=hy.lt T hx;have nq:jn n y∉Q:=fun z=>i1 (by have:=C.a _ z;rw[T.ai y ly]at this;exact this);refine⟨nq,?_⟩;rw[<-i2];by_cases c1:y<n
  ·have:jn n y=y:=by unfold jn;rw[if_pos c1]
   rw[this]
  ·by_cases c2:y<2*n
   ·have e:y=n+(y-n):=by lia
    have:jn n y=2*n+(y-n):=by rw[e,fV (by lia)];lia
    rw[this];have:=tN hn F G C (m:=y-n) (by lia) (by rw[<-e];exact i1);rw[<-e]at this;exact this
   ·by_cases c3:y<3*n
    ·have e:y=2*n+(y-2*n):=by lia
     have ej:jn n y=n+(y-2*n):=by rw[e,i8 (by lia)];lia
     have:=tN hn F G C (m:=y-2*n) (by lia) (by rw[<-ej];exact nq);rw[<-e,<-ej]at this;exact this.symm
    ·have:jn n y=y:=by unfold jn;rw[if_neg c1,if_neg c2,if_neg c3]
     rw[this]
 |@sb y hy ih=>
  obtain⟨i1,i2⟩:=ih;have ly:=hy.lt T hx;exact⟨fun z=>i1 (by have:=C.b _ z;rw[T.bi y ly]at this;exact this),by rw[FZ V W C ly i1,i2]⟩
end
section
variable{n:Nat}{h l:List Nat}
def BP{Q:List Nat}(nd:Q.Nodup){P:Nat->Bool}{u v:Nat}(hu:u∈Q)(hv:v∈Q)(ne:u≠v)(only:∀ y∈Q,P y=true->y=u\/y=v):(Q.filter P).length=([u,v].filter P).length:=by
 have nz:[u,v].Nodup:=by simp[ne]
 refine Nat.le_antisymm (cQ (nd.filter _) fun y hy=>?_) (cQ (nz.filter _) fun y hy=>?_)
 ·rw[List.mem_filter]at hy ⊢;exact⟨by rcases only y hy.1 hy.2 with e | e<;>simp[e],hy.2⟩
 ·rw[List.mem_filter]at hy ⊢;refine⟨?_,hy.2⟩;have:=hy.1;simp only[List.mem_cons,List.not_mem_nil,or_false]at this;rcases this with rfl | rfl<;>assumption
abbrev psi(n p y:Nat):Bool:=(decide (y<n)&&decide (y<rd n p)) || (decide (3*n<=y)&&decide (rd n (y-2*n)<rd n p))
set_option synthInstance.maxSize 10000 in
set_option synthInstance.maxHeartbeats 0 in
def tF:∀ n,n<11->∀ p,p<2*n->∀ y,y<4*n->(p<n->(decide (y<2*n↔p<2*n)&&decide (rp n y<rp n p))=psi n p y) /\
  (¬ p<n->(decide (y<2*n↔p+2*n<2*n)&&decide (rp n y<rp n (p+2*n))&&decide (y<3*n))=decide (2*n<=y/\y<3*n) /\
   (decide (y<2*n↔p+2*n<2*n)&&decide (rp n y<rp n (p+2*n)) && !decide (y<3*n))=(decide (3*n<=y)&&decide (rd n (y-2*n)<rd n p)) /\
   (psi n p y&&decide (y<n))=decide (y<n)/\(psi n p y && !decide (y<n))=(decide (3*n<=y)&&decide (rd n (y-2*n)<rd n p))) /\
  (decide (y<2*n)&&decide (y<n))=decide (y<n)/\(decide (y<2*n) && !decide (y<n))=decide (n<=y/\y<2*n) /\
  (2*n<=y->y<3*n->n<=jn n y/\jn n y<2*n)/\(n<=y->y<2*n->2*n<=jn n y/\jn n y<3*n)/\(psi n p y=true->jn n y=y):=by decide +kernel
def ui(hn:n<11)(F:Frm n h)(G:Frm n l){Q:List Nat}(C:Cls n h l Q){p:Nat}(hp:p<2*n):phi n Q (out n p)%2=(Q.filter (psi n p)).length%2:=by
 have T:=two F G;have fin:=fun y (hy:y∈Q)=>tF n hn p hp y (C.lt y hy);by_cases c:p<n
 ·have eo:out n p=p:=by unfold out;rw[if_pos c]
  rw[eo];congr 1;exact bR fun y hy=>(fin y hy).1 c
 ·have eo:out n p=p+2*n:=by unfold out;rw[if_neg c]
  rw[eo]
  have go:∀ (P R:Nat->Bool),(∀ y,y∈Q->P y=true->R (jn n y)=true)->(Q.filter P).length<=(Q.filter R).length:=fun P R hPR=>by
   have:(Q.filter P).length=((Q.filter P).map (jn n)).length:=by simp
   rw[this];refine cQ ?_ fun y hy=>?_
   ·rw[List.nodup_iff_pairwise_ne,List.pairwise_map];refine List.Pairwise.imp_of_mem ?_ (List.nodup_iff_pairwise_ne.mp (C.nd.filter _));intro x y hx hy hne e;rw[List.mem_filter]at hx hy;exact hne (by rw[<-T.ai x (C.lt x hx.1),e,T.ai y (C.lt y hy.1)])
   ·obtain⟨x,hx,rfl⟩:=List.mem_map.mp hy;rw[List.mem_filter]at hx ⊢;exact⟨C.a x hx.1,hPR x hx.1 hx.2⟩
  have swap:(Q.filter fun y=>decide (2*n<=y/\y<3*n)).length=(Q.filter fun y=>decide (n<=y/\y<2*n)).length:=by
   refine Nat.le_antisymm (go _ _ fun y hy e=>?_) (go _ _ fun y hy e=>?_)
   ·rw[decide_eq_true_eq]at e ⊢;exact(fin y hy).2.2.2.2.1 e.1 e.2
   ·rw[decide_eq_true_eq]at e ⊢;exact(fin y hy).2.2.2.2.2.1 e.1 e.2
  have e1:phi n Q (p+2*n)=(Q.filter fun y=>decide (2*n<=y/\y<3*n)).length+(Q.filter fun y=>decide (3*n<=y)&&decide (rd n (y-2*n)<rd n p)).length:=by
   unfold phi;rw[gx Q (fun y=>decide (y<2*n↔p+2*n<2*n)&&decide (rp n y<rp n (p+2*n))) (fun y=>decide (y<3*n)),bR fun y hy=>((fin y hy).2.1 c).1,bR fun y hy=>((fin y hy).2.1 c).2.1]
  have e2:(Q.filter (psi n p)).length=(Q.filter fun y=>decide (y<n)).length+(Q.filter fun y=>decide (3*n<=y)&&decide (rd n (y-2*n)<rd n p)).length:=by
   rw[gx Q (psi n p) (fun y=>decide (y<n)),bR fun y hy=>((fin y hy).2.1 c).2.2.1,bR fun y hy=>((fin y hy).2.1 c).2.2.2]
  have e3:(Q.filter fun y=>decide (y<2*n)).length=(Q.filter fun y=>decide (y<n)).length+(Q.filter fun y=>decide (n<=y/\y<2*n)).length:=by
   rw[gx Q (fun y=>decide (y<2*n)) (fun y=>decide (y<n)),bR fun y hy=>(fin y hy).2.2.1,bR fun y hy=>(fin y hy).2.2.2.1]
  have e4:=ud F G C;rw[e1,e2,swap];rw[e3]at e4;clear e1 e2 e3 swap go fin;lia
def Ew(F:Frm n h)(G:Frm n l){s:Nat}(hs:s<2*n):∃ Q,Cls n h l Q/\∀ y,y∈Q↔Cn (jn n) (rb n h l) (out n s) y:=by
 have T:=two F G;obtain⟨k,hk,st,hn⟩:=hX T (aL hs)
 have mem:∀ y,y∈wks (jn n) (rb n h l) (out n s) k↔Cn (jn n) (rb n h l) (out n s) y:=fun y=>by
  rw[C3];exact⟨fun⟨i,_,e⟩=>e▸lD i,fun c=>nX T (aL hs) st hn (.inl (dt hs)) c⟩
 refine⟨_,⟨?_,fun y hy=>((mem y).mp hy).lt T (aL hs),fun y hy=>(mem _).mpr (.sb ((mem y).mp hy)),fun y hy=>(mem _).mpr (.sa ((mem y).mp hy))⟩,mem⟩;unfold wks;rw[List.nodup_iff_pairwise_ne,List.pairwise_map];refine List.Pairwise.imp_of_mem ?_ (List.pairwise_lt_range (n:=k+1));intro i j hi hj hlt;exact l7 T (aL hs) hn hlt (by have:=List.mem_range.mp hj;lia)
def kU{p q:Nat}(hp:p<2*n)(hq:q<2*n):psi n p (out n q)=decide (rd n q<rd n p):=by
 rw[Bool.eq_iff_iff];unfold psi out;simp only[Bool.and_eq_true,Bool.or_eq_true,decide_eq_true_eq];split
 ·rename_i c
  have:rd n q=q:=by unfold rd;rw[if_pos c]
  rw[this];lia
 ·rename_i c;rw[show q+2*n-2*n=q by lia];lia
def eO(hn:n<=10)(V:Val n h)(W:Val n l):Val n (a7 n h l):=by
 have F:=V.frm;have G:=W.frm;have T:=two F G;have FF:=cL F G;refine⟨FF,fun q q' hq hq' hc=>?_⟩;obtain⟨c1,c2,c3⟩:=hc;have p1:=aK hq;have s1:=aK hq';unfold rnd at c2 c3;have ep:rd n (rd n q)=q:=b8 hq;have es:rd n (rd n q')=q':=b8 hq';generalize rd n q=p at *;generalize rd n q'=s at *;have lp:=FF.lt p p1;have ls:=FF.lt s s1;obtain⟨Q,C,mem⟩:=Ew F G s1;have su:out n s∈Q:=(mem _).mpr .refl;have sv:out n (at' (a7 n h l) s)∈Q:=(mem _).mpr ((found_iff F G s1 ls (Ne.symm (FF.no s s1))).mp rfl);have suv:out n s≠out n (at' (a7 n h l) s):=fun e=>FF.no s s1 (nH e s1 ls).symm
 have only:∀ t,t<2*n->out n t∈Q->t=s\/t=at' (a7 n h l) s:=fun t ht hm=>by
  by_cases c:s=t
  ·exact .inl c.symm
  ·exact .inr ((found_iff F G s1 ht c).mpr ((mem _).mp hm)).symm
 have pq:out n p∉Q:=fun z=>by
  rcases only p p1 z with e | e
  ·subst e;lia
  ·subst e;lia
 have pc:=(found_iff F G p1 lp (Ne.symm (FF.no p p1))).mp rfl;obtain⟨_,ph⟩:=EY (by lia) V W C (aL p1) pq pc;rw[ui (by lia) F G C lp,ui (by lia) F G C p1]at ph
 have cnt2:∀ t,t<2*n->(Q.filter (psi n t)).length=([out n s,out n (at' (a7 n h l) s)].filter (psi n t)).length:=fun t ht=>by
  refine BP C.nd su sv suv fun y hy e=>?_;have ly:=C.lt y hy;have:jn n y=y:=(tF n (by lia) t ht y ly).2.2.2.2.2.2 e;obtain⟨u,hu,rfl⟩:=vQ ly this;rcases only u hu hy with e | e
  ·exact .inl (by rw[e])
  ·exact .inr (by rw[e])
 rw[cnt2 p p1,cnt2 _ lp,List.filter_cons,List.filter_cons,List.filter_cons,List.filter_cons,kU lp s1,kU lp ls,kU p1 s1,kU p1 ls]at ph;rw[if_pos (by rw[decide_eq_true_eq];lia),if_neg (by rw[decide_eq_true_eq];lia),if_neg (by rw[decide_eq_true_eq];lia),if_neg (by rw[decide_eq_true_eq];lia)]at ph;simp at ph
end
section
variable{T:List Fn}{mx rw dg pl hk ci ft tx rg hu ov fr:Nat}
end
structure Fld(M:Nat)(a a' b:Nat->Nat)(N:Nat)(c f o:Nat->Nat):Prop where
 T:Two M a b
 T':Two M a' b
 T2:Two N c f
 ol:∀ p,p<N->o p<M
 oi:∀ p q,p<N->q<N->o p=o q->p=q
 fx:∀ x,x<M->a x=x->∃ p,p<N/\x=o p
 fo:∀ p,p<N->a (o p)=o p
 jo:∀ p,p<N->a' (o p)=o (c p)
 jj:∀ x,x<M->a x≠x->a' x=a x
 ff:∀ p q,p<N->q<N->p≠q->(f p=q↔Cn a b (o p) (o q))
 nb:∀ x,x<M->b x≠x
 nf:∀ p,p<N->f p≠p
section
variable{M N:Nat}{a a' b c f o:Nat->Nat}
def Fld.up(D:Fld M a a' b N c f o){x y:Nat}(hx:x<M)(h:Cn a b x y):Cn a' b x y:=by
 induction h with
 | refl=>exact .refl
 |@sa y hy ih=>
  by_cases e:a y=y
  ·rw[e];exact ih
  ·rw[<-D.jj y (hy.lt D.T hx) e];exact .sa ih
 | @sb y hy ih=>exact .sb ih
def Fld.to(D:Fld M a a' b N c f o){p q:Nat}(hp:p<N)(h:Cn c f p q):Cn a' b (o p) (o q):=by
 induction h with
 | refl=>exact .refl
 | @sa y hy ih=>rw[<-D.jo y (hy.lt D.T2 hp)];exact .sa ih
 |@sb y hy ih=>
  have ly:=hy.lt D.T2 hp;exact ih.trans (D.up (D.ol y ly) ((D.ff y _ ly (D.T2.bl y ly) (Ne.symm (D.nf y ly))).mp rfl))
def Fld.one(D:Fld M a a' b N c f o){p q t:Nat}(hq:q<N)(ht:t<N)(h2:Cn c f p q)(h3:Cn a b (o q) (o t)):Cn c f p t:=by
 by_cases z:q=t
 ·rw[<-z];exact h2
 ·have:=(D.ff q t hq ht z).mpr h3;rw[<-this];exact .sb h2
def Fld.back(D:Fld M a a' b N c f o){p y:Nat}(hp:p<N)(h:Cn a' b (o p) y):∃ q,q<N/\Cn c f p q/\Cn a b (o q) y:=by
 induction h with
 | refl=>exact⟨p,hp,.refl,.refl⟩
 |@sa y hy ih=>
  obtain⟨q,h1,h2,h3⟩:=ih;have ly:=h3.lt D.T (D.ol q h1);by_cases e:a y=y
  ·obtain⟨t,ht,rfl⟩:=D.fx y ly e;exact⟨c t,D.T2.al t ht,.sa (D.one h1 ht h2 h3),by rw[D.jo t ht];exact .refl⟩
  ·exact⟨q,h1,h2,by rw[D.jj y ly e];exact .sa h3⟩
 |@sb y hy ih=>
  obtain⟨q,h1,h2,h3⟩:=ih;exact⟨q,h1,h2,.sb h3⟩
def Fld.iff(D:Fld M a a' b N c f o){p q:Nat}(hp:p<N)(hq:q<N):Cn c f p q↔Cn a' b (o p) (o q) :=
 ⟨D.to hp,fun h=>by
  obtain⟨t,h1,h2,h3⟩:=D.back hp h
  exact D.one h1 hq h2 h3⟩
def Fld.ring(D:Fld M a a' b N c f o){x y:Nat}(hx:x<M)(np:¬ Pth M a b x)(h:Cn a' b x y):Cn a b x y:=by
 induction h with
 | refl=>exact .refl
 |@sa y hy ih=>
  have ly:=ih.lt D.T hx;rw[D.jj y ly fun e=>np ⟨y,ly,.inl e,ih.symm D.T hx⟩];exact .sa ih
 | @sb y hy ih=>exact .sb ih
def Fld.rings(D:Fld M a a' b N c f o){S C:List Nat}(R:bp M a b S)(R':bp N c f C):bp M a' b (S++C.map o):=by
 have np:∀ s∈S,¬ Pth M a b s:=fun s hs ⟨q,h1,h2,h3⟩=>by
  have:=R.ring s hs q (h3.symm D.T h1);rcases h2 with h2 | h2
  ·exact this.1 h2
  ·exact this.2 h2
 refine⟨fun s hs=>?_,?_,fun s hs y h=>?_,fun x hx=>?_⟩
 ·rcases List.mem_append.mp hs with hs | hs
  ·exact R.lt s hs
  ·obtain⟨p,hp,rfl⟩:=List.mem_map.mp hs;exact D.ol p (R'.lt p hp)
 ·rw[List.pairwise_append,List.pairwise_map];refine⟨List.Pairwise.imp_of_mem (fun {s t} hs ht hn h=>hn (D.ring (R.lt s hs) (np s hs) h)) R.nd,List.Pairwise.imp_of_mem (fun {p q} hp hq hn h=>hn ((D.iff (R'.lt p hp) (R'.lt q hq)).mpr h)) R'.nd,fun s hs t ht h=>?_⟩;obtain⟨p,hp,rfl⟩:=List.mem_map.mp ht;have lp:=R'.lt p hp;exact np s hs ⟨o p,D.ol p lp,.inl (D.fo p lp),(D.ring (R.lt s hs) (np s hs) h).symm D.T (R.lt s hs)⟩
 ·rcases List.mem_append.mp hs with hs | hs
  ·have c1:=D.ring (R.lt s hs) (np s hs) h;have g:=R.ring s hs y c1;exact⟨by rw[D.jj y (c1.lt D.T (R.lt s hs)) g.1];exact g.1,g.2⟩
  ·obtain⟨p,hp,rfl⟩:=List.mem_map.mp hs;obtain⟨q,h1,h2,h3⟩:=D.back (R'.lt p hp) h;have ly:=h3.lt D.T (D.ol q h1);refine⟨fun e=>?_,D.nb y ly⟩;by_cases z:a y=y
   ·obtain⟨t,ht,rfl⟩:=D.fx y ly z;rw[D.jo t ht]at e;exact(R'.ring p hp t (D.one h1 ht h2 h3)).1 (D.oi _ _ (D.T2.al t ht) ht e)
   ·exact z ((D.jj y ly z).symm.trans e)
 ·by_cases z:Pth M a b x
  ·obtain⟨s,h1,h2,h3⟩:=z;have h2:a s=s:=h2.resolve_right (D.nb s h1);obtain⟨p,hp,rfl⟩:=D.fx s h1 h2;have u:=D.up h1 h3
   rcases R'.all p hp with⟨q,g1,g2,g3⟩ | ⟨q,g1,g2⟩
   ·have g2:=g2.resolve_right (D.nf q g1);exact .inl ⟨o q,D.ol q g1,.inl (by rw[D.jo q g1,g2]),(D.to g1 g3).trans u⟩
   ·exact .inr ⟨o q,List.mem_append.mpr (.inr (List.mem_map.mpr ⟨q,g1,rfl⟩)),(D.to (R'.lt q g1) g2).trans u⟩
  ·rcases R.all x hx with h | ⟨s,h1,h2⟩
   ·exact absurd h z
   ·exact .inr ⟨s,List.mem_append.mpr (.inl h1),D.up (R.lt s h1) h2⟩
end
def hE{m:Nat}{a b:Nat->Nat}(T:Two m a b):∃ S,bp m a b S:=by
 classical
 refine⟨(List.range m).filter fun x=>decide ((∀ y,Cn a b x y->a y≠y/\b y≠y)/\∀ y,Cn a b x y->x<=y),fun s hs=>?_,?_,fun s hs y c=>?_,fun x hx=>?_⟩
 ·exact List.mem_range.mp (List.mem_filter.mp hs).1
 ·refine List.Pairwise.imp_of_mem ?_ (List.pairwise_lt_range.filter _);intro x y hx hy lt c;have hy:=List.mem_filter.mp hy;have lx:=List.mem_range.mp (List.mem_filter.mp hx).1;have:=(of_decide_eq_true hy.2).2 x (c.symm T lx);lia
 ·exact(of_decide_eq_true (List.mem_filter.mp hs).2).1 y c
 ·by_cases p:Pth m a b x
  ·exact .inl p
  ·refine .inr ?_;obtain⟨k,_,hk,hm⟩:=least (P:=fun k=>Cn a b x k) x .refl;have lk:=hk.lt T hx;refine⟨k,List.mem_filter.mpr ⟨List.mem_range.mpr lk,decide_eq_true ⟨fun y c=>?_,fun y c=>Nat.le_of_not_lt fun z=>hm y z (hk.trans c)⟩⟩,hk.symm T hx⟩;have cy:=hk.trans c;have ly:=cy.lt T hx;exact⟨fun e=>p ⟨y,ly,.inl e,cy.symm T hx⟩,fun e=>p ⟨y,ly,.inr e,cy.symm T hx⟩⟩
section
variable{m m':Nat}{a b a' b':Nat->Nat}
def Cn.map{t:Nat->Nat}(T:Two m a b)(ha:∀ x,x<m->t (a x)=a' (t x))(hb:∀ x,x<m->t (b x)=b' (t x)){x y:Nat}(hx:x<m)(c:Cn a b x y):Cn a' b' (t x) (t y):=by
 induction c with
 | refl=>exact .refl
 | @sa y hy ih=>rw[ha y (hy.lt T hx)];exact .sa ih
 | @sb y hy ih=>rw[hb y (hy.lt T hx)];exact .sb ih
def bp.map{t u:Nat->Nat}(T:Two m a b)(T':Two m a' b')(tl:∀ x,x<m->t x<m)(ul:∀ x,x<m->u x<m)(tu:∀ x,x<m->t (u x)=x)(ut:∀ x,x<m->u (t x)=x)
 (ha:∀ x,x<m->t (a x)=a' (t x))(hb:∀ x,x<m->t (b x)=b' (t x)){S:List Nat}(R:bp m a b S):bp m a' b' (S.map t):=by
 have ha':∀ x,x<m->u (a' x)=a (u x):=fun x hx=>by
  have:=ha (u x) (ul x hx);rw[tu x hx]at this;rw[<-this,ut _ (T.al _ (ul x hx))]
 have hb':∀ x,x<m->u (b' x)=b (u x):=fun x hx=>by
  have:=hb (u x) (ul x hx);rw[tu x hx]at this;rw[<-this,ut _ (T.bl _ (ul x hx))]
 have back:∀ {x y:Nat},x<m->Cn a' b' (t x) y->Cn a b x (u y):=fun {x y} hx c=>by
  have:=c.map T' ha' hb' (tl x hx);rw[ut x hx]at this;exact this
 refine⟨fun s hs=>?_,?_,fun s hs y c=>?_,fun x hx=>?_⟩
 ·obtain⟨x,hx,rfl⟩:=List.mem_map.mp hs;exact tl x (R.lt x hx)
 ·rw[List.pairwise_map];refine List.Pairwise.imp_of_mem ?_ R.nd;intro x y hx hy hn c;have:=back (R.lt x hx) c;rw[ut y (R.lt y hy)]at this;exact hn this
 ·obtain⟨x,hx,rfl⟩:=List.mem_map.mp hs;have ly:=c.lt T' (tl x (R.lt x hx));have:=R.ring x hx _ (back (R.lt x hx) c);refine⟨fun e=>this.1 ?_,fun e=>this.2 ?_⟩
  ·rw[<-ha' y ly,e]
  ·rw[<-hb' y ly,e]
 ·rcases R.all (u x) (ul x hx)with⟨s,h1,h2,h3⟩ | ⟨s,h1,h2⟩
  ·refine .inl ⟨t s,tl s h1,?_,?_⟩
   ·rcases h2 with h2 | h2
    ·exact .inl (by rw[<-ha s h1,h2])
    ·exact .inr (by rw[<-hb s h1,h2])
   ·have:=h3.map T ha hb h1;rw[tu x hx]at this;exact this
  ·refine .inr ⟨t s,List.mem_map.mpr ⟨s,h1,rfl⟩,?_⟩;have:=h2.map T ha hb (R.lt s h1);rw[tu x hx]at this;exact this
end
section
variable{n:Nat}{h l f:List Nat}
end
abbrev j3(n x:Nat):Nat:=if x<n then x else if x<2*n then x+n else if x<3*n then x-n else if x<4*n then x+n else if x<5*n then x-n else x
abbrev jB(n x:Nat):Nat:=if x<3*n then x else if x<4*n then x+n else if x<5*n then x-n else x
abbrev r3(n:Nat)(h m l:List Nat)(x:Nat):Nat:=if x<2*n then at' h x else 2*n+rb n m l (x-2*n)
abbrev oB(n p:Nat):Nat:=if p<3*n then p else p+2*n
def bp.part{m M:Nat}{a b a' b' t:Nat->Nat}(T':Two m a' b')(tl:∀ x,x<m->t x<M)(ti:∀ x y,x<m->y<m->t x=t y->x=y)(ha:∀ x,x<m->t (a' x)=a (t x))(hb:∀ x,x<m->t (b' x)=b (t x))(rest:∀ z,z<M->(∃ x,x<m/\z=t x)\/a z=z){S:List Nat}(R:bp m a' b' S):bp M a b (S.map t):=by
 have back:∀ {x w:Nat},x<m->Cn a b (t x) w->∃ v,v<m/\w=t v/\Cn a' b' x v:=fun {x w} hx c=>by
  induction c with
  | refl=>exact⟨x,hx,rfl,.refl⟩
  |sa _ ih=>
   obtain⟨v,h1,rfl,h2⟩:=ih;exact⟨_,T'.al v h1,(ha v h1).symm,.sa h2⟩
  |sb _ ih=>
   obtain⟨v,h1,rfl,h2⟩:=ih;exact⟨_,T'.bl v h1,(hb v h1).symm,.sb h2⟩
 refine⟨fun s hs=>?_,?_,fun s hs y c=>?_,fun z hz=>?_⟩
 ·obtain⟨x,hx,rfl⟩:=List.mem_map.mp hs;exact tl x (R.lt x hx)
 ·rw[List.pairwise_map];refine List.Pairwise.imp_of_mem (fun {x y} hx hy hn c=>?_) R.nd;obtain⟨v,h1,h2,h3⟩:=back (R.lt x hx) c;exact hn (by rw[ti y v (R.lt y hy) h1 h2];exact h3)
 ·obtain⟨x,hx,rfl⟩:=List.mem_map.mp hs;obtain⟨v,h1,rfl,h3⟩:=back (R.lt x hx) c;have g:=R.ring x hx v h3;exact⟨fun e=>g.1 (ti _ _ (T'.al v h1) h1 ((ha v h1).trans e)),fun e=>g.2 (ti _ _ (T'.bl v h1) h1 ((hb v h1).trans e))⟩
 ·rcases rest z hz with⟨x,hx,rfl⟩ | e
  ·rcases R.all x hx with⟨s,h1,h2,h3⟩ | ⟨s,h1,h2⟩
   ·refine .inl ⟨t s,tl s h1,?_,h3.map T' ha hb h1⟩;rcases h2 with h2 | h2
    ·exact .inl (by rw[<-ha s h1,h2])
    ·exact .inr (by rw[<-hb s h1,h2])
   ·exact .inr ⟨t s,List.mem_map.mpr ⟨s,h1,rfl⟩,h2.map T' ha hb (R.lt s h1)⟩
  ·exact .inl ⟨z,hz,.inl e,.refl⟩
section
variable{n:Nat}{h m l:List Nat}
def lC(F:Frm n h){x:Nat}(hx:x<4*n):r3 n h m l x=rb n h m x:=by
 unfold r3 rb;by_cases c:x<2*n
 ·rw[if_pos c,if_pos c]
 ·rw[if_neg c,if_neg c,if_pos (by omega)]
def Gk{x:Nat}(hx:4*n<=x):r3 n h m l x=4*n+at' l (x-4*n):=by
 unfold r3 rb;rw[if_neg (by lia),if_neg (by lia),show x-2*n-2*n=x-4*n by lia];lia
def nv{x:Nat}:r3 n h m l (2*n+x)=2*n+rb n m l x:=by
 unfold r3;rw[if_neg (by lia),show 2*n+x-2*n=x by lia]
def lu(F:Frm n h)(G:Frm n m)(H:Frm n l){x:Nat}(hx:x<6*n):r3 n h m l x<6*n/\r3 n h m l (r3 n h m l x)=x/\r3 n h m l x≠x:=by
 by_cases c:x<2*n
 ·have e:r3 n h m l x=at' h x:=by unfold r3;rw[if_pos c]
  have lt:=F.lt x c;rw[e];refine⟨by lia,?_,F.no x c⟩;unfold r3;rw[if_pos lt];exact F.inv x
 ·obtain⟨y,rfl⟩:∃ y,x=2*n+y:=⟨x-2*n,by omega⟩
  have T:=two G H
  have ly:y<4*n:=by lia
  have lt:=T.bl y ly;rw[nv];refine⟨by lia,by rw[nv,T.bi y ly],?_⟩;have:=cS G H ly;lia
def pZ(F:Frm n h)(G:Frm n m)(H:Frm n l){j:Nat->Nat}(jl:∀ x,x<6*n->j x<6*n)(jj:∀ x,x<6*n->j (j x)=x):Two (6*n) j (r3 n h m l):=⟨jl,fun x hx=>(lu F G H hx).1,jj,fun x hx=>(lu F G H hx).2.1⟩
def iA{f g:List Nat}{p:Nat}(hp:p<2*n):rb n f g p=at' f p:=by unfold rb;rw[if_pos hp]
def gE{f g:List Nat}{p:Nat}:rb n f g (2*n+p)=2*n+at' g p:=by unfold rb;rw[if_neg (by lia),show 2*n+p-2*n=p by lia]
def wj{a b:Nat->Nat}{x y:Nat}(h1:a x=x)(h2:a (b x)=b x)(h3:b (b x)=x)(c:Cn a b x y):y=x\/y=b x:=by
 induction c with
 | refl=>exact .inl rfl
 |sa _ ih=>
  rcases ih with rfl | rfl
  ·exact .inl h1
  ·exact .inr h2
 |sb _ ih=>
  rcases ih with rfl | rfl
  ·exact .inr rfl
  ·exact .inl h3
set_option synthInstance.maxSize 10000 in
set_option synthInstance.maxHeartbeats 0 in
def AA:∀ n,n<11->∀ x,x<6*n->(jn n x<6*n/\jn n (jn n x)=x)/\(j3 n x<6*n/\j3 n (j3 n x)=x)/\(jB n x<6*n/\jB n (jB n x)=x)/\(jn n x=x->x<n\/3*n<=x)/\(jn n x≠x->j3 n x=jn n x)/\(jB n x=x->x<3*n\/5*n<=x)/\(jB n x≠x->j3 n x=jB n x):=by decide +kernel
set_option synthInstance.maxSize 10000 in
set_option synthInstance.maxHeartbeats 0 in
def Av:∀ n,n<11->∀ p,p<4*n->(out n p<6*n/\jn n (out n p)=out n p/\j3 n (out n p)=out n (jn n p))/\(oB n p<6*n/\jB n (oB n p)=oB n p/\j3 n (oB n p)=oB n (jn n p)):=by decide +kernel
def eV{p:Nat}(c:¬ p<n):out n p=p+2*n:=by unfold out;rw[if_neg c]
def hZ{p:Nat}(c:p<n):out n p=p:=by unfold out;rw[if_pos c]
def iB{p:Nat}(c:p<3*n):oB n p=p:=by unfold oB;rw[if_pos c]
def ll{p:Nat}(c:¬ p<3*n):oB n p=p+2*n:=by unfold oB;rw[if_neg c]
def vg{p q:Nat}(e:out n p=out n q):p=q:=by
 by_cases c:p<n
 ·rw[hZ c]at e;by_cases d:q<n
  ·rw[hZ d]at e;exact e
  ·rw[eV d]at e;lia
 ·rw[eV c]at e;by_cases d:q<n
  ·rw[hZ d]at e;lia
  ·rw[eV d]at e;lia
def yt{p q:Nat}(e:oB n p=oB n q):p=q:=by
 by_cases c:p<3*n
 ·rw[iB c]at e;by_cases d:q<3*n
  ·rw[iB d]at e;exact e
  ·rw[ll d]at e;lia
 ·rw[ll c]at e;by_cases d:q<3*n
  ·rw[iB d]at e;lia
  ·rw[ll d]at e;lia
def wu(hn:n<11)(F:Frm n h)(G:Frm n m)(H:Frm n l):Fld (6*n) (jn n) (j3 n) (r3 n h m l) (4*n) (jn n) (rb n (a7 n h m) l) (out n):=by
 have FF:=cL F G;have f3:=AA n hn;have f4:=Av n hn;have T4:Two (4*n) (jn n) (rb n h m):=two F G
 have T4':Two (4*n) (jn n) (r3 n h m l):=⟨T4.al,fun x hx=>by rw[lC F hx];exact T4.bl x hx,T4.ai,fun x hx=>by rw[lC F hx,lC F (T4.bl x hx)];exact T4.bi x hx⟩
 refine⟨pZ F G H (fun x hx=>(f3 x hx).1.1) (fun x hx=>(f3 x hx).1.2),pZ F G H (fun x hx=>(f3 x hx).2.1.1) (fun x hx=>(f3 x hx).2.1.2),two FF H,
  fun p hp=>(f4 p hp).1.1,fun p q _ _ e=>vg e,fun x hx e=>?_,fun p hp=>(f4 p hp).1.2.1,fun p hp=>(f4 p hp).1.2.2,fun x hx e=>(f3 x hx).2.2.2.2.1 e,fun p q hp hq ne=>?_,fun x hx=>(lu F G H hx).2.2,fun p hp=>cS FF H hp⟩
 ·rcases(f3 x hx).2.2.2.1 e with c | c
  ·exact⟨x,by lia,(hZ c).symm⟩
  ·exact⟨x-2*n,by lia,by rw[eV (by lia)];lia⟩
 ·by_cases c:p<2*n
  ·have lo:=aL c;rw[iA c];constructor
   ·rintro rfl;have lf:=FF.lt p c;exact((found_iff F G c lf ne).mp rfl).map T4 (t:=fun x=>x) (fun x hx=>rfl) (fun x hx=>(lC F hx).symm) lo
   ·intro z;have z:=z.map T4' (t:=fun x=>x) (a':=jn n) (b':=rb n h m) (fun x hx=>rfl) (fun x hx=>lC F hx) lo;have lz:=z.lt T4 lo
    have lq:q<2*n:=by
     by_cases d:q<n
     ·lia
     ·rw[eV d]at lz;lia
    exact(found_iff F G c lq ne).mpr z
  ·obtain⟨y,rfl⟩:∃ y,p=2*n+y:=⟨p-2*n,by lia⟩
   have ly:y<2*n:=by lia
   have la:=H.lt y ly
   have eo:∀ y,out n (2*n+y)=4*n+y:=fun y=>by rw[eV (by lia)];lia
   have er:∀ y,r3 n h m l (4*n+y)=4*n+at' l y:=fun y=>by rw[Gk (by lia),Nat.add_sub_cancel_left]
   have ej:∀ y,jn n (4*n+y)=4*n+y:=fun y=>by unfold jn;rw[if_neg (by lia),if_neg (by lia),if_neg (by lia)]
   rw[gE,eo];constructor
   ·rintro rfl;rw[eo,<-er];exact .sb .refl
   ·intro z;have e2:=(lu (l:=l) F G H (x:=4*n+y) (by lia)).2.1;rcases wj (ej y) (by rw[er,ej]) e2 z with w | w
    ·exact absurd (vg ((eo y).trans w.symm)) ne
    ·rw[er,<-eo]at w;exact vg w.symm
def Al(y:Nat):jB n (2*n+y)=2*n+jn n y:=by
 unfold jB jn;by_cases c:y<n
 ·rw[if_pos c,if_pos (by lia)]
 ·rw[if_neg c,if_neg (by lia)];by_cases d:y<2*n
  ·rw[if_pos d,if_pos (by lia)];lia
  ·rw[if_neg d,if_neg (by lia)];by_cases e:y<3*n
   ·rw[if_pos e,if_pos (by lia)];lia
   ·rw[if_neg e,if_neg (by lia)]
def wt(hn:n<11)(F:Frm n h)(G:Frm n m)(H:Frm n l):Fld (6*n) (jB n) (j3 n) (r3 n h m l) (4*n) (jn n) (rb n h (a7 n m l)) (oB n):=by
 have FF:=cL G H;have f3:=AA n hn;have f4:=Av n hn;have T4:Two (4*n) (jn n) (rb n m l):=two G H
 have eo:∀ y,oB n (2*n+y)=2*n+out n y:=fun y=>by
  by_cases c:y<n
  ·rw[iB (by lia),hZ c]
  ·rw[ll (by lia),eV c];lia
 have ej:=Al (n:=n)
 refine⟨pZ F G H (fun x hx=>(f3 x hx).2.2.1.1) (fun x hx=>(f3 x hx).2.2.1.2),pZ F G H (fun x hx=>(f3 x hx).2.1.1) (fun x hx=>(f3 x hx).2.1.2),two F FF,
  fun p hp=>(f4 p hp).2.1,fun p q _ _ e=>yt e,fun x hx e=>?_,fun p hp=>(f4 p hp).2.2.1,fun p hp=>(f4 p hp).2.2.2,fun x hx e=>(f3 x hx).2.2.2.2.2.2 e,fun p q hp hq ne=>?_,fun x hx=>(lu F G H hx).2.2,fun p hp=>cS F FF hp⟩
 ·rcases(f3 x hx).2.2.2.2.2.1 e with c | c
  ·exact⟨x,by lia,(iB c).symm⟩
  ·exact⟨x-2*n,by lia,by rw[ll (by lia)];lia⟩
 ·by_cases c:p<2*n
  ·have la:=F.lt p c;have eb:∀ {y:Nat},y<2*n->oB n y=y:=fun {y} hy=>iB (by lia)
   have er:∀ {y:Nat},y<2*n->r3 n h m l y=at' h y:=fun {y} hy=>by unfold r3;rw[if_pos hy]
   have ejj:∀ {y:Nat},y<2*n->jB n y=y:=fun {y} hy=>by unfold jB;rw[if_pos (by lia)]
   rw[iA c,eb c];constructor
   ·rintro rfl;rw[eb la,<-er c];exact .sb .refl
   ·intro z;have e2:=(lu (l:=l) F G H (x:=p) (by lia)).2.1;rcases wj (ejj c) (by rw[er c,ejj la]) e2 z with w | w
    ·exact absurd (yt ((eb c).trans w.symm)) ne
    ·rw[er c,<-eb la]at w;exact yt w.symm
  ·obtain⟨y,rfl⟩:∃ y,p=2*n+y:=⟨p-2*n,by lia⟩
   have ly:y<2*n:=by lia
   have lo:=aL ly;rw[gE,eo];constructor
   ·rintro rfl;have lf:=FF.lt y ly;rw[eo];exact((found_iff G H ly lf (by lia)).mp rfl).map T4 (t:=fun x=>2*n+x) (fun x hx=>(ej x).symm) (fun x hx=>nv.symm) lo
   ·intro z
    have back:∀ {x w:Nat},x<4*n->Cn (jB n) (r3 n h m l) (2*n+x) w->∃ v,w=2*n+v/\Cn (jn n) (rb n m l) x v:=fun {x w} hx cc=>by
     induction cc with
     | refl=>exact⟨x,rfl,.refl⟩
     |sa _ ih=>
      obtain⟨v,rfl,hv⟩:=ih;exact⟨_,ej v,.sa hv⟩
     |sb _ ih=>
      obtain⟨v,rfl,hv⟩:=ih;exact⟨_,nv,.sb hv⟩
    obtain⟨v,hv,cv⟩:=back lo z
    obtain⟨u,rfl⟩:∃ u,q=2*n+u:=⟨q-2*n,by
     by_cases d:q<3*n
     ·rw[iB d]at hv;lia
     ·lia⟩
    rw[eo]at hv;have:v=out n u:=Nat.add_left_cancel hv.symm;subst this;rw[(found_iff G H ly (show u<2*n by lia) (by lia)).mpr cv]
def sR(hn:n<11)(F:Frm n h)(G:Frm n m)(H:Frm n l):a7 n (a7 n h m) l=a7 n h (a7 n m l):=by
 have A:=cL F G;have B:=cL G H;have C:=cL A H;refine gi cz cz fun p hp=>?_;have lq:=C.lt p hp;have ne:=Ne.symm (C.no p hp);have c1:=((wu hn F G H).iff (aL hp) (aL lq)).mp ((found_iff A H hp lq ne).mp rfl)
 have e:∀ {p:Nat},p<2*n->out n (out n p)=oB n (out n p):=fun {p} hp=>by
  by_cases c:p<n
  ·rw[hZ c,hZ c,iB (by lia)]
  ·rw[eV c,eV (by lia),ll (by lia)]
 rw[e hp,e lq]at c1;exact((found_iff F B hp lq ne).mpr (((wt hn F G H).iff (aL hp) (aL lq)).mpr c1)).symm
def tm(hn:n<11)(F:Frm n h)(G:Frm n m)(H:Frm n l){S1 S2 S3 S4:List Nat}(R1:bp (4*n) (jn n) (rb n h m) S1)(R2:bp (4*n) (jn n) (rb n (a7 n h m) l) S2)(R3:bp (4*n) (jn n) (rb n m l) S3)(R4:bp (4*n) (jn n) (rb n h (a7 n m l)) S4):S1.length+S2.length=S3.length+S4.length:=by
 have a1:=R1.part (M:=6*n) (a:=jn n) (b:=r3 n h m l) (t:=fun x=>x) (two F G) (fun x hx=>by lia) (fun _ _ _ _ e=>e) (fun _ _=>rfl) (fun x hx=>(lC F hx).symm) (fun z hz=>by
  by_cases c:z<4*n
  ·exact .inl ⟨z,c,rfl⟩
  ·exact .inr (by unfold jn;rw[if_neg (by lia),if_neg (by lia),if_neg (by lia)]))
 have a3:=R3.part (M:=6*n) (a:=jB n) (b:=r3 n h m l) (t:=fun x=>2*n+x) (two G H) (fun x hx=>by lia) (fun _ _ _ _ e=>by lia) (fun x hx=>(Al x).symm) (fun x hx=>nv.symm) (fun z hz=>by
  by_cases c:z<2*n
  ·exact .inr (by unfold jB;rw[if_pos (by lia)])
  ·exact .inl ⟨z-2*n,by omega,by lia⟩)
 have f1:=wu hn F G H;have b1:=f1.rings a1 R2;have b2:=(wt hn F G H).rings a3 R4;have:=b1.one f1.T' b2;simpa using this
end
end RM
set_option maxHeartbeats 1000000
namespace RM
open RL RT
section
variable{n:Nat}{f g h l:List Nat}
def mV{x:Nat}(c:x<n):stp n h l (true,x)=(true,x):=by
 unfold stp;rw[if_neg (by simp;exact c)]
def wB{x:Nat}(c:¬ x<n):stp n h l (false,x)=(false,x):=by
 unfold stp;rw[if_neg (by simp;lia)]
def DK{x:Nat}(c:¬ x<n)(d:x<2*n):stp n h l (true,x)=(false,at' l (x-n)):=by
 unfold stp;rw[if_pos (by simp;lia)];show(false,at' l ((x+n)%(2*n)))=_;rw[show(x+n)%(2*n)=x-n by rw[Nat.mod_eq_sub_mod (by lia),Nat.mod_eq_of_lt (by omega)];lia]
def vB{x:Nat}(c:x<n):stp n h l (false,x)=(true,at' h (x+n)):=by
 unfold stp;rw[if_pos (by simp;exact c)];show(true,at' h ((x+n)%(2*n)))=_;rw[Nat.mod_eq_of_lt (by lia)]
def CD(h1:1<=n)(F:Frm n f)(G:Frm n g)(s:∀ p,p<n->at' f p<n->at' g p=at' f p):a7 n (bT n f) g=g:=by
 have q:∀ x,x<n->¬ at' f x<n->(∀ i,(itr n (bT n f) g (i+1) (false,at' g x)).2=at' g x):=by
  intro x hx nx i;by_cases c:at' g x<n
  ·have k:¬ at' f (at' g x)<n:=fun k=>by
    have:=s _ c k;rw[G.inv]at this;have e:=F.inv (at' g x);rw[<-this]at e;lia
   have e:stp n (bT n f) g (false,at' g x)=(true,at' g x):=by
    rw[vB c,eU (by lia),if_neg (by lia),show at' g x+n-n=at' g x by lia,if_neg k]
   rw[fP e (mV c)]
  ·rw[dh (wB c)]
 apply xJ (n:=n) (by simp[a7]) G.len;funext p;by_cases hp:p<2*n
 ·rw[show at' (a7 n (bT n f) g) p=(itr n (bT n f) g (4*n) (beg n (bT n f) g p)).2 by simp[a7,at',hp],show 4*n=(4*n-2)+2 by lia];by_cases c:p<n
  ·rw[show beg n (bT n f) g p=(true,at' (bT n f) p) by simp[beg,c,pick],eU hp,if_pos c];by_cases d:at' f p<n
   ·rw[if_pos d,dh (mV d),s p c d]
   ·rw[if_neg d]
    have e:stp n (bT n f) g (true,p+n)=(false,at' g p):=by rw[DK (by lia) (by lia),show p+n-n=p by lia]
    have step:∀ i,itr n (bT n f) g (i+1) (true,p+n)=itr n (bT n f) g i (false,at' g p):=fun i=>by
     induction i with
     | zero=>exact e
     | succ i ih=>rw[itr,ih];rfl
    rw[step];exact q p c d _
  ·rw[show beg n (bT n f) g p=(false,at' g p) by simp[beg,c,pick]];by_cases d:at' g p<n
   ·have k:¬ at' f (at' g p)<n:=fun k=>by
     have:=s _ d k;rw[G.inv]at this;lia
    have e:stp n (bT n f) g (false,at' g p)=(true,at' g p):=by
     rw[vB d,eU (by lia),if_neg (by lia),show at' g p+n-n=at' g p by lia,if_neg k]
    rw[fP e (mV d)]
   ·rw[dh (wB d)]
 ·rw[eC (by simp[a7];lia),eC (by rw[G.len];lia)]
end
end RM
set_option maxHeartbeats 1000000
namespace RT
open RL
end RT
namespace RM
open RL RT
section
variable{T:List Fn}{nu pc pa nb un if' cf po rp ir mv rn mk rg jb pu c2 hu:Nat}
end
end RM
set_option maxHeartbeats 1000000
namespace RM
open RL RT
abbrev rgN(n:Nat)(h l:List Nat):Nat:=Classical.epsilon fun r=>∃ S,bp (4*n) (jn n) (rb n h l) S/\S.length=r
section
variable{n:Nat}{h l h' l':List Nat}
def fI(F:Frm n h)(G:Frm n l){S:List Nat}(R:bp (4*n) (jn n) (rb n h l) S):rgN n h l=S.length:=by
 have:=Classical.epsilon_spec (p:=fun r=>∃ S,bp (4*n) (jn n) (rb n h l) S/\S.length=r) ⟨_,S,R,rfl⟩;obtain⟨S',R',e⟩:=this;exact e.symm.trans (R'.one (two F G) R)
abbrev cF(n:Nat)(a b:List Nat × Nat):List Nat × Nat:=(a7 n a.1 b.1,rgN n a.1 b.1+a.2+b.2)
def uZ(hn:n<=10){a b c:List Nat × Nat}(A:Frm n a.1)(B:Frm n b.1)(C:Frm n c.1):cF n (cF n a b) c=cF n a (cF n b c):=by
 have AB:=cL A B;have BC:=cL B C;obtain⟨S1,R1⟩:=hE (two A B);obtain⟨S2,R2⟩:=hE (two AB C);obtain⟨S3,R3⟩:=hE (two B C);obtain⟨S4,R4⟩:=hE (two A BC);have e:=tm (by lia) A B C R1 R2 R3 R4;rw[<-fI A B R1,<-fI AB C R2,<-fI B C R3,<-fI A BC R4]at e;unfold cF;refine Prod.ext (sR (by lia) A B C) ?_;dsimp only;lia
def yh{a:List Nat × Nat}(A:Frm n a.1):cF n a (ay n,0)=a:=by
 unfold cF;refine Prod.ext (oP A) ?_;dsimp only;rw[fI A (bI n) (oU A)];simp
def m8{a:List Nat × Nat}(A:Frm n a.1):cF n (ay n,0) a=a:=by
 unfold cF;refine Prod.ext (oj A) ?_;dsimp only;rw[fI (bI n) A (om A)];simp
abbrev jX(n:Nat)(a:List Nat × Nat)(fs:List (List Nat)):List Nat × Nat:=fs.foldl (fun a f=>cF n a (f,0)) a
abbrev stk(n:Nat)(fs:List (List Nat)):List Nat × Nat:=jX n (ay n,0) fs
def Ac(hn:n<=10){fs:List (List Nat)}(V:∀ f∈fs,Val n f):∀ {a:List Nat × Nat},Val n a.1->Val n (jX n a fs).1:=by
 induction fs with
 | nil=>exact fun A=>A
 | cons f r ih=>exact fun {a} A=>ih (fun g hg=>V g (by simp[hg])) (a:=cF n a (f,0)) (eO hn A (V f (by simp)))
def nM(hn:n<=10){fs:List (List Nat)}(V:∀ f∈fs,Val n f):Val n (stk n fs).1:=Ac hn V (eM n)
def yj(hn:n<=10){fs:List (List Nat)}(V:∀ f∈fs,Val n f):∀ {a:List Nat × Nat},Val n a.1->jX n a fs=cF n a (stk n fs):=by
 induction fs with
 | nil=>exact fun A=>(yh A.frm).symm
 |cons f r ih=>
  intro a A;have Vf:=V f (by simp);have Vr:∀ g∈r,Val n g:=fun g hg=>V g (by simp[hg]);have i1:=ih Vr (a:=cF n a (f,0)) (eO hn A Vf);have i2:=ih Vr (a:=cF n (ay n,0) (f,0)) (eO hn (eM n) Vf);rw[m8 (a:=(f,0)) Vf.frm]at i2;have e1:jX n a (f::r)=jX n (cF n a (f,0)) r:=rfl;have e2:stk n (f::r)=jX n (cF n (ay n,0) (f,0)) r:=rfl;rw[e1,i1,e2,m8 (a:=(f,0)) Vf.frm,i2,uZ hn (b:=(f,0)) A.frm Vf.frm (nM hn Vr).frm]
def sC(hn:n<=10){f:List Nat}{r:List (List Nat)}(Vf:Val n f)(Vr:∀ g∈r,Val n g):stk n (f::r)=cF n (f,0) (stk n r):=by
 have e2:stk n (f::r)=jX n (cF n (ay n,0) (f,0)) r:=rfl;rw[e2,m8 (a:=(f,0)) Vf.frm,yj hn Vr (a:=(f,0)) Vf]
def xR{s t s':Nat->Nat}(W:Way n s s')(F:Frm n h)(G:Frm n l)(F':Frm n h')(G':Frm n l')(tl:∀ x,x<4*n->t x<4*n)(tt:∀ x,x<4*n->t (t x)=x)(tj:∀ x,x<4*n->t (jn n x)=jn n (t x))(tb:∀ x,x<4*n->t (rb n h l x)=rb n h' l' (t x))(to:∀ p,p<2*n->t (out n p)=out n (s p)) :
  a7 n h' l'=bB n s s' (a7 n h l)/\rgN n h' l'=rgN n h l:=by
 have FF:=cL F G;have T:=two F G;constructor
 ·refine F8 W cz fun p hp=>?_;have lq:=FF.lt p hp;have ne:=Ne.symm (FF.no p hp);have c:=((found_iff F G hp lq ne).mp rfl).map T tj tb (aL hp);rw[to p hp,to _ lq]at c;exact(found_iff F' G' (W.lt p hp) (W.lt _ lq) (fun e=>ne ((W.bt p hp).symm.trans ((congrArg s' e).trans (W.bt _ lq))))).mpr c
 ·obtain⟨S,R⟩:=hE T;have R':=R.map T (two F' G') (t:=t) (u:=t) tl tl tt tt tj tb;rw[fI F' G' R',fI F G R,List.length_map]
abbrev ovT(n x:Nat):Nat:=if x<2*n then 2*n+ovr n x else ovr n (x-2*n)
abbrev miT(n x:Nat):Nat:=if x<2*n then mir n x else 2*n+mir n (x-2*n)
set_option synthInstance.maxSize 10000 in
set_option synthInstance.maxHeartbeats 0 in
def G0:∀ n,n<11->∀ x,x<4*n->(ovT n x<4*n/\ovT n (ovT n x)=x/\ovT n (jn n x)=jn n (ovT n x))/\(miT n x<4*n/\miT n (miT n x)=x/\miT n (jn n x)=jn n (miT n x)):=by decide +kernel
def FY:∀ n,n<11->∀ p,p<2*n->ovT n (out n p)=out n (ovr n p)/\miT n (out n p)=out n (mir n p):=by decide +kernel
def pf(hn:n<=10)(V:Val n h)(W:Val n l):a7 n (bB n (ovr n) (ovr n) l) (bB n (ovr n) (ovr n) h)=bB n (ovr n) (ovr n) (a7 n h l)/\rgN n (bB n (ovr n) (ovr n) l) (bB n (ovr n) (ovr n) h)=rgN n h l:=by
 have wo:=cV n;have oo:∀ {p},p<2*n->ovr n (ovr n p)=p:=fun {p} hp=>wo.bt p hp;have f:=G0 n (by lia);refine xR (t:=ovT n) wo V.frm W.frm (wo.val W).frm (wo.val V).frm (fun x hx=>(f x hx).1.1) (fun x hx=>(f x hx).1.2.1) (fun x hx=>(f x hx).1.2.2) (fun x hx=>?_) (fun p hp=>(FY n (by lia) p hp).1);unfold ovT;by_cases c:x<2*n
 ·have lx:=V.frm.lt x c;rw[iA c,if_pos lx,if_pos c,gE,bM (wo.lt x c),oo c]
 ·obtain⟨y,rfl⟩:∃ y,x=2*n+y:=⟨x-2*n,by lia⟩
  have ly:y<2*n:=by lia
  rw[gE,if_neg (by lia),if_neg c,Nat.add_sub_cancel_left,Nat.add_sub_cancel_left,iA (wo.lt y ly),bM (wo.lt y ly),oo ly]
end
end RM
set_option maxHeartbeats 1000000
namespace RT
open RL
end RT
namespace RM
open RL RT
section
variable{cl:Cl}{n:Nat}{f:List Nat}
end
section
variable{T:List Fn}{nu pc pa nb un if' cf po rp ir mv:Nat}
end
section
variable{n:Nat}{f:List Nat}
def qe(F:Frm n f):bB n (ovr n) (ovr n) (bB n (ovr n) (ovr n) f)=f:=by
 rw[B3 (cV n) (cV n)];exact CL F (fun p hp=>(cV n).bt p hp) (fun p hp=>(cV n).bt p hp)
def Gw(F:Frm n f){p:Nat}(hp:p<n):at' (bB n (ovr n) (ovr n) f) p=if at' f (n+p)<n then at' f (n+p)+n else at' f (n+p)-n:=by
 rw[bM (by lia),j7 hp,Nat.add_comm p n];rfl
end
abbrev Has(n:Nat)(a b:List Nat):Prop:=∀ p,p<n->at' a p<n->at' b p=at' a p
section
variable{n:Nat}{a b h l:List Nat}
def vW(hp:∀ p,p<n->at' h p<n->p<2*n):Has n h (a7 n h l):=fun p c d=>by
 rw[sG (by lia),show beg n h l p=(true,at' h p) by simp[beg,c,pick],dh (mV d)]
end
end RM
set_option maxHeartbeats 1000000
namespace RM
open RL RT
def Cz:∀ n,n<11->∀ i,i<n->i+1<n->bT n (aw n i)=aw n i:=by decide +kernel
def qR:∀ n,n<11->∀ i,i<n->i+1<n->bB n (ovr n) (ovr n) (aw n i)=aw n i:=by decide +kernel
section
variable{n i:Nat}{f:List Nat}
def qk(hi:i+1<n)(F:Frm n f):Has n (aw n i) f↔at' f i=i+1:=by
 constructor
 ·intro H
  have e:at' (aw n i) i=i+1:=by
   rw[gN hi,if_neg (by omega),if_neg (by omega),if_neg (by omega),if_pos rfl]
  have:=H i (by omega) (by omega);omega
 ·intro e p hp c;rw[gN hi,if_neg (by omega),if_neg (by omega)]at c ⊢;by_cases c1:p=i+1
  ·rw[if_pos c1,c1,<-e,F.inv]
  ·rw[if_neg c1]at c ⊢;by_cases c2:p=i
   ·rw[if_pos c2,c2];exact e
   ·rw[if_neg c2,if_pos hp]at c;omega
def uW(hn:n<=10)(hi:i+1<n)(F:Frm n f):a7 n (aw n i) f=f↔at' f i=i+1:=by
 constructor
 ·intro e
  have H:Has n (aw n i) (a7 n (aw n i) f):=vW fun _ _ _=>by omega
  rw[e]at H;exact(qk hi F).mp H
 ·intro e;have:=CD (n:=n) (f:=aw n i) (by omega) (c9 hn hi).frm F ((qk hi F).mpr e);rw[Cz n (by omega) i (by omega) hi]at this;exact this
def uX(hn:n<=10)(hi:i+1<n)(F:Frm n f)(e:at' f i=i+1):bp (4*n) (jn n) (rb n (aw n i) f) [n+i]:=by
 have G:=(c9 hn hi).frm
 have e':at' f (i+1)=i:=by rw[<-e,F.inv]
 have h1:at' (aw n i) (n+i)=n+i+1:=by rw[gN hi,if_neg (by omega),if_pos rfl]
 have h2:at' (aw n i) (n+(i+1))=n+i:=by rw[gN hi,if_pos (by omega)]
 have b1:rb n (aw n i) f (n+i)=n+(i+1):=by rw[iA (by omega),h1];rfl
 have i1:i<n:=by omega
 have j1:=fV i1;have j2:=fV hi;have j3:=i8 i1;have j4:=i8 hi
 have cls:∀ y,Cn (jn n) (rb n (aw n i) f) (n+i) y->y=n+i\/y=n+(i+1)\/y=2*n+i\/y=2*n+(i+1):=by
  intro y h
  induction h with
  | refl=>exact .inl rfl
  |sa _ ih=>
   rcases ih with rfl | rfl | rfl | rfl
   ·exact .inr (.inr (.inl j1))
   ·exact .inr (.inr (.inr j2))
   ·exact .inl j3
   ·exact .inr (.inl j4)
  |sb _ ih=>
   rcases ih with rfl | rfl | rfl | rfl
   ·exact .inr (.inl b1)
   ·exact .inl (by rw[iA (by omega),h2])
   ·exact .inr (.inr (.inr (by rw[gE,e])))
   ·exact .inr (.inr (.inl (by rw[gE,e'])))
 refine⟨fun s hs=>?_,List.pairwise_singleton _ _,fun s hs y hy=>?_,fun x hx=>?_⟩
 ·rw[List.mem_singleton.mp hs];omega
 ·rw[List.mem_singleton.mp hs]at hy;have c:=cls y hy
  have n0:0<n:=by omega
  rcases c with rfl | rfl | rfl | rfl
  ·exact⟨by rw[j1];omega,cS G F (by omega)⟩
  ·exact⟨by rw[j2];omega,cS G F (by omega)⟩
  ·exact⟨by rw[j3];omega,cS G F (by omega)⟩
  ·exact⟨by rw[j4];omega,cS G F (by omega)⟩
 ·by_cases np:Pth (4*n) (jn n) (rb n (aw n i) f) x
  ·exact .inl np
  ·obtain⟨m,hm,cm,nm⟩:=fQ G F hx np
   have cm:Cn (jn n) (rb n (aw n i) f) (n+m) x:=by
    rcases cm with rfl | rfl
    ·exact .refl
    ·have:=Cn.sa (a:=jn n) (b:=rb n (aw n i) f) (x:=n+m) .refl;rw[fV hm]at this;exact this
   by_cases c1:m=i
   ·subst c1;exact .inr ⟨n+m,List.mem_singleton.mpr rfl,cm⟩
   ·by_cases c2:m=i+1
    ·subst c2;refine .inr ⟨n+i,List.mem_singleton.mpr rfl,Cn.trans ?_ cm⟩;have:=Cn.sb (a:=jn n) (b:=rb n (aw n i) f) (x:=n+i) .refl;rw[b1]at this;exact this
    ·refine absurd ⟨m,by omega,.inl ?_,?_⟩ nm
     ·unfold jn;rw[if_pos hm]
     ·have:=Cn.sb (a:=jn n) (b:=rb n (aw n i) f) (x:=m) .refl;rw[iA (by omega),gN hi,if_neg (by omega),if_neg (by omega),if_neg c2,if_neg c1,if_pos hm]at this;exact this
abbrev dM(n:Nat)(f:List Nat):List Nat:=(List.range (n-1)).filter fun i=>decide (at' f i=i+1)
def yi(hn:n<=10){i:Nat}(hi:i+1<n)(V:Val n f):(a7 n f (aw n i)=f↔at' f (n+i)=n+i+1)/\(at' f (n+i)=n+i+1->rgN n f (aw n i)=1):=by
 have K:=c9 hn hi;have V':=(cV n).val V;have ho:bB n (ovr n) (ovr n) (aw n i)=aw n i:=qR n (by omega) i (by omega) hi;have p:=pf hn V K;rw[ho]at p
 have t:at' (bB n (ovr n) (ovr n) f) i=i+1↔at' f (n+i)=n+i+1:=by
  have l:=V.frm.lt (n+i) (by omega);rw[Gw V.frm (by omega)];split<;>omega
 refine⟨?_,fun e=>?_⟩
 ·rw[<-t,<-uW hn hi V'.frm,p.1];constructor
  ·intro e;rw[e]
  ·intro e;have:=congrArg (bB n (ovr n) (ovr n)) e;rw[qe V.frm,qe (eO hn V K).frm]at this;exact this
 ·rw[<-p.2,fI K.frm V'.frm (uX hn hi V'.frm (t.mpr e))];rfl
def vS(x y:Nat):bF .eq (.int (x:Nat)) (.int (y:Nat))=some (decide (x=y)):=by
 rw[dO];congr 1;rw[Bool.eq_iff_iff,beq_iff_eq,decide_eq_true_eq];omega
def sub_one(h1:1<=n):aA .sub (.int (n:Nat)) (.int 1)=some (.int ((n-1:Nat):Int)):=by
 rw[dI];congr 2;omega
end
section
variable{T:List Fn}{nu pc pa nb un if' cf po rp ir mv:Nat}
end
end RM
set_option maxHeartbeats 1000000
namespace RM
open RL RT
section
variable{cl:Cl}
end
section
variable{T:List Fn}{nu pc:Nat}
def Cj{ish n:Nat}{k i:Nat}(hnu:T[nu]?=some e8)(his:T[ish]?=some (iK nu))(hi:i+1<k):a5 T (n+2) ish [.int (k:Nat),.int (i:Nat)]=some (.bl true):=by
 refine(ao his).trans ((tq (fun i=>(ao hnu).trans (gA i)) _ _).trans ?_);rw[decide_eq_true (by omega)]
def E3{cp n:Nat}{k:Nat}(hnu:T[nu]?=some e8)(hpc:T[pc]?=some (cT nu))(hcp:T[cp]?=some (fC pc))(h1:1<=k)(hk:k<=10):a5 T (n+3) cp [.int (k:Nat)]=some .non:=by
 refine(ao hcp).trans (oD ((ao hpc).trans ((hV (fun i=>(ao hnu).trans (gA i)) _).trans ?_)));rw[decide_eq_true (by omega)]
end
end RM
namespace RT
open RL
end RT
namespace RM
open RL RT
abbrev fsD(fs:List (List Nat)):List D:=fs.map fun f=>.tup (L f)
abbrev prD(a:List Nat × Nat):D:=.tup [.tup (L a.1),.int (a.2:Nat)]
def gU(f:List Nat):(D.tup (L f)).imm=true:=by simp[D.imm,bj]
def wm(a:List Nat × Nat):(prD a).imm=true:=by
 show((D.tup (L a.1)).imm&&((D.int (a.2:Nat)).imm&&true))=true;rw[gU];rfl
def Au{f:St->Option (Out × St)}{i:Nat}(I:List (List Nat)->St->Prop):∀ (xs done:List (List Nat)) (σ:St),(∀ x∈xs,∀ (d:List (List Nat)) (σ:St),I d σ->∃ σ2,f (σ.set i (some (.tup (L x))))=some (.nx,σ2)/\I (d++[x]) σ2)->I done σ->∃ σ',aO f [i] (fsD xs) σ=some (.nx,σ')/\I (done++xs) σ'
 | [],done,σ,_,h0=>⟨σ,rfl,by simpa using h0⟩
 | x::r,done,σ,hs,h0=>by
  obtain⟨σ2,h1,h2⟩:=hs x (by simp) done σ h0;obtain⟨σ',h3,h4⟩:=Au I r (done++[x]) σ2 (fun y hy=>hs y (by simp[hy])) h2;exact⟨σ',oC (gU x) rfl h1 h3,by simpa using h4⟩
section
variable{T:List Fn}{nu pc pa nb un if' cf po rp ir mv rn mk rg jb pu c2 hu:Nat}
end
end RM
set_option maxHeartbeats 1000000
namespace RT
open RL
abbrev jd(f_law_hung f_law_plain:Nat):Ss :=
 (.cons (.unp [3,5] (.call f_law_hung (.cons (.var 2) (.cons (.var 3) .nil)))) (.cons (.asg 4 (.bin .add (.var 4) (.var 5))) .nil))
abbrev jZ(f_law_hung f_law_plain:Nat):Fn :=
 ⟨2,6,[],[],(.cons (.par 3 4 (.call f_law_plain (.cons (.var 0) .nil)) (.cst (.int 0))) (.cons (.forr [2] (.seq (.rev (.var 1))) (jd f_law_hung f_law_plain)) (.cons (.ret (.tup (.cons (.var 3) (.cons (.var 4) .nil)))) .nil)))⟩
end RT
namespace RM
open RL RT
section
variable{T:List Fn}
def vP{rg hu:Nat}(qj:T[hu]?=some (dk rg))(rY:T[rg]?=some bW)(n:Nat){k:Nat}{f g:List Nat}(h1:1<=k)(hk':k<=10)(F:Frm k f)(G:Frm k g) :
  a5 T (n+2) hu [.tup (L f),.tup (L g)]=some (prD (a7 k f g,rgN k f g)):=by
 obtain⟨inner,i1,i2,i3⟩:=qK (cl:=a5 T (n+1)) (fr:=rg) h1 hk' F.len G.len F.lt G.lt
 obtain⟨S,R,e⟩:=uG (cl:=a5 T n) h1 hk' F G i2 (fun m=>by
  rw[i1 m]
  exact⟨fun⟨a,b⟩=>⟨a,fun z=>b ((rW F G a).mpr z)⟩,fun⟨a,b⟩=>⟨a,fun z=>b ((rW F G a).mp z)⟩⟩)
 rw[prD,fI F G R];exact(ao qj).trans (i3 _ ((ao rY).trans e))
def si{rg hu pl st:Nat}(qj:T[hu]?=some (dk rg))(rY:T[rg]?=some bW)(zO:T[pl]?=some dA)(t_st:T[st]?=some (jZ hu pl))(n:Nat){k:Nat}{fs:List (List Nat)}(h1:1<=k)(hk:k<=10)(V:∀ f∈fs,Val k f) :
  a5 T (n+3) st [.int (k:Nat),.lst (fsD fs)]=some (prD (stk k fs)):=by
 obtain⟨σ3,e3,⟨o3,o5,rfl⟩,W3⟩:=Au (f:=ag (a5 T (n+2)) [] (jd hu pl)) (i:=2) (fun d σ=>(∃ o o5,σ=[some (.int (k:Nat)),some (.lst (fsD fs)),o,some (.tup (L (stk k d.reverse).1)),some (.int ((stk k d.reverse).2:Nat)),o5])/\∀ f∈d,Val k f) fs.reverse [] [some (.int (k:Nat)),some (.lst (fsD fs)),none,some (.tup (L (ay k))),some (.int ((0:Nat):Int)),none] (fun x hx d σ ⟨⟨o,o5,e⟩,W⟩=>by
  subst e;have Vx:=V x (by simpa using hx);have W':∀ f∈d.reverse,Val k f:=fun f hf=>W f (by simpa using hf)
  have hs:stk k (d++[x]).reverse=cF k (x,0) (stk k d.reverse):=by rw[List.reverse_append,List.reverse_singleton,List.singleton_append,sC hk Vx W']
  rw[hs];refine⟨_,sf (gB (aa rfl) (aa rfl) (vP qj rY n h1 hk Vx.frm (nM hk W').frm)) rfl (by simp[aq,D.imm,bj]) rfl (aI (az (aa rfl) (aa rfl) bJ) rfl aR),⟨some (.tup (L x)),some (.int (rgN k x (stk k d.reverse).1:Nat)),?_⟩,fun f hf=>?_⟩
  ·show _=[some (D.int (k:Nat)),some (.lst (fsD fs)),some (.tup (L x)),some (.tup (L (a7 k x (stk k d.reverse).1))),some (.int ((rgN k x (stk k d.reverse).1+0+(stk k d.reverse).2:Nat):Int)),some (.int (rgN k x (stk k d.reverse).1:Nat))];rw[show((rgN k x (stk k d.reverse).1+0+(stk k d.reverse).2:Nat):Int)=((stk k d.reverse).2:Int)+(rgN k x (stk k d.reverse).1:Nat) by omega];rfl
  ·rcases List.mem_append.mp hf with h | h
   ·exact W f h
   ·rw[List.mem_singleton.mp h];exact Vx) ⟨⟨none,none,rfl⟩,fun f hf=>nomatch hf⟩
 have er:(fsD fs).reverse=fsD fs.reverse:=by unfold fsD;rw[List.map_reverse]
 have es:stk k ([]++fs.reverse).reverse=stk k fs:=by rw[List.nil_append,List.reverse_reverse]
 rw[es]at e3;exact(ao t_st).trans (bf rfl rfl (kH (dR (aa rfl) ((ao zO).trans (ka hk))) aj (by rw[gU];rfl) (cN (dY (Ap (aa rfl)) (by rw[er];rfl)) e3 (aX (d:=prD (stk k fs)) (uI (aE (aa rfl) (aE (aa rfl) bK))) (by unfold aW;rw[wm];rfl)))))
end
end RM
set_option maxHeartbeats 1000000
namespace RM
open RL RT
section
variable{n i:Nat}{f:List Nat}
def uQ(hn:n<=10)(hi:i+1<n)(V:Val n f)(ne:at' f (n+i)≠n+i+1) :
  (∀ p,p<2*n->p≠n+i->p≠n+i+1->Cn (jn n) (rb n f (aw n i)) (out n p) p)/\Cn (jn n) (rb n f (aw n i)) (n+i) (n+i+1)/\Cn (jn n) (rb n f (aw n i)) (out n (n+i)) (out n (n+i+1)):=by
 have hk:=fun x=>gN (n:=n) (i:=i) (x:=x) hi;refine⟨fun p hp h1 h2=>?_,?_,?_⟩
 ·by_cases c:p<n
  ·unfold out;rw[if_pos c];exact .refl
  ·obtain⟨j,rfl⟩:∃ j,p=n+j:=⟨p-n,by lia⟩
   have hj:j<n:=by lia
   have e0:out n (n+j)=2*n+(n+j):=by unfold out;rw[if_neg (by lia)];lia
   have e1:rb n f (aw n i) (2*n+(n+j))=2*n+j:=by
    rw[gE,hk,if_neg (by lia),if_neg (by lia),if_neg (by lia),if_neg (by lia),if_neg (by lia),if_pos (by lia)];lia
   rw[e0];have c1:=Cn.sb (a:=jn n) (b:=rb n f (aw n i)) (x:=2*n+(n+j)) .refl;rw[e1]at c1;have c2:=Cn.sa c1;rw[i8 hj]at c2;exact c2
 ·have c1:=Cn.sa (a:=jn n) (b:=rb n f (aw n i)) (x:=n+i) .refl;rw[fV (by lia)]at c1;have c2:=Cn.sb c1;rw[gE,hk,if_neg (by lia),if_neg (by lia),if_neg (by lia),if_pos rfl]at c2;have c3:=Cn.sa c2;rw[i8 hi]at c3;exact c3
 ·have e0:out n (n+i)=2*n+(n+i):=by unfold out;rw[if_neg (by lia)];lia
  have e1:out n (n+i+1)=2*n+(n+i+1):=by unfold out;rw[if_neg (by lia)];lia
  have c1:=Cn.sb (a:=jn n) (b:=rb n f (aw n i)) (x:=2*n+(n+i)) .refl;rw[gE,hk,if_neg (by lia),if_pos rfl]at c1;rw[e0,e1];exact c1
def nh(hn:n<=10)(hi:i+1<n)(V:Val n f):a7 n f (aw n i)=bE f (n+i)/\rgN n f (aw n i)=dJ f (n+i):=by
 by_cases ne:at' f (n+i)=n+i+1
 ·have z:=yi hn hi V;unfold bE dJ;rw[if_pos ne,if_pos ne];exact⟨z.1.mpr ne,z.2 ne⟩
 ·have F:=V.frm;have K:=(c9 hn hi).frm;have T2:=two F K;obtain⟨r1,r2,r3⟩:=uQ hn hi V ne;have a1:=F.lt (n+i) (by lia);have b1:=F.lt (n+i+1) (by lia);have a2:=F.no (n+i) (by lia);have b2:=F.no (n+i+1) (by lia);have ia:=F.inv (n+i);have ib:=F.inv (n+i+1);have b3:at' f (n+i+1)≠n+i:=fun e=>ne (by rw[e]at ib;exact ib)
  have st:∀ p,p<2*n->Cn (jn n) (rb n f (aw n i)) p (at' f p):=fun p hp=>by
   have:=Cn.sb (a:=jn n) (b:=rb n f (aw n i)) (x:=p) .refl;rw[iA hp]at this;exact this
  have back:∀ p,p<2*n->p≠n+i->p≠n+i+1->Cn (jn n) (rb n f (aw n i)) p (out n p):=fun p hp h1 h2=>(r1 p hp h1 h2).symm T2 (aL hp)
  have key:∀ p,p<2*n->at' (a7 n f (aw n i)) p=at' (bE f (n+i)) p:=fun p hp=>by
   have h:at' (bE f (n+i)) p=M.hg (n+i) (n+i+1) (at' f) p:=by rw[gQ F (by lia)]
   rw[h];unfold M.hg;rw[if_neg ne];by_cases c1:p=n+i+1
   ·rw[if_pos c1,found_iff F K hp (by lia) (by lia),c1];exact r3.symm T2 (aL (by lia))
   ·rw[if_neg c1];by_cases c2:p=n+i
    ·rw[if_pos c2,found_iff F K hp (by lia) (by lia),c2];exact r3
    ·rw[if_neg c2];by_cases c3:p=at' f (n+i+1)
     ·rw[if_pos c3]
      have nn:p≠at' f (n+i):=fun e=>by
       have:at' f (at' f (n+i))=at' f (at' f (n+i+1)):=by rw[<-e,<-c3]
       lia
      rw[found_iff F K hp a1 nn];have s1:=(r1 p hp c2 c1).trans (st p hp);rw[c3,ib]at s1;have s2:=s1.trans (r2.symm T2 (by lia));have s3:=s2.trans (st _ (by lia));rw[c3];exact s3.trans (back _ a1 a2 ne)
     ·rw[if_neg c3];by_cases c4:p=at' f (n+i)
      ·rw[if_pos c4];have nn:p≠at' f (n+i+1):=c3;rw[found_iff F K hp b1 nn];have s1:=(r1 p hp c2 c1).trans (st p hp);rw[c4,ia]at s1;have s2:=s1.trans r2;have s3:=s2.trans (st _ (by lia));rw[c4];exact s3.trans (back _ b1 b3 b2)
      ·rw[if_neg c4];have ip:=F.inv p;have n1:at' f p≠n+i:=fun e=>c4 (by rw[<-e,ip]);have n2:at' f p≠n+i+1:=fun e=>c3 (by rw[<-e,ip]);rw[found_iff F K hp (F.lt p hp) (fun e=>F.no p hp e.symm)];exact((r1 p hp c2 c1).trans (st p hp)).trans (back _ (F.lt p hp) n1 n2)
  refine⟨?_,?_⟩
  ·apply List.ext_getElem?;intro p;by_cases hp:p<2*n
   ·rw[dB (by rw[cz];exact hp),dB (by rw[jY,F.len];exact hp),key p hp]
   ·rw[List.getElem?_eq_none (by rw[cz];lia),List.getElem?_eq_none (by rw[jY,F.len];lia)]
  ·have R:bp (4*n) (jn n) (rb n f (aw n i)) []:=by
    have fix:∀ p,p<2*n->jn n (out n p)=out n p:=fun p hp=>by unfold out jn;(repeat' split)<;>lia
    have pth:∀ p,p<2*n->p≠n+i->p≠n+i+1->∀ {x},Cn (jn n) (rb n f (aw n i)) p x->∃ s,s<4*n/\(jn n s=s\/rb n f (aw n i) s=s)/\Cn (jn n) (rb n f (aw n i)) s x:=fun p hp h1 h2 x c=>⟨out n p,aL hp,.inl (fix p hp),(r1 p hp h1 h2).trans c⟩
    have mid:∀ j,j<n->∀ {x},Cn (jn n) (rb n f (aw n i)) (n+j) x->∃ s,s<4*n/\(jn n s=s\/rb n f (aw n i) s=s)/\Cn (jn n) (rb n f (aw n i)) s x:=fun j hj x c=>by
     by_cases h1:j=i
     ·subst h1;exact pth _ a1 a2 ne (((st (n+j) (by lia)).symm T2 (by lia)).trans c)
     ·by_cases h2:j=i+1
      ·subst h2;exact pth _ b1 b3 b2 (((st (n+i+1) (by lia)).symm T2 (by lia)).trans c)
      ·exact pth _ (by lia) (by lia) (by lia) c
    refine bp.mk (fun s hs=>by cases hs) List.Pairwise.nil (fun s hs=>by cases hs) fun x hx=>Or.inl ?_;by_cases c1:x<n
    ·exact⟨x,hx,.inl (by unfold jn;rw[if_pos c1]),.refl⟩
    ·by_cases c2:x<2*n
     ·obtain⟨j,rfl⟩:∃ j,x=n+j:=⟨x-n,by lia⟩
      exact mid j (by lia) .refl
     ·by_cases c3:x<3*n
      ·obtain⟨j,rfl⟩:∃ j,x=2*n+j:=⟨x-2*n,by lia⟩
       have c:=Cn.sa (a:=jn n) (b:=rb n f (aw n i)) (x:=n+j) .refl;rw[fV (by lia)]at c;exact mid j (by lia) c
      ·exact⟨x,hx,.inl (by unfold jn;rw[if_neg c1,if_neg c2,if_neg c3]),.refl⟩
   rw[fI F K R];unfold dJ;rw[if_neg ne];rfl
def kR(hn:n<=10):∀ (row:List Nat) (s:List Nat × Nat),(∀ j∈row,j+1<n)->Val n s.1->hangs n row s=jX n s (row.map (aw n))
 | [],s,_,_=>rfl
 | j::row,s,h,V=>by
  have hj:=h j (.head _);obtain⟨e1,e2⟩:=nh hn hj V
  have e:cF n s (aw n j,0)=(bE s.1 (n+j),s.2+dJ s.1 (n+j)):=by
   unfold cF;refine Prod.ext e1 ?_;show rgN n s.1 (aw n j)+s.2+0=_;rw[e2];show _=s.2+dJ s.1 (n+j);lia
  show hangs n row (bE s.1 (n+j),s.2+dJ s.1 (n+j))=jX n (cF n s (aw n j,0)) (row.map (aw n));rw[e];refine kR hn row _ (fun k hk=>h k (.tail _ hk)) ?_;rw[<-e1];exact eO hn V (c9 hn hj)
end
end RM
set_option maxHeartbeats 1000000
namespace RM
open RL RT
abbrev sP(n:Nat)(f:List Nat)(s p:Nat):Bool:=decide (p%n<=s/\s<at' f p%n)
abbrev sQ(n:Nat)(f:List Nat)(s p:Nat):Bool:=decide (p<at' f p)&&decide ((if p%n<=at' f p%n then p%n else at' f p%n)<=s/\s<(if p%n<=at' f p%n then at' f p%n else p%n))
abbrev sm(n:Nat)(f:List Nat)(s:Nat):Nat:=cnt (2*n) (sP n f s)
abbrev smL(n:Nat)(f:List Nat):List Nat:=(List.range (n-1)).map (sm n f)
section
variable{n:Nat}{f:List Nat}
def Gj(F:Frm n f)(s:Nat):cnt (2*n) (sQ n f s)=sm n f s:=by
 unfold sm;apply Nat.le_antisymm
 ·refine wD (fun q=>if q%n<=s then q else at' f q) (fun q hq h=>?_) (fun q q' hq hq' h h' e=>?_)
  ·unfold sQ at h;rw[Bool.and_eq_true,decide_eq_true_eq,decide_eq_true_eq]at h;obtain⟨h1,h2,h3⟩:=h;unfold sP;rw[decide_eq_true_eq];by_cases c:q%n<=s
   ·rw[if_pos c];refine⟨hq,c,?_⟩;by_cases d:q%n<=at' f q%n
    ·rw[if_pos d]at h3;exact h3
    ·rw[if_neg d]at h3;lia
   ·rw[if_neg c];refine⟨F.lt q hq,?_,by rw[F.inv];lia⟩;by_cases d:q%n<=at' f q%n
    ·rw[if_pos d]at h2;lia
    ·rw[if_neg d]at h2;exact h2
  ·unfold sQ at h h';rw[Bool.and_eq_true,decide_eq_true_eq]at h h';have a:=h.1;have b:=h'.1;by_cases c:q%n<=s
   ·by_cases c':q' % n<=s
    ·rw[if_pos c,if_pos c']at e;exact e
    ·rw[if_pos c,if_neg c']at e;subst e;rw[F.inv]at a;lia
   ·by_cases c':q' % n<=s
    ·rw[if_neg c,if_pos c']at e;subst e;rw[F.inv]at b;lia
    ·rw[if_neg c,if_neg c']at e;rw[<-F.inv q,e,F.inv]
 ·refine wD (fun p=>if p<at' f p then p else at' f p) (fun p hp h=>?_) (fun p p' hp hp' h h' e=>?_)
  ·unfold sP at h;rw[decide_eq_true_eq]at h;unfold sQ;rw[Bool.and_eq_true,decide_eq_true_eq,decide_eq_true_eq];have no:=F.no p hp;by_cases c:p<at' f p
   ·rw[if_pos c,if_pos (by lia),if_pos (by lia)];exact⟨hp,c,h⟩
   ·rw[if_neg c,F.inv,if_neg (by lia),if_neg (by lia)];exact⟨F.lt p hp,by lia,h⟩
  ·unfold sP at h h';rw[decide_eq_true_eq]at h h';by_cases c:p<at' f p
   ·by_cases c':p'<at' f p'
    ·rw[if_pos c,if_pos c']at e;exact e
    ·rw[if_pos c,if_neg c']at e;subst e;rw[F.inv]at h;lia
   ·by_cases c':p'<at' f p'
    ·rw[if_neg c,if_pos c']at e;subst e;rw[F.inv]at h';lia
    ·rw[if_neg c,if_neg c']at e;rw[<-F.inv p,e,F.inv]
def Bj:∀ n,n<11->∀ p,p<2*n->ovr n p%n=p%n/\mir n p%n=n-1-p%n:=by decide +kernel
def rP{m:Nat}{P:Nat->Bool}(g:Nat->Nat)(h:∀ p,p<m->P p=true->g p<m/\P (g p)=true/\g (g p)=p/\g p≠p):cnt m P%2=0:=by
 unfold cnt
 have mem:∀ x,x∈(List.range m).filter P↔x<m/\P x=true:=fun x=>by rw[List.mem_filter,List.mem_range]
 refine my (b:=g) (List.nodup_range.filter _) (fun x hx=>?_) (fun x hx=>?_) (fun x hx=>?_)
 ·obtain⟨a,b⟩:=(mem x).mp hx;exact(mem _).mpr ⟨(h x a b).1,(h x a b).2.1⟩
 ·obtain⟨a,b⟩:=(mem x).mp hx;exact(h x a b).2.2.1
 ·obtain⟨a,b⟩:=(mem x).mp hx;exact(h x a b).2.2.2
def t7{A B C:Nat->Bool}:∀ xs:List Nat,(∀ x∈xs,(if A x then 1 else 0)=(if B x then 1 else 0)+(if C x then 1 else 0))->(xs.filter A).length=(xs.filter B).length+(xs.filter C).length
 | [],_=>rfl
 | x::r,h=>by
  have ih:=t7 r fun y hy=>h y (List.mem_cons_of_mem _ hy);have hx:=h x (List.mem_cons_self ..);rw[List.filter_cons,List.filter_cons,List.filter_cons];cases a:A x<;>cases b:B x<;>cases c:C x<;>rw[a,b,c]at hx<;>simp at hx ⊢<;>lia
def BQ(hn:n<=10)(F:Frm n f)(s:Nat):sm n f s%2=0:=by
 have W:=cV n
 have e1:cnt (2*n) (fun p=>decide (p%n<=s))%2=0:=rP (ovr n) fun p hp h=>by
  rw[decide_eq_true_eq]at h;rw[decide_eq_true_eq,(Bj n (by lia) p hp).1];exact⟨W.lt p hp,h,W.bt p hp,by unfold ovr;split<;>lia⟩
 have e2:cnt (2*n) (fun p=>decide (p%n<=s/\at' f p%n<=s))%2=0:=rP (at' f) fun p hp h=>by
  rw[decide_eq_true_eq]at h;rw[decide_eq_true_eq,F.inv];exact⟨F.lt p hp,⟨h.2,h.1⟩,rfl,F.no p hp⟩
 have e3:cnt (2*n) (fun p=>decide (p%n<=s))=cnt (2*n) (fun p=>decide (p%n<=s/\at' f p%n<=s))+sm n f s:=by
  unfold sm cnt;refine t7 _ fun x _=>?_;unfold sP;by_cases c:x%n<=s
  ·by_cases d:at' f x%n<=s
   ·rw[if_pos (decide_eq_true c),if_pos (decide_eq_true ⟨c,d⟩),if_neg (by rw[decide_eq_true_eq];lia)]
   ·rw[if_pos (decide_eq_true c),if_neg (by rw[decide_eq_true_eq];lia),if_pos (by rw[decide_eq_true_eq];lia)]
  ·rw[if_neg (by rw[decide_eq_true_eq];lia),if_neg (by rw[decide_eq_true_eq];lia),if_neg (by rw[decide_eq_true_eq];lia)]
 lia
end
end RM
set_option maxHeartbeats 1000000
namespace RM
abbrev tkF(I L Q:Nat)(R:Nat->Nat)(x:Nat):Nat:=if x=L then I else if x=I then L else if x=Q then I+1 else if x=I+1 then Q else R x
abbrev inA(I L x:Nat):Prop:=(L<I/\L<x/\x<I)\/(I<L/\(L<x\/x<I))
def yb{m I L Q:Nat}{R:Nat->Nat}(lt:∀ x,x<m->R x<m)(inv:∀ x,x<m->R (R x)=x)(no:∀ x,x<m->R x≠x)
 (nox:∀ q q',q<m->q'<m->¬ (q<q'/\q'<R q/\R q<R q'))(hI:I+1<m)(hL:L<m)(e1:R I=I+1)(e2:R L=Q)(hc:(L<I/\I+1<Q)\/(I+1<Q/\Q<L))
 (clA:∀ x,x<m->inA I L x->inA I L (R x)):∀ q q',q<m->q'<m->¬ (q<q'/\q'<tkF I L Q R q/\tkF I L Q R q<tkF I L Q R q'):=by
 have e3:R (I+1)=I:=by rw[<-e1,inv I (by lia)]
 have e4:R Q=L:=by rw[<-e2,inv L hL]
 have hQ:Q<m:=by rw[<-e2];exact lt L hL
 have side:∀ x,x<m->x≠L->x≠I->x≠Q->x≠I+1->(R x≠L/\R x≠I/\R x≠Q/\R x≠I+1)/\(inA I L x↔inA I L (R x))/\((I+1<x/\x<Q)↔(I+1<R x/\R x<Q)):=by
  intro x hx h1 h2 h3 h4;have ix:=inv x hx;have lx:=lt x hx;have n1:R x≠L:=fun e=>h3 (by rw[<-ix,e,e2]);have n2:R x≠I:=fun e=>h4 (by rw[<-ix,e,e1]);have n3:R x≠Q:=fun e=>h1 (by rw[<-ix,e,e4]);have n4:R x≠I+1:=fun e=>h2 (by rw[<-ix,e,e3])
  have a1:inA I L x↔inA I L (R x):=⟨clA x hx,fun h=>by have:=clA (R x) lx h;rw[ix]at this;exact this⟩
  refine⟨⟨n1,n2,n3,n4⟩,a1,?_⟩
  rcases hc with⟨k1,k2⟩ | ⟨k1,k2⟩
  ·constructor
   ·intro⟨g1,g2⟩
    have na:¬ (L<R x/\R x<I):=fun h=>by
     rcases a1.mpr (.inl ⟨k1,h.1,h.2⟩)with z | z<;>lia
    have c2:=nox L x hL hx;have d1:=nox (R x) L lx hL;rw[e2]at c2 d1;rw[ix]at d1;lia
   ·intro⟨g1,g2⟩
    have na:¬ (L<x/\x<I):=fun h=>by
     rcases a1.mp (.inl ⟨k1,h.1,h.2⟩)with z | z<;>lia
    have d2:=nox L (R x) hL lx;have c1:=nox x L hx hL;rw[e2]at d2 c1;rw[ix]at d2;lia
  ·constructor
   ·intro⟨g1,g2⟩
    have na:¬ (L<R x\/R x<I):=fun h=>by
     rcases a1.mpr (.inr ⟨by lia,h⟩)with z | z<;>lia
    have c3:=nox x Q hx hQ;rw[e4]at c3;lia
   ·intro⟨g1,g2⟩
    have na:¬ (L<x\/x<I):=fun h=>by
     rcases a1.mp (.inr ⟨by lia,h⟩)with z | z<;>lia
    have d3:=nox (R x) Q lx hQ;rw[e4,ix]at d3;lia
 have tL:tkF I L Q R L=I:=by unfold tkF;rw[if_pos rfl]
 have tI:tkF I L Q R I=L:=by unfold tkF;rw[if_neg (by lia),if_pos rfl]
 have tQ:tkF I L Q R Q=I+1:=by unfold tkF;rw[if_neg (by lia),if_neg (by lia),if_pos rfl]
 have tJ:tkF I L Q R (I+1)=Q:=by unfold tkF;rw[if_neg (by lia),if_neg (by lia),if_neg (by lia),if_pos rfl]
 have tO:∀ x,x≠L->x≠I->x≠Q->x≠I+1->tkF I L Q R x=R x:=fun x a b c d=>by unfold tkF;rw[if_neg a,if_neg b,if_neg c,if_neg d]
 have four:∀ x,(x=L\/x=I\/x=Q\/x=I+1)\/(x≠L/\x≠I/\x≠Q/\x≠I+1):=fun x=>by lia
 have one:∀ x,x<m->x≠L->x≠I->x≠Q->x≠I+1->((L<I->((L<x/\x<I)↔(L<R x/\R x<I)))/\(I<L->((I<x/\x<L)↔(I<R x/\R x<L))))/\((I+1<x/\x<Q)↔(I+1<R x/\R x<Q)):=fun x hx p1 p2 p3 p4=>by
  obtain⟨⟨n1,n2,n3,n4⟩,a1,a2⟩:=side x hx p1 p2 p3 p4;refine⟨⟨fun k=>⟨fun h=>?_,fun h=>?_⟩,fun k=>⟨fun h=>?_,fun h=>?_⟩⟩,a2⟩
  ·rcases a1.mp (.inl ⟨k,h.1,h.2⟩)with z | z<;>lia
  ·rcases a1.mpr (.inl ⟨k,h.1,h.2⟩)with z | z<;>lia
  ·have na:¬ (L<R x\/R x<I):=fun h'=>by rcases a1.mpr (.inr ⟨k,h'⟩)with z | z<;>lia
   lia
  ·have na:¬ (L<x\/x<I):=fun h'=>by rcases a1.mp (.inr ⟨k,h'⟩)with z | z<;>lia
   lia
 intro q q' hq hq' ⟨h1,h2,h3⟩
 rcases four q with o | ⟨p1,p2,p3,p4⟩
 ·rcases four q' with o' | ⟨p1,p2,p3,p4⟩
  ·rcases o with rfl | rfl | rfl | rfl<;>rcases o' with rfl | rfl | rfl | rfl<;>first | lia | skip
   all_goals simp only[tL,tI,tQ,tJ]at h2 h3
   all_goals lia
  ·obtain⟨⟨s1,s2⟩,s3⟩:=one q' hq' p1 p2 p3 p4;rw[tO q' p1 p2 p3 p4]at h3;rcases o with rfl | rfl | rfl | rfl
   ·rw[tL]at h2 h3;have:=s1 (by lia);lia
   ·rw[tI]at h2 h3;have:=s2 (by lia);lia
   ·rw[tQ]at h2 h3;lia
   ·rw[tJ]at h2 h3;lia
 ·rw[tO q p1 p2 p3 p4]at h2 h3
  rcases four q' with o' | ⟨r1,r2,r3,r4⟩
  ·obtain⟨⟨s1,s2⟩,s3⟩:=one q hq p1 p2 p3 p4;rcases o' with rfl | rfl | rfl | rfl
   ·rw[tL]at h3;have:=s1 (by lia);lia
   ·rw[tI]at h3;have:=s2 (by lia);lia
   ·rw[tQ]at h3;lia
   ·rw[tJ]at h3;lia
  ·rw[tO q' r1 r2 r3 r4]at h3;exact nox q q' hq hq' ⟨h1,h2,h3⟩
end RM
set_option maxHeartbeats 1000000
namespace RM
open RL RT
def map_set{m x:Nat}(g:Nat->Nat)(hx:x<m)(v:Nat):((List.range m).map g).set x v=(List.range m).map fun s=>if s=x then v else g s:=by
 apply List.ext_getElem
 ·simp
 ·intro k h1 h2;rw[List.getElem_set];simp only[List.getElem_map,List.getElem_range];by_cases c:x=k
  ·rw[if_pos c,if_pos c.symm]
  ·rw[if_neg c,if_neg (Ne.symm c)]
def wG{m x:Nat}(g:Nat->Nat)(hx:x<m):at' ((List.range m).map g) x=g x:=by simp[at',hx]
def rN(k:Nat)(P:Nat->Bool):cnt (k+1) P=cnt k P+if P k then 1 else 0:=by
 unfold cnt;rw[List.range_succ,List.filter_append,List.length_append,List.filter_cons];split<;>rfl
def iz{f:List Nat}{x:Nat}(h:x<f.length):ixV (.lst (L f)) (.int (x:Nat))=some (.int (at' f x:Nat)):=by
 show cB _ _=_;rw[eI,n6,dB h];rfl
def iY(x:Nat){q:Nat}(h:0<q):aA .mod (.int (x:Nat)) (.int (q:Nat))=some (.int ((x%q:Nat):Int)):=by
 rw[cP (by omega)];congr 2
def vf{n:Nat}(h1:1<=n):aA .sub (.int (n:Nat)) (.int 1)=some (.int ((n-1:Nat):Int)):=by
 rw[dI];congr 2;omega
section
variable{cl:Cl}{n:Nat}{f:List Nat}
def xW{a b:Nat}(hb:b<=n-1)(hn:n<=10)(g:Nat->Nat)(o3 o4 o5:Option D):∃ o5',aO (ag cl [2] eT) [5] (L (List.range' a (b-a))) [some (.tup (L f)),some (.int (n:Nat)),some (.lst (L ((List.range (n-1)).map g))),o3,o4,o5]=some (.nx,[some (.tup (L f)),some (.int (n:Nat)),some (.lst (L ((List.range (n-1)).map fun s=>g s+if a<=s/\s<b then 1 else 0))),o3,o4,o5']):=by
 obtain⟨σ',e,o5',rfl⟩:=bU (f:=ag cl [2] eT) (tg:=[5]) (xs:=List.range' a (b-a)) (σ:=[some (.tup (L f)),some (.int (n:Nat)),some (.lst (L ((List.range (n-1)).map g))),o3,o4,o5]) (fun u σ=>∃ o5,σ=[some (.tup (L f)),some (.int (n:Nat)),some (.lst (L ((List.range (n-1)).map fun s=>g s+if a<=s/\s<a+u.length then 1 else 0))),o3,o4,o5]) ⟨o5,by
   rw[show(fun s=>g s+if a<=s/\s<a+([]:List Nat).length then 1 else 0)=g from funext fun s=>by rw[if_neg (by simp)];rfl]⟩ (by
  rintro u x v σ hu ⟨o5,rfl⟩
  have hx:x=a+u.length/\u.length<b-a:=by
   have hlen:=congrArg List.length hu;rw[List.length_range',List.length_append,List.length_cons]at hlen
   have c:u.length<b-a:=by omega
   have this:=congrArg (fun l=>l[u.length]?) hu;simp only[List.getElem?_append_right (Nat.le_refl _),Nat.sub_self,List.getElem?_cons_zero]at this;rw[List.getElem?_range' c]at this;have:=Option.some.inj this;exact⟨by omega,c⟩
  obtain⟨rfl,hl⟩:=hx
  have hx:a+u.length<n-1:=by omega
  have i:=iz (f:=(List.range (n-1)).map fun s=>g s+if a<=s/\s<a+u.length then 1 else 0) (x:=a+u.length) (by simp;exact hx);rw[wG _ hx]at i;have p:=gm (f:=(List.range (n-1)).map fun s=>g s+if a<=s/\s<a+u.length then 1 else 0) (i:=a+u.length) (j:=(g (a+u.length)+if a<=a+u.length/\a+u.length<a+u.length then 1 else 0)+1) (by simp;exact hx);rw[map_set _ hx]at p;refine⟨_,show ag cl [2] eT [some (.tup (L f)),some (.int (n:Nat)),some (.lst (L ((List.range (n-1)).map fun s=>g s+if a<=s/\s<a+u.length then 1 else 0))),o3,o4,some (.int ((a+u.length:Nat):Int))]=some (.nx,_)from kC (az (d:=.int (((g (a+u.length)+if a<=a+u.length/\a+u.length<a+u.length then 1 else 0)+1:Nat):Int)) (cA (aa rfl) (aa rfl) i) aj rfl) (aa rfl) rfl rfl p aR,some (.int ((a+u.length:Nat):Int)),?_⟩
  have:(fun s=>if s=a+u.length then(g (a+u.length)+if a<=a+u.length/\a+u.length<a+u.length then 1 else 0)+1 else g s+if a<=s/\s<a+u.length then 1 else 0)=fun s=>g s+if a<=s/\s<a+(u++[a+u.length]).length then 1 else 0:=funext fun s=>by
   rw[List.length_append,List.length_singleton];by_cases c:s=a+u.length
   ·subst c;rw[if_pos rfl,if_neg (by omega),if_pos (by omega)]
   ·rw[if_neg c];by_cases d:a<=s/\s<a+u.length
    ·rw[if_pos d,if_pos (by omega)]
    ·rw[if_neg d,if_neg (by omega)]
  rw[<-this]
  rfl)
 refine⟨o5',?_⟩;rw[e]
 have:(fun s=>g s+if a<=s/\s<a+(List.range' a (b-a)).length then 1 else 0)=fun s=>g s+if a<=s/\s<b then 1 else 0:=funext fun s=>by
  rw[List.length_range'];by_cases c:a<=s/\s<b
  ·rw[if_pos c,if_pos (by omega)]
  ·rw[if_neg c,if_neg (by omega)]
 rw[this]
def pN(h1:1<=n)(hn:n<=10)(F:Frm n f):evF cl iN [.tup (L f)]=some (.lst (L (smL n f))):=by
 have ln:biV .len (.tup (L f))=some (.int ((2*n:Nat):Int)):=by
  show some (D.int ((L f).length:Nat))=_;rw[aM,F.len]
 have dv:aA .fdiv (.int ((2*n:Nat):Int)) (.int 2)=some (.int (n:Nat)):=by
  rw[iC (by decide) (by decide)];congr 2;omega
 have r1:=bO (n:=n-1) (by omega);have mz:=j6 (F:=fun σ1=>(ev cl σ1 (.cst (.int 0))).map some) (tg:=[5]) (σ:=[some (.tup (L f)),some (.int (n:Nat)),none,none,none,none]) (h:=fun i=>.int (i:Nat)) (g:=fun i=>.int ((cnt 0 (sP n f i):Nat):Int)) (fun _=>rfl) (List.range (n-1)) (fun i _=>rfl)
 have ez:((List.range (n-1)).map fun i=>D.int ((cnt 0 (sP n f i):Nat):Int))=L ((List.range (n-1)).map fun i=>cnt 0 (sP n f i)):=by unfold L;rw[List.map_map];rfl
 rw[ez]at mz
 obtain⟨σ',e,o3,o4,o5,rfl⟩:=rT (f:=ag cl [2] ij) (tg:=[3,4]) (pr f) (fun _=>rfl)
  (fun u σ=>∃ o3 o4 o5,σ=[some (.tup (L f)),some (.int (n:Nat)),some (.lst (L ((List.range (n-1)).map fun s=>cnt u.length (sP n f s)))),o3,o4,o5])
  (List.range (2*n)) [] [some (.tup (L f)),some (.int (n:Nat)),some (.lst (L ((List.range (n-1)).map fun s=>cnt 0 (sP n f s)))),none,none,none] (by
   rintro u p v σ hu ⟨o3,o4,o5,rfl⟩;obtain⟨hk,hp⟩:=dz (g:=id) (by simpa using hu);simp only[id]at hp;subst hp;have m1:=Nat.mod_lt u.length (show 0<n by omega);have m2:=Nat.mod_lt (at' f u.length) (show 0<n by omega);obtain⟨o5',el⟩:=xW (cl:=cl) (n:=n) (f:=f) (a:=u.length%n) (b:=at' f u.length%n) (by omega) hn (fun s=>cnt u.length (sP n f s)) (some (.int (u.length:Nat))) (some (.int (at' f u.length:Nat))) o5;refine⟨_,show ag cl [2] ij [some (.tup (L f)),some (.int (n:Nat)),some (.lst (L ((List.range (n-1)).map fun s=>cnt u.length (sP n f s)))),some (.int (u.length:Nat)),some (.int (at' f u.length:Nat)),o5]=some (.nx,_)from cN (CS (az (aa rfl) (aa rfl) (iY _ (by omega))) (az (aa rfl) (aa rfl) (iY _ (by omega))) (eN (by omega) (by omega))) el aR,some (.int (u.length:Nat)),some (.int (at' f u.length:Nat)),o5',?_⟩
   rw[List.length_append,List.length_singleton,show(fun s=>cnt (u.length+1) (sP n f s))=fun s=>cnt u.length (sP n f s)+if u.length%n<=s/\s<at' f u.length%n then 1 else 0 from funext fun s=>by
    rw[rN];unfold sP;by_cases c:u.length%n<=s/\s<at' f u.length%n
    ·rw[if_pos (decide_eq_true c),if_pos c]
    ·rw[if_neg (by rw[decide_eq_true_eq];exact c),if_neg c]])
  ⟨_,_,_,rfl⟩
 rw[<-kK F.len,List.nil_append,List.length_range]at e;exact bf rfl rfl (aI (az (bN (aa rfl) ln) aj dv) rfl (eA (eg (fj (az (aa rfl) aj (vf h1)) r1) (by rw[aM,List.length_range];unfold most;omega) mz) (by rw[show ∀ xs:List Nat,a9 (.lst (L xs))=true from fun xs=>bj xs];rfl) (cN (pV (aa rfl) rfl) e (aX (aa rfl) (by unfold aW;rw[show ∀ xs:List Nat,a9 (.lst (L xs))=true from fun xs=>bj xs];rfl)))))
def wx{β:Type}{F:St->Option D}{tg:List Nat}{σ:St}{h g:β->D}(im:∀ x,a9 (g x)=true):∀ xs:List β,(∀ x∈xs,(a8 tg (h x) σ).bind F=some (g x))->hW F true tg σ (xs.map h)=some (xs.map g)
 | [],_=>rfl
 | x::r,hx=>by
  have a:=hx x (List.mem_cons_self ..);have b:=wx im r fun y hy=>hx y (List.mem_cons_of_mem _ hy);rw[List.map_cons,hW]
  cases hb:a8 tg (h x) σ with
  | none=>rw[hb]at a;cases a
  |some σ1=>
   rw[hb]at a;simp only[Option.bind_some]at a ⊢;rw[a,Option.bind_some,if_pos (by rw[im x];rfl),b];rfl
def B0{σ:St}{e:E}{tg:List Nat}{it:It}{ds ys:List D}(h:aU cl σ it=some ds)(hf:ds.length<=most)(hm:hW (fun σ1=>ev cl σ1 e) (aH e) tg σ ds=some ys):ev cl σ (.compL e tg it)=some (.lst ys):=by
 rw[ev,h,Option.bind_some,fits,if_pos hf,Option.bind_some,hm];rfl
abbrev sLo(n:Nat)(f:List Nat)(p:Nat):Nat:=if p%n<=at' f p%n then p%n else at' f p%n
abbrev sHi(n:Nat)(f:List Nat)(p:Nat):Nat:=if p%n<=at' f p%n then at' f p%n else p%n
abbrev spD(n:Nat)(f:List Nat)(p:Nat):D:=.lst [.int (sLo n f p:Nat),.int (sHi n f p:Nat)]
def wd{fo ft:Nat}(h1:1<=n)(hn:n<=10)(F:Frm n f)(ho:cl fo [.tup (L f)]=some (.int (n:Nat)))(ht:cl ft [.tup (L f)]=some (qf n f)):evF cl (oz ft fo) [.tup (L f)]=some (.lst (L (smL n f))):=by
 have m1:=wx (F:=fun σ1=>ev cl σ1 (.bi .sorted (.lst (.cons (.bin .mod (.var 4) (.var 1)) (.cons (.bin .mod (.var 5) (.var 1)) .nil))))) (tg:=[4,5]) (σ:=[some (.tup (L f)),some (.int (n:Nat)),none,none,none,none,none,none]) (h:=pr f) (g:=spD n f) (fun _=>rfl) ((List.range (2*n)).filter fun p=>decide (p<at' f p)) (fun p hp=>by
  show ev cl [some (.tup (L f)),some (.int (n:Nat)),none,none,some (.int (p:Nat)),some (.int (at' f p:Nat)),none,none] _=_;rw[bN (cY (aE (az (aa rfl) (aa rfl) (iY p (by omega))) (aE (az (aa rfl) (aa rfl) (iY (at' f p) (by omega))) bK))) (HA _ _)]
  rfl)
 have lt:(((List.range (2*n)).filter fun p=>decide (p<at' f p)).map (pr f)).length<=most:=by
  rw[List.length_map];refine Nat.le_trans (List.length_filter_le _ _) ?_;rw[List.length_range];unfold most;omega
 have ls:(((List.range (2*n)).filter fun p=>decide (p<at' f p)).map (spD n f)).length<=most:=by
  rw[List.length_map]at lt ⊢;exact lt
 have m2:∀ s:Nat,cq (fun σ1=>((ev cl σ1 (.chain .le .lt (.var 6) (.var 3) (.var 7))).bind truth).bind fun k=>if k then(ev cl σ1 (.var 6)).map some else some none) [6,7] [some (.tup (L f)),some (.int (n:Nat)),some (.lst (((List.range (2*n)).filter fun p=>decide (p<at' f p)).map (spD n f))),some (.int (s:Nat)),none,none,none,none] (((List.range (2*n)).filter fun p=>decide (p<at' f p)).map (spD n f))=some ((((List.range (2*n)).filter fun p=>decide (p<at' f p)).filter fun p=>decide (sLo n f p<=s/\s<sHi n f p)).map fun p=>.int (sLo n f p:Nat)):=fun s=>by
  refine iZ (h:=spD n f) (g:=fun p=>.int (sLo n f p:Nat)) (fun _=>rfl) _ fun p hp=>?_;show((ev cl [some (.tup (L f)),some (.int (n:Nat)),some (.lst (((List.range (2*n)).filter fun p=>decide (p<at' f p)).map (spD n f))),some (.int (s:Nat)),none,none,some (.int (sLo n f p:Nat)),some (.int (sHi n f p:Nat))] (.chain .le .lt (.var 6) (.var 3) (.var 7))).bind truth).bind (fun k=>if k then(ev cl [some (.tup (L f)),some (.int (n:Nat)),some (.lst (((List.range (2*n)).filter fun p=>decide (p<at' f p)).map (spD n f))),some (.int (s:Nat)),none,none,some (.int (sLo n f p:Nat)),some (.int (sHi n f p:Nat))] (.var 6)).map some else some none)=_;by_cases c:sLo n f p<=s
  ·rw[bL (nU (aa rfl) (aa rfl) (aa rfl) (by rw[oT,decide_eq_true (by omega)]) dD),Option.bind_some,aa rfl];by_cases d:s<sHi n f p
   ·rw[if_pos (decide_eq_true (by omega)),if_pos (decide_eq_true ⟨c,d⟩)];rfl
   ·rw[if_neg (by rw[decide_eq_true_eq];omega),if_neg (by rw[decide_eq_true_eq];exact fun z=>d z.2)]
  ·rw[bL (rJ (aa rfl) (aa rfl) (by rw[oT,decide_eq_false (by omega)])),if_neg (by rw[decide_eq_true_eq];exact fun z=>c z.1)];rfl
 have m3:=j6 (F:=fun σ1=>(ev cl σ1 (.bi .len (.comp (.var 6) [6,7] (.seq (.var 2)) (.chain .le .lt (.var 6) (.var 3) (.var 7))))).map some) (tg:=[3]) (σ:=[some (.tup (L f)),some (.int (n:Nat)),some (.lst (((List.range (2*n)).filter fun p=>decide (p<at' f p)).map (spD n f))),none,none,none,none,none]) (h:=fun s=>.int (s:Nat)) (g:=fun s=>.int (sm n f s:Nat)) (fun _=>rfl) (List.range (n-1)) (fun s hs=>by
  show(ev cl [some (.tup (L f)),some (.int (n:Nat)),some (.lst (((List.range (2*n)).filter fun p=>decide (p<at' f p)).map (spD n f))),some (.int (s:Nat)),none,none,none,none] (.bi .len (.comp (.var 6) [6,7] (.seq (.var 2)) (.chain .le .lt (.var 6) (.var 3) (.var 7))))).map some=_
  have q:biV .len (.lst ((((List.range (2*n)).filter fun p=>decide (p<at' f p)).filter fun p=>decide (sLo n f p<=s/\s<sHi n f p)).map fun p=>D.int (sLo n f p:Nat)))=some (.int (sm n f s:Nat)):=by
   rw[<-Gj F s];show some (D.int (List.length _:Nat))=_;rw[List.length_map,List.filter_filter];unfold cnt;congr 4;apply List.filter_congr;intro p _;unfold sQ sLo sHi;rw[Bool.and_comm]
  rw[bN (rz (dY (aa rfl) rfl) ls (m2 s)) q]
  rfl)
 have e3:((List.range (n-1)).map fun s=>D.int (sm n f s:Nat))=L (smL n f):=by unfold L smL;rw[List.map_map];rfl
 rw[e3]at m3
 exact bf rfl rfl (aI (dR (aa rfl) ho) rfl (aI (B0 (dY (dR (aa rfl) ht) rfl) lt m1) (by unfold aP;exact Bool.or_true _)
  (aX (eg (fj (az (aa rfl) aj (vf h1)) (bO (n:=n-1) (by omega))) (by rw[aM,List.length_range];unfold most;omega) m3) (by unfold aW;rw[show ∀ xs:List Nat,a9 (.lst (L xs))=true from fun xs=>bj xs];rfl))))
end
end RM
set_option maxHeartbeats 1000000
namespace RM
abbrev bS:Nat->(Nat->Nat)->Nat
 | 0,_=>0
 | m+1,g=>bS m g+g m
def eQ{g g':Nat->Nat}:∀ {m:Nat},(∀ p,p<m->g p=g' p)->bS m g=bS m g'
 | 0,_=>rfl
 | m+1,h=>by rw[bS,bS,eQ fun p hp=>h p (Nat.lt_succ_of_lt hp),h m (Nat.lt_succ_self m)]
def pE{g g':Nat->Nat}:∀ {m:Nat},(∀ p,p<m->g p<=g' p)->bS m g<=bS m g'
 | 0,_=>Nat.le_refl _
 | m+1,h=>Nat.add_le_add (pE fun p hp=>h p (Nat.lt_succ_of_lt hp)) (h m (Nat.lt_succ_self m))
def fg(c:Nat):∀ m,bS m (fun _=>c)=m*c
 | 0=>(Nat.zero_mul c).symm
 | m+1=>by rw[bS,fg c m,Nat.succ_mul]
def og(P:Nat->Bool):∀ m,cnt m P=bS m (fun p=>if P p then 1 else 0)
 | 0=>rfl
 | m+1=>by rw[rN,og P m,bS]
def eJ{g g':Nat->Nat}{x:Nat}:∀ {m:Nat},x<m->(∀ p,p<m->p≠x->g' p=g p)->bS m g'+g x=bS m g+g' x
 | 0,h,_=>nomatch h
 | m+1,h,e=>by
  rw[bS,bS];by_cases c:x=m
  ·subst c;rw[eQ (g:=g') (g':=g) fun p hp=>e p (Nat.lt_succ_of_lt hp) (Nat.ne_of_lt hp),Nat.add_right_comm]
  ·have:=eJ (m:=m) (Nat.lt_of_le_of_ne (Nat.le_of_lt_succ h) c) fun p hp=>e p (Nat.lt_succ_of_lt hp);rw[e m (Nat.lt_succ_self m) (Ne.symm c),Nat.add_right_comm,this,Nat.add_right_comm]
def Hf{g g':Nat->Nat}{m x y u v:Nat}(hx:x<m)(hy:y<m)(hu:u<m)(hv:v<m)(d1:x≠y)(d2:x≠u)(d3:x≠v)(d4:y≠u)(d5:y≠v)(d6:u≠v)(e:∀ p,p≠x->p≠y->p≠u->p≠v->g' p=g p) :
  bS m g'+(g x+g y+g u+g v)=bS m g+(g' x+g' y+g' u+g' v):=by
 have s1:=eJ (g:=g) (g':=fun p=>if p=x then g' x else g p) hx (fun p _ h=>if_neg h);have s2:=eJ (g:=fun p=>if p=x then g' x else g p) (g':=fun p=>if p=y then g' y else if p=x then g' x else g p) hy (fun p _ h=>if_neg h);have s3:=eJ (g:=fun p=>if p=y then g' y else if p=x then g' x else g p) (g':=fun p=>if p=u then g' u else if p=y then g' y else if p=x then g' x else g p) hu (fun p _ h=>if_neg h)
 have s4:=eJ (g:=fun p=>if p=u then g' u else if p=y then g' y else if p=x then g' x else g p) (g':=g') hv (fun p _ h=>by
  show g' p=if p=u then g' u else if p=y then g' y else if p=x then g' x else g p;by_cases c1:p=u
  ·rw[if_pos c1,c1]
  ·by_cases c2:p=y
   ·rw[if_neg c1,if_pos c2,c2]
   ·by_cases c3:p=x
    ·rw[if_neg c1,if_neg c2,if_pos c3,c3]
    ·rw[if_neg c1,if_neg c2,if_neg c3,e p c3 c2 c1 h])
 rw[if_pos rfl]at s1 s2 s3;rw[if_neg (Ne.symm d1)]at s2;rw[if_neg (Ne.symm d4),if_neg (Ne.symm d2)]at s3;rw[if_neg (Ne.symm d6),if_neg (Ne.symm d5),if_neg (Ne.symm d3)]at s4;lia
abbrev bt(s a b:Nat):Nat:=if decide (a<=s/\s<b)=true then 1 else 0
abbrev br(s a b:Nat):Nat:=bt s a b+bt s b a
abbrev tw2(s i:Nat):Nat:=if s=i then 2 else 0
abbrev wdt(n:Nat)(f:List Nat):Nat:=bS (n-1) (sm n f)
def xP{n:Nat}{f:List Nat}(s:Nat):sm n f s=bS (2*n) fun p=>bt s (p%n) (at' f p%n):=og _ _
def EK{n s:Nat}{f f':List Nat}{x y u v:Nat}(hx:x<2*n)(hy:y<2*n)(hu:u<2*n)(hv:v<2*n)(d1:x≠y)(d2:x≠u)(d3:x≠v)(d4:y≠u)(d5:y≠v)(d6:u≠v)
 (a1:at' f x=y)(a2:at' f y=x)(a3:at' f u=v)(a4:at' f v=u)(b1:at' f' x=u)(b2:at' f' u=x)(b3:at' f' y=v)(b4:at' f' v=y)(e:∀ p,p≠x->p≠y->p≠u->p≠v->at' f' p=at' f p) :
  sm n f' s+(br s (x%n) (y%n)+br s (u%n) (v%n))=sm n f s+(br s (x%n) (u%n)+br s (y%n) (v%n)):=by
 have q:=Hf (g:=fun p=>bt s (p%n) (at' f p%n)) (g':=fun p=>bt s (p%n) (at' f' p%n)) hx hy hu hv d1 d2 d3 d4 d5 d6 (fun p h1 h2 h3 h4=>by rw[e p h1 h2 h3 h4]);rw[a1,a2,a3,a4,b1,b2,b3,b4,<-xP,<-xP]at q;unfold br;lia
def zm:∀ s,s<10->∀ i,i<9->∀ a,a<10->∀ b,b<10->br s i (i+1)+br s a b<=br s i a+br s (i+1) b+tw2 s i:=by decide +kernel
def za:∀ s,s<10->∀ i,i<9->∀ a,a<i+1->∀ b,b<10->i<b->br s i (i+1)+br s a b=br s i a+br s (i+1) b+tw2 s i:=by decide +kernel
def Bu{i:Nat}:∀ {m:Nat},i<m->bS m (fun s=>tw2 s i)=2
 | m,h=>by
  have:=eJ (g:=fun _=>0) (g':=fun s=>tw2 s i) h (fun p _ q=>if_neg q);rw[fg]at this;unfold tw2 at *;rw[if_pos rfl]at this;simpa using this
def rm(u v:Nat->Nat):∀ m,bS m (fun p=>u p+v p)=bS m u+bS m v
 | 0=>rfl
 | m+1=>by rw[bS,bS,bS,rm u v m,Nat.add_add_add_comm]
def Co{n i s:Nat}{f:List Nat}(hn:n<=10)(hs:s<n)(F:Frm n f)(hi:i+1<n):sm n (bE f (n+i)) s<=sm n f s+tw2 s i:=by
 have h:=gQ F (l:=n+i) (by lia);by_cases ne:at' f (n+i)=n+i+1
 ·have:bE f (n+i)=f:=by unfold bE;rw[if_pos ne]
  rw[this];exact Nat.le_add_right _ _
 ·have a1:=F.lt (n+i) (by lia);have b1:=F.lt (n+i+1) (by lia);have a2:=F.no (n+i) (by lia);have b2:=F.no (n+i+1) (by lia);have ia:=F.inv (n+i);have ib:=F.inv (n+i+1);have b3:at' f (n+i+1)≠n+i:=fun e=>ne (by rw[e]at ib;exact ib)
  have ab:at' f (n+i)≠at' f (n+i+1):=fun e=>by rw[e,ib]at ia;lia
  have q:=fun p=>congrFun h p
  have hx:∀ p,at' (bE f (n+i)) p=if p=n+i+1 then n+i else if p=n+i then n+i+1 else if p=at' f (n+i+1)then at' f (n+i)else if p=at' f (n+i)then at' f (n+i+1)else at' f p:=fun p=>by rw[q p];unfold M.hg;rw[if_neg ne]
  have w:=EK (n:=n) (s:=s) (f:=f) (f':=bE f (n+i)) (x:=n+i) (y:=at' f (n+i)) (u:=n+i+1) (v:=at' f (n+i+1)) (by lia) a1 (by lia) b1 (Ne.symm a2) (by lia) (Ne.symm b3) ne ab (Ne.symm b2) rfl ia rfl ib
   (by rw[hx,if_neg (by lia),if_pos rfl]) (by rw[hx,if_pos rfl]) (by rw[hx,if_neg ne,if_neg a2,if_neg ab,if_pos rfl]) (by rw[hx,if_neg b2,if_neg b3,if_pos rfl])
   (fun p h1 h2 h3 h4=>by rw[hx,if_neg h3,if_neg h1,if_neg h4,if_neg h2])
  have m1:(n+i)%n=i:=by rw[Nat.add_mod_left,Nat.mod_eq_of_lt (by lia)]
  have m2:(n+i+1)%n=i+1:=by rw[show n+i+1=n+(i+1)from rfl,Nat.add_mod_left,Nat.mod_eq_of_lt hi]
  rw[m1,m2]at w;have:=zm s (by lia) i (by lia) _ (Nat.lt_of_lt_of_le (Nat.mod_lt (at' f (n+i)) (by lia)) hn) _ (Nat.lt_of_lt_of_le (Nat.mod_lt (at' f (n+i+1)) (by lia)) hn);lia
end RM
set_option maxHeartbeats 1000000
namespace RM
structure Acr(n:Nat)(f:List Nat)(i l:Nat):Prop where
 loc:l<i\/(n<=l/\l<=n+i)
 far:i<at' f l%n
 up:l<i->∀ x,l<x->x<i->at' f x%n<=i
 dn:n<=l->∀ x,(x<i\/(n<=x/\x<l))->at' f x%n<=i
abbrev tkL(f:List Nat)(i l:Nat):List Nat:=(((f.set l i).set i l).set (at' f l) (i+1)).set (i+1) (at' f l)
section
variable{n i l:Nat}{f:List Nat}
def md2{z:Nat}(h:z<2*n):(z<n/\z%n=z)\/(n<=z/\z%n=z-n):=by
 by_cases c:z<n
 ·exact .inl ⟨c,Nat.mod_eq_of_lt c⟩
 ·refine .inr ⟨by lia,?_⟩;rw[show z=n+(z-n) by lia,Nat.add_mod_left,Nat.mod_eq_of_lt (by lia)];lia
def rd2{z:Nat}:(z<n/\rd n z=z)\/(n<=z/\rd n z=3*n-1-z):=by
 unfold rd;by_cases c:z<n
 ·rw[if_pos c];exact .inl ⟨c,rfl⟩
 ·rw[if_neg c];exact .inr ⟨by lia,rfl⟩
def Acr.four(A:Acr n f i l)(F:Frm n f)(hi:i+1<n)(e:at' f i=i+1):l<2*n/\at' f l<2*n/\l≠i/\l≠i+1/\at' f l≠i/\at' f l≠i+1/\at' f l≠l/\at' f (i+1)=i:=by
 have hl:l<2*n:=by rcases A.loc with h | h<;>lia
 have v:=F.inv l;have w:=F.inv i;rw[e]at w
 have n1:l≠i:=by rcases A.loc with h | h<;>lia
 have n2:l≠i+1:=by rcases A.loc with h | h<;>lia
 refine⟨hl,F.lt l hl,n1,n2,fun z=>?_,fun z=>?_,F.no l hl,w⟩
 ·rw[z,e]at v;lia
 ·rw[z,w]at v;lia
def kj(A:Acr n f i l)(F:Frm n f)(hi:i+1<n)(e:at' f i=i+1)(x:Nat):at' (tkL f i l) x=if x=i+1 then at' f l else if x=at' f l then i+1 else if x=i then l else if x=l then i else at' f x:=by
 obtain⟨h1,h2,_⟩:=A.four F hi e;have len:=F.len;unfold tkL;rw[bY (by simp;lia),bY (by simp;lia),bY (by simp;lia),bY (by lia)]
def DY(A:Acr n f i l)(F:Frm n f)(hi:i+1<n)(e:at' f i=i+1):Frm n (tkL f i l):=by
 obtain⟨h1,h2,n1,n2,n3,n4,n5,w⟩:=A.four F hi e;have ta:=kj A F hi e;have v:=F.inv l;refine⟨by unfold tkL;simp[F.len],fun x hx=>?_,fun x=>?_,fun x hx=>?_⟩
 ·rw[ta];have:=F.lt x hx
  (repeat' split)<;>lia
 ·by_cases c1:x=i+1
  ·rw[ta x,if_pos c1,ta,if_neg n4,if_pos rfl,c1]
  ·by_cases c2:x=at' f l
   ·rw[ta x,if_neg c1,if_pos c2,ta,if_pos rfl,c2]
   ·by_cases c3:x=i
    ·rw[ta x,if_neg c1,if_neg c2,if_pos c3,ta,if_neg n2,if_neg (Ne.symm n5),if_neg n1,if_pos rfl,c3]
    ·by_cases c4:x=l
     ·rw[ta x,if_neg c1,if_neg c2,if_neg c3,if_pos c4,ta,if_neg (by lia),if_neg (Ne.symm n3),if_pos rfl,c4]
     ·have vx:=F.inv x
      have m1:at' f x≠i+1:=fun z=>by rw[z,w]at vx;lia
      have m2:at' f x≠at' f l:=fun z=>by rw[z,v]at vx;lia
      have m3:at' f x≠i:=fun z=>by rw[z,e]at vx;lia
      have m4:at' f x≠l:=fun z=>by rw[z]at vx;lia
      rw[ta x,if_neg c1,if_neg c2,if_neg c3,if_neg c4,ta,if_neg m1,if_neg m2,if_neg m3,if_neg m4,vx]
 ·rw[ta];have:=F.no x hx
  (repeat' split)<;>lia
def wM(A:Acr n f i l)(F:Frm n f)(hi:i+1<n)(e:at' f i=i+1){q:Nat}(hq:q<2*n):rnd n (tkL f i l) q=tkF i (rd n l) (rd n (at' f l)) (rnd n f) q:=by
 obtain⟨h1,h2,n1,n2,n3,n4,n5,w⟩:=A.four F hi e
 have ri:rd n i=i:=by rcases rd2 (n:=n) (z:=i)with h | h<;>lia
 have rj:rd n (i+1)=i+1:=by rcases rd2 (n:=n) (z:=i+1)with h | h<;>lia
 have back:∀ z,z<2*n->(rd n q=z↔q=rd n z):=fun z hz=>⟨fun h=>by rw[<-h,b8 hq],fun h=>by rw[h,b8 hz]⟩
 unfold rnd tkF;rw[kj A F hi e];by_cases c1:rd n q=i+1
 ·have z1:q=i+1:=by have:=(back (i+1) (by lia)).mp c1;lia
  have y1:q≠rd n l:=fun z=>by have:=(back l h1).mpr z;lia
  have y2:q≠rd n (at' f l):=fun z=>by have:=(back _ h2).mpr z;lia
  rw[if_pos c1,if_neg y1,if_neg (by lia),if_neg y2,if_pos z1]
 ·have z1:q≠i+1:=fun z=>c1 (by rw[z,rj]);rw[if_neg c1];by_cases c2:rd n q=at' f l
  ·have z2:=(back _ h2).mp c2
   have y1:q≠rd n l:=fun z=>by have:=(back l h1).mpr z;lia
   have y2:q≠i:=fun z=>by rw[z,ri]at c2;lia
   rw[if_pos c2,if_neg y1,if_neg y2,if_pos z2,rj]
  ·have z2:q≠rd n (at' f l):=fun z=>c2 ((back _ h2).mpr z);rw[if_neg c2];by_cases c3:rd n q=i
   ·have z3:q=i:=by have:=(back i (by lia)).mp c3;lia
    have y1:q≠rd n l:=fun z=>by have:=(back l h1).mpr z;lia
    rw[if_pos c3,if_neg y1,if_pos z3]
   ·have z3:q≠i:=fun z=>c3 (by rw[z,ri]);rw[if_neg c3];by_cases c4:rd n q=l
    ·rw[if_pos c4,if_pos ((back l h1).mp c4),ri]
    ·have z4:q≠rd n l:=fun z=>c4 ((back l h1).mpr z);rw[if_neg c4,if_neg z4,if_neg z3,if_neg z2,if_neg z1]
def iU(A:Acr n f i l)(V:Val n f)(hi:i+1<n)(e:at' f i=i+1):Val n (tkL f i l):=by
 have F:=V.frm;obtain⟨h1,h2,n1,n2,n3,n4,n5,w⟩:=A.four F hi e
 have ri:rd n i=i:=by rcases rd2 (n:=n) (z:=i)with h | h<;>lia
 have rj:rd n (i+1)=i+1:=by rcases rd2 (n:=n) (z:=i+1)with h | h<;>lia
 have hL:rd n l<2*n:=aK h1
 have RL':rnd n f (rd n l)=rd n (at' f l):=by unfold rnd;rw[b8 h1]
 have lt:∀ x,x<2*n->rnd n f x<2*n:=fun x hx=>aK (F.lt _ (aK hx))
 have inv:∀ x,x<2*n->rnd n f (rnd n f x)=x:=fun x hx=>by unfold rnd;rw[b8 (F.lt _ (aK hx)),F.inv,b8 hx]
 have no:∀ x,x<2*n->rnd n f x≠x:=fun x hx z=>by
  have:rd n (rnd n f x)=rd n x:=by rw[z]
  unfold rnd at this;rw[b8 (F.lt _ (aK hx))]at this;exact F.no _ (aK hx) this
 have hQ1:i+1<rd n (at' f l):=by
  have far:=A.far
  rcases md2 h2 with⟨m1,m2⟩ | ⟨m1,m2⟩
  ·have:rd n (at' f l)=at' f l:=by unfold rd;rw[if_pos m1]
   lia
  ·have:rd n (at' f l)=3*n-1-at' f l:=by unfold rd;rw[if_neg (by lia)]
   lia
 have hQ2:∀ j,j<=i->rd n (at' f l)<2*n-1-j:=fun j hj=>by
  have far:=A.far
  rcases md2 h2 with⟨m1,m2⟩ | ⟨m1,m2⟩
  ·have:rd n (at' f l)=at' f l:=by unfold rd;rw[if_pos m1]
   lia
  ·have:rd n (at' f l)=3*n-1-at' f l:=by unfold rd;rw[if_neg (by lia)]
   lia
 have hL0:(l<i/\rd n l=l)\/(n<=l/\l<=n+i/\rd n l=3*n-1-l):=by
  rcases A.loc with g | g
  ·refine .inl ⟨g,?_⟩;unfold rd;rw[if_pos (by lia)]
  ·refine .inr ⟨g.1,g.2,?_⟩;unfold rd;rw[if_neg (by lia)]
 have hc:(rd n l<i/\i+1<rd n (at' f l))\/(i+1<rd n (at' f l)/\rd n (at' f l)<rd n l):=by
  rcases hL0 with⟨g,e0⟩ | ⟨g,g',e0⟩
  ·exact .inl ⟨by lia,hQ1⟩
  ·refine .inr ⟨hQ1,?_⟩;have:=hQ2 (l-n) (by lia);lia
 refine⟨DY A F hi e,fun q q' hq hq'=>?_⟩;rw[wM A F hi e hq,wM A F hi e hq'];refine yb lt inv no V.nox (by lia) hL (by unfold rnd;rw[ri,e,rj]) RL' hc (fun x hx hA=>?_) q q' hq hq';have lx:=aK hx;have lz:=F.lt _ lx;have vz:=F.inv (rd n x);have y:=lt x hx;have ry:=inv x hx
 have RQ:rnd n f (rd n (at' f l))=rd n l:=by rw[<-RL',inv _ hL]
 have ey:(at' f (rd n x)<n->rnd n f x=at' f (rd n x))/\(n<=at' f (rd n x)->rnd n f x=3*n-1-at' f (rd n x)):=⟨fun h=>by show rd n (at' f (rd n x))=_;generalize at' f (rd n x)=w at h ⊢;unfold rd;rw[if_pos h],fun h=>by show rd n (at' f (rd n x))=_;generalize at' f (rd n x)=w at h ⊢;unfold rd;rw[if_neg (by lia)]⟩
 rcases hL0 with⟨g,e0⟩ | ⟨g,g',e0⟩
 ·have hx':l<x/\x<i:=by unfold inA at hA;lia
  have d0:rd n x=x:=by unfold rd;rw[if_pos (by lia)]
  rw[d0]at lz vz ey;have b:=A.up g x hx'.1 hx'.2
  have m1:at' f x≠i:=fun z=>by rw[z,e]at vz;lia
  have m2:at' f x≠l:=fun z=>by
   rw[z]at vz;have:=hQ1;rw[vz,d0]at this;lia
  rcases md2 lz with⟨z1,z2⟩ | ⟨z1,z2⟩
  ·have ez:=ey.1 z1;refine .inl ⟨by lia,?_,by lia⟩;by_cases c:at' f x<l
   ·have c1:=V.nox (rnd n f x) (rd n l) y hL;rw[ry,RL']at c1;exact absurd ⟨by lia,by lia,by lia⟩ c1
   ·lia
  ·have ez:=ey.2 z1;have c2:=V.nox (rd n l) x hL hx;rw[RL']at c2;have:=hQ2 (at' f x-n) (by lia);exact absurd ⟨by lia,by lia,by lia⟩ c2
 ·have hx':rd n l<x\/x<i:=by unfold inA at hA;lia
  have b:at' f (rd n x)%n<=i:=by
   refine A.dn g (rd n x) ?_;rcases hx' with h | h
   ·right
    have:rd n x=3*n-1-x:=by unfold rd;rw[if_neg (by lia)]
    lia
   ·left
    have:rd n x=x:=by unfold rd;rw[if_pos (by lia)]
    lia
  have m1:at' f (rd n x)≠i:=fun z=>by
   rw[z,e]at vz
   have:x=i+1:=by rw[<-b8 hx,<-vz,rj]
   lia
  have m2:at' f (rd n x)≠l:=fun z=>by
   rw[z]at vz
   have:x=rd n (at' f l):=by rw[vz,b8 hx]
   have:=hQ2 (l-n) (by lia);lia
  rcases md2 lz with⟨z1,z2⟩ | ⟨z1,z2⟩
  ·have ez:=ey.1 z1;exact .inr ⟨by lia,.inr (by lia)⟩
  ·have ez:=ey.2 z1;refine .inr ⟨by lia,.inl ?_⟩;have q1:=hQ2 (at' f (rd n x)-n) (by lia);have q2:=hQ2 (l-n) (by lia);by_cases c:rd n l<rnd n f x
   ·exact c
   ·have yl:rnd n f x<rd n l:=by lia
    have qy:rd n (at' f l)<rnd n f x:=by lia
    rcases hx' with h | h
    ·have c4:=V.nox (rd n (at' f l)) (rnd n f x) (aK h2) y;rw[RQ,ry]at c4;exact absurd ⟨qy,yl,h⟩ c4
    ·have c3:=V.nox x (rd n (at' f l)) hx (aK h2);rw[RQ]at c3;exact absurd ⟨by lia,qy,yl⟩ c3
def A7(hn:n<=10)(A:Acr n f i l)(F:Frm n f)(hi:i+1<n)(e:at' f i=i+1){s:Nat}(hs:s<n):sm n f s=sm n (tkL f i l) s+tw2 s i:=by
 obtain⟨h1,h2,n1,n2,n3,n4,n5,w⟩:=A.four F hi e;have ta:=kj A F hi e
 have q:=EK (n:=n) (s:=s) (f:=f) (f':=tkL f i l) (x:=i) (y:=i+1) (u:=l) (v:=at' f l) (by lia) (by lia) h1 h2 (Nat.ne_of_lt (Nat.lt_succ_self i)) (Ne.symm n1) (Ne.symm n3) (Ne.symm n2) (Ne.symm n4) (Ne.symm n5) e w rfl (F.inv l)
  (by rw[ta,if_neg (Nat.ne_of_lt (Nat.lt_succ_self i)),if_neg (Ne.symm n3),if_pos rfl]) (by rw[ta,if_neg n2,if_neg (Ne.symm n5),if_neg n1,if_pos rfl]) (by rw[ta,if_pos rfl]) (by rw[ta,if_neg n4,if_pos rfl])
  (fun p a b c d=>by rw[ta,if_neg b,if_neg d,if_neg a,if_neg c])
 have lc:l%n<i+1:=by
  have ml:=md2 h1;rcases A.loc with g | g<;>lia
 have r:=za s (Nat.lt_of_lt_of_le hs hn) i (by lia) _ lc _ (Nat.lt_of_lt_of_le (Nat.mod_lt (at' f l) (by lia)) hn) A.far;rw[Nat.mod_eq_of_lt (show i<n by lia),Nat.mod_eq_of_lt hi]at q;lia
def vA(hn:n<=10)(A:Acr n f i l)(F:Frm n f)(hi:i+1<n)(e:at' f i=i+1):wdt n (tkL f i l)+2=wdt n f:=by
 have:=eQ (m:=n-1) fun s hs=>A7 hn A F hi e (s:=s) (by lia);rw[rm,Bu (by lia)]at this;exact this.symm
end
end RM
set_option maxHeartbeats 1000000
namespace RM
section
variable{n i l:Nat}{f:List Nat}
def yx(hn:n<=10)(A:Acr n f i l)(V:Val n f)(hi:i+1<n)(e:at' f i=i+1):a7 n (aw n i) (tkL f i l)=f/\rgN n (aw n i) (tkL f i l)=0:=by
 have F:=V.frm;obtain⟨h1,h2,n1,n2,n3,n4,n5,w⟩:=A.four F hi e;have T:=iU A V hi e;have ta:=kj A F hi e;have K:=c9 hn hi;have G:=(cV n).val T;have ho:bB n (ovr n) (ovr n) (aw n i)=aw n i:=qR n (by lia) i (by lia) hi;have p:=pf hn K T;rw[ho]at p;obtain⟨q1,q2⟩:=nh hn hi G
 have o1:ovr n (n+i)=i:=by rw[kf (by lia)];lia
 have o2:ovr n (n+i+1)=i+1:=by rw[kf (by lia)];lia
 have o3:ovr n i=n+i:=by rw[j7 (by lia)];lia
 have o4:ovr n (i+1)=n+i+1:=by rw[j7 hi];lia
 have inj:∀ a b,a<2*n->b<2*n->ovr n a=ovr n b->a=b:=fun a b ha hb z=>by rw[<-(fk ha).2,z,(fk hb).2]
 have g1:at' (bB n (ovr n) (ovr n) (tkL f i l)) (n+i)=ovr n l:=by rw[bM (by lia),o1,ta,if_neg (by lia),if_neg (Ne.symm n3),if_pos rfl]
 have g2:at' (bB n (ovr n) (ovr n) (tkL f i l)) (n+i+1)=ovr n (at' f l):=by rw[bM (by lia),o2,ta,if_pos rfl]
 have nl:ovr n l≠n+i+1:=fun z=>n2 (inj _ _ h1 (by lia) (by rw[z,o4]))
 have key:bE (bB n (ovr n) (ovr n) (tkL f i l)) (n+i)=bB n (ovr n) (ovr n) f:=by
  refine gi (n:=2*n) (by rw[jY,G.frm.len]) ((cV n).val V).frm.len fun x hx=>?_;have lx:=fk hx;rw[gQ G.frm (by lia)];unfold M.hg;have rhs:at' (bB n (ovr n) (ovr n) f) x=ovr n (at' f (ovr n x)):=bM hx;rw[g1,if_neg nl,g2,rhs];by_cases c1:x=n+i+1
  ·rw[if_pos c1,c1,o2,w,o3]
  ·rw[if_neg c1];by_cases c2:x=n+i
   ·rw[if_pos c2,c2,o1,e,o4]
   ·rw[if_neg c2];by_cases c3:x=ovr n (at' f l)
    ·rw[if_pos c3,c3,(fk h2).2,F.inv]
    ·rw[if_neg c3];by_cases c4:x=ovr n l
     ·rw[if_pos c4,c4,(fk h1).2]
     ·have d:∀ z,z<2*n->x≠ovr n z->ovr n x≠z:=fun z hz h h'=>h (by rw[<-h',lx.2]);rw[if_neg c4,bM hx,ta,if_neg (d (i+1) (by lia) (by rw[o4];exact c1)),if_neg (d _ h2 c3),if_neg (d i (by lia) (by rw[o3];exact c2)),if_neg (d l h1 c4)]
 refine⟨?_,?_⟩
 ·have:bB n (ovr n) (ovr n) (a7 n (aw n i) (tkL f i l))=bB n (ovr n) (ovr n) f:=by rw[<-p.1,q1,key]
  have:=congrArg (bB n (ovr n) (ovr n)) this;rw[qe (eO hn K T).frm,qe F]at this;exact this
 ·rw[<-p.2,q2];unfold dJ;rw[g1,if_neg nl]
end
end RM
set_option maxHeartbeats 1000000
namespace RM
abbrev cD(n i:Nat):List Nat:=(List.range i).reverse++List.range' n (i+1)
abbrev bef(n i a b:Nat):Prop:=(a<i/\b<i/\b<a)\/(a<i/\n<=b)\/(n<=a/\a<b)
section
variable{n i l:Nat}{f:List Nat}
def fJ{x:Nat}:x∈cD n i↔x<i\/(n<=x/\x<=n+i):=by
 unfold cD;rw[List.mem_append,List.mem_reverse,List.mem_range,List.mem_range'_1];lia
def BU:(cD n i).Pairwise (bef n i):=by
 unfold cD;rw[List.pairwise_append];refine⟨?_,?_,?_⟩
 ·rw[List.pairwise_reverse];refine List.Pairwise.imp_of_mem ?_ (List.pairwise_lt_range (n:=i));intro a b ha hb h;have:=List.mem_range.mp ha;have:=List.mem_range.mp hb;exact .inl ⟨by lia,by lia,h⟩
 ·refine List.Pairwise.imp_of_mem ?_ (List.pairwise_lt_range' (s:=n) (n:=i+1));intro a b ha hb h;have:=List.mem_range'_1.mp ha;exact .inr (.inr ⟨by lia,h⟩)
 ·intro a ha b hb;rw[List.mem_reverse,List.mem_range]at ha;have:=List.mem_range'_1.mp hb;exact .inr (.inl ⟨ha,by lia⟩)
def vU(hn:n<=10)(F:Frm n f)(hi:i+1<n)(e:at' f i=i+1):∃ p,p∈cD n i/\i<at' f p%n:=by
 by_cases c:∃ p,p<2*n/\p≠i/\p%n<=i/\i<at' f p%n
 ·obtain⟨p,h1,h2,h3,h4⟩:=c;refine⟨p,fJ.mpr ?_,h4⟩;rcases md2 h1 with m | m<;>lia
 ·have ev:=BQ hn F i;unfold sm at ev;rw[og,eQ (g':=fun p=>if p=i then 1 else 0) fun p hp=>?_]at ev
  ·have s:=eJ (g:=fun _=>0) (g':=fun p=>if p=i then 1 else 0) (x:=i) (m:=2*n) (by lia) (fun p _ h=>if_neg h);rw[if_pos rfl,fg]at s;lia
  ·by_cases z:p=i
   ·rw[if_pos z];refine if_pos ?_;unfold sP;rw[z,e,Nat.mod_eq_of_lt (show i<n by lia),Nat.mod_eq_of_lt hi];simp
   ·rw[if_neg z];refine if_neg ?_;unfold sP;rw[decide_eq_true_eq];exact fun h=>c ⟨p,hp,z,h.1,h.2⟩
def kh(hn:n<=10)(F:Frm n f)(hi:i+1<n)(e:at' f i=i+1):∃ l r,(cD n i).filter (fun p=>decide (i<at' f p%n))=l::r/\Acr n f i l:=by
 obtain⟨p,hp,h⟩:=vU hn F hi e
 cases q:(cD n i).filter (fun p=>decide (i<at' f p%n))with
 |nil=>
  have:p∈(cD n i).filter (fun p=>decide (i<at' f p%n)):=List.mem_filter.mpr ⟨hp,decide_eq_true h⟩;rw[q]at this;cases this
 |cons l r=>
  obtain⟨pre,post,e1,e2,e3,_⟩:=List.filter_eq_cons_iff.mp q;have pw:=BU (n:=n) (i:=i);rw[e1,List.pairwise_append]at pw;have pl:=(List.pairwise_cons.mp pw.2.1).1
  have ml:l∈cD n i:=by rw[e1];simp
  have one:∀ x,x∈cD n i->x≠l->¬ bef n i l x->at' f x%n<=i:=fun x hx hne hb=>by
   rw[e1]at hx;rcases List.mem_append.mp hx with g | g
   ·have:=e2 x g;simpa using this
   ·cases g with
    | head=>exact absurd rfl hne
    | tail _ g=>exact absurd (pl x g) hb
  refine⟨l,r,rfl,fJ.mp ml,by simpa using e3,fun g x h1 h2=>?_,fun g x hx=>?_⟩
  ·refine one x (fJ.mpr (.inl h2)) (by lia) ?_;unfold bef;lia
  ·have:=fJ.mp ml;refine one x (fJ.mpr (by lia)) (by lia) ?_;unfold bef;lia
end
end RM
set_option maxHeartbeats 1000000
namespace RM
section
variable{n:Nat}{f:List Nat}
def tw(V:Val n f)(h:∀ i,i+1<n->at' f i≠i+1):∀ (d a:Nat),at' f a=a+1+d->¬ a+1+d<n:=by
 intro d
 induction d using Nat.strongRecOn with
 |ind d ih=>
  intro a e hb;have F:=V.frm;by_cases c:d=0
  ·subst c;exact h a hb e
  ·have ra:rnd n f a=a+1+d:=by unfold rnd;rw[show rd n a=a by unfold rd;rw[if_pos (by lia)],e];unfold rd;rw[if_pos hb]
   have ea:rd n (a+1)=a+1:=by unfold rd;rw[if_pos (by lia)]
   have r1:rnd n f (a+1)=rd n (at' f (a+1)):=by unfold rnd;rw[ea]
   have va:=F.inv a;have v1:=F.inv (a+1);have no1:=F.no (a+1) (by lia);have l1:=F.lt (a+1) (by lia)
   have nb:at' f (a+1)≠a+1+d:=fun z=>by rw[z,<-e,va]at v1;lia
   have na:at' f (a+1)≠a:=fun z=>by rw[z,e]at v1;lia
   have c1:=V.nox a (a+1) (by lia) (by lia);rw[ra,r1]at c1
   have hc:at' f (a+1)<a+1+d:=by
    by_cases z:at' f (a+1)<n
    ·have:rd n (at' f (a+1))=at' f (a+1):=by generalize at' f (a+1)=w at z ⊢;unfold rd;rw[if_pos z]
     rw[this]at c1;lia
    ·have:rd n (at' f (a+1))=3*n-1-at' f (a+1):=by generalize at' f (a+1)=w at z ⊢;unfold rd;rw[if_neg z]
     rw[this]at c1;lia
   by_cases lo:at' f (a+1)<a
   ·have c2:=V.nox (at' f (a+1)) a (by lia) (by lia)
    have r2:rnd n f (at' f (a+1))=a+1:=by
     unfold rnd;rw[show rd n (at' f (a+1))=at' f (a+1) by generalize at' f (a+1)=w at hc ⊢;unfold rd;rw[if_pos (by lia)],v1,ea]
    rw[r2,ra]at c2;lia
   ·obtain⟨d',hd⟩:∃ d',at' f (a+1)=a+1+1+d':=⟨at' f (a+1)-(a+2),by lia⟩
    exact ih d' (by lia) (a+1) hd (by lia)
def zV(V:Val n f)(h:∀ i,i+1<n->at' f i≠i+1){k:Nat}(hk:k<n):n<=at' f k:=by
 have F:=V.frm;by_cases c:at' f k<n
 ·exfalso;have no:=F.no k (by lia);by_cases g:k<at' f k
  ·obtain⟨d,hd⟩:∃ d,at' f k=k+1+d:=⟨at' f k-(k+1),by lia⟩
   exact tw V h d k hd (by lia)
  ·obtain⟨d,hd⟩:∃ d,k=at' f k+1+d:=⟨k-(at' f k+1),by lia⟩
   have v:=F.inv k;exact tw V h d (at' f k) (by rw[v];exact hd) (by lia)
 ·lia
def sF(V:Val n f)(h:∀ i,i+1<n->at' f i≠i+1):f=ay n:=by
 have F:=V.frm;have dn:=fun {k:Nat} (hk:k<n)=>zV V h hk
 have R:∀ k,k<n->rnd n f k=3*n-1-at' f k:=fun k hk=>by
  unfold rnd;rw[show rd n k=k by unfold rd;rw[if_pos hk]];have:=dn hk;generalize at' f k=w at this ⊢;unfold rd;rw[if_neg (by lia)]
 have up:∀ j k,j<k->k<n->at' f j<at' f k:=fun j k hj hk=>by
  have c:=V.nox j k (by lia) (by lia);rw[R j (by lia),R k hk]at c;have d1:=dn (show j<n by lia);have d2:=dn hk;have l1:=F.lt j (by lia);have l2:=F.lt k (by lia)
  have ne:at' f j≠at' f k:=fun z=>by
   have a:=F.inv j;have b:=F.inv k;rw[z,b]at a;lia
  lia
 have lo:∀ k,k<n->n+k<=at' f k:=fun k=>by
  induction k with
  | zero=>intro hk;exact dn hk
  |succ k ih=>
   intro hk;have:=ih (by lia);have:=up k (k+1) (by lia) hk;lia
 have hi:∀ d k,k+d+1=n->at' f k<=n+k:=fun d=>by
  induction d with
  | zero=>intro k hk;have:=F.lt k (by lia);lia
  |succ d ih=>
   intro k hk;have:=ih (k+1) (by lia);have:=up k (k+1) (by lia) (by lia);lia
 have eq:∀ k,k<n->at' f k=n+k:=fun k hk=>by
  have:=lo k hk;have:=hi (n-1-k) k (by lia);lia
 refine gi F.len (bI n).len fun x hx=>?_;rw[plain_at];by_cases c:x<n
 ·rw[if_pos c,eq x c]
  try lia
 ·rw[if_neg c,if_pos hx];have:=F.inv (x-n);rw[eq (x-n) (by lia),show n+(x-n)=x by lia]at this;exact this
end
end RM
set_option maxHeartbeats 1000000
namespace RM
inductive Sr (n:Nat):List Nat->List Nat->Prop
 | done {f:List Nat} (h:dM n f=[]):Sr n f []
 | step {f r r' row:List Nat} {i l:Nat} (h:dM n f=i::r) (g:(cD n i).filter (fun p=>decide (i<at' f p%n))=l::r') (t:Sr n (tkL f i l) row):Sr n f (i::row)
section
variable{n:Nat}{f:List Nat}
def eF{i:Nat}{r:List Nat}(h:dM n f=i::r):i+1<n/\at' f i=i+1:=by
 have:i∈dM n f:=by rw[h];exact .head _
 obtain⟨a,b⟩:=List.mem_filter.mp this;have:=List.mem_range.mp a;exact⟨by lia,of_decide_eq_true b⟩
def tK(h:dM n f=[]):∀ i,i+1<n->at' f i≠i+1:=fun i hi e=>by
 have:i∈dM n f:=List.mem_filter.mpr ⟨List.mem_range.mpr (by lia),decide_eq_true e⟩;rw[h]at this;cases this
def mP(hn:n<=10)(F:Frm n f){i l:Nat}{r r':List Nat}(h:dM n f=i::r)(g:(cD n i).filter (fun p=>decide (i<at' f p%n))=l::r'):Acr n f i l:=by
 obtain⟨hi,e⟩:=eF h;obtain⟨l',r'',g',A⟩:=kh hn F hi e;rw[g]at g';cases g';exact A
def AH(hn:n<=10):∀ (w:Nat) (f:List Nat),Val n f->wdt n f=w->∃ row,Sr n f row:=fun w=>by
 induction w using Nat.strongRecOn with
 |ind w ih=>
  intro f V hw
  cases h:dM n f with
  | nil=>exact⟨[],.done h⟩
  |cons i r=>
   obtain⟨hi,e⟩:=eF h;obtain⟨l,r',g,A⟩:=kh hn V.frm hi e;have s:=vA hn A V.frm hi e;obtain⟨row,t⟩:=ih (wdt n (tkL f i l)) (by lia) (tkL f i l) (iU A V hi e) rfl;exact⟨i::row,.step h g t⟩
def ot:∀ n,n<11->∀ s,s<n->sm n (ay n) s=0:=by decide +kernel
def xm(hn:n<=10):wdt n (ay n)=0:=(eQ fun s hs=>ot n (by lia) s (by lia)).trans (fg 0 _)
def sJ(h1:1<=n)(hn:n<=10){row:List Nat}(S:Sr n f row):Val n f->(∀ j∈row,j+1<n)/\stk n (row.map (aw n))=(f,0)/\2*row.length=wdt n f:=by
 induction S with
 |done h=>
  intro V;have e:=sF V (tK h);refine⟨fun j hj=>(by cases hj),?_,?_⟩
  ·rw[e];rfl
  ·rw[e,xm hn];rfl
 |@step f r r' row i l h g t ih=>
  intro V;obtain⟨hi,e⟩:=eF h;have A:=mP hn V.frm h g;have T:=iU A V hi e;obtain⟨i1,i2,i3⟩:=ih T;obtain⟨q1,q2⟩:=yx hn A V hi e;have s:=vA hn A V.frm hi e
  have Vr:∀ g∈row.map (aw n),Val n g:=fun g hg=>by
   obtain⟨j,hj,rfl⟩:=List.mem_map.mp hg;exact c9 hn (i1 j hj)
  refine⟨fun j hj=>?_,?_,?_⟩
  ·cases hj with
   | head=>exact hi
   | tail _ hj=>exact i1 j hj
  ·rw[List.map_cons,sC hn (c9 hn hi) Vr,i2];unfold cF;rw[q1,q2];rfl
  ·rw[List.length_cons];lia
end
end RM
set_option maxHeartbeats 1000000
namespace RM
open RL RT
section
variable{cl:Cl}{n:Nat}{f:List Nat}
def Bm{po:Nat}(h1:1<=n)(hn:n<=10)(F:Frm n f)(ho:cl po [.lst (L f)]=some (.int (n:Nat))):evF cl (et po) [.lst (L f),.int 0]=some (.lst (L (dM n f))):=by
 have mc:=iZ (F:=fun σ1=>((ev cl σ1 (.cmp .eq (.ix (.var 0) (.bin .add (.var 1) (.var 2))) (.bin .add (.bin .add (.var 1) (.var 2)) (.cst (.int 1))))).bind truth).bind fun k=>if k then(ev cl σ1 (.var 2)).map some else some none) (tg:=[2]) (σ:=[some (.lst (L f)),some (.int 0),none]) (h:=fun i=>.int (i:Nat)) (g:=fun i=>.int (i:Nat)) (c:=fun i=>decide (at' f i=i+1)) (fun _=>rfl) (List.range (n-1)) (by
  intro i hi;have hi:=List.mem_range.mp hi;show((ev cl [some (.lst (L f)),some (.int 0),some (.int (i:Nat))] (.cmp .eq (.ix (.var 0) (.bin .add (.var 1) (.var 2))) (.bin .add (.bin .add (.var 1) (.var 2)) (.cst (.int 1))))).bind truth).bind (fun k=>if k then(ev cl [some (.lst (L f)),some (.int 0),some (.int (i:Nat))] (.var 2)).map some else some none)=_
  have z:aA .add (.int 0) (.int (i:Nat))=some (.int (i:Nat)):=by rw[bJ,Int.zero_add]
  rw[bL (aT (cA (aa rfl) (az (aa rfl) (aa rfl) z) (iz (by rw[F.len];omega))) (az (d:=.int ((i+1:Nat):Int)) (az (aa rfl) (aa rfl) z) aj rfl) (vS _ _)),Option.bind_some,aa rfl]
  split<;>rfl)
 have r1:=bO (n:=n-1) (by omega);exact bf rfl rfl (aX (rz (fj (az (dR (aa rfl) ho) aj (sub_one h1)) r1) (by rw[aM,List.length_range];unfold most;omega) mc) (by unfold aW;rw[show ∀ xs:List Nat,a9 (.lst (L xs))=true from fun xs=>bj xs];rfl))
def yd{po i l:Nat}{r':List Nat}(hn:n<=10)(F:Frm n f)(hi:i+1<n)(g:(cD n i).filter (fun p=>decide (i<at' f p%n))=l::r')(ho:cl po [.lst (L f)]=some (.int (n:Nat))):evF cl (gC po) [.lst (L f),.int (i:Nat)]=some (.int (l:Nat)):=by
 have e1:=bO (n:=i) (by omega)
 have e2:cH (.int (n:Nat)) (.int ((n+i+1:Nat):Int))=some (L (List.range' n (i+1))):=by
  have:=eN (a:=n) (b:=n+i+1) (by omega) (by omega);rw[show n+i+1-n=i+1 by omega]at this;exact this
 have er:(L (List.range i)).reverse=L (List.range i).reverse:=by unfold L;rw[List.map_reverse]
 have ad:aA .add (.lst (L (List.range i).reverse)) (.lst (L (List.range' n (i+1))))=some (.lst (L (cD n i))):=by
  show(if(L (List.range i).reverse).length+(L (List.range' n (i+1))).length<=most then _ else none)=_;rw[if_pos (by rw[aM,aM,List.length_reverse,List.length_range,List.length_range'];unfold most;omega),<-de];rfl
 have mc:=iZ (F:=fun σ1=>((ev cl σ1 (.cmp .gt (.bin .mod (.ix (.var 0) (.var 4)) (.var 2)) (.var 1))).bind truth).bind fun k=>if k then(ev cl σ1 (.var 4)).map some else some none) (tg:=[4]) (σ:=[some (.lst (L f)),some (.int (i:Nat)),some (.int (n:Nat)),some (.lst (L (cD n i))),none]) (h:=fun i=>.int (i:Nat)) (g:=fun i=>.int (i:Nat)) (c:=fun p=>decide (i<at' f p%n)) (fun _=>rfl) (cD n i) (by
  intro p hp;have hp:=fJ.mp hp;show((ev cl [some (.lst (L f)),some (.int (i:Nat)),some (.int (n:Nat)),some (.lst (L (cD n i))),some (.int (p:Nat))] (.cmp .gt (.bin .mod (.ix (.var 0) (.var 4)) (.var 2)) (.var 1))).bind truth).bind (fun k=>if k then(ev cl [some (.lst (L f)),some (.int (i:Nat)),some (.int (n:Nat)),some (.lst (L (cD n i))),some (.int (p:Nat))] (.var 4)).map some else some none)=_
  have cg:bF .gt (.int ((at' f p%n:Nat):Int)) (.int (i:Nat))=some (decide (i<at' f p%n)):=by
   rw[lY];congr 1;rw[decide_eq_decide];omega
  rw[bL (aT (az (cA (aa rfl) (aa rfl) (iz (by rw[F.len];omega))) (aa rfl) (iY _ (by omega))) (aa rfl) cg),Option.bind_some,aa rfl]
  split<;>rfl)
 rw[g]at mc
 have al:(cD n i).length<=100:=by unfold cD;rw[List.length_append,List.length_reverse,List.length_range,List.length_range'];omega
 have im:a9 (.lst (L (cD n i)))=true:=bj _
 exact bf rfl rfl (aI (dR (aa rfl) ho) rfl (aI (az (Ap (Bb (aa rfl) e1)) (BM (aa rfl) (az (d:=.int ((n+i+1:Nat):Int)) (az (aa rfl) (aa rfl) bJ) aj rfl) e2) (by rw[er];exact ad)) (by unfold aP;rw[im];rfl)
  (aX (cA (rz (dY (aa rfl) rfl) (by rw[List.length_map];unfold most;omega) mc) aj rfl) rfl)))
def Be{fn:Fn}{ds:List D}{x:D}{σ':St}(hl:ds.length=fn.ps)(hm:fn.mp=[0])(h:ag cl fn.M fn.body (ds.map some++List.replicate (fn.nn-fn.ps) none)=some (.nx,σ'))(h0:(σ'[0]?).bind id=some x):evF cl fn ds=some (.tup [.non,x]):=by
 unfold evF;rw[if_pos hl,h];show aN fn .non σ'=_;unfold aN;rw[hm];show(dU σ' [0]).map _=_;rw[dU,h0];rfl
def ye{ti na i l:Nat}(A:Acr n f i l)(F:Frm n f)(hi:i+1<n)(e:at' f i=i+1)(hna:cl na [.lst (L f),.int (i:Nat)]=some (.int (l:Nat)))
 (ht:∀ (xs:List Nat) (i j:Nat),i<xs.length->j<xs.length->cl ti [.lst (L xs),.int i,.int j]=some (.tup [.non,.lst (L ((xs.set i j).set j i))])):evF cl (jQ ti na) [.lst (L f),.int (i:Nat)]=some (.tup [.non,.lst (L (tkL f i l))]):=by
 obtain⟨h1,h2,_⟩:=A.four F hi e;have len:=F.len;have t1:=ht f l i (by omega) (by omega);have t2:=ht ((f.set l i).set i l) (at' f l) (i+1) (by simp;omega) (by simp;omega)
 exact Be rfl rfl (aI (gB (aa rfl) (aa rfl) hna) rfl (aI (cA (aa rfl) (aa rfl) (iz (by omega))) rfl
  (oH (aE (aa rfl) (aE (aa rfl) (aE (aa rfl) bK))) rfl t1 rfl
  (oH (aE (aa rfl) (aE (aa rfl) (aE (az (d:=.int ((i+1:Nat):Int)) (aa rfl) aj rfl) bK))) rfl t2 rfl aR)))) rfl
end
end RM
set_option maxHeartbeats 1000000
namespace RM
open RL RT
def rO{n:Nat}{f:List Nat}(hn:n<=10):wdt n f<=200:=by
 have a:wdt n f<=(n-1)*(2*n):=by
  rw[<-fg]
  exact pE fun s _=>by
   have:=List.length_filter_le (sP n f s) (List.range (2*n));rw[List.length_range]at this;exact this
 have b:(n-1)*(2*n)<=10*20:=Nat.mul_le_mul (by lia) (by lia);exact Nat.le_trans a b
section
variable{cl:Cl}{n:Nat}
abbrev srS(f0 f done:List Nat)(n:Nat):St:=[some (.tup (L f0)),some (.lst (L f)),some (.lst (L done)),some (.lst (L (dM n f)))]
def G8{nt to cf:Nat}{f0:List Nat}(hn:n<=10)(hnt:∀ f:List Nat,Frm n f->cl nt [.lst (L f),.int 0]=some (.lst (L (dM n f))))
 (hto:∀ (f r':List Nat) (i l:Nat),Acr n f i l->Frm n f->i+1<n->at' f i=i+1->(cD n i).filter (fun p=>decide (i<at' f p%n))=l::r'->cl to [.lst (L f),.int (i:Nat)]=some (.tup [.non,.lst (L (tkL f i l))]))
 {f row:List Nat}(S:Sr n f row):∀ (done:List Nat) (fuel:Nat),Val n f->row.length<fuel->done.length+row.length<1000->∃ f',whF (fun σ=>(ev cl σ (.var 3)).bind truth) (ag cl [1,2] (f9 nt to cf)) fuel (srS f0 f done n)=some (.nx,srS f0 f' (done++row) n):=by
 induction S with
 |@done f h=>
  intro done fuel V hf hd
  obtain⟨k,rfl⟩:∃ k,fuel=k+1:=⟨fuel-1,by omega⟩
  refine⟨f,?_⟩;rw[whF]
  have t:(ev cl (srS f0 f done n) (.var 3)).bind truth=some false:=by
   rw[aa (d:=.lst (L (dM n f))) rfl,h];rfl
  show((ev cl (srS f0 f done n) (.var 3)).bind truth).bind _=_;rw[t,List.append_nil];rfl
 |@step f r r' row i l h g t ih=>
  intro done fuel V hf hd
  obtain⟨k,rfl⟩:∃ k,fuel=k+1:=⟨fuel-1,by omega⟩
  obtain⟨hi,e⟩:=eF h;have A:=mP hn V.frm h g;have T:=iU A V hi e;rw[List.length_cons]at hf hd;obtain⟨f',q⟩:=ih (done++[i]) k T (by omega) (by rw[List.length_append,List.length_singleton];omega);refine⟨f',?_⟩;rw[whF]
  have tt:(ev cl (srS f0 f done n) (.var 3)).bind truth=some true:=by
   rw[aa (d:=.lst (L (dM n f))) rfl,h];rfl
  have v3:∀ σ:St,(σ[3]?).bind id=some (.lst (L (dM n f)))->ev cl σ (.ix (.var 3) (.cst (.int 0)))=some (.int (i:Nat)):=fun σ hσ=>cA (aa hσ) aj (by rw[h];rfl);have im:∀ xs:List Nat,a9 (.lst (L xs))=true:=fun xs=>bj xs
  have body:ag cl [1,2] (f9 nt to cf) (srS f0 f done n)=some (.nx,srS f0 (tkL f i l) (done++[i]) n):=by
   have ap:L done++[D.int (i:Nat)]=L (done++[i]):=by rw[de];rfl
   refine qW (v3 _ rfl) (xs:=L done) rfl rfl (by rw[aM];unfold most;omega) ?_;rw[ap]
   exact oH (aE (aa rfl) (aE (v3 _ rfl) bK)) rfl (hto f r' i l A V.frm hi e g) rfl
    (aI (gB (aa rfl) aj (hnt _ T.frm)) (by unfold aP;rw[im];rfl) aR)
  show((ev cl (srS f0 f done n) (.var 3)).bind truth).bind _=_;rw[tt,Option.bind_some,if_pos rfl,body];show whF _ _ k (srS f0 (tkL f i l) (done++[i]) n)=_;rw[q,List.append_assoc];rfl
def qH{nt to cf:Nat}{f row:List Nat}(h1:1<=n)(hn:n<=10)(V:Val n f)(hcf:cl cf [.tup (L f)]=some .non)(hnt:∀ f:List Nat,Frm n f->cl nt [.lst (L f),.int 0]=some (.lst (L (dM n f))))
 (hto:∀ (f r':List Nat) (i l:Nat),Acr n f i l->Frm n f->i+1<n->at' f i=i+1->(cD n i).filter (fun p=>decide (i<at' f p%n))=l::r'->cl to [.lst (L f),.int (i:Nat)]=some (.tup [.non,.lst (L (tkL f i l))]))
 (S:Sr n f row):evF cl (fW nt to cf) [.tup (L f)]=some (.lst (L row)):=by
 have len:=(sJ h1 hn S V).2.2;have le:=rO (f:=f) hn;obtain⟨f',w⟩:=G8 (cf:=cf) (f0:=f) hn hnt hto S [] most V (by unfold most;omega) (by rw[List.length_nil];omega);have im:∀ xs:List Nat,a9 (.lst (L xs))=true:=fun xs=>bj xs;rw[List.nil_append]at w
 exact bf rfl rfl (De (dR (aa rfl) hcf) (eA (d:=.lst (L f)) (bN (aa rfl) rfl) (by rw[im];rfl) (eA (d:=.lst []) (cY bK) rfl
  (aI (gB (aa rfl) aj (hnt f V.frm)) (by unfold aP;rw[im];rfl) (FC w (aX (d:=.lst (L row)) (aa rfl) (by unfold aW;rw[im];rfl)))))))
end
end RM
set_option maxHeartbeats 1000000
namespace RM
section
variable{n:Nat}{f:List Nat}
def qo(s i:Nat)(row:List Nat):2*(i::row).count s=2*row.count s+tw2 s i:=by
 unfold tw2;rw[List.count_cons];by_cases c:s=i
 ·rw[if_pos c,if_pos (by rw[c];exact beq_self_eq_true i)];lia
 ·rw[if_neg c,if_neg (by simpa using Ne.symm c)];rfl
def w4(hn:n<=10){row:List Nat}(S:Sr n f row):Val n f->∀ s,s<n->sm n f s=2*row.count s:=by
 induction S with
 |done h=>
  intro V s hs;rw[sF V (tK h)];exact ot n (Nat.lt_succ_of_le hn) s hs
 |@step f r r' row i l h g t ih=>
  intro V s hs;obtain⟨hi,e⟩:=eF h;have A:=mP hn V.frm h g;rw[A7 hn A V.frm hi e hs,ih (iU A V hi e) s hs,qo]
def Br(hn:n<=10){row:List Nat}(S:Sr n f row):Val n f->∀ k a b,row[k]?=some a->row[k+1]?=some b->a<b+2:=by
 induction S with
 |done h=>
  intro V k a b ha;cases ha
 |@step f r r' row i l h g t ih=>
  intro V k a b ha hb;obtain⟨hi,e⟩:=eF h;have A:=mP hn V.frm h g
  cases k with
  | succ k=>exact ih (iU A V hi e) k a b ha hb
  |zero=>
   cases ha
   cases t with
   | done _=>cases hb
   |@step _ r1 _ row1 j l1 h1 g1 t1=>
    have hb:j=b:=Option.some.inj hb;subst hb;obtain⟨hj,ej⟩:=eF h1;refine Nat.lt_of_not_le fun c=>?_;rw[kj A V.frm hi e]at ej;have far:=A.far
    have q1:j≠at' f l:=fun z=>by rw[<-z,Nat.mod_eq_of_lt (by lia)]at far;lia
    rw[if_neg (by lia),if_neg q1,if_neg (by lia)]at ej;by_cases q2:j=l
    ·rw[if_pos q2]at ej;lia
    ·rw[if_neg q2]at ej;have m:j∈dM n f:=List.mem_filter.mpr ⟨List.mem_range.mpr (by lia),decide_eq_true ej⟩;have pw:(dM n f).Pairwise (·<·):=List.Pairwise.filter _ (List.pairwise_lt_range (n:=n-1));rw[h]at m pw
     cases m with
     | head=>lia
     |tail _ m=>
      have:=(List.pairwise_cons.mp pw).1 j m;lia
def rA(hn:n<=10){t:Nat}(ht:t<n):∀ (row:List Nat) (s:List Nat × Nat),Frm n s.1->(∀ j∈row,j+1<n)->sm n (hangs n row s).1 t<=sm n s.1 t+2*row.count t
 | [],s,_,_=>by simp[hangs]
 | j::row,s,F,h=>by
  have hj:=h j (.head _);have a:=Co hn ht F hj;have b:=rA hn ht row (bE s.1 (n+j),s.2+dJ s.1 (n+j)) (mm F (by lia)) (fun k hk=>h k (.tail _ hk));show sm n (hangs n row (bE s.1 (n+j),s.2+dJ s.1 (n+j))).1 t<=_;rw[qo];dsimp only at b;lia
end
open RL RT
section
variable{cl:Cl}
def vq{f:Nat}{scr:D}{k n size:Nat}(hn:2<=n)(hs:size<=100)(hk:k<=900)(h:∀ k:Nat,k<=1000->∃ ds:List Nat,iy ds (List.replicate 12 97)/\cl f [scr,.int k,.lst (L (List.replicate 12 97))]=some (.lst (L ds))) :
  ∃ hs:List Nat,(∀ h∈hs,h+1<n)/\hs.length<=12*aG 12 0 size/\evF cl (dC f) [scr,.int k,.int n,.int size]=some (.lst (L hs)):=by
 have cnt:aG 12 0 size<=100:=by
  unfold aG;rw[if_pos (by decide)];split
  ·lia
  ·simp
 have rg:dG 12 (.int 0) (.int size)=some (L (List.range' 0 (aG 12 0 size) 12)):=by
  dsimp only[dG];rw[if_pos ⟨by decide,by decide,by decide,by unfold most;lia,by decide,by decide,by lia,by lia⟩];have:=lT 12 (aG 12 0 size) 0;exact congrArg some this
 have m97:aA .mul (.lst [.int 97]) (.int 12)=some (.lst (L (List.replicate 12 97))):=rfl
 obtain⟨σ',e,hs',o5,o6,o7,o8,q1,q2,rfl⟩:=bU (f:=ag cl [4] (fv f)) (tg:=[5]) (xs:=List.range' 0 (aG 12 0 size) 12) (σ:=[some scr,some (.int k),some (.int n),some (.int size),some (.lst []),none,none,none,none])
  (fun p σ=>∃ (hs:List Nat) (o5 o6 o7 o8:Option D),(∀ h∈hs,h+1<n)/\hs.length<=12*p.length/\σ=[some scr,some (.int k),some (.int n),some (.int size),some (.lst (L hs)),o5,o6,o7,o8]) ⟨[],none,none,none,none,by simp,by simp,rfl⟩ (by
   rintro p x q σ hx ⟨hs,o5,o6,o7,o8,q1,q2,rfl⟩
   have hxm:x∈List.range' 0 (aG 12 0 size) 12:=by rw[hx];simp
   have hxb:x<=1200:=by
    obtain⟨i,hi,rfl⟩:=List.mem_range'.mp hxm;lia
   have hpl:p.length<100:=by
    have:=congrArg List.length hx;simp at this;lia
   obtain⟨ds,hds,ed⟩:=h (k+x / 12) (by lia)
   have ek:(k:Int)+(x:Int) / 12=((k+x / 12:Nat):Int):=by lia
   have hdl:ds.length=12:=by rw[hds.1];simp
   obtain⟨σ2,e2,hs2,o7',o8',g1,g2,rfl⟩:=bU (f:=ag cl [4] (cC f)) (tg:=[7]) (xs:=ds.take (cutAt (L ds).length ((size:Int)-(x:Int)))) (σ:=[some scr,some (.int k),some (.int n),some (.int size),some (.lst (L hs)),some (.int x),some (.lst (L ds)),o7,o8])
    (fun p σ=>∃ (hs':List Nat) (o7 o8:Option D),(∀ h∈hs',h+1<n)/\hs'.length<=hs.length+p.length/\σ=[some scr,some (.int k),some (.int n),some (.int size),some (.lst (L hs')),some (.int x),some (.lst (L ds)),o7,o8]) ⟨hs,o7,o8,q1,by simp,rfl⟩ (by
     rintro p' y q' σ hy ⟨hs',o7,o8,g1,g2,rfl⟩
     have hpl':p'.length<12:=by
      have:=congrArg List.length hy;simp at this;lia
     obtain⟨m,hm,em⟩:=u5 (cl:=cl) (f:=f) (scr:=scr) (k:=k) (size:=size) (start:=x) (x:=y) (steps:=ds) (o7:=o7) (o8:=o8) hn g1 (by lia);refine⟨_,em,_,_,_,?_,?_,rfl⟩
     ·intro h hh;rcases List.mem_append.mp hh with z | z
      ·exact g1 h z
      ·rw[List.mem_singleton.mp z];exact hm
     ·simp;lia)
   have hcl:(ds.take (cutAt (L ds).length ((size:Int)-(x:Int)))).length<=12:=by
    rw[List.length_take];lia
   refine⟨[some scr,some (.int k),some (.int n),some (.int size),some (.lst (L hs2)),some (.int x),some (.lst (L ds)),o7',o8'],?_,hs2,_,_,_,_,g1,?_,rfl⟩
   ·simp only[a8,Option.bind_some,fv,ag,evS,ev,evs,aU,List.set_cons_succ,List.set_cons_zero,List.getElem?_cons_succ,List.getElem?_cons_zero,id,Option.map_some,iC (show(0:Int)<12 by decide) (show(12:Int)<2 ^ 200 by decide),bJ,ek,m97,ed,aP,D.imm,a9,bj,aH,Bool.true_and,Bool.or_true,Bool.true_or,if_true,dI,ox,we,items,e2]
   ·simp only[List.length_append,List.length_cons,List.length_nil]
    lia)
 refine⟨hs',q1,by rw[List.length_range']at q2;exact q2,?_⟩;simp[evF,dC,ag,evS,ev,evs,aU,rg,a9,aq,aH];simp[e,ev,aW,a9,bj,aN]
def As{g:St->Option (Out × St)}{tg:List Nat}{d x:D}{r:List D}{σ σ1 σ2:St}(im:d.imm=true)(hb:a8 tg d σ=some σ1)(h:g σ1=some (.rt x,σ2)):aO g tg (d::r) σ=some (.rt x,σ2):=by
 rw[aO,if_pos im,hb,Option.bind_some,h];rfl
def uR{f:Nat}{scr:D}{k n size:Nat}(hn:n<2)(hs:size<=100)(hk:k<=900)(h:∀ k:Nat,k<=1000->∃ ds:List Nat,iy ds (List.replicate 12 97)/\cl f [scr,.int k,.lst (L (List.replicate 12 97))]=some (.lst (L ds))) :
  evF cl (dC f) [scr,.int k,.int n,.int size]=some (.lst []):=by
 have cnt:aG 12 0 size<=100:=by
  unfold aG;rw[if_pos (by decide)];split
  ·lia
  ·simp
 have rg:dG 12 (.int 0) (.int size)=some (L (List.range' 0 (aG 12 0 size) 12)):=by
  dsimp only[dG];rw[if_pos ⟨by decide,by decide,by decide,by unfold most;lia,by decide,by decide,by lia,by lia⟩];have:=lT 12 (aG 12 0 size) 0;exact congrArg some this
 by_cases c:size=0
 ·subst c;have r0:dG 12 (.int 0) (.int ((0:Nat):Int))=some []:=rfl;exact bf rfl rfl (eA (cY bK) rfl (cN (so aj (aa rfl) r0) wN (aX (aa rfl) rfl)))
 ·obtain⟨m,hm⟩:∃ m,aG 12 0 size=m+1:=by
   refine⟨aG 12 0 size-1,?_⟩
   have:0<aG 12 0 size:=by
    unfold aG;rw[if_pos (by decide),if_pos (by omega)];omega
   omega
  rw[hm,List.range'_succ]at rg;obtain⟨ds,hds,ed⟩:=h k (by omega)
  have hdl:ds.length=12:=by rw[hds.1];simp
  have cu:cutAt (L ds).length ((size:Int)-0)=min size 12:=by
   unfold cutAt;rw[if_pos (by omega),aM,hdl,show((size:Int)-0).toNat=size by omega]
  obtain⟨d,r,hd⟩:∃ d r,ds.take (min size 12)=d::r:=by
   cases e:ds.take (min size 12)with
   |nil=>
    have:=congrArg List.length e;rw[List.length_take,hdl]at this;simp at this;omega
   | cons d r=>exact⟨d,r,rfl⟩
  have sl:ox (.lst (L ds)) (.int ((size:Int)-0))=some (.lst (L (d::r))):=by
   show some (D.lst ((L ds).take (cutAt (L ds).length ((size:Int)-0))))=_;rw[cu,we,hd]
  have m97:aA .mul (.lst [.int 97]) (.int 12)=some (.lst (L (List.replicate 12 97))):=rfl
  have e0:aA .add (.int (k:Nat)) (.int 0)=some (.int (k:Nat)):=by rw[bJ,Int.add_zero]
  have b2:ag cl [4] (cC f) [some scr,some (.int k),some (.int n),some (.int size),some (.lst []),some (.int 0),some (.lst (L ds)),some (.int (d:Nat)),none]=some (.rt (.lst []),[some scr,some (.int k),some (.int n),some (.int size),some (.lst []),some (.int 0),some (.lst (L ds)),some (.int (d:Nat)),none]) :=
   fM (bL (aT (aa rfl) aj (by rw[dD,decide_eq_true (by omega)]))) (aX (cY bK) rfl)
  have b1:ag cl [4] (fv f) [some scr,some (.int k),some (.int n),some (.int size),some (.lst []),some (.int 0),none,none,none]=some (.rt (.lst []),[some scr,some (.int k),some (.int n),some (.int size),some (.lst []),some (.int 0),some (.lst (L ds)),some (.int (d:Nat)),none]) :=
   aI (oI (aa rfl) (az (aa rfl) (az (aa rfl) aj rfl) e0) (az (cY (aE aj bK)) aj m97) ed) (by unfold aP;rw[show a9 (.lst (L ds))=true from bj ds];rfl)
    (nL (dY (A5 (aa rfl) (az (aa rfl) (aa rfl) dI) sl) rfl) (by
     exact As (d:=.int (d:Nat)) rfl rfl b2))
  exact bf rfl rfl (eA (cY bK) rfl (nL (so aj (aa rfl) rg) (by
   exact As (d:=.int ((0:Nat):Int)) rfl rfl b1)))
end
end RM
set_option maxHeartbeats 1000000
namespace K27
open RL RT
abbrev mX(f_law_stacked f_law_hook:Nat):Fn :=
 ⟨2,3,[],[],(.cons (.ret (.call f_law_stacked (.cons (.var 0) (.cons (.compA (.call f_law_hook (.cons (.var 0) (.cons (.var 2) .nil))) [2] (.seq (.var 1))) .nil)))) .nil)⟩
abbrev lJ(f_law_seams f_length f_made:Nat):Fn :=
 ⟨3,6,[],[],(.cons (.ife (.or (.not (.isi (.var 2) .list)) (.or (.cmp .ne (.call f_made (.cons (.var 0) (.cons (.var 2) .nil))) (.tup (.cons (.var 1) (.cons (.cst (.int 0)) .nil)))) (.cmp .ne (.call f_length (.cons (.var 1) .nil)) (.bi .len (.var 2))))) (.cons (.ret (.cst (.bl false))) .nil) .nil) (.cons (.asg 3 (.call f_law_seams (.cons (.var 1) .nil))) (.cons (.ife (.not (.bi .all (.compA (.cmp .eq (.bin .mul (.cst (.int 2)) (.count (.var 2) (.var 5))) (.ix (.var 3) (.var 5))) [5] (.rng1 (.bin .sub (.var 0) (.cst (.int 1))))))) (.cons (.ret (.cst (.bl false))) .nil) .nil) (.cons (.ret (.bi .all (.compA (.cmp .lt (.ix (.var 2) (.var 4)) (.bin .add (.ix (.var 2) (.bin .add (.var 4) (.cst (.int 1)))) (.cst (.int 2)))) [4] (.rng1 (.bin .sub (.bi .len (.var 2)) (.cst (.int 1))))))) .nil))))⟩
abbrev Dc(f_law_right f_shortest_row f_law_made f_law_hooks f_law_frame f_law_digits:Nat):Ss :=
 (.cons (.unp [2,6] (.call f_law_digits (.cons (.var 0) (.cons (.bin .add (.cst (.int 40)) (.var 1)) (.cons (.lst (.cons (.cst (.int 10)) (.cons (.cst (.int 41)) .nil))) .nil))))) (.cons (.asg 2 (.bin .add (.cst (.int 1)) (.var 2))) (.cons (.asg 3 (.call f_law_frame (.cons (.var 0) (.cons (.var 1) (.cons (.var 2) .nil))))) (.cons (.ife (.not (.call f_law_right (.cons (.var 2) (.cons (.var 3) (.cons (.call f_shortest_row (.cons (.var 3) .nil)) .nil))))) (.cons (.ret (.cst (.bl false))) .nil) .nil) (.cons (.asg 4 (.call f_law_hooks (.cons (.var 0) (.cons (.bin .add (.cst (.int 5)) (.bin .mul (.cst (.int 4)) (.var 1))) (.cons (.var 2) (.cons (.var 6) .nil)))))) (.cons (.asg 3 (.ix (.call f_law_made (.cons (.var 2) (.cons (.var 4) .nil))) (.cst (.int 0)))) (.cons (.asg 5 (.call f_shortest_row (.cons (.var 3) .nil))) (.cons (.ife (.not (.call f_law_right (.cons (.var 2) (.cons (.var 3) (.cons (.var 5) .nil))))) (.cons (.ret (.cst (.bl false))) .nil) .nil) (.cons (.ife (.not (.bi .all (.compA (.cmp .le (.count (.var 5) (.var 7)) (.count (.var 4) (.var 7))) [7] (.rng1 (.bin .sub (.var 2) (.cst (.int 1))))))) (.cons (.ret (.cst (.bl false))) .nil) .nil) .nil)))))))))
abbrev AE(f_law_right f_shortest_row f_law_made f_law_hooks f_law_frame f_law_digits:Nat):Fn :=
 ⟨1,8,[],[],(.cons (.asg 0 (.slT (.var 0) (.cst (.int 63)))) (.cons (.forr [1] (.rng1 (.cst (.int 5))) (Dc f_law_right f_shortest_row f_law_made f_law_hooks f_law_frame f_law_digits)) (.cons (.ret (.cst (.bl true))) .nil)))⟩
abbrev T:List Fn:=[e8,cT 0,fC 1,ic 4,iu 0,fR,nj,gI 5 13 3 1 9,eD 7,gr,kT 2,mW 8,dm,gJ 14 12 9,kZ,oz 11 9,sO 15,fW 18 19 8,et 9,jQ 6 20,gC 9,mI 22 10 24,eB 6 9,iK 0,gf 23 2,iN,ky,kO 26,eR 27,dA,gF 29,fD,eP 31,jL,bW,dk 34,gH,iR 35 36 32 33 30 29 28,dC 28,jZ 35 29,mX 39 30,lJ 25 16 21,AE 41 17 40 38 37 28]
open RM
def FP{α:Type}:∀ {os:List α},os.length=6->∃ a b c d e f,os=[a,b,c,d,e,f]
 | [a,b,c,d,e,f],_=>⟨a,b,c,d,e,f,rfl⟩
def FO{ds:List Nat}{a b:Nat}(h:iy ds [a,b]):∃ x y,ds=[x,y]/\x<a/\y<b:=by
 obtain⟨h1,h2⟩:=h
 match ds,h1 with
 | [x,y],_=>exact⟨x,y,rfl,h2 0 x a rfl rfl,h2 1 y b rfl rfl⟩
def ck:Ck T 0 1 3 4 5 7 8 9 12 13 14:=⟨rfl,rfl,rfl,rfl,rfl,rfl,rfl,rfl,rfl,rfl,rfl⟩
def dr:Dr T 26 27 28 29 30 31 32 33 34 35 36 37:=⟨⟨rfl,rfl,rfl⟩,rfl,rfl,rfl,rfl,rfl,rfl,rfl,rfl,rfl⟩
def qI(g:Nat->Nat):∀ m,(((List.range m).map g).map Int.ofNat).sum=((bS m g:Nat):Int)
 | 0=>rfl
 | m+1=>by
  rw[List.range_succ,List.map_append,List.map_append,List.sum_append,qI g m,bS];simp
def Ce{n:Nat}{row:List Nat}(h1:1<=n)(h2:n<=10)(hr:∀ j∈row,j+1<n):a5 T 28 21 [.int (n:Nat),.lst (L row)]=some (prD (stk n (row.map (aw n)))):=by
 have cp:∀ m,a5 T (m+3) 2 [.int (n:Nat)]=some .non:=fun m=>E3 (nu:=0) (pc:=1) rfl rfl rfl h1 h2;have e1:a5 T 27 24 [.int (n:Nat),.lst (L row)]=some .non:=(ao (fn:=gf 23 2) rfl).trans (pT (cp 23) fun j hj=>Cj (nu:=0) rfl rfl (hr j hj));have e2:a5 T 27 10 [.int (n:Nat)]=some (.tup (L (ay n))):=(ao (fn:=kT 2) rfl).trans (run_plain h2 (cp 23));have e:=(ao (fn:=mI 22 10 24) (T:=T) (n:=27) (f:=21) rfl).trans (yP h2 hr e1 e2 fun f i F hi=>(ao (fn:=eB 6 9) rfl).trans (pR F hi (fun xs=>(ao (fn:=gr) rfl).trans (lI xs)) fun xs a b ha hb=>(ao (fn:=nj) rfl).trans (u0 xs ha hb)));have q:hangs n row (ay n,0)=stk n (row.map (aw n)):=kR h2 row (ay n,0) hr (eM n);rw[q]at e;exact e
def xT(xs:List Nat):cG (L xs)=some (xs.map Int.ofNat):=by
 induction xs with
 | nil=>rfl
 | cons x r ih=>show(cG (L r)).map _=_;rw[ih];rfl
def E6{n:Nat}{f:List Nat}(h1:1<=n)(hn:n<=10)(V:Val n f):a5 T 28 16 [.tup (L f)]=some (.int ((wdt n f / 2:Nat):Int)):=by
 have sl:biV .sum (.lst (L (smL n f)))=some (.int ((smL n f).map Int.ofNat).sum):=by
  show(cG (L (smL n f))).map _=_;rw[xT];rfl
 have se:a5 T 27 15 [.tup (L f)]=some (.lst (L (smL n f))):=(ao (fn:=oz 11 9) rfl).trans (wd h1 hn V.frm (ck.half 25 V.frm.len) (ck.Ho (ti:=11) rfl 20 h1 hn V));have e:a5 T 28 16 [.tup (L f)]=some (.int (((smL n f).map Int.ofNat).sum / 2)):=(ao (fn:=sO 15) rfl).trans (bf rfl rfl (aX (az (bN (dR (aa rfl) se) sl) aj (iC (by decide) (by decide))) rfl))
 have z:((smL n f).map Int.ofNat).sum=((wdt n f:Nat):Int):=by unfold smL;rw[qI];rfl
 rw[z]at e;exact e
def wW{n:Nat}{f row:List Nat}(h1:1<=n)(hn:n<=10)(V:Val n f)(S:Sr n f row):a5 T 29 17 [.tup (L f)]=some (.lst (L row)):=by
 have po:∀ (m:Nat) (g:List Nat),Frm n g->a5 T (m+1) 9 [.lst (L g)]=some (.int (n:Nat)):=fun m g G=>by
  rw[ck.ofL m,aM,G.len];congr 2;lia
 exact(ao (fn:=fW 18 19 8) rfl).trans (qH h1 hn V (ck.check 23 h1 hn V) (fun g G=>(ao (fn:=et 9) rfl).trans (Bm h1 hn G (po 26 g G)))
  (fun g r' i l A G hi e q=>(ao (fn:=jQ 6 20) rfl).trans (ye A G hi e ((ao (fn:=gC 9) rfl).trans (yd hn G hi q (po 25 g G))) fun xs a b ha hb=>(ao (fn:=nj) rfl).trans (u0 xs ha hb))) S)
def plP{a:List Nat × Nat}(h:a.1.length<=1000):Pl 2 (prD a):=.tup _ _ (show 2<=1000 by decide) fun x hx=>by
 cases hx with
 | head=>exact Pl.L h
 | tail _ hx=>cases hx with
  | head=>exact .int _ _
  | tail _ hx=>cases hx
def sX{n:Nat}{row:List Nat}(h1:1<=n)(h2:n<=10)(hl:row.length<=1000)(hr:∀ j∈row,j+1<n):a5 T 29 40 [.int (n:Nat),.lst (L row)]=some (prD (stk n (row.map (aw n)))):=by
 have V:∀ f∈row.map (aw n),Val n f:=fun f hf=>by
  obtain⟨j,hj,rfl⟩:=List.mem_map.mp hf;exact c9 h2 (hr j hj)
 have e:=si (T:=T) (rg:=34) (hu:=35) (pl:=29) (st:=39) rfl rfl rfl rfl 25 h1 h2 V
 have m:=j6 (F:=fun σ1=>(ev (a5 T 28) σ1 (.call 30 (.cons (.var 0) (.cons (.var 2) .nil)))).map some) (tg:=[2]) (σ:=[some (.int (n:Nat)),some (.lst (L row)),none]) (h:=fun i=>.int (i:Nat)) (g:=fun i=>.tup (L (aw n i))) (fun _=>gU _) row (by
  intro i hi;show(ev (a5 T 28) [some (.int (n:Nat)),some (.lst (L row)),some (.int (i:Nat))] (.call 30 (.cons (.var 0) (.cons (.var 2) .nil)))).map some=_;rw[gB (aa rfl) (aa rfl) (dr.hook 26 h2 (hr i hi))]
  rfl)
 have em:(row.map fun i=>D.tup (L (aw n i)))=fsD (row.map (aw n)):=by unfold fsD;rw[List.map_map];rfl
 rw[em]at m;exact(ao (fn:=mX 39 30) rfl).trans (bf rfl rfl (aX (gB (aa rfl) (eg (dY (aa rfl) rfl) (by rw[aM];unfold most;lia) m) e) (by unfold aW;rw[wm];rfl)))
def zP{ns:List Int}(hl:ns.length<=63){k n size:Nat}(h1:1<=n)(hk:k<=900)(hs:size<=60):∃ hs:List Nat,(∀ h∈hs,h+1<n)/\hs.length<=72/\a5 T 29 38 [.lst (LI ns),.int (k:Nat),.int (n:Nat),.int (size:Nat)]=some (.lst (L hs)):=by
 have d:∀ k:Nat,k<=1000->∃ ds:List Nat,iy ds (List.replicate 12 97)/\a5 T 28 28 [.lst (LI ns),.int k,.lst (L (List.replicate 12 97))]=some (.lst (L ds)):=fun k hk=>dr.digits hl 25 hk (by simp) (by simp);by_cases c:2<=n
 ·obtain⟨hs',a,b,e⟩:=vq (cl:=a5 T 28) (f:=28) (scr:=.lst (LI ns)) c (by lia) hk d (size:=size);refine⟨hs',a,?_,(ao (fn:=dC 28) rfl).trans e⟩
  have:aG 12 0 size<=6:=by
   unfold aG;rw[if_pos (by decide)];split<;>omega
  lia
 ·exact⟨[],fun h hh=>(by cases hh),by decide,(ao (fn:=dC 28) rfl).trans (uR (by lia) (by lia) hk d)⟩
def oW{cl:Cl}{σ:St}{a b:E}{xs:List Nat}{i:Nat}(h:ev cl σ a=some (.lst (L xs)))(h':ev cl σ b=some (.int (i:Nat))):ev cl σ (.count a b)=some (.int ((xs.count i:Nat):Int)):=by
 show(ev cl σ a).bind _=_;rw[h,Option.bind_some,h',Option.bind_some];show(cG (L xs)).map _=_;rw[xT,Option.map_some];congr 3;clear h
 induction xs with
 | nil=>rfl
 |cons x r ih=>
  rw[List.map_cons,List.count_cons,List.count_cons,ih];congr 1;rw[show(Int.ofNat x == (i:Int))=(x == i)from Bool.eq_iff_iff.mpr (by rw[beq_iff_eq,beq_iff_eq];exact Int.ofNat_inj)]
def rK{n:Nat}{f row:List Nat}(h1:1<=n)(hn:n<=10)(V:Val n f)(S:Sr n f row):a5 T 29 41 [.int (n:Nat),.tup (L f),.lst (L row)]=some (.bl true):=by
 obtain⟨hr,st,ln⟩:=sJ h1 hn S V;have w:=rO (f:=f) hn;have md:=Ce h1 hn hr;rw[st]at md;have le:=E6 h1 hn V;rw[<-ln,Nat.mul_div_cancel_left _ (by decide)]at le;have ls:a5 T 28 25 [.tup (L f)]=some (.lst (L (smL n f))):=(ao (fn:=iN) rfl).trans (pN h1 hn V.frm);have im:a9 (.lst (L (smL n f)))=true:=bj _
 have eb:biV .len (.lst (L row))=some (.int (row.length:Nat)):=by
  show some (D.int ((L row).length:Nat))=_;rw[aM]
 have m1:=gj (F:=fun σ1=>(ev (a5 T 28) σ1 (.cmp .eq (.bin .mul (.cst (.int 2)) (.count (.var 2) (.var 5))) (.ix (.var 3) (.var 5)))).map some) (tg:=[5]) (σ:=[some (.int (n:Nat)),some (.tup (L f)),some (.lst (L row)),some (.lst (L (smL n f))),none,none]) (g:=fun _=>.bl true) (fun _=>rfl) (List.range (n-1)) (by
  intro i hi;have hi:=List.mem_range.mp hi;show(ev (a5 T 28) [some (.int (n:Nat)),some (.tup (L f)),some (.lst (L row)),some (.lst (L (smL n f))),none,some (.int (i:Nat))] _).map some=_
  have mu:aA .mul (.int 2) (.int ((row.count i:Nat):Int))=some (.int ((2*row.count i:Nat):Int)):=by
   dsimp only[aA];rw[if_pos (.inl (by decide))];rfl
  have ix:ixV (.lst (L (smL n f))) (.int (i:Nat))=some (.int ((2*row.count i:Nat):Int)):=by
   rw[iz (by unfold smL;simpa using hi)];unfold smL;rw[wG _ hi,w4 hn S V i (by lia)]
  rw[aT (az aj (oW (aa rfl) (aa rfl)) mu) (cA (aa rfl) (aa rfl) ix) (vS _ _),decide_eq_true rfl]
  rfl)
 have m2:=gj (F:=fun σ1=>(ev (a5 T 28) σ1 (.cmp .lt (.ix (.var 2) (.var 4)) (.bin .add (.ix (.var 2) (.bin .add (.var 4) (.cst (.int 1)))) (.cst (.int 2))))).map some) (tg:=[4]) (σ:=[some (.int (n:Nat)),some (.tup (L f)),some (.lst (L row)),some (.lst (L (smL n f))),none,none]) (g:=fun _=>.bl true) (fun _=>rfl) (List.range (row.length-1)) (by
  intro i hi;have hi:=List.mem_range.mp hi;show(ev (a5 T 28) [some (.int (n:Nat)),some (.tup (L f)),some (.lst (L row)),some (.lst (L (smL n f))),some (.int (i:Nat)),none] _).map some=_;have q:=Br hn S V i (at' row i) (at' row (i+1)) (by unfold at';rw[List.getElem?_eq_getElem (by lia)];rfl) (by unfold at';rw[List.getElem?_eq_getElem (by lia)];rfl);rw[aT (cA (aa rfl) (aa rfl) (iz (by lia))) (az (cA (aa rfl) (az (aa rfl) aj bJ) (iz (x:=i+1) (by lia))) aj bJ) dD,decide_eq_true (by lia)]
  rfl)
 have al:∀ xs:List Nat,biV .all (.lst (xs.map fun _=>D.bl true))=some (.bl true):=fun xs=>by
  rw[nF (fun _=>true) xs];simp
 have r1:∀ m:Nat,m<=1000->cH (.int 0) (.int (m:Nat))=some (L (List.range m)):=fun m hm=>bO (by lia);have su:aA .sub (.int (row.length:Nat)) (.int 1)=some (.int ((row.length:Int)-1)):=dI
 have rs:cH (.int 0) (.int ((row.length:Int)-1))=some (L (List.range (row.length-1))):=by
  by_cases c:row.length=0
  ·rw[c];rfl
  ·rw[show(row.length:Int)-1=((row.length-1:Nat):Int) by lia];exact r1 _ (by lia)
 exact(ao (fn:=lJ 25 16 21) rfl).trans (bf rfl rfl
  (cW (bL (uL (k7 (k:=true) (Aw (aa rfl) rfl)) (uL (aT (gB (aa rfl) (aa rfl) md) (uI (aE (aa rfl) (aE aj bK))) (Ax (plP (a:=(f,0)) (by rw[V.frm.len];lia)) (by decide))) (aT (dR (aa rfl) le) (bN (aa rfl) eb) (Ax (.int 0 _) (by decide))))))
  (aI (dR (aa rfl) ls) (by unfold aP;rw[im];rfl)
  (cW (bL (k7 (bN (eg (fj (az (aa rfl) aj (vf h1)) (r1 _ (by lia))) (by rw[aM,List.length_range];unfold most;lia) m1) (al _))))
  (aX (bN (eg (fj (az (bN (aa rfl) eb) aj su) rs) (by rw[aM,List.length_range];unfold most;lia) m2) (al _)) rfl)))))
def main(ns:List Int)(hl:ns.length<=63):a5 T 30 42 [.scr (ns.map D.int)]=some (.bl true):=by
 refine(ao (fn:=AE 41 17 40 38 37 28) rfl).trans (zZ (m:=6) (N:=5) hl (by decide) fun k os hk ho=>?_);obtain⟨o2,o3,o4,o5,o6,o7,rfl⟩:=FP ho;obtain⟨ds,hd,e1⟩:=dr.digits hl 26 (k:=40+k) (sizes:=[10,41]) (by lia) (by simp) (by simp);obtain⟨p,q,rfl,hp,hq⟩:=FO hd
 have n1:1<=1+p:=by lia
 have n2:1+p<=10:=by lia
 have e0:aA .add (.int 1) (.int (p:Nat))=some (.int ((1+p:Nat):Int)):=rfl;generalize 1+p=n at *;obtain⟨f,V,e2⟩:=dr.frame hl 25 (k:=k) (m:=n) (by lia) n1 n2;obtain⟨row,S⟩:=AH n2 _ f V rfl;obtain⟨hs,hr,hsl,e3⟩:=zP hl (k:=5+4*k) (n:=n) (size:=q) n1 (by lia) (by lia);have e4:=sX n1 n2 (row:=hs) (by lia) hr
 have Vr:∀ x∈hs.map (aw n),Val n x:=fun x hx=>by
  obtain⟨j,hj,rfl⟩:=List.mem_map.mp hx;exact c9 n2 (hr j hj)
 have W:=nM n2 Vr;have sq:stk n (hs.map (aw n))=hangs n hs (ay n,0):=(kR n2 hs (ay n,0) hr (eM n)).symm;obtain⟨row',S'⟩:=AH n2 _ _ W rfl;have w1:=rO (f:=f) n2;have ln:=(sJ n1 n2 S V).2.2
 have ek:aA .mul (.int 4) (.int (k:Nat))=some (.int ((4*k:Nat):Int)):=by
  dsimp only[aA];rw[if_pos (.inl (by decide))];rfl
 have im:∀ xs:List Nat,a9 (.lst (L xs))=true:=fun xs=>bj xs
 have mc:=gj (F:=fun σ1=>(ev (a5 T 29) σ1 (.cmp .le (.count (.var 5) (.var 7)) (.count (.var 4) (.var 7)))).map some) (tg:=[7]) (σ:=[some (.lst (LI ns)),some (.int (k:Nat)),some (.int (n:Nat)),some (.tup (L (stk n (hs.map (aw n))).1)),some (.lst (L hs)),some (.lst (L row')),some (.int (q:Nat)),o7]) (g:=fun _=>.bl true) (fun _=>rfl) (List.range (n-1)) (by
  intro i hi;have hi:=List.mem_range.mp hi;show(ev (a5 T 29) [some (.lst (LI ns)),some (.int (k:Nat)),some (.int (n:Nat)),some (.tup (L (stk n (hs.map (aw n))).1)),some (.lst (L hs)),some (.lst (L row')),some (.int (q:Nat)),some (.int (i:Nat))] _).map some=_;have a:=w4 n2 S' W i (by lia);have b:=rA n2 (show i<n by lia) hs (ay n,0) (eM n).frm hr;rw[<-sq,a]at b;have c:=ot n (by lia) i (by lia);dsimp only at b;rw[aT (oW (aa rfl) (aa rfl)) (oW (aa rfl) (aa rfl)) oT,decide_eq_true (by lia)]
  rfl)
 have al:biV .all (.lst ((List.range (n-1)).map fun _=>D.bl true))=some (.bl true):=by
  rw[nF (fun _=>true)];simp
 refine⟨_,?_,sf (oI (aa rfl) (az aj (aa rfl) rfl) (cY (aE aj (aE aj bK))) e1) rfl rfl rfl
  (aI (az aj (aa rfl) e0) rfl
  (aI (oI (aa rfl) (aa rfl) (aa rfl) e2) (by unfold aP;rw[gU];rfl)
  (cW (bL (k7 (oI (aa rfl) (aa rfl) (dR (aa rfl) (wW n1 n2 V S)) (rK n1 n2 V S))))
  (aI (x_call (aE (aa rfl) (aE (az aj (az aj (aa rfl) ek) rfl) (aE (aa rfl) (aE (aa rfl) bK)))) e3) (by unfold aP;rw[im];rfl)
  (aI (cA (gB (aa rfl) (aa rfl) e4) aj rfl) (by unfold aP;rw[gU];rfl)
  (aI (dR (aa rfl) (wW n1 n2 W S')) (by unfold aP;rw[im];rfl)
  (cW (bL (k7 (oI (aa rfl) (aa rfl) (aa rfl) (rK n1 n2 W S'))))
  (cW (bL (k7 (bN (eg (fj (az (aa rfl) aj (vf n1)) (bO (by lia))) (by rw[aM,List.length_range];unfold most;lia) mc) al)))
  aR))))))))⟩
 rfl
end K27
namespace L2
open PySem PySem.Spec PyProof.Rows
@[reducible]noncomputable def Key:=Sum Int Str
abbrev lh:Key->Value->Bool
 | .inl k,v=>Value.isInt k v
 | .inr x,v=>Value.isStrOf x v
abbrev Hh(w:World):Key->Int
 | .inl k=>hashInt k
 | .inr x=>hashStr w x
def bX:∀ {k:Key} {v:Value},lh k v=true->(∃ i t,k=Sum.inl i/\v=Value.int i t)\/(∃ x t,k=Sum.inr x/\v=Value.str x t)
 | .inl i,v,h=>by
  obtain⟨t,e⟩:=Value.isInt_shape (k:=i) (v:=v) h;exact .inl ⟨i,t,rfl,e⟩
 | .inr x,v,h=>by
  obtain⟨t,e⟩:=Value.isStrOf_shape (x:=x) (v:=v) h;exact .inr ⟨x,t,rfl,e⟩
def vI(i:Int)(t:Tok):lh (.inl i) (.int i t)=true:=by simp[lh,Value.isInt]
def wC(x:Str)(t:Tok):lh (.inr x) (.str x t)=true:=by simp[lh,Value.isStrOf]
def DI(a b:Int):decide ((Sum.inl a:Key)=Sum.inl b)=(a == b):=by
 by_cases e:a=b
 ·subst e;simp
 ·have h:¬ (Sum.inl a:Key)=Sum.inl b:=fun q=>e (Sum.inl.inj q);rw[decide_eq_false h];exact(beq_eq_false_iff_ne.mpr e).symm
def C7(a b:Str):decide ((Sum.inr a:Key)=Sum.inr b)=decide (a=b):=by
 by_cases e:a=b
 ·subst e;simp
 ·have h:¬ (Sum.inr a:Key)=Sum.inr b:=fun q=>e (Sum.inr.inj q);rw[decide_eq_false h,decide_eq_false e]
def FD(a:Int)(b:Str):decide ((Sum.inl a:Key)=Sum.inr b)=false:=decide_eq_false (fun q=>nomatch q)
def EU(a:Str)(b:Int):decide ((Sum.inr a:Key)=Sum.inl b)=false:=decide_eq_false (fun q=>nomatch q)
abbrev cn(prog:Program)(w:World):PySem.KeyKind prog w Key where
 is:=lh
 hash:=Hh w
 inj:=fun v a b ha hb=>by
  rcases bX ha with⟨i,t,rfl,rfl⟩ | ⟨x,t,rfl,rfl⟩
  ·rcases bX hb with⟨j,u,rfl,e⟩ | ⟨y,u,rfl,e⟩
   ·injection e with e1 _;rw[e1]
   ·exact nomatch e
  ·rcases bX hb with⟨j,u,rfl,e⟩ | ⟨y,u,rfl,e⟩
   ·exact nomatch e
   ·injection e with e1 _;rw[e1]
 byValue:=fun k v h=>by
  rcases bX h with⟨i,t,rfl,rfl⟩ | ⟨x,t,rfl,rfl⟩<;>rfl
 pyHash:=fun hv h=>by
  rcases bX hv with⟨i,t,rfl,rfl⟩ | ⟨x,t,rfl,rfl⟩
  ·exact wpAny_pyHash_int h
  ·exact wpAny_pyHash_str h
 eqBool:=fun hu hv h=>by
  rcases bX hu with⟨i,t,rfl,rfl⟩ | ⟨x,t,rfl,rfl⟩
  ·rcases bX hv with⟨j,u,rfl,rfl⟩ | ⟨y,u,rfl,rfl⟩
   ·rw[DI]at h;exact wpAny_eqBool_int h
   ·rw[FD]at h;exact SeqAt.EqAt.int_str i t y u _ _ _ _ h
  ·rcases bX hv with⟨j,u,rfl,rfl⟩ | ⟨y,u,rfl,rfl⟩
   ·rw[EU]at h;exact SeqAt.EqAt.str_int x t j u _ _ _ _ h
   ·rw[C7]at h;exact wpAny_eqBool_str h
 «strs»:=fun k x t v h=>by
  rcases bX h with⟨i,u,rfl,e⟩ | ⟨y,u,rfl,e⟩
  ·exact nomatch e
  ·injection e with e1 _;subst e1;cases v<;>rfl
def sV(prog:Program)(w:World)(i:Int)(t:Tok):(cn prog w).is (.inl i) (.int i t)=true:=vI i t
def sZ(prog:Program)(w:World)(x:Str)(t:Tok):(cn prog w).is (.inr x) (.str x t)=true:=wC x t
inductive V where
 | non | bl (b:Bool) | int (i:Int) | str (x:Str) | byt (b:Array UInt8) | flt (b:UInt64) | ref (a:Addr) | ty (n:String)
 deriving DecidableEq
abbrev RelV:V->Value->Prop
 | .non,u=>u=Value.none
 | .bl b,u=>u=Value.bool b
 | .int i,u=>∃ t,u=Value.int i t
 | .str x,u=>∃ t,u=Value.str x t
 | .byt b,u=>∃ t,u=Value.bytes b t
 | .flt b,u=>∃ t,u=Value.float b t
 | .ref a,u=>u=Value.ref a
 | .ty n,u=>u=Value.type n
@[reducible]noncomputable def Vals:List V->List Value->Prop:=Paired RelV
def Vals.length{xs:List V}{us:List Value}(r:Vals xs us):xs.length=us.length:=Paired.length r
def Vals.get:∀ {xs:List V} {us:List Value} {i:Nat} {x:V},Vals xs us->xs[i]?=some x->∃ u,us[i]?=some u/\RelV x u
 | _,_,_,_,.nil,e=>by simp at e
 | _,_,0,_,.cons r _,e=>by simp at e;subst e;exact⟨_,rfl,r⟩
 | _,_,i+1,x,.cons _ t,e=>by
  obtain⟨u,h1,h2⟩:=Vals.get (i:=i) (x:=x) t (by simpa using e);exact⟨u,by simpa using h1,h2⟩
def Vals.set{x:V}{u:Value}(r:RelV x u):∀ {xs:List V} {us:List Value} (i:Nat),Vals xs us->Vals (xs.set i x) (us.set i u)
 | _,_,_,.nil=>.nil
 | _,_,0,.cons _ t=>.cons r t
 | _,_,i+1,.cons q t=>.cons q (Vals.set r i t)
def Vals.append:∀ {xs ys:List V} {us ws:List Value},Vals xs us->Vals ys ws->Vals (xs++ys) (us++ws)
 | _,_,_,_,.nil,s=>s
 | _,_,_,_,.cons r t,s=>.cons r (Vals.append t s)
def Vals.take:∀ {xs:List V} {us:List Value} (n:Nat),Vals xs us->Vals (xs.take n) (us.take n)
 | _,_,0,_=>.nil
 | _,_,_+1,.nil=>.nil
 | _,_,n+1,.cons r t=>.cons r (Vals.take n t)
def Vals.drop:∀ {xs:List V} {us:List Value} (n:Nat),Vals xs us->Vals (xs.drop n) (us.drop n)
 | _,_,0,r=>r
 | _,_,_+1,.nil=>.nil
 | _,_,n+1,.cons _ t=>Vals.drop n t
abbrev il:Option V->Option Value->Prop
 | some v,some u=>RelV v u
 | none,none=>True
 | _,_=>False
abbrev KV{κ:Type}:List (κ × V)->List (κ × Value)->Prop:=Paired fun(p:κ × V) (q:κ × Value)=>p.1=q.1/\RelV p.2 q.2
abbrev kV:Key->V
 | .inl i=>.int i
 | .inr x=>.str x
inductive HO where
  | lst (xs:List V)
  | tup (xs:List V)
  | dK (kvs:List (Key × V)) | dT (kvs:List (List Key × V))
  | set (S:Int->Bool) (n:Nat)
  | ins (C dx:Addr) (fs:List (Str × V))
  | own (x:Addr)
  | xd (fs:List (Str × V))
  | met (f x:Addr)
  | rng (lo hi:Int)
  | frz (o:Obj) (u:HO)
  | tbl (ps:Array Value)
  | ext (φ:Heap->Prop)
@[reducible]noncomputable def Hp:=Addr->Option HO
abbrev upd(H:Hp)(a:Addr)(o:HO):Hp:=fun b=>if b=a then some o else H b
def bw{H:Hp}{a:Addr}{o:HO}:upd H a o a=some o:=by unfold upd;rw[if_pos rfl]
def aV{H:Hp}{a b:Addr}{o:HO}(h:b≠a):upd H a o b=H b:=by unfold upd;rw[if_neg h]
def qb{H:Hp}{a b:Addr}{o u:HO}(h:H a=some o)(h':H b=some u)(d:o≠u):a≠b:=by
 intro e;subst e;rw[h]at h';exact d (Option.some.inj h')
def bc{H:Hp}{a b:Addr}{o:HO}(h:H a=some o)(h':H b=none):a≠b:=by
 intro e;subst e;rw[h]at h';cases h'
section
variable(P:Program)(w:World)
abbrev bA(H:Hp)(h:Heap)(a:Addr):HO->Prop
 | .lst xs=>xs.length<=sizeLine/\∃ (its:List Value) (n:Nat),Vals xs its/\h.get? a=some { cls:=.type "list",data:=.seq its.toArray n }
 | .tup xs=>xs.length<=sizeLine/\∃ its:List Value,Vals xs its/\IsTup h a its.toArray
 | .dK kvs=>kvs.length<=sizeLine/\(a == sysModules)=false/\∃ vs,KV kvs vs/\h.DictOf (cn P w) a vs
 | .dT kvs=>kvs.length<=sizeLine/\(a == sysModules)=false/\∃ xs:List (List Key × Addr × Value),
   Paired (fun(p:List Key × V) (q:List Key × Addr × Value)=>p.1=q.1/\H q.2.1=some (.tup (p.1.map kV))/\RelV p.2 q.2.2) kvs xs /\
   ∃ o es ep,h.get? a=some o/\o.ExactDict/\o.data=.dict es ep/\es.toList=xs.map (entryOfKey (tupleKind (cn P w)))/\(xs.map (·.1)).Nodup
 | .set S n=>h.SetOf (intKind P w) a S n
 | .ins C dx fs=>H dx=some (.own a)/\fs.length<=1000/\dx≠a/\h.get? a=some (PySem.W.instObj C dx) /\
   ∃ mA,h.Ns1 dx mA/\(∀ f,il (fs.lookup f) (mA f))/\PySem.Within mA (fs.map (·.1))
 | .own _=>∃ o,h.get? a=some o
 | .xd fs=>∃ mA,h.Ns1 a mA/\∀ f,il (fs.lookup f) (mA f)
 | .rng lo hi=>∃ t u v,h.get? a=some { cls:=.type "range",data:=.fields #[.int lo t,.int hi u,.int 1 v] }
 | .frz o u=>h.get? a=some o/\bA H h a u
 | .tbl ps=>h.get? a=some { cls:=.none,data:=.fields ps }
 | .met f x=>h.get? a=some (PySem.W.methodObj (.ref f) (.ref x))
 | .ext φ=>φ h/\(∃ o,h.get? a=some o)/\∀ h1 h2:Heap,φ h1->(∀ o,h1.get? a=some o->h2.get? a=some o)->φ h2
abbrev HOk(H:Hp)(h:Heap):Prop:=∀ a o,H a=some o->bA P w H h a o
end
section
variable{P:Program}{w:World}{H H':Hp}{h h':Heap}{a:Addr}{o:HO}
def bA.lt(x:bA P w H h a o):a<h.objs.size:=by
 cases o with
 | lst xs=>obtain⟨_,_,_,_,e⟩:=x;exact Heap.lt_size e
 | tup xs=>obtain⟨_,_,_,p⟩:=x;exact p.lt
 | dK kvs=>obtain⟨_,_,_,_,o,_,_,e,_⟩:=x;exact Heap.lt_size e
 | dT kvs=>obtain⟨_,_,_,_,o,_,_,e,_⟩:=x;exact Heap.lt_size e
 | set S n=>obtain⟨o,_,_,_,e,_⟩:=x;exact Heap.lt_size e
 | ins C dx fs=>obtain⟨_,_,_,e,_⟩:=x;exact Heap.lt_size e
 | own y=>obtain⟨_,e⟩:=x;exact Heap.lt_size e
 | xd fs=>obtain⟨_,⟨_,_,_,e,_⟩,_⟩:=x;exact Heap.lt_size e
 | rng lo hi=>obtain⟨_,_,_,e⟩:=x;exact Heap.lt_size e
 | frz ob u=>obtain⟨e,_⟩:=x;exact Heap.lt_size e
 | tbl ps=>exact Heap.lt_size (show h.get? a=some _ from x)
 | met f y=>exact Heap.lt_size (show h.get? a=some _ from x)
 | ext φ=>obtain⟨_,⟨_,e⟩,_⟩:=x;exact Heap.lt_size e
def Paired.zR{α β:Type}{F G:α->β->Prop}:∀ {l₁:List α} {l₂:List β},Paired F l₁ l₂->(∀ a b,F a b->G a b)->Paired G l₁ l₂
 | _,_,.nil,_=>.nil
 | _,_,.cons r t,f=>.cons (f _ _ r) (Paired.zR t f)
def bA.oY(x:bA P w H h a o)(k:∀ b u,(b=a\/H b=some (.own a))->h.get? b=some u->h'.get? b=some u)
 (ho:∀ b,H b=some (.own a)->H' b=some (.own a))(ht:∀ b xs,H b=some (.tup xs)->H' b=some (.tup xs)):bA P w H' h' a o:=by
 induction o with
 | lst xs=>obtain⟨z,its,n,r,e⟩:=x;exact⟨z,its,n,r,k _ _ (.inl rfl) e⟩
 | tup xs=>obtain⟨z,its,r,ob,e,c⟩:=x;exact⟨z,its,r,ob,k _ _ (.inl rfl) e,c⟩
 | dK kvs=>obtain⟨z,y,vs,r,ob,es,ep,e,c⟩:=x;exact⟨z,y,vs,r,ob,es,ep,k _ _ (.inl rfl) e,c⟩
 |dT kvs=>
  obtain⟨z,y,xs,r,ob,es,ep,e,c⟩:=x;exact⟨z,y,xs,Paired.zR r fun p q z=>⟨z.1,ht _ _ z.2.1,z.2.2⟩,ob,es,ep,k _ _ (.inl rfl) e,c⟩
 | set S n=>obtain⟨ob,es,ep,t,e,c⟩:=x;exact⟨ob,es,ep,t,k _ _ (.inl rfl) e,c⟩
 |ins C dx fs=>
  obtain⟨d,z,ne,e,mA,⟨od,es,ep,e2,c⟩,r⟩:=x;exact⟨ho _ d,z,ne,k _ _ (.inl rfl) e,mA,⟨od,es,ep,k _ _ (.inr d) e2,c⟩,r⟩
 | own y=>obtain⟨ob,e⟩:=x;exact⟨ob,k _ _ (.inl rfl) e⟩
 | xd fs=>obtain⟨mA,⟨od,es,ep,e,c⟩,r⟩:=x;exact⟨mA,⟨od,es,ep,k _ _ (.inl rfl) e,c⟩,r⟩
 | rng lo hi=>obtain⟨t,u,v,e⟩:=x;exact⟨t,u,v,k _ _ (.inl rfl) e⟩
 | frz ob u ih=>obtain⟨e,q⟩:=x;exact⟨k _ _ (.inl rfl) e,ih q⟩
 |tbl ps=>
  have e:h.get? a=some { cls:=.none,data:=.fields ps }:=x;show h'.get? a=some { cls:=.none,data:=.fields ps };exact k a _ (.inl rfl) e
 |met f y=>
  have e:h.get? a=some (PySem.W.methodObj (.ref f) (.ref y)):=x;show h'.get? a=some (PySem.W.methodObj (.ref f) (.ref y));exact k a _ (.inl rfl) e
 | ext φ=>obtain⟨p,⟨o,e⟩,st⟩:=x;exact⟨st _ _ p fun o q=>k _ _ (.inl rfl) q,⟨o,k _ _ (.inl rfl) e⟩,st⟩
def HOk.lt(x:HOk P w H h)(e:H a=some o):a<h.objs.size:=(x a o e).lt
def HOk.fresh(x:HOk P w H h)(e:h.objs.size<=a):H a=none:=by
 cases q:H a with
 | none=>rfl
 | some u=>exact absurd (Nat.lt_of_lt_of_le (x.lt q) e) (Nat.lt_irrefl _)
def HOk.kept(x:HOk P w H h)(k:∀ b u,h.get? b=some u->h'.get? b=some u):HOk P w H h':=fun a o e =>
 (x a o e).oY (fun b u _ q=>k b u q) (fun _ q=>q) fun _ _ q=>q
def HOk.laid(x:HOk P w H h)(k:∀ b u,h.get? b=some u->h'.get? b=some u)(hp:h.objs.size<=a)(new:bA P w (upd H a o) h' a o):HOk P w (upd H a o) h':=fun b u e=>by
 have hn:=x.fresh hp;by_cases hb:b=a
 ·subst hb;rw[bw]at e;cases e;exact new
 ·rw[aV hb]at e
  exact(x b u e).oY (fun c v _ q=>k c v q) (fun c q=>by rw[aV (bc q hn)];exact q) fun c xs q=>by rw[aV (bc q hn)];exact q
end
abbrev Rd(H:Hp)(a:Addr)(u:HO):Prop:=H a=some u\/∃ o,H a=some (.frz o u)
def Rd.ok{P:Program}{w:World}{H:Hp}{h:Heap}{a:Addr}{u:HO}(r:Rd H a u)(x:HOk P w H h):bA P w H h a u:=by
 rcases r with r | ⟨o,r⟩
 ·exact x a u r
 ·obtain⟨_,q⟩:=x a _ r;exact q
abbrev Mut:Option HO->Prop
 | some (.lst _)=>True
 | some (.dK _)=>True
 | some (.dT _)=>True
 | some (.set _ _)=>True
 | some (.ins _ _ _)=>True
 | some (.ext _)=>True
 | _=>False
section
variable{P:Program}{w:World}{H:Hp}{h h':Heap}{x e:Addr}{o':HO}
def HOk.write(ok:HOk P w H h)(mu:Mut (H x))(he:e=x\/H e=some (.own x))(k:∀ b u,b≠e->h.get? b=some u->h'.get? b=some u)(heo:∃ u,h'.get? e=some u)
 (new:bA P w (upd H x o') h' x o'):HOk P w (upd H x o') h':=fun b u q=>by
 have nown:∀ c y,H c=some (.own y)->c≠x:=fun c y r z=>by subst z;rw[r]at mu;exact mu
 have ntup:∀ c xs,H c=some (.tup xs)->c≠x:=fun c xs r z=>by subst z;rw[r]at mu;exact mu
 by_cases hb:b=x
 ·subst hb;rw[bw]at q;cases q;exact new
 ·rw[aV hb]at q;by_cases hbe:b=e
  ·have q':H b=some (.own x):=by
    rcases he with z | z
    ·exact absurd (hbe.trans z) hb
    ·rw[hbe];exact z
   rw[q]at q';cases q';obtain⟨v,hv⟩:=heo;exact⟨v,by rw[hbe];exact hv⟩
  ·refine(ok b u q).oY (fun c v hc r=>k c v ?_ r) (fun c r=>by rw[aV (nown c b r)];exact r) fun c xs r=>by rw[aV (ntup c xs r)];exact r
   rcases hc with rfl | hc
   ·exact hbe
   ·rintro rfl;rcases he with z | z
    ·exact nown c b hc z
    ·rw[hc]at z;cases z;exact hb rfl
end
structure Un(fs ex:List Addr)(H H':Hp)(h h':Heap):Prop where
 keep:∀ b o,h.get? b=some o->H b=none->b∉fs->b∉ex->h'.get? b=some o
 slot:∀ b o,h.get? b=some o->H b=none->b∈fs->b∉ex->∃ sl,h'.get? b=some { o with slots:=sl }
 free:∀ b o,h.get? b=some o->H b=none->b∉ex->H' b=none
 there:∀ b o,h.get? b=some o->b∉ex->∃ o',h'.get? b=some o'
 kF:∀ b xs,H b=some (.tup xs)->H' b=some (.tup xs)
 iS:∀ b o u,H b=some (.frz o u)->H' b=some (.frz o u)
 kr:∀ b ps,H b=some (.tbl ps)->∃ more,H' b=some (.tbl (ps++more))
section
variable{fs fs' ex ex':List Addr}{H H1 H2:Hp}{h h1 h2 h':Heap}{a x e:Addr}{o:HO}
def Un.any(u:Un fs ex H H1 h h1){b:Addr}{ob:Obj}(q:h.get? b=some ob)(n:H b=none)(hx:b∉ex):∃ sl,h1.get? b=some { ob with slots:=sl }:=by
 by_cases hb:b∈fs
 ·exact u.slot b ob q n hb hx
 ·exact⟨ob.slots,u.keep b ob q n hb hx⟩
def Un.kept(k:∀ b u,h.get? b=some u->h'.get? b=some u):Un fs ex H H h h' :=
 ⟨fun b ob q _ _ _=>k b ob q,fun b ob q _ _ _=>⟨ob.slots,k b ob q⟩,fun _ _ _ n _=>n,fun b ob q _=>⟨ob,k b ob q⟩,fun _ _ q=>q,fun _ _ _ q=>q,fun _ ps q=>⟨#[],by rw[q];simp⟩⟩
def Un.refl:Un fs ex H H h h:=Un.kept fun _ _ q=>q
def Un.laid(k:∀ b u,h.get? b=some u->h'.get? b=some u)(hp:h.objs.size<=a)(hn:H a=none):Un fs ex H (upd H a o) h h' where
 keep:=fun b u q _ _ _=>k b u q
 slot:=fun b u q _ _ _=>⟨u.slots,k b u q⟩
 free:=fun b u q n _=>by rw[aV (Nat.ne_of_lt (Nat.lt_of_lt_of_le (Heap.lt_size q) hp))];exact n
 there:=fun b u q _=>⟨u,k b u q⟩
 kF:=fun b xs q=>by rw[aV (bc q hn)];exact q
 iS:=fun b u xs q=>by rw[aV (bc q hn)];exact q
 kr:=fun b ps q=>⟨#[],by rw[aV (bc q hn),q];simp⟩
def Un.write(mu:Mut (H x))(he:e=x\/H e=some (.own x))(k:∀ b u,b≠e->h.get? b=some u->h'.get? b=some u)(heo:∃ u,h'.get? e=some u):Un fs ex H (upd H x o) h h':=by
 have hx:∀ b,H b=none->b≠x:=fun b n z=>by subst z;rw[n]at mu;exact mu
 have hb:∀ b,H b=none->b≠e:=fun b n z=>by
  subst z;rcases he with r | r
  ·exact hx b n r
  ·rw[n]at r;cases r
 have hm:∀ b u,H b=some u->¬ Mut (some u)->b≠x:=fun b u q nm z=>by subst z;rw[q]at mu;exact nm mu
 refine⟨fun b u q n _ _=>k b u (hb b n) q,fun b u q n _ _=>⟨u.slots,k b u (hb b n) q⟩,fun b u q n _=>by rw[aV (hx b n)];exact n,fun b u q _=>?_,
  fun b xs q=>by rw[aV (hm b _ q fun z=>z)];exact q,fun b u xs q=>by rw[aV (hm b _ q fun z=>z)];exact q,fun b ps q=>⟨#[],by rw[aV (hm b _ q fun z=>z),q];simp⟩⟩
 by_cases hbe:b=e
 ·subst hbe;exact heo
 ·exact⟨u,k b u hbe q⟩
end
abbrev trk(h:Heap)(H:Hp):List Addr:=(List.range h.objs.size).filter fun a=>(H a).isSome
abbrev jR(h:Heap)(H:Hp):Heap:=PySem.W.hideAll h (trk h H)
def wY(h:Heap)(H:Hp):(jR h H).objs.size=h.objs.size:=PySem.W.hideAll_size _ _
def xY{h:Heap}{H:Hp}{b:Addr}{o:Obj}(e:h.get? b=some o)(n:H b=none):(jR h H).get? b=some o :=
 PySem.W.hideAll_get _ e fun hm=>by
  have q:(H b).isSome=true:=(List.mem_filter.mp hm).2;rw[n]at q;simp at q
def Bw{h:Heap}{H:Hp}{b:Addr}{o:Obj}(e:(jR h H).get? b=some o):h.get? b=some o/\H b=none:=by
 have e':h.get? b=some o:=PySem.W.of_hideAll (trk h H) e;refine⟨e',?_⟩
 cases q:H b with
 | none=>rfl
 |some x=>
  have hm:b∈trk h H:=List.mem_filter.mpr ⟨List.mem_range.mpr (Heap.lt_size e'),by simp[q]⟩;have z:(jR h H).get? b=none:=PySem.W.hideAll_none (trk h H) hm;rw[z]at e;cases e
structure Mod(K:PySem.W.Frag)(mg:Str->Option Value)(base:Heap):Prop where
 kin:K.In base
 glob:base.Ns mainGlobals mg
 blt:∃ mb,base.Ns builtinsNs mb/\∀ x:Str,x ≠ "__name__" -> mb x=bootBuiltins x
 nolimit:base.NoLimit
structure Cx where
 prog:Program
 w:World
 K:PySem.W.Frag
 mg:Str->Option Value
 base:Heap
 A:Around
 N:List Str
 s₀:Shared
 H₀:Hp
 env:Env
 outer:List Env
 stack:List Env
 ex:List Addr
 fn:Str->Bool
 calm:Bool
 pn:List (Addr × Obj)
 xe:Value->Shared->Prop
abbrev frs(l:List Env):List Addr:=l.filterMap (·.frame)
@[reducible]noncomputable def Cx.fs(X:Cx):List Addr:=frs X.outer
abbrev Vis(sc:Scope)(x:Str):Prop:=sc.names.lookup x=some .local\/sc.names.lookup x=some .cell\/sc.names.lookup x=some .free
abbrev Loc(sc:Scope)(x:Str):Prop:=sc.names.lookup x=some .local\/sc.names.lookup x=some .cell
abbrev Look(env:Env)(h:Heap)(m:Str->Option Value)(x:Str)(u:Value):Prop :=
 (env.kindOf x=some .local/\m x=some u)\/((env.kindOf x=some .cell\/env.kindOf x=some .free)/\∃ c,env.cells.lookup x=some c/\h.IsCell c (some u))
abbrev HX(X:Cx):Prop:=X.A.handled=none\/∃ h o u vs,X.A.handled=some (.ref h)/\X.H₀ h=some (.frz o u)/\o.data=.fields vs/\vs[2]?=some .none
structure Cx.Ok(X:Cx):Prop where
 mod:Mod X.K X.mg X.base
 kind:X.env.scope.kind=.function
 glob:X.env.globals=mainGlobals
 blt:X.env.builtins=builtinsNs
 above:X.s₀.heap.objs.size<=X.env.locals
 inj:∀ x y c,X.env.cells.lookup x=some c->X.env.cells.lookup y=some c->x=y
 has:∀ x,(X.env.kindOf x=some .cell\/X.env.kindOf x=some .free)->∃ c,X.env.cells.lookup x=some c
 cab:∀ x c,X.fn x=true->X.env.cells.lookup x=some c->X.s₀.heap.objs.size<=c
 hd:(X.calm=true->X.A.handled=none)/\HX X
 frames:X.A.frames=some X.stack
 stk:X.stack=X.outer\/(X.stack=X.env::X.outer/\X.env.frame=some X.env.locals)
 exf:∀ b∈X.ex,b≠X.env.locals/\∀ x c,X.env.cells.lookup x=some c->c≠b
 bs:∀ b o,X.base.get? b=some o->X.s₀.heap.get? b=some o/\X.H₀ b=none
 bsz:X.base.objs.size<=X.s₀.heap.objs.size
 qS:∀ b o,X.base.get? b=some o->b∉X.ex
 sr:∀ b∈X.ex,b∉X.fs
 ie:X.s₀.heap.FunFrames X.base X.outer
 frf:∀ b∈X.fs,X.H₀ b=none
structure Inv(X:Cx)(pins:List (Addr × Obj))(σ:List (Option V))(H:Hp)(s:Shared):Prop where
 ok:X.Ok
 os:s.os=X.s₀.os
 bare:AllBare s.gens
 base:Un X.fs X.ex X.H₀ H X.s₀.heap s.heap
 loc:∃ m,s.heap.Ns X.env.locals m/\∀ (i:Nat) (x:Str) (v:V),X.N[i]?=some x->σ[i]?=some (some v)->Vis X.env.scope x->∃ u,RelV v u/\Look X.env s.heap m x u
 cell:∀ x c,X.env.cells.lookup x=some c->∃ v,s.heap.IsCell c v
 free:H X.env.locals=none
 fF:∀ x c,X.env.cells.lookup x=some c->H c=none
 pin:∀ p∈X.pn++pins,s.heap.get? p.1=some p.2/\H p.1=none/\p.1≠X.env.locals/\p.1∉X.fs/\∀ v,p.2.data≠.cell v
 hok:HOk X.prog X.w H s.heap
 len:σ.length=X.N.length
section
variable{X:Cx}{pins:List (Addr × Obj)}{σ:List (Option V)}{H H':Hp}{s:Shared}{h':Heap}
def Cx.Ok.GH(ok:X.Ok){b:Addr}{o:Obj}(e:X.base.get? b=some o):b∉X.fs:=fun hb=>by
 have:=(ok.ie.mem hb).1;rw[e]at this;cases this
def Inv.bs(I:Inv X pins σ H s):∀ b o,X.base.get? b=some o->s.heap.get? b=some o/\H b=none:=fun b o e =>
 ⟨I.base.keep b o (I.ok.bs b o e).1 (I.ok.bs b o e).2 (I.ok.GH e) (I.ok.qS b o e),I.base.free b o (I.ok.bs b o e).1 (I.ok.bs b o e).2 (I.ok.qS b o e)⟩
def Inv.bk(I:Inv X pins σ H s):∀ b o,X.base.get? b=some o->s.heap.get? b=some o:=fun b o e=>(I.bs b o e).1
def Inv.mod(I:Inv X pins σ H s):Mod X.K X.mg X.base:=I.ok.mod
def Inv.kIn(I:Inv X pins σ H s):X.K.In s.heap:=I.ok.mod.kin.keeps I.bk
def Inv.lt(I:Inv X pins σ H s):X.env.locals<s.heap.objs.size:=let ⟨_,hn,_⟩:=I.loc;hn.lt
def Inv.sz(I:Inv X pins σ H s):X.s₀.heap.objs.size<=s.heap.objs.size:=Nat.le_trans I.ok.above (Nat.le_of_lt I.lt)
def Inv.Hj(I:Inv X pins σ H s){a:Addr}(h:s.heap.objs.size<=a):a∉X.fs:=fun hb=>by
 obtain⟨_,o,ho,_⟩:=I.ok.ie.mem hb;exact absurd (Nat.lt_of_lt_of_le (Heap.lt_size ho) (Nat.le_trans I.sz h)) (Nat.lt_irrefl _)
def Inv.cne(I:Inv X pins σ H s):∀ x c,X.env.cells.lookup x=some c->c≠X.env.locals:=fun x c e z=>by
 obtain⟨v,o,ho,hd⟩:=I.cell x c e;obtain⟨m,⟨o',es,ep,ho',hd',_⟩,_⟩:=I.loc;rw[z,ho']at ho;cases ho;rw[hd']at hd;cases hd
def Inv.ie(I:Inv X pins σ H s):s.heap.FunFrames X.base X.outer:=by
 have all:∀ (l:List Env),(∀ b∈frs l,b∈X.fs)->X.s₀.heap.FunFrames X.base l->s.heap.FunFrames X.base l:=by
  intro l
  induction l with
  | nil=>intro _ _;trivial
  |cons env r ih=>
   intro hs hl;obtain⟨hk,⟨L,o,hf,hn,ho,hd⟩,hr⟩:=hl;have hL:L∈X.fs:=hs L (by unfold frs;rw[List.filterMap_cons,hf];exact List.mem_cons_self);obtain⟨sl,e⟩:=I.base.slot L o ho (I.ok.frf L hL) hL fun z=>I.ok.sr L z hL;exact⟨hk,⟨L,_,hf,hn,e,hd⟩,ih (fun b hb=>hs b (by unfold frs;rw[List.filterMap_cons,hf];exact List.mem_cons_of_mem _ hb)) hr⟩
 exact all X.outer (fun _ hb=>hb) I.ok.ie
def Inv.stack(I:Inv X pins σ H s):s.heap.FunFrames X.base X.stack:=by
 rcases I.ok.stk with e | ⟨e,hf⟩
 ·rw[e];exact I.ie
 ·rw[e];obtain⟨m,hn,_⟩:=I.loc;refine .cons (by rw[I.ok.kind];decide) hf hn ?_ I.ie;exact Heap.get?_none_of_le (Nat.le_trans I.ok.bsz I.ok.above)
def Inv.qr(I:Inv X pins σ H s):∀ b∈frs X.stack,b∈X.env.locals::X.fs:=fun b hb=>by
 rcases I.ok.stk with e | ⟨e,hf⟩
 ·rw[e]at hb;exact List.mem_cons_of_mem _ hb
 ·rw[e]at hb;unfold frs at hb;rw[List.filterMap_cons,hf]at hb;exact hb
def Inv.um(I:Inv X pins σ H s):∀ b∈frs X.stack,H b=none:=fun b hb=>by
 rcases List.mem_cons.mp (I.qr b hb)with e | hb
 ·rw[e];exact I.free
 ·obtain⟨_,o,ho,_⟩:=I.ok.ie.mem hb;exact I.base.free b o ho (I.ok.frf b hb) fun z=>I.ok.sr b z hb
def Inv.step{g':Array GenState}{t':Nat}{d':Drawn}{ch:List Addr}(I:Inv X pins σ H s)
 (hch:∀ b∈ch,(b∈X.ex\/X.s₀.heap.objs.size<=b)/\b≠X.env.locals/\(∀ x c,X.env.cells.lookup x=some c->c≠b)/\∀ p∈X.pn++pins,p.1≠b)
 (keep:∀ b o,b≠X.env.locals->b∉X.fs->b∉ch->s.heap.get? b=some o->H b=none->h'.get? b=some o)
 (slot:∀ b o,b≠X.env.locals->b∈X.fs->b∉ch->s.heap.get? b=some o->H b=none->∃ sl,h'.get? b=some { o with slots:=sl })(free:∀ b o,b∉ch->s.heap.get? b=some o->H b=none->H' b=none)
 (there:∀ b o,b∉ch->s.heap.get? b=some o->∃ o',h'.get? b=some o')
 (kF:∀ b xs,H b=some (.tup xs)->H' b=some (.tup xs))(iS:∀ b o u,H b=some (.frz o u)->H' b=some (.frz o u))(kr:∀ b ps,H b=some (.tbl ps)->∃ more,H' b=some (.tbl (ps++more)))
 (ns:∀ m,s.heap.Ns X.env.locals m->h'.Ns X.env.locals m)(hok:HOk X.prog X.w H' h')(hg:AllBare g') :
  Inv X pins σ H' { s with heap:=h',gens:=g',drawn:=d',toks:=t' }:=by
 have neL:∀ b o,X.s₀.heap.get? b=some o->b≠X.env.locals:=fun b o e=>Nat.ne_of_lt (Nat.lt_of_lt_of_le (Heap.lt_size e) I.ok.above)
 have neC:∀ b o,X.s₀.heap.get? b=some o->b∉X.ex->b∉ch:=fun b o e hx hb=>by
  rcases(hch b hb).1 with z | z
  ·exact hx z
  ·exact absurd (Nat.lt_of_lt_of_le (Heap.lt_size e) z) (Nat.lt_irrefl _)
 have cellK:∀ x c,X.env.cells.lookup x=some c->∀ v,s.heap.IsCell c v->h'.IsCell c v:=fun x c e v ⟨o,ho,hd⟩=>by
  have nch:c∉ch:=fun z=>(hch c z).2.2.1 x c e rfl;by_cases hc:c∈X.fs
  ·obtain⟨sl,q⟩:=slot c o (I.cne x c e) hc nch ho (I.fF x c e);exact⟨_,q,hd⟩
  ·exact⟨o,keep c o (I.cne x c e) hc nch ho (I.fF x c e),hd⟩
 refine⟨I.ok,I.os,hg,⟨fun b o e n hb hx=>?_,fun b o e n hb hx=>?_,fun b o e n hx=>?_,fun b o e hx=>?_,fun b xs e=>kF b xs (I.base.kF b xs e),fun b o xs e=>iS b o xs (I.base.iS b o xs e),fun b ps e=>?_⟩,?_,fun x c e=>?_,?_,fun x c e=>?_,fun p hp=>?_,hok,I.len⟩
 ·exact keep b o (neL b o e) hb (neC b o e hx) (I.base.keep b o e n hb hx) (I.base.free b o e n hx)
 ·obtain⟨sl,e1⟩:=I.base.slot b o e n hb hx;obtain⟨sl',e2⟩:=slot b _ (neL b o e) hb (neC b o e hx) e1 (I.base.free b o e n hx);exact⟨sl',e2⟩
 ·obtain⟨o',e1⟩:=I.base.there b o e hx;exact free b o' (neC b o e hx) e1 (I.base.free b o e n hx)
 ·obtain⟨o',e1⟩:=I.base.there b o e hx;exact there b o' (neC b o e hx) e1
 ·obtain⟨m1,e1⟩:=I.base.kr b ps e;obtain⟨m2,e2⟩:=kr b _ e1;exact⟨m1++m2,by rw[e2,Array.append_assoc]⟩
 ·obtain⟨m,hn,hl⟩:=I.loc;refine⟨m,ns m hn,fun i x v e1 e2 e3=>?_⟩;obtain⟨u,r,l⟩:=hl i x v e1 e2 e3;refine⟨u,r,?_⟩
  rcases l with l | ⟨k,c,e,z⟩
  ·exact .inl l
  ·exact .inr ⟨k,c,e,cellK x c e _ z⟩
 ·obtain⟨v,z⟩:=I.cell x c e;exact⟨v,cellK x c e v z⟩
 ·obtain⟨m,⟨o,_,_,ho,_⟩,_⟩:=I.loc;exact free _ o (fun z=>(hch _ z).2.1 rfl) ho I.free
 ·obtain⟨v,o,ho,hd⟩:=I.cell x c e;exact free c o (fun z=>(hch c z).2.2.1 x c e rfl) ho (I.fF x c e)
 ·obtain⟨e,n,ne,nf,d⟩:=I.pin p hp;have nch:p.1∉ch:=fun z=>(hch p.1 z).2.2.2 p hp rfl;exact⟨keep p.1 p.2 ne nf nch e n,free p.1 p.2 nch e n,ne,nf,d⟩
def Inv.un{t':Nat}(I:Inv X pins σ H s)(u:Un X.fs [] H H' s.heap h')(hok:HOk X.prog X.w H' h'):Inv X pins σ H' { s with heap:=h',toks:=t' }:=by
 obtain⟨m,⟨o,es,ep,ho,r⟩,_⟩:=id I.loc;obtain⟨sl,hL⟩:=u.any ho I.free (by simp)
 exact I.step (g':=s.gens) (d':=s.drawn) (ch:=[]) (fun _ z=>nomatch z) (fun b o _ hb _ e n=>u.keep b o e n hb (by simp)) (fun b o _ hb _ e n=>u.slot b o e n hb (by simp)) (fun b o _ e n=>u.free b o e n (by simp)) (fun b o _ e=>u.there b o e (by simp)) u.kF u.iS u.kr (fun m' hm=>by
  obtain⟨o',es',ep',ho',r'⟩:=hm;rw[ho]at ho';cases ho'
  exact⟨_,es',ep',hL,r'⟩) hok I.bare
def Inv.call{g':Array GenState}{t':Nat}{d':Drawn}{ch:List Addr}(I:Inv X pins σ H s)(u:Un (frs X.stack) ch H H' s.heap h')(hok:HOk X.prog X.w H' h')(hg:AllBare g')
 (hch:∀ b∈ch,(b∈X.ex\/X.s₀.heap.objs.size<=b)/\b≠X.env.locals/\(∀ x c,X.env.cells.lookup x=some c->c≠b)/\∀ p∈X.pn++pins,p.1≠b) :
  Inv X pins σ H' { s with heap:=h',gens:=g',drawn:=d',toks:=t' }:=by
 obtain⟨m,⟨o,es,ep,ho,r⟩,_⟩:=id I.loc;obtain⟨sl,hL⟩:=u.any ho I.free fun z=>(hch _ z).2.1 rfl
 exact I.step (ch:=ch) hch (fun b o hL hb hc e n=>u.keep b o e n (fun z=>(List.mem_cons.mp (I.qr b z)).elim hL hb) hc) (fun b o _ _ hc e n=>u.any e n hc) (fun b o hc e n=>u.free b o e n hc) (fun b o hc e=>u.there b o e hc) u.kF u.iS u.kr (fun m' hm=>by
  obtain⟨o',es',ep',ho',r'⟩:=hm;rw[ho]at ho';cases ho'
  exact⟨_,es',ep',hL,r'⟩) hok hg
def Inv.turned{t':Nat}{it:Addr}(I:Inv X pins σ H s)(k:∀ b o,b≠it->s.heap.get? b=some o->h'.get? b=some o)(hn:H it=none)(hL:it≠X.env.locals)
 (h1:it∈X.ex\/X.s₀.heap.objs.size<=it)(h2:∀ x c,X.env.cells.lookup x=some c->c≠it)(h3:∀ p∈X.pn++pins,p.1≠it):Inv X pins σ H { s with heap:=h',toks:=t' }:=by
 have nit:∀ b u,H b=some u->b≠it:=fun b u e z=>by rw[z,hn]at e;cases e
 refine I.step (g':=s.gens) (d':=s.drawn) (ch:=[it]) (fun b hb=>?_) (fun b o _ _ hc e _=>k b o (fun z=>hc (by simp[z])) e) (fun b o _ _ hc e _=>⟨o.slots,k b o (fun z=>hc (by simp[z])) e⟩) (fun _ _ _ _ n=>n)
  (fun b o hc e=>⟨o,k b o (fun z=>hc (by simp[z])) e⟩) (fun _ _ e=>e) (fun _ _ _ e=>e) (fun b ps e=>⟨#[],by rw[e];simp⟩) (fun m hm=>?_) (fun b u e=>?_) I.bare
 ·have e:b=it:=by simpa using hb
  subst e;exact⟨h1,hL,h2,h3⟩
 ·obtain⟨o,es,ep,ho,r⟩:=hm;exact⟨o,es,ep,k _ o (Ne.symm hL) ho,r⟩
 ·refine(I.hok b u e).oY (fun c v hc q=>k c v ?_ q) (fun _ q=>q) fun _ _ q=>q;rcases hc with z | z
  ·rw[z];exact nit b u e
  ·exact nit c _ z
def Inv.tok(I:Inv X pins σ H s)(t:Nat):Inv X pins σ H { s with toks:=t }:=I.un (h':=s.heap) (t':=t) Un.refl I.hok
def Inv.kept{t':Nat}(I:Inv X pins σ H s)(k:∀ b u,s.heap.get? b=some u->h'.get? b=some u):Inv X pins σ H { s with heap:=h',toks:=t' }:=I.un (Un.kept k) (I.hok.kept k)
def Inv.laid{a:Addr}{o:HO}{t':Nat}(I:Inv X pins σ H s)(k:∀ b u,s.heap.get? b=some u->h'.get? b=some u)(hp:s.heap.objs.size<=a)(new:bA X.prog X.w (upd H a o) h' a o) :
  Inv X pins σ (upd H a o) { s with heap:=h',toks:=t' }:=I.un (Un.laid k hp (I.hok.fresh hp)) (I.hok.laid k hp new)
def Inv.write{x e:Addr}{o:HO}{t':Nat}(I:Inv X pins σ H s)(mu:Mut (H x))(he:e=x\/H e=some (.own x))(k:∀ b u,b≠e->s.heap.get? b=some u->h'.get? b=some u)(heo:∃ u,h'.get? e=some u)
 (new:bA X.prog X.w (upd H x o) h' x o):Inv X pins σ (upd H x o) { s with heap:=h',toks:=t' }:=I.un (Un.write mu he k heo) (I.hok.write mu he k heo new)
def Inv.weak{σ':List (Option V)}(I:Inv X pins σ H s)(hl:σ'.length=σ.length)(w:∀ (i:Nat) v,σ'[i]?=some (some v)->σ[i]?=some (some v)):Inv X pins σ' H s :=
 ⟨I.ok,I.os,I.bare,I.base,let ⟨m,hn,hl'⟩:=I.loc;⟨m,hn,fun i x v e1 e2 e3=>hl' i x v e1 (w i v e2) e3⟩,I.cell,I.free,I.fF,I.pin,I.hok,hl.trans I.len⟩
def Inv.tY{pins':List (Addr × Obj)}(I:Inv X pins σ H s)(h:∀ p∈pins',s.heap.get? p.1=some p.2/\H p.1=none/\p.1≠X.env.locals/\p.1∉X.fs/\∀ v,p.2.data≠.cell v):Inv X pins' σ H s :=
 ⟨I.ok,I.os,I.bare,I.base,I.loc,I.cell,I.free,I.fF,fun p hp=>(List.mem_append.mp hp).elim (fun z=>I.pin p (List.mem_append_left _ z)) (h p),I.hok,I.len⟩
def q0{N:List Str}(hN:N.Nodup){i j:Nat}{x:Str}(a:N[i]?=some x)(b:N[j]?=some x):i=j:=by
 obtain⟨h1,e1⟩:=List.getElem?_eq_some_iff.mp a;obtain⟨h2,e2⟩:=List.getElem?_eq_some_iff.mp b;exact(List.getElem_inj hN).mp (e1.trans e2.symm)
def pb{M:Model}{A:Around}{E:Value->Shared->Prop}{i:Nat}{x:Str}{v:V}{u:Value}{Q:Unit->Shared->Prop}(I:Inv X pins σ H s)(hN:X.N.Nodup)(hi:X.N[i]?=some x)(hx:Loc X.env.scope x)(r:RelV v u)
 (h:∀ s',Inv X pins (σ.set i (some v)) H s'->(∃ a,Heap.SameBut a s.heap s'.heap/\(a=X.env.locals\/X.env.cells.lookup x=some a))->Q () s')(hf:X.fn x=true\/X.env.scope.names.lookup x=some .local:=by first | exact .inl rfl | exact .inr rfl | assumption):wpAny M A (storeName X.env x u) Q E s:=by
 obtain⟨m,hn,hl⟩:=id I.loc
 have hcls:(X.env.scope.kind == .class || (X.env.scope.kind == .module&&X.env.locals != X.env.globals))=false:=by rw[I.ok.kind];rfl
 have hiσ:i<σ.length:=by rw[I.len];exact(List.getElem?_eq_some_iff.mp hi).1
 have cne:=I.cne
 have tracked:∀ {a:Addr} {h':Heap},(∃ o,s.heap.get? a=some o/\H a=none)->Heap.SameBut a s.heap h'->HOk X.prog X.w H h':=fun {a h'} ha hs b ob e=>by
  obtain⟨_,_,hfree⟩:=ha;refine(I.hok b ob e).oY (fun c w' hc q=>(hs.2 c ?_).trans q) (fun _ q=>q) fun _ _ q=>q;rintro rfl;rcases hc with rfl | hc
  ·rw[hfree]at e;cases e
  ·rw[hfree]at hc;cases hc
 rcases hx with hk | hk
 ·refine wpAny_storeName_local hk hn (fun h' hn' hs=>?_) hcls;obtain⟨oL,_,_,hoL,_⟩:=id hn;refine h _ ⟨I.ok,I.os,I.bare,⟨fun b o e n hb hx=>?_,fun b o e n hb hx=>?_,I.base.free,fun b o e hx=>?_,I.base.kF,I.base.iS,I.base.kr⟩,⟨_,hn',fun j y v' e1 e2 e3=>?_⟩,fun y c e=>?_,I.free,I.fF,fun p hp=>?_,tracked ⟨oL,hoL,I.free⟩ hs,by simpa using I.len⟩ ⟨_,hs,.inl rfl⟩
  ·exact(hs.2 b (Nat.ne_of_lt (Nat.lt_of_lt_of_le (Heap.lt_size e) I.ok.above))).trans (I.base.keep b o e n hb hx)
  ·obtain⟨sl,e1⟩:=I.base.slot b o e n hb hx;exact⟨sl,(hs.2 b (Nat.ne_of_lt (Nat.lt_of_lt_of_le (Heap.lt_size e) I.ok.above))).trans e1⟩
  ·obtain⟨o',e1⟩:=I.base.there b o e hx;exact⟨o',(hs.2 b (Nat.ne_of_lt (Nat.lt_of_lt_of_le (Heap.lt_size e) I.ok.above))).trans e1⟩
  ·by_cases hj:j=i
   ·subst hj;rw[hi]at e1;cases e1;rw[List.getElem?_set_self hiσ]at e2;cases e2;exact⟨u,r,.inl ⟨hk,by simp⟩⟩
   ·rw[List.getElem?_set_ne (Ne.symm hj)]at e2;obtain⟨u',r',q⟩:=hl j y v' e1 e2 e3;refine⟨u',r',?_⟩
    rcases q with⟨k,e⟩ | ⟨k,c,e,z⟩
    ·refine .inl ⟨k,?_⟩;have:y≠x:=fun e=>hj (q0 hN e1 (e▸hi));simp[this,e]
    ·exact .inr ⟨k,c,e,z.sameBut hs (cne y c e)⟩
  ·obtain⟨w',z⟩:=I.cell y c e;exact⟨w',z.sameBut hs (cne y c e)⟩
  ·obtain⟨e,n,ne,nf,d⟩:=I.pin p hp;exact⟨(hs.2 p.1 ne).trans e,n,ne,nf,d⟩
 ·have hfn:X.fn x=true:=by
   rcases hf with z | z
   ·exact z
   ·rw[z]at hk;cases hk
  obtain⟨c,hc⟩:=I.ok.has x (.inl hk);obtain⟨w',z⟩:=I.cell x c hc;refine wpAny_storeName_cell I.ok.kind hk hc z (fun h' hc' hs=>?_);obtain⟨oc,hoc,hocd⟩:=id z;refine h { s with heap:=h' } ⟨I.ok,I.os,I.bare,⟨fun b o e n hb hx=>?_,fun b o e n hb hx=>?_,I.base.free,fun b o e hx=>?_,I.base.kF,I.base.iS,I.base.kr⟩,⟨m,hn.sameBut hs (Ne.symm (cne x c hc)),fun j y v' e1 e2 e3=>?_⟩,fun y c' e=>?_,I.free,I.fF,fun p hp=>?_,tracked ⟨oc,hoc,I.fF x c hc⟩ hs,by simpa using I.len⟩ ⟨c,hs,.inr hc⟩
  ·exact(hs.2 b (Nat.ne_of_lt (Nat.lt_of_lt_of_le (Heap.lt_size e) (I.ok.cab x c hfn hc)))).trans (I.base.keep b o e n hb hx)
  ·obtain⟨sl,e1⟩:=I.base.slot b o e n hb hx;exact⟨sl,(hs.2 b (Nat.ne_of_lt (Nat.lt_of_lt_of_le (Heap.lt_size e) (I.ok.cab x c hfn hc)))).trans e1⟩
  ·obtain⟨o',e1⟩:=I.base.there b o e hx;exact⟨o',(hs.2 b (Nat.ne_of_lt (Nat.lt_of_lt_of_le (Heap.lt_size e) (I.ok.cab x c hfn hc)))).trans e1⟩
  ·by_cases hj:j=i
   ·subst hj;rw[hi]at e1;cases e1;rw[List.getElem?_set_self hiσ]at e2;cases e2;exact⟨u,r,.inr ⟨.inl hk,c,hc,hc'⟩⟩
   ·rw[List.getElem?_set_ne (Ne.symm hj)]at e2;obtain⟨u',r',q⟩:=hl j y v' e1 e2 e3;refine⟨u',r',?_⟩
    rcases q with q | ⟨k,c',e,z'⟩
    ·exact .inl q
    ·refine .inr ⟨k,c',e,z'.sameBut hs ?_⟩;rintro rfl;exact hj (q0 hN e1 (I.ok.inj _ _ _ e hc▸hi))
  ·by_cases hcc:c'=c
   ·subst hcc;exact⟨_,hc'⟩
   ·obtain⟨w2,z2⟩:=I.cell y c' e;exact⟨w2,z2.sameBut hs hcc⟩
  ·obtain⟨e,n,ne,nf,d⟩:=I.pin p hp;refine⟨(hs.2 p.1 ?_).trans e,n,ne,nf,d⟩;intro q;rw[q,hoc]at e;have q':oc=p.2:=Option.some.inj e;exact d w' (by rw[<-q'];exact hocd)
def i6{M:Model}{A:Around}{E:Value->Shared->Prop}{i:Nat}{x:Str}{v:V}{u:Value}{Q:Unit->Shared->Prop}(I:Inv X pins σ H s)(hN:X.N.Nodup)(hi:X.N[i]?=some x)(hx:Loc X.env.scope x)(r:RelV v u)
 (h:∀ s',Inv X pins (σ.set i (some v)) H s'->Q () s')(hf:X.fn x=true\/X.env.scope.names.lookup x=some .local:=by first | exact .inl rfl | exact .inr rfl | assumption):wpAny M A (storeName X.env x u) Q E s :=
 pb I hN hi hx r (fun s' I' _=>h s' I') hf
def Inv.AD{s':Shared}{ch:List Addr}(I:Inv X pins σ H s)(ho:s'.os=s.os)(u:Un (frs X.stack) ch H H' s.heap s'.heap)(hok:HOk X.prog X.w H' s'.heap)(hg:AllBare s'.gens)
 (hch:∀ b∈ch,(b∈X.ex\/X.s₀.heap.objs.size<=b)/\b≠X.env.locals/\(∀ x c,X.env.cells.lookup x=some c->c≠b)/\∀ p∈X.pn++pins,p.1≠b):Inv X pins σ H' s':=by
 obtain⟨h',g',d',t',o'⟩:=s';have e:o'=s.os:=ho;subst e;exact I.call (g':=g') (t':=t') (d':=d') u hok hg hch
end
@[reducible]noncomputable def XK:=Value->Option Addr->Hp->Prop
@[reducible]noncomputable def St:=List (Option V)
@[reducible]noncomputable def VK:=V->Hp->Prop
@[reducible]noncomputable def TE:=St->Hp->VK->Prop
@[reducible]noncomputable def TT:=St->Hp->(Bool->Hp->Prop)->Prop
@[reducible]noncomputable def TA:=St->Hp->(List V->Hp->Prop)->Prop
structure Ends where
 nx:St->Hp->Prop
 rt:VK
 bk:St->Hp->Prop:=fun _ _=>False
 ct:St->Hp->Prop:=fun _ _=>False
@[reducible]noncomputable def TS:=Ends->St->Hp->Prop
abbrev EP(X:Cx)(pins:List (Addr × Obj))(σ:St)(Q:VK)(u:Value)(s':Shared):Prop:=∃ v H',Inv X pins σ H' s'/\RelV v u/\Q v H'
abbrev TP(X:Cx)(pins:List (Addr × Obj))(σ:St)(Q:Bool->Hp->Prop)(b:Bool)(s':Shared):Prop:=∃ H',Inv X pins σ H' s'/\Q b H'
abbrev AP(X:Cx)(pins:List (Addr × Obj))(σ:St)(Q:List V->Hp->Prop)(us:List Value)(s':Shared):Prop:=∃ vs H',Inv X pins σ H' s'/\Vals vs us/\Q vs H'
abbrev SP(X:Cx)(pins:List (Addr × Obj))(D:Ends)(f:Flow)(s':Shared):Prop :=
 match f with
 | .next=>∃ σ' H',Inv X pins σ' H' s'/\D.nx σ' H'
 | .brk=>∃ σ' H',Inv X pins σ' H' s'/\D.bk σ' H'
 | .cont=>∃ σ' H',Inv X pins σ' H' s'/\D.ct σ' H'
 | .ret u=>∃ v σ' H',Inv X pins σ' H' s'/\RelV v u/\D.rt v H'
abbrev PE(X:Cx)(e:Expr)(t:TE):Prop :=
 ∀ (pins:List (Addr × Obj)) (s:Shared) (σ:St) (H:Hp) (Q:VK),Inv X pins σ H s->t σ H Q->wpAny (model X.prog X.w) X.A (eval e X.env) (EP X pins σ Q) X.xe s
abbrev PT(X:Cx)(e:Expr)(t:TT):Prop :=
 ∀ (pins:List (Addr × Obj)) (s:Shared) (σ:St) (H:Hp) (Q:Bool->Hp->Prop),Inv X pins σ H s->t σ H Q->wpAny (model X.prog X.w) X.A (isTrue e X.env (eval e X.env)) (TP X pins σ Q) X.xe s
abbrev PW(X:Cx)(e:Expr)(t:TT):Prop :=
 ∀ (whole:Sem Value) (pins:List (Addr × Obj)) (s:Shared) (σ:St) (H:Hp) (Q:Bool->Hp->Prop),Inv X pins σ H s->t σ H Q->wpAny (model X.prog X.w) X.A (isTrue e X.env whole) (TP X pins σ Q) X.xe s
def PW.pt{X:Cx}{e:Expr}{t:TT}(h:PW X e t):PT X e t:=h _
abbrev PA(X:Cx)(es:List Expr)(t:TA):Prop :=
 ∀ (pos:Pos) (pins:List (Addr × Obj)) (s:Shared) (σ:St) (H:Hp) (Q:List V->Hp->Prop),Inv X pins σ H s->t σ H Q->wpAny (model X.prog X.w) X.A (spliced (backTo pos (starEach es X.env))) (AP X pins σ Q) X.xe s
abbrev PS(X:Cx)(st:Stmt)(t:TS):Prop :=
 ∀ (pins:List (Addr × Obj)) (s:Shared) (σ:St) (H:Hp) (D:Ends),Inv X pins σ H s->t D σ H->wpAny (model X.prog X.w) X.A (exec st X.env) (SP X pins D) X.xe s
abbrev PSs(X:Cx)(st:List Stmt)(t:TS):Prop :=
 ∀ (pins:List (Addr × Obj)) (s:Shared) (σ:St) (H:Hp) (D:Ends),Inv X pins σ H s->t D σ H->wpAny (model X.prog X.w) X.A (execs st X.env) (SP X pins D) X.xe s
def thn{α:Type}{t:Sem α}{Q Q':α->Shared->Prop}{M:Model}{A:Around}{E:Value->Shared->Prop}{s:Shared}(h:wpAny M A t Q E s)(hQ:∀ a s,Q a s->Q' a s):wpAny M A t Q' E s:=wpAny_mono h hQ fun _ _ x=>x
section
variable{X:Cx}
abbrev jM(i:Nat):TE:=fun σ H Q=>∃ v,σ[i]?=some (some v)/\Q v H
abbrev tC(v:V):TE:=fun _ H Q=>Q v H
def iw{i:Nat}{x:Str}{pos:Pos}(hN:X.N[i]?=some x)(hv:Vis X.env.scope x)(hd:(x == ("__debug__" : Str))=false:=by decide)(hcd:(x == ("__classdict__" : Str))=false:=by decide):PE X (.Name x pos) (jM i):=by
 intro pins s σ H Q I h;obtain⟨v,e,h⟩:=h;obtain⟨m,hn,hl⟩:=I.loc;obtain⟨u,r,l⟩:=hl i x v hN e hv
 have fin:EP X pins σ Q u s:=⟨v,H,I,r,h⟩
 rcases l with⟨hk,hm⟩ | ⟨hk,c,hc,hcell⟩
 ·exact wpAny_Name (wpAny_loadName_local I.ok.kind hk hn hm fin) hd
 ·rcases hk with hk | hk
  ·exact wpAny_Name (wpAny_loadName_cell I.ok.kind hk hc hcell fin) hd
  ·exact wpAny_Name (wpAny_loadName_free I.ok.kind hk hc hcell fin hcd) hd
def qC{i j pos}:PE X (.Constant (.int i) j pos) (tC (.int i)):=fun _ _ _ H _ I h=>wpAny_Constant_int ⟨.int i,H,I.tok _,⟨_,rfl⟩,h⟩
def FR{b j pos}:PE X (.Constant (.bool b) j pos) (tC (.bl b)):=fun _ _ _ H _ I h=>Constant_bool ⟨.bl b,H,I,rfl,h⟩
def EM{j pos}:PE X (.Constant .none j pos) (tC .non):=fun _ _ _ H _ I h=>Constant_none ⟨.non,H,I,rfl,h⟩
def F1{x j pos}:PE X (.Constant (.str x) j pos) (tC (.str x)):=fun _ _ _ H _ I h=>Calls.Constant_str ⟨.str x,H,I.tok _,⟨_,rfl⟩,h⟩
abbrev Gl(X:Cx)(x:Str):Prop:=X.env.kindOf x=some .globalImplicit
def tV{E:Value->Shared->Prop}{pins:List (Addr × Obj)}{s:Shared}{σ:St}{H:Hp}{x:Str}{u:Value}{pos:Pos}{Q:Value->Shared->Prop}(I:Inv X pins σ H s)(hg:Gl X x)(hm:X.mg x=some u)(h:Q u s)
 (hd:(x == ("__debug__" : Str))=false:=by decide):wpAny (model X.prog X.w) X.A (eval (.Name x pos) X.env) Q E s :=
 Calls.Name_function_global I.ok.kind hg (Calls.loadGlobal_global (by rw[I.ok.glob];exact I.mod.glob.keeps I.bk) hm h) hd
def j0{E:Value->Shared->Prop}{pins:List (Addr × Obj)}{s:Shared}{σ:St}{H:Hp}{x:Str}{u:Value}{pos:Pos}{Q:Value->Shared->Prop}(I:Inv X pins σ H s)(hg:Gl X x)(hm:X.mg x=none)(hv:bootBuiltins x=some u)(h:Q u s)
 (hn:x ≠ "__name__" := by decide)(hd:(x == ("__debug__" : Str))=false:=by decide):wpAny (model X.prog X.w) X.A (eval (.Name x pos) X.env) Q E s:=by
 obtain⟨mb,h1,h2⟩:=I.mod.blt;exact Calls.Name_function_global I.ok.kind hg (Calls.loadGlobal_builtin (by rw[I.ok.glob];exact I.mod.glob.keeps I.bk) hm (by rw[I.ok.blt];exact h1.keeps I.bk) ((h2 x hn).trans hv) h) hd
def BA{x:Str}{v:V}{u:Value}{pos:Pos}(hg:Gl X x)(hm:X.mg x=some u)(r:RelV v u)(hd:(x == ("__debug__" : Str))=false:=by decide):PE X (.Name x pos) (tC v) :=
 fun _ _ _ H _ I h=>tV I hg hm ⟨v,H,I,r,h⟩ hd
def BO{x:Str}{v:V}{u:Value}{pos:Pos}(hg:Gl X x)(hm:X.mg x=none)(hv:bootBuiltins x=some u)(r:RelV v u)(hn:x ≠ "__name__" := by decide)(hd:(x == ("__debug__" : Str))=false:=by decide):PE X (.Name x pos) (tC v) :=
 fun _ _ _ H _ I h=>j0 I hg hm hv ⟨v,H,I,r,h⟩ hn hd
variable{a b:Expr}{ta tb:TE}{pos:Pos}
abbrev PC(X:Cx)(op:CmpOp)(a b:Expr)(t:TE):Prop :=
 ∀ (pins:List (Addr × Obj)) (s:Shared) (σ:St) (H:Hp) (Q:VK),Inv X pins σ H s->t σ H Q ->
  wpAny (model X.prog X.w) X.A (eval a X.env) (fun v s₁=>wpAny (model X.prog X.w) X.A (eval b X.env) (fun u s₂=>wpAny (model X.prog X.w) X.A (compareOp op v u) (EP X pins σ Q) X.xe s₂) X.xe s₁) X.xe s
abbrev tB(t:TE):TT:=fun σ H Q=>t σ H fun x H1=>∃ c,x=.bl c/\Q c H1
def EW{op:CmpOp}{t:TE}(h:PC X op a b t)(h1:behindInMarks op b=false:=by first | exact nobehind _ (by decide) (by decide) | rfl):PE X (.Compare a [op] [b] pos) t:=fun pins s σ H Q I hw=>wpAny_Compare1 (h pins s σ H Q I hw) h1
def Df{op:CmpOp}{t:TE}(h:PC X op a b t)(h1:behindInMarks op b=false:=by first | exact nobehind _ (by decide) (by decide) | rfl):PT X (.Compare a [op] [b] pos) (tB t):=by
 intro pins s σ H Q I hw;refine wpAny_isTrue_Compare1 (thn (h pins s σ H _ I hw) fun v s1 h1=>thn h1 fun u s2 h2=>thn h2 fun c s3 ⟨x,H1,I1,r1,q1⟩=>?_) h1;obtain⟨d,rfl,q⟩:=q1;cases r1;exact wpAny_truthy_bool ⟨H1,I1,q⟩
variable{tA tB':TT}{rest:List Expr}
abbrev GO(t u:TT):TT:=fun σ H Q=>t σ H fun c H1=>if c=true then u σ H1 Q else Q false H1
abbrev tOr(t u:TT):TT:=fun σ H Q=>t σ H fun c H1=>if c=true then Q true H1 else u σ H1 Q
abbrev Hx(t:TT):TT:=fun σ H Q=>t σ H fun c H1=>Q (!c) H1
def BZ(ha:PT X a tA):PW X (.BoolOp .And [a] pos) tA:=by
 intro wh pins s σ H Q I h;refine isTrue_and (thn (ha pins s σ H Q I h) fun c s1 e=>?_)
 cases c with
 | true=>exact isTrue_and_nil e
 | false=>exact e
def Dw(ha:PT X a tA):PW X (.BoolOp .Or [a] pos) tA:=by
 intro wh pins s σ H Q I h;refine isTrue_or (thn (ha pins s σ H Q I h) fun c s1 e=>?_)
 cases c with
 | false=>exact isTrue_or_nil e
 | true=>exact e
def EO(ha:PT X a tA)(hb:PW X (.BoolOp .And (b::rest) pos) tB'):PW X (.BoolOp .And (a::b::rest) pos) (GO tA tB'):=by
 intro wh pins s σ H Q I h;refine isTrue_and (thn (ha pins s σ H _ I h) fun c s1 ⟨H1,I1,q1⟩=>?_)
 cases c with
 | true=>exact hb wh pins s1 σ H1 Q I1 q1
 | false=>exact⟨H1,I1,q1⟩
def G1(ha:PT X a tA)(hb:PW X (.BoolOp .Or (b::rest) pos) tB'):PW X (.BoolOp .Or (a::b::rest) pos) (tOr tA tB'):=by
 intro wh pins s σ H Q I h;refine isTrue_or (thn (ha pins s σ H _ I h) fun c s1 ⟨H1,I1,q1⟩=>?_)
 cases c with
 | true=>exact⟨H1,I1,q1⟩
 | false=>exact hb wh pins s1 σ H1 Q I1 q1
def EG(ha:PT X a tA):PT X (.UnaryOp .Not a pos) (Hx tA):=by
 intro pins s σ H Q I h;exact isTrue_not (ha pins s σ H (fun c H1=>Q (!c) H1) I h)
abbrev Gb(ta tb:TE):TE:=fun σ H Q=>ta σ H fun x H1=>∃ c,x=.bl c/\if c=true then tb σ H1 Q else Q (.bl false) H1
abbrev Hd(ta tb:TE):TE:=fun σ H Q=>ta σ H fun x H1=>∃ c,x=.bl c/\if c=true then Q (.bl true) H1 else tb σ H1 Q
def Ej{op}{t:TE}(h:PE X a t):PE X (.BoolOp op [a] pos) t:=fun pins s σ H Q I hw=>BoolOp_one (h pins s σ H Q I hw)
def Fg(ha:PE X a ta)(hb:PE X (.BoolOp .And (b::rest) pos) tb):PE X (.BoolOp .And (a::b::rest) pos) (Gb ta tb):=by
 intro pins s σ H Q I h;refine BoolOp_and (thn (ha pins s σ H _ I h) fun v s1 ⟨x,H1,I1,r1,q1⟩=>?_);obtain⟨c,rfl,q1⟩:=q1;cases r1;refine wpAny_truthy_bool ?_
 cases c with
 | true=>exact hb pins s1 σ H1 Q I1 q1
 | false=>exact⟨.bl false,H1,I1,rfl,q1⟩
def Gh(ha:PE X a ta)(hb:PE X (.BoolOp .Or (b::rest) pos) tb):PE X (.BoolOp .Or (a::b::rest) pos) (Hd ta tb):=by
 intro pins s σ H Q I h;refine BoolOp_or (thn (ha pins s σ H _ I h) fun v s1 ⟨x,H1,I1,r1,q1⟩=>?_);obtain⟨c,rfl,q1⟩:=q1;cases r1;refine wpAny_truthy_bool ?_
 cases c with
 | false=>exact hb pins s1 σ H1 Q I1 q1
 | true=>exact⟨.bl true,H1,I1,rfl,q1⟩
abbrev tIf(t:TT)(ta tb:TE):TE:=fun σ H Q=>t σ H fun c H1=>if c=true then ta σ H1 Q else tb σ H1 Q
def y8{c:Expr}(hc:PT X c tA)(ha:PE X a ta)(hb:PE X b tb):PE X (.IfExp c a b pos) (tIf tA ta tb):=by
 intro pins s σ H Q I h;refine wpAny_IfExp (thn (hc pins s σ H _ I h) fun d s1 ⟨H1,I1,q1⟩=>?_)
 cases d with
 | true=>exact ha pins s1 σ H1 Q I1 q1
 | false=>exact hb pins s1 σ H1 Q I1 q1
end
abbrev SqL(K:PySem.W.Frag)(H:Hp)(a:Addr)(xs:List V):Prop :=
 Rd H a (.lst xs) \/
  ∃ (o:Obj) (its:Array Value) (n:Nat),K.lookup a=some o/\o.cls=.type "list" /\ o.dict=none/\o.data=.seq its n/\its.size<=sizeLine/\Vals xs its.toList
abbrev SqT(K:PySem.W.Frag)(H:Hp)(a:Addr)(xs:List V):Prop :=
 Rd H a (.tup xs) \/
  ∃ (o:Obj) (its:Array Value) (n:Nat),K.lookup a=some o/\o.cls=.type "tuple" /\ o.data=.seq its n/\its.size<=sizeLine/\Vals xs its.toList
abbrev Hg:Value->Option V
 | .none=>some .non
 | .bool b=>some (.bl b)
 | .int i _=>some (.int i)
 | .str x _=>some (.str x)
 | .bytes b _=>some (.byt b)
 | .float b _=>some (.flt b)
 | .ref a=>some (.ref a)
 | .type n=>some (.ty n)
 | _=>none
def RelV.abs{x:V}{u:Value}(r:RelV x u):Hg u=some x:=by
 cases x with
 | non=>cases r;rfl
 | bl _=>cases r;rfl
 | int _=>obtain⟨t,rfl⟩:=r;rfl
 | str _=>obtain⟨t,rfl⟩:=r;rfl
 | byt _=>obtain⟨t,rfl⟩:=r;rfl
 | flt _=>obtain⟨t,rfl⟩:=r;rfl
 | ref _=>cases r;rfl
 | ty _=>cases r;rfl
def RelV.inj{x y:V}{u:Value}(r:RelV x u)(q:RelV y u):x=y:=Option.some.inj (r.abs.symm.trans q.abs)
def Vals.inj:∀ {xs ys:List V} {us:List Value},Vals xs us->Vals ys us->xs=ys
 | _,_,_,.nil,.nil=>rfl
 | _,_,_,.cons r t,.cons r' t'=>by rw[r.inj r',Vals.inj t t']
section
variable{X:Cx}{pins:List (Addr × Obj)}{σ:St}{H:Hp}{s:Shared}{a:Addr}{xs ys:List V}
def SqL.of{K:PySem.W.Frag}(h:H a=some (.lst xs)):SqL K H a xs:=.inl (.inl h)
def SqT.of{K:PySem.W.Frag}(h:H a=some (.tup xs)):SqT K H a xs:=.inl (.inl h)
def Inv.list(I:Inv X pins σ H s)(h:SqL X.K H a xs):∃ its:List Value,Vals xs its/\PlainL s.heap a its.toArray/\xs.length<=sizeLine:=by
 rcases h with h | ⟨o,its,n,hk,hc,hd,hs,hz,r⟩
 ·obtain⟨z,its,n,r,e⟩:=h.ok I.hok;exact⟨its,r,⟨_,n,e,rfl,rfl,rfl⟩,z⟩
 ·refine⟨its.toList,r,⟨o,n,I.kIn a o hk,hc,hd,by simpa using hs⟩,?_⟩;have e:=r.length;simp only[Array.length_toList]at e;omega
def Inv.tuple(I:Inv X pins σ H s)(h:SqT X.K H a xs):∃ its:List Value,Vals xs its/\IsTup s.heap a its.toArray/\xs.length<=sizeLine:=by
 rcases h with h | ⟨o,its,n,hk,hc,hs,hz,r⟩
 ·obtain⟨z,its,r,p⟩:=h.ok I.hok;exact⟨its,r,p,z⟩
 ·refine⟨its.toList,r,⟨o,I.kIn a o hk,hc,n,by simpa using hs⟩,?_⟩;have e:=r.length;simp only[Array.length_toList]at e;omega
def Inv.zA(I:Inv X pins σ H s)(h:SqL X.K H a xs)(h':SqL X.K H a ys):xs=ys:=by
 obtain⟨its,r,⟨o,n,e,_,_,d⟩,_⟩:=I.list h;obtain⟨its',r',⟨o',n',e',_,_,d'⟩,_⟩:=I.list h';rw[e]at e';cases e';rw[d]at d';injection d' with d1 _
 have:its=its':=by simpa using congrArg Array.toList d1
 subst this;exact r.inj r'
def Inv.xH(I:Inv X pins σ H s)(h:SqT X.K H a xs)(h':SqT X.K H a ys):xs=ys:=by
 obtain⟨its,r,⟨o,e,_,n,d⟩,_⟩:=I.tuple h;obtain⟨its',r',⟨o',e',_,n',d'⟩,_⟩:=I.tuple h';rw[e]at e';cases e';rw[d]at d';injection d' with d1 _
 have:its=its':=by simpa using congrArg Array.toList d1
 subst this;exact r.inj r'
end
@[reducible]noncomputable def Cx.iM(X:Cx)(E:Value->Shared->Prop):Cx:={ X with xe:=E }
@[reducible]noncomputable def Cx.nox(X:Cx):Cx:=X.iM fun _ _=>False
def Cx.Ok.iM{X:Cx}(ok:X.Ok)(E:Value->Shared->Prop):(X.iM E).Ok :=
 ⟨ok.mod,ok.kind,ok.glob,ok.blt,ok.above,ok.inj,ok.has,ok.cab,ok.hd,ok.frames,ok.stk,ok.exf,ok.bs,ok.bsz,ok.qS,ok.sr,ok.ie,ok.frf⟩
def Cx.Ok.gh{X:Cx}{E:Value->Shared->Prop}(ok:(X.iM E).Ok):X.Ok :=
 ⟨ok.mod,ok.kind,ok.glob,ok.blt,ok.above,ok.inj,ok.has,ok.cab,ok.hd,ok.frames,ok.stk,ok.exf,ok.bs,ok.bsz,ok.qS,ok.sr,ok.ie,ok.frf⟩
section
variable{X:Cx}{pins:List (Addr × Obj)}{σ:St}{H:Hp}{s:Shared}{E:Value->Shared->Prop}
def Inv.iM(I:Inv X pins σ H s)(E:Value->Shared->Prop):Inv (X.iM E) pins σ H s:=⟨I.ok.iM E,I.os,I.bare,I.base,I.loc,I.cell,I.free,I.fF,I.pin,I.hok,I.len⟩
def Inv.gh(I:Inv (X.iM E) pins σ H s):Inv X pins σ H s:=⟨I.ok.gh,I.os,I.bare,I.base,I.loc,I.cell,I.free,I.fF,I.pin,I.hok,I.len⟩
def SP.gh{D:Ends}{f:Flow}{s':Shared}(h:SP (X.iM E) pins D f s'):SP X pins D f s':=by
 cases f with
 | next=>obtain⟨σ',H',I,q⟩:=h;exact⟨σ',H',I.gh,q⟩
 | brk=>obtain⟨σ',H',I,q⟩:=h;exact⟨σ',H',I.gh,q⟩
 | cont=>obtain⟨σ',H',I,q⟩:=h;exact⟨σ',H',I.gh,q⟩
 | ret u=>obtain⟨v,σ',H',I,r,q⟩:=h;exact⟨v,σ',H',I.gh,r,q⟩
def PSs.nox{st:List Stmt}{t:TS}(h:PSs X.nox st t):PSs X st t:=fun pins s σ H D I hw =>
 wpAny_mono (h pins s σ H D (I.iM _) hw) (fun _ _ q=>q.gh) fun _ _ z=>False.elim z
end
section
variable{X:Cx}{st:Stmt}{rest:List Stmt}{t u:TS}{e:Expr}{te:TE}{pos:Pos}
abbrev G3:TS:=fun D σ H=>D.nx σ H
abbrev Hr(t u:TS):TS:=fun D σ H=>t { D with nx:=u D } σ H
def AR:PSs X [] G3:=fun _ _ σ H _ I h=>wpAny_execs_nil ⟨σ,H,I,h⟩
def zi(h1:PS X st t)(h2:PSs X rest u):PSs X (st::rest) (Hr t u):=by
 intro pins s σ H D I h;refine wpAny_execs_cons (thn (h1 pins s σ H { D with nx:=u D } I h) fun f s1 q=>?_)
 cases f with
 |next=>
  obtain⟨σ',H',I',q⟩:=q;exact h2 pins s1 σ' H' D I' q
 | ret v=>exact q
 | brk=>exact q
 | cont=>exact q
def Inv.quiet{pins:List (Addr × Obj)}{σ:St}{H:Hp}{s:Shared}(I:Inv X pins σ H s):interactive X.env=false:=by simp[interactive,I.ok.kind]
abbrev pU(te:TE):TS:=fun D σ H=>te σ H fun _ H1=>D.nx σ H1
def oR(he:PE X e te)(hs:swapsWith e none pos.line X.env=pure false:=by rfl):PS X (.Expr e pos) (pU te):=by
 intro pins s σ H D I h;exact wpAny_Expr_any (thn (he pins s σ H _ I h) fun v s1 ⟨x,H1,I1,r1,q1⟩=>⟨σ,H1,I1,q1⟩) I.quiet hs
abbrev Hb(te:TE):TS:=fun D σ H=>te σ H D.rt
def vM(he:PE X e te):PS X (.Return (some e) pos) (Hb te):=by
 intro pins s σ H D I h;exact wpAny_Return_some (thn (he pins s σ H _ I h) fun v s1 ⟨x,H1,I1,r1,q1⟩=>⟨x,σ,H1,I1,r1,q1⟩)
abbrev HE(c:TT)(t u:TS):TS:=fun D σ H=>c σ H fun b H1=>if b=true then t D σ H1 else u D σ H1
def Ah{c:Expr}{a b:List Stmt}{tc:TT}(hc:PT X c tc)(ha:PSs X a t)(hb:PSs X b u):PS X (.If c a b pos) (HE tc t u):=by
 intro pins s σ H D I h;refine wpAny_If (thn (hc pins s σ H _ I h) fun d s1 ⟨H1,I1,q1⟩=>?_)
 cases d with
 | true=>exact ha pins s1 σ H1 D I1 q1
 | false=>exact hb pins s1 σ H1 D I1 q1
end
@[reducible]noncomputable def TG:=V->St->Hp->(St->Hp->Prop)->Prop
@[reducible]noncomputable def TGs:=List V->St->Hp->(St->Hp->Prop)->Prop
abbrev PG(X:Cx)(target:Expr)(t:TG):Prop :=
 ∀ (pins:List (Addr × Obj)) (s:Shared) (σ:St) (H:Hp) (v:V) (u:Value) (Q:St->Hp->Prop),Inv X pins σ H s->RelV v u->t v σ H Q ->
  wpAny (model X.prog X.w) X.A (assign target X.env u) (fun _ s'=>∃ σ' H',Inv X pins σ' H' s'/\Q σ' H') X.xe s
abbrev PGs(X:Cx)(ts:List Expr)(t:TGs):Prop :=
 ∀ (pins:List (Addr × Obj)) (s:Shared) (σ:St) (H:Hp) (vs:List V) (us:List Value) (Q:St->Hp->Prop),Inv X pins σ H s->Vals vs us->t vs σ H Q ->
  wpAny (model X.prog X.w) X.A (assignInOrder ((assignEach ts X.env).map (·.2)) us) (fun _ s'=>∃ σ' H',Inv X pins σ' H' s'/\Q σ' H') X.xe s
@[reducible]noncomputable def ze:=V->V->V->Hp->(Hp->Prop)->Prop
abbrev DB(X:Cx)(t:ze):Prop :=
 ∀ (pins:List (Addr × Obj)) (s:Shared) (σ:St) (H:Hp) (o i v:V) (ov iv u:Value) (Q:Hp->Prop),Inv X pins σ H s->RelV o ov->RelV i iv->RelV v u->t o i v H Q ->
  wpAny (model X.prog X.w) X.A (setItem ov iv u) (fun _ s'=>∃ H',Inv X pins σ H' s'/\Q H') X.xe s
@[reducible]noncomputable def TIp:=V->V->Hp->VK->Prop
abbrev PIp(X:Cx)(op:Operator)(t:TIp):Prop :=
 ∀ (pins:List (Addr × Obj)) (s:Shared) (σ:St) (H:Hp) (x y:V) (v u:Value) (Q:VK),Inv X pins σ H s->RelV x v->RelV y u->t x y H Q ->
  wpAny (model X.prog X.w) X.A (inplaceOp op v u) (EP X pins σ Q) X.xe s
section
variable{X:Cx}{pos:Pos}
abbrev mQ(i:Nat):TG:=fun v σ H Q=>Q (σ.set i (some v)) H
def ue{i:Nat}{x:Str}(hN:X.N.Nodup)(hi:X.N[i]?=some x)(hx:Loc X.env.scope x)(hf:X.fn x=true\/X.env.scope.names.lookup x=some .local:=by first | exact .inl rfl | exact .inr rfl | assumption):PG X (.Name x pos) (mQ i):=by
 intro pins s σ H v u Q I r h;exact wpAny_assign_Name (i6 I hN hi hx r (fun s' I'=>⟨_,H,I',h⟩) hf)
abbrev Ez:TGs:=fun vs σ H Q=>vs=[]/\Q σ H
abbrev Ai(t:TG)(u:TGs):TGs:=fun vs σ H Q=>∃ v r,vs=v::r/\t v σ H fun σ' H'=>u r σ' H' Q
def BW:PGs X [] Ez:=by
 intro pins s σ H vs us Q I r h;obtain⟨e,h⟩:=h;subst e;cases r;exact assignInOrder_nil ⟨σ,H,I,h⟩
def yU{e:Expr}{es:List Expr}{t:TG}{u:TGs}(h1:PG X e t)(h2:PGs X es u)
 (hs:(assignEach (e::es) X.env).map (·.2)=assign e X.env::(assignEach es X.env).map (·.2):=by rfl):PGs X (e::es) (Ai t u):=by
 intro pins s σ H vs us Q I r h;obtain⟨v,vr,e1,h⟩:=h;subst e1
 cases r with
 |cons r rr=>
  rw[hs];refine assignInOrder_cons (thn (h1 pins s σ H _ _ _ I r h) fun _ s1 ⟨σ1,H1,I1,q1⟩=>?_);exact h2 pins s1 σ1 H1 _ _ Q I1 rr q1
abbrev nJ(K:PySem.W.Frag)(n:Nat)(t:TGs):TG:=fun v σ H Q=>∃ a xs,v=.ref a/\SqT K H a xs/\xs.length=n/\t xs σ H Q
def wy{es:List Expr}{k:Nat}{t:TGs}{n:Nat}(hc:X.calm=true)(h:PGs X es t)
 (hn:(assignEach es X.env).length=n:=by rfl)(hst:(assignEach es X.env).findIdx? (·.1)=none:=by rfl):PG X (.Tuple es k pos) (nJ X.K n t):=by
 intro pins s σ H v u Q I r hw;obtain⟨a,xs,e1,hq,hl,hw⟩:=hw;subst e1;cases r;obtain⟨its,rv,ht,hz⟩:=I.tuple hq;refine assign_Tuple_tuple (I.ok.hd.1 hc) ht (by simp[hn,<-hl,rv.length]) hst fun h' hx=>?_;have I1:Inv X pins σ H { s with heap:=h' }:=I.kept (t':=s.toks) fun b o e=>hx b o (Nat.ne_of_lt (Heap.lt_size e)) e;exact h pins _ σ H xs _ Q I1 (by simpa using rv) hw
abbrev yf(to ti:TE)(t:ze):TG:=fun v σ H Q=>to σ H fun o H1=>ti σ H1 fun i H2=>t o i v H2 fun H3=>Q σ H3
def DG{o i:Expr}{to ti:TE}{t:ze}(ho:PE X o to)(hi:PE X i ti)(hs:DB X t)
 (ha:∀ v,assign (.Subscript o i pos) X.env v=(do
   let ov <- holding [v] (eval o X.env)
   let iv <- holding [v,ov] (eval i X.env)
   standAt pos
   holding [v,ov,iv] (setItem ov iv v)
   release [v,ov,iv] []):=by intro _;rfl):PG X (.Subscript o i pos) (yf to ti t):=by
 intro pins s σ H v u Q I r h;rw[ha];refine wpAny_bind (wpAny_holding (thn (ho pins s σ H _ I h) fun ov s1 ⟨x,H1,I1,r1,q1⟩=>?_));refine wpAny_bind (wpAny_holding (thn (hi pins s1 σ H1 _ I1 q1) fun iv s2 ⟨y,H2,I2,r2,q2⟩=>?_));refine wpAny_bind (wpAny_standAt (wpAny_bind (wpAny_holding (thn (hs pins s2 σ H2 x y v ov iv u _ I2 r1 r2 r q2) fun _ s3 ⟨H3,I3,q3⟩=>?_))));exact wpAny_release ⟨σ,H3,I3,q3⟩
abbrev nE(te:TE)(g:TG):TS:=fun D σ H=>te σ H fun x H1=>g x σ H1 D.nx
def xV{tg e:Expr}{te:TE}{g:TG}(he:PE X e te)(hg:PG X tg g)(hs:swapsWithSole [tg] e pos.line X.env=pure false:=by rfl)(hw:swappedStores [tg] e X.env=pure none:=by rfl)
 (h1:(assignEach [tg] X.env).map (·.2)=[assign tg X.env]:=by rfl):PS X (.Assign [tg] e pos) (nE te g):=by
 intro pins s σ H D I h;refine wpAny_Assign_stores (thn (he pins s σ H _ I h) fun v s1 ⟨x,H1,I1,r1,q1⟩=>?_) hs hw;rw[h1];exact thn (hg pins s1 σ H1 x v _ I1 r1 q1) fun _ s2 q=>q
def wO{i:Nat}{x:Str}{e:Expr}{te:TE}{pos':Pos}(hN:X.N.Nodup)(hi:X.N[i]?=some x)(hx:Loc X.env.scope x)(he:PE X e te)(hs:swapsWith e (some (.Name x pos')) pos.line X.env=pure false:=by rfl)(hf:X.fn x=true\/X.env.scope.names.lookup x=some .local:=by first | exact .inl rfl | exact .inr rfl | assumption) :
  PS X (.Assign [.Name x pos'] e pos) (nE te (mQ i)):=by
 intro pins s σ H D I h;refine wpAny_Assign_Name (thn (he pins s σ H _ I h) fun v s1 ⟨y,H1,I1,r1,q1⟩=>?_) hs;exact i6 I1 hN hi hx r1 (fun s2 I2=>⟨_,H1,I2,q1⟩) hf
abbrev Fu(i j:Nat)(ta:TA):TS:=fun D σ H=>ta σ H fun vs H1=>∃ v w,vs=[v,w]/\D.nx ((σ.set i (some v)).set j (some w)) H1
def CY{i j:Nat}{x y:Str}{a b:Expr}{ta:TA}{px py pt:Pos}{kt k2 pt2}(hc:X.calm=true)(hN:X.N.Nodup)(hi:X.N[i]?=some x)(hj:X.N[j]?=some y)(hij:i≠j)
 (hx:X.env.scope.names.lookup x=some .local)(hy:X.env.scope.names.lookup y=some .local)(ha:PA X [a,b] ta)
 (hw:swappedStores [.Tuple [.Name x px,.Name y py] kt pt] (.Tuple [a,b] k2 pt2) X.env=pure (some [x,y]))
 (hs:swapsWithSole [.Tuple [.Name x px,.Name y py] kt pt] (.Tuple [a,b] k2 pt2) pos.line X.env=pure false:=by rfl) :
  PS X (.Assign [.Tuple [.Name x px,.Name y py] kt pt] (.Tuple [a,b] k2 pt2) pos) (Fu i j ta):=by
 intro pins s σ H D I h;rw[exec_Assign_arm];refine wpAny_bind (wpAny_standAt ?_);rw[hs];refine wpAny_bind (wpAny_pure ?_);rw[if_neg (by decide)];refine wpAny_bind (Tuple_ (thn (ha _ pins s σ H _ I h) fun us s1 ⟨vs,H1,I1,r1,q1⟩=>?_));obtain⟨v,w,e1,q1⟩:=q1;subst e1
 obtain⟨u1,u2,rfl,rv,rw'⟩:∃ u1 u2,us=[u1,u2]/\RelV v u1/\RelV w u2:=by
  cases r1 with
  |cons p q=>
   cases q with
   |cons p' q'=>
    cases q';exact⟨_,_,rfl,p,p'⟩
 refine wpAny_newObj_type ?_ (by show 2<=sizeLine;decide);have I2:Inv X pins σ H1 { s1 with heap:=s1.heap.push { cls:=.type "tuple",data:=.seq [u1,u2].toArray } }:=I1.kept (t':=s1.toks) fun b o e=>Heap.get?_push_of_some _ e;rw[hw];refine wpAny_bind (wpAny_pure ?_);show wpAny (model X.prog X.w) X.A (do rule "assign.swapped-stores";let items <- unpackItems (.ref s1.heap.objs.size) 2 none;assignInOrder [fun v=>bindName X.env y v,fun v=>bindName X.env x v] items.reverse;pure Flow.next) _ _ _;refine wpAny_bind (wpAny_rule (wpAny_bind (unpackItems_tuple (items:=#[u1,u2]) (I.ok.hd.1 hc) (IsTup.new s1.heap _) fun h' hx'=>?_)));have I3:=I2.kept (h':=h') (t':=s1.toks) fun b o e=>hx' b o (Nat.ne_of_lt (Heap.lt_size e)) e;show wpAny _ _ (assignInOrder [fun v=>bindName X.env y v,fun v=>bindName X.env x v] [u2,u1] >>= fun _=>pure Flow.next) _ _ _;refine wpAny_bind (assignInOrder_cons (wpAny_bindName (i6 I3 hN hj (.inl hy) rw' (fun s2 I4=>?_) (.inr hy))));refine assignInOrder_cons (wpAny_bindName (i6 I4 hN hi (.inl hx) rv (fun s3 I5=>assignInOrder_nil (wpAny_pure ?_)) (.inr hx)));rw[List.set_comm _ _ (Ne.symm hij)]at I5;exact⟨_,H1,I5,q1⟩
abbrev DF(i:Nat)(te:TE)(ti:TIp):TS:=fun D σ H=>∃ x,σ[i]?=some (some x)/\te σ H fun y H1=>ti x y H1 fun z H2=>D.nx (σ.set i (some z)) H2
def D6{i:Nat}{x:Str}{e:Expr}{te:TE}{op:Operator}{ti:TIp}{pos':Pos}(hN:X.N.Nodup)(hi:X.N[i]?=some x)(hx:Loc X.env.scope x)(he:PE X e te)(ho:PIp X op ti)(hf:X.fn x=true\/X.env.scope.names.lookup x=some .local:=by first | exact .inl rfl | exact .inr rfl | assumption) :
  PS X (.AugAssign (.Name x pos') op e pos) (DF i te ti):=by
 intro pins s σ H D I h;obtain⟨v,e1,h⟩:=h;obtain⟨m,hn,hl⟩:=I.loc
 have vis:Vis X.env.scope x:=by rcases hx with k | k;exact .inl k;exact .inr (.inl k)
 obtain⟨u,r,l⟩:=hl i x v hi e1 vis;refine wpAny_AugAssign_Name ?_
 have go:wpAny (model X.prog X.w) X.A (eval e X.env) (fun w s₂=>wpAny (model X.prog X.w) X.A (inplaceOp op u w) (fun r s₃=>wpAny (model X.prog X.w) X.A (storeName X.env x r) (fun _=>SP X pins D .next) X.xe s₃) X.xe s₂) X.xe s:=by
  refine thn (he pins s σ H _ I h) fun w s1 ⟨y,H1,I1,r1,q1⟩=>?_;refine thn (ho pins s1 σ H1 v y u w _ I1 r r1 q1) fun z s2 ⟨zv,H2,I2,r2,q2⟩=>?_;exact i6 I2 hN hi hx r2 (fun s3 I3=>⟨_,H2,I3,q2⟩) hf
 rcases l with⟨hk,hm⟩ | ⟨hk,c,hc,hcell⟩
 ·exact wpAny_loadName_local I.ok.kind hk hn hm go
 ·rcases hk with hk | hk
  ·exact wpAny_loadName_cell I.ok.kind hk hc hcell go
  ·rcases hx with k | k
   ·have:X.env.scope.names.lookup x=some .free:=hk;rw[k]at this;cases this
   ·have:X.env.scope.names.lookup x=some .free:=hk;rw[k]at this;cases this
abbrev ipI(f:Int->Int->Int):TIp:=fun x y H Q=>∃ i j,x=.int i/\y=.int j/\Q (.int (f i j)) H
def EH:PIp X .Add (ipI fun i j=>i+j):=by
 intro pins s σ H x y v u Q I r1 r2 h;obtain⟨i,j,e1,e2,q⟩:=h;subst e1;subst e2;obtain⟨t,rfl⟩:=r1;obtain⟨t',rfl⟩:=r2;exact iadd_int ⟨.int _,H,I.tok _,⟨_,rfl⟩,q⟩
end
section
variable{X:Cx}{pos:Pos}
abbrev D9(c:TT)(tb:TS):TS:=fun D σ H=>∃ W:Nat->St->Hp->Prop,(∃ m,W m σ H)/\∀ m σ H,W m σ H ->
 c σ H fun b H1=>if b=true then ∃ N:St->Hp->Prop,(∀ σ' H',N σ' H'->∃ m',m'<m/\W m' σ' H')/\tb { D with nx:=N,ct:=N,bk:=D.nx } σ H1 else D.nx σ H1
def zd{c:Expr}{body:List Stmt}{tc:TT}{tb:TS}(hp:PassesOwn (model X.prog X.w) X.A X.env X.xe)(hc:PT X c tc)(hb:PSs X body tb):PS X (.While c body [] pos) (D9 tc tb):=by
 intro pins s σ H D I h;obtain⟨W,⟨m0,w0⟩,turn⟩:=h;refine wpAny_While (codeAny_whileLoop (fun n s'=>∃ σ' H',Inv X pins σ' H' s'/\W n σ' H') ?_ m0 ⟨σ,H,I,w0⟩);rintro n s1 ⟨σ1,H1,I1,w1⟩;refine wpAny_passesOwn hp (thn (hc pins s1 σ1 H1 _ I1 (turn n σ1 H1 w1)) fun b s2 ⟨H2,I2,q2⟩=>?_)
 cases b with
 |true=>
  obtain⟨N,hN,q2⟩:=q2;rw[if_pos rfl];refine wpAny_passesOwn hp (thn (hb pins s2 σ1 H2 _ I2 q2) fun f s3 q3=>?_)
  cases f with
  |next=>
   obtain⟨σ3,H3,I3,n3⟩:=q3;obtain⟨m',hm,w3⟩:=hN σ3 H3 n3;exact⟨m',hm,σ3,H3,I3,w3⟩
  |cont=>
   obtain⟨σ3,H3,I3,n3⟩:=q3;obtain⟨m',hm,w3⟩:=hN σ3 H3 n3;exact⟨m',hm,σ3,H3,I3,w3⟩
  | brk=>exact q3
  | ret v=>exact q3
 |false=>
  rw[if_neg Bool.false_ne_true];exact wpAny_execs_nil ⟨σ1,H2,I2,q2⟩
end
structure It where
 go:Nat->Hp->Prop
 yld:Nat->Hp->V->Hp->Prop
 stop:Nat->Hp->Prop
abbrev jH(X:Cx)(pins:List (Addr × Obj))(H:Hp)(b:Addr):Prop :=
 H b=none/\b≠X.env.locals/\b∉X.fs/\(b∈X.ex\/X.s₀.heap.objs.size<=b)/\(∀ x c,X.env.cells.lookup x=some c->c≠b)/\∀ p∈X.pn++pins,p.1≠b
def Inv.rh{X:Cx}{pins:List (Addr × Obj)}{σ:St}{H H':Hp}{s:Shared}{b:Addr}(I:Inv X pins σ H s)(hb:s.heap.objs.size<=b)(hn:H' b=none):jH X pins H' b:=by
 refine⟨hn,Nat.ne_of_gt (Nat.lt_of_lt_of_le I.lt hb),I.Hj hb,.inr (Nat.le_trans I.sz hb),fun x c e z=>?_,fun p hp z=>?_⟩
 ·obtain⟨v,q⟩:=I.cell x c e;exact absurd (Nat.lt_of_lt_of_le q.lt (by rw[z];exact hb)) (Nat.lt_irrefl _)
 ·exact absurd (Nat.lt_of_lt_of_le (Heap.lt_size (I.pin p hp).1) (by rw[z];exact hb)) (Nat.lt_irrefl _)
structure Ay(CM:Cx->Prop)(P:Program)(w:World)(K:PySem.W.Frag)(tg:Expr)(J:It)(fp:List Addr)(it:Addr)(tn:Nat->Heap->Prop):Prop where
 mem:it∈fp
 obj:∀ i h,tn i h->∀ b∈fp,∃ o,h.get? b=some o/\∀ v,o.data≠.cell v
 keep:∀ i h h',tn i h->(∀ b∈fp,∀ o,h.get? b=some o->h'.get? b=some o)->tn i h'
 item:∀ (X:Cx),X.prog=P->X.w=w->X.K=K->CM X->∀ (i:Nat) (pins:List (Addr × Obj)) (s:Shared) (σ:St) (H:Hp) (E:Value->Shared->Prop),Inv X pins σ H s->(∀ b∈fp,jH X pins H b)->tn i s.heap->J.go i H ->
  wpAny (model P w) X.A (pyNext (.ref it)) (fun r s1=>∃ u,r=some u /\
   wpAny (model P w) X.A (letOwnedTupleGo tg (.ref it) u) (fun _ s2=>∃ x H',Inv X pins σ H' s2/\RelV x u/\J.yld i H x H'/\tn (i+1) s2.heap/\∀ b∈fp,H' b=none) E s1) E s
 done:∀ (X:Cx),X.prog=P->X.w=w->X.K=K->CM X->∀ (i:Nat) (pins:List (Addr × Obj)) (s:Shared) (σ:St) (H:Hp) (E:Value->Shared->Prop),Inv X pins σ H s->(∀ b∈fp,jH X pins H b)->tn i s.heap->J.stop i H ->
  wpAny (model P w) X.A (pyNext (.ref it)) (fun r s1=>r=none/\Inv X pins σ H s1) E s
 self:∀ (A:Around) (i:Nat) (s:Shared) (Q:Value->Shared->Prop) (E:Value->Shared->Prop),tn i s.heap->Q (.ref it) s->wpAny (model P w) A (pyIter (.ref it)) Q E s
@[reducible]noncomputable def Calm:Cx->Prop:=fun X=>X.calm=true
@[reducible]noncomputable def Turn:=Ay Calm
@[reducible]noncomputable def TI:=St->Hp->(It->Hp->Prop)->Prop
abbrev D8(CM:Cx->Prop)(X:Cx)(pins:List (Addr × Obj))(σ:St)(tg:Expr)(R:It->Hp->Prop)(itv:Value)(s2:Shared):Prop :=
 ∃ (it:Addr) (fp:List Addr) (tn:Nat->Heap->Prop) (J:It) (H':Hp),itv=.ref it/\Inv X pins σ H' s2/\Ay CM X.prog X.w X.K tg J fp it tn/\tn 0 s2.heap/\(∀ b∈fp,jH X pins H' b)/\R J H'
@[reducible]noncomputable def PIE:=D8 Calm
abbrev PI'(CM:Cx->Prop)(X:Cx)(tg iter:Expr)(wi:TI):Prop :=
 ∀ (pins:List (Addr × Obj)) (s:Shared) (σ:St) (H:Hp) (R:It->Hp->Prop),Inv X pins σ H s->wi σ H R ->
  wpAny (model X.prog X.w) X.A (eval iter X.env) (fun v s1=>wpAny (model X.prog X.w) X.A (pyIter v) (D8 CM X pins σ tg R) X.xe s1) X.xe s
@[reducible]noncomputable def PI:=PI' Calm
def qa{M:Model}{A:Around}{E:Value->Shared->Prop}{s:Shared}{tg:Expr}{it:Addr}{u:Value}{o:Obj}{n:String}{vs:Array Value}{Q:Unit->Shared->Prop}(ho:s.heap.get? it=some o)(hc:o.cls=.type n)(hd:o.data=.fields vs)
 (hn:["enumerate", "zip", "dict_itemiterator", "dict_reverseitemiterator", "odict_iterator", "itertools.zip_longest", "itertools.pairwise"].contains n=false)(hQ:Q () s):wpAny M A (letOwnedTupleGo tg (.ref it) u) Q E s:=by
 unfold letOwnedTupleGo
 cases tg<;>first
  | exact wpAny_pure hQ
  | (cases u<;>first
    | exact wpAny_pure hQ
    | (refine wpAny_bind (wpAny_load ho ?_)
       rw[hc,hd];show wpAny M A (if(["enumerate", "zip", "dict_itemiterator", "dict_reverseitemiterator", "odict_iterator", "itertools.zip_longest", "itertools.pairwise"].contains n&&vs[0]? == some (rawInt _))=true then _ else _) Q E s;rw[if_neg (by intro h;rw[hn,Bool.false_and]at h;cases h)]
       exact wpAny_pure hQ))
abbrev Itl(K:PySem.W.Frag)(a:Addr):It :=
 ⟨fun i H=>∃ xs x,SqL K H a xs/\xs[i]?=some x,fun i H x H'=>H'=H/\∀ xs,SqL K H a xs->xs[i]?=some x,fun i H=>∃ xs,SqL K H a xs/\xs.length<=i⟩
abbrev Itt(K:PySem.W.Frag)(a:Addr):It :=
 ⟨fun i H=>∃ xs x,SqT K H a xs/\xs[i]?=some x,fun i H x H'=>H'=H/\∀ xs,SqT K H a xs->xs[i]?=some x,fun i H=>∃ xs,SqT K H a xs/\xs.length<=i⟩
abbrev Itr(lo:Int)(n:Nat):It:=⟨fun i _=>i<n,fun i H x H'=>H'=H/\x=.int (lo+i),fun i _=>n<=i⟩
def xa{P:Program}{w:World}{K:PySem.W.Frag}{tg:Expr}(a it:Addr):Turn P w K tg (Itl K a) [it] it (fun i h=>h.IsListIter it a i) where
 mem:=by simp
 obj:=fun i h st b hb=>by
  have e:b=it:=by simpa using hb
  subst e;obtain⟨o,e,c,d⟩:=st;exact⟨o,e,fun v z=>by rw[d]at z;cases z⟩
 keep:=fun i h h' st k=>st.at fun o e=>k it (by simp) o e
 item:=by
  intro X hP hw hK hc i pins s σ H E I hf st hg;subst hP hw hK;obtain⟨xs,x,hq,hx⟩:=hg;obtain⟨its,rv,p,hz⟩:=I.list hq;obtain⟨u,hu,ru⟩:=rv.get hx;obtain⟨f0,f1,f2,f3,f4,f5⟩:=hf it (by simp);refine wpAny_pyNext_list_item st p.isList (x:=u) (by simpa using hu) fun h' st' sb=>?_;have I1:Inv X pins σ H { s with heap:=h' }:=I.turned (t':=s.toks) (fun b o hb e=>(sb.2 b hb).trans e) f0 f1 f3 f4 f5;obtain⟨o,e,c,d⟩:=id st';exact⟨u,rfl,qa (s:={ s with heap:=h' }) e c d (by decide) ⟨x,H,I1,ru,⟨rfl,fun ys hy=>by rw[I.zA hy hq];exact hx⟩,st',fun b hb=>(hf b hb).1⟩⟩
 done:=by
  intro X hP hw hK hc i pins s σ H E I hf st hg;subst hP hw hK;obtain⟨xs,hq,hx⟩:=hg;obtain⟨its,rv,p,hz⟩:=I.list hq;obtain⟨f0,f1,f2,f3,f4,f5⟩:=hf it (by simp);have hl:=rv.length
  exact wpAny_pyNext_list_end (I.ok.hd.1 hc) st p.isList (by simp;omega) fun h' eb=>⟨rfl,I.turned (t':=s.toks) (fun b o hb e=>eb b o hb e) f0 f1 f3 f4 f5⟩
 self:=fun _ _ _ _ _ st h=>wpAny_pyIter_listiter st h
def uP{P:Program}{w:World}{K:PySem.W.Frag}{tg:Expr}(a it:Addr):Turn P w K tg (Itt K a) [it] it (fun i h=>h.IsTupleIter it a i) where
 mem:=by simp
 obj:=fun i h st b hb=>by
  have e:b=it:=by simpa using hb
  subst e;obtain⟨o,e,c,d⟩:=st;exact⟨o,e,fun v z=>by rw[d]at z;cases z⟩
 keep:=fun i h h' st k=>st.at fun o e=>k it (by simp) o e
 item:=by
  intro X hP hw hK hc i pins s σ H E I hf st hg;subst hP hw hK;obtain⟨xs,x,hq,hx⟩:=hg;obtain⟨its,rv,p,hz⟩:=I.tuple hq;obtain⟨u,hu,ru⟩:=rv.get hx;obtain⟨f0,f1,f2,f3,f4,f5⟩:=hf it (by simp);refine wpAny_pyNext_tuple_item st (show s.heap.IsTuple a its.toArray from p) (x:=u) (by simpa using hu) fun h' st' sb=>?_;have I1:Inv X pins σ H { s with heap:=h' }:=I.turned (t':=s.toks) (fun b o hb e=>(sb.2 b hb).trans e) f0 f1 f3 f4 f5;obtain⟨o,e,c,d⟩:=id st';exact⟨u,rfl,qa (s:={ s with heap:=h' }) e c d (by decide) ⟨x,H,I1,ru,⟨rfl,fun ys hy=>by rw[I.xH hy hq];exact hx⟩,st',fun b hb=>(hf b hb).1⟩⟩
 done:=by
  intro X hP hw hK hc i pins s σ H E I hf st hg;subst hP hw hK;obtain⟨xs,hq,hx⟩:=hg;obtain⟨its,rv,p,hz⟩:=I.tuple hq;obtain⟨f0,f1,f2,f3,f4,f5⟩:=hf it (by simp);have hl:=rv.length
  exact wpAny_pyNext_tuple_end (I.ok.hd.1 hc) st (show s.heap.IsTuple a its.toArray from p) (by simp;omega) fun h' eb=>⟨rfl,I.turned (t':=s.toks) (fun b o hb e=>eb b o hb e) f0 f1 f3 f4 f5⟩
 self:=fun _ _ _ _ _ st h=>wpAny_pyIter_tupleiter st h
def ve{P:Program}{w:World}{K:PySem.W.Frag}{tg:Expr}(it:Addr)(lo:Int)(n:Nat):Turn P w K tg (Itr lo n) [it] it (fun i h=>IsRangeIter h it (lo+(i:Nat)*1) ((n:Int)-(i:Nat)) 1) where
 mem:=by simp
 obj:=fun i h st b hb=>by
  have e:b=it:=by simpa using hb
  subst e
  exact⟨_,st,fun v z=>by
   have z':Data.fields _=Data.cell v:=z
   cases z'⟩
 keep:=fun i h h' st k=>k it (by simp) _ st
 item:=by
  intro X hP hw hK hc i pins s σ H E I hf st hg;subst hP hw hK;obtain⟨f0,f1,f2,f3,f4,f5⟩:=hf it (by simp);have W:=Walks.range (prog:=X.prog) (w:=X.w) (I.ok.hd.1 hc) it lo 1 n;refine W.item i s _ _ hg st fun v h' tk hv st' kk=>?_;obtain⟨t,rfl⟩:=hv;have I1:Inv X pins σ H { s with heap:=h',toks:=tk }:=I.turned (fun b o hb e=>kk b o (by simpa using hb) e) f0 f1 f3 f4 f5;refine⟨_,rfl,qa (s:={ s with heap:=h',toks:=tk }) (n := "range_iterator") st' rfl rfl (by decide) ⟨.int (lo+i),H,I1,⟨t,?_⟩,⟨rfl,rfl⟩,st',fun b hb=>(hf b hb).1⟩⟩;rw[Int.mul_one]
 done:=by
  intro X hP hw hK hc i pins s σ H E I hf st hg;subst hP hw hK;obtain⟨f0,f1,f2,f3,f4,f5⟩:=hf it (by simp)
  exact wpAny_pyNext_range_end (I.ok.hd.1 hc) st (by have:n<=i:=hg;omega) fun h' eb=>⟨rfl,I.turned (t':=s.toks) (fun b o hb e=>eb b o hb e) f0 f1 f3 f4 f5⟩
 self:=fun _ _ _ _ _ st h=>wpAny_pyIter_rangeiter st h
section
variable{X:Cx}{tg:Expr}
def rZ{pins:List (Addr × Obj)}{σ:St}{H:Hp}{s:Shared}{R:It->Hp->Prop}{E:Value->Shared->Prop}{lo hi:Int}{t u v:Tok}{tk:Nat}(I:Inv X pins σ H s)(h1:-(2 ^ 62)<=lo)(h2:lo<2 ^ 62)(h3:-(2 ^ 62)<=hi)(h4:hi<2 ^ 62)
 (q:R (Itr lo (hi-lo).toNat) H):wpAny (model X.prog X.w) X.A (pyIter (.ref s.heap.objs.size)) (PIE X pins σ tg R) E { s with heap:=s.heap.push { cls:=.type "range",data:=.fields #[.int lo t,.int hi u,.int 1 v] },toks:=tk }:=by
 refine wpAny_pyIter_range (IsRange.new ..) (small_one h1 h2 h3 h4) ?_;have I1:Inv X pins σ H { s with heap:=s.heap.push { cls:=.type "range",data:=.fields #[.int lo t,.int hi u,.int 1 v] },toks:=tk }:=I.kept fun b o e=>Heap.get?_push_of_some _ e
 refine⟨(s.heap.push { cls:=.type "range",data:=.fields #[.int lo t,.int hi u,.int 1 v] }).objs.size,[(s.heap.push { cls:=.type "range",data:=.fields #[.int lo t,.int hi u,.int 1 v] }).objs.size],_,_,H,rfl,
  I1.kept (t':=tk) fun b o e=>Heap.get?_push_of_some _ e,ve _ lo (hi-lo).toNat,?_,fun b hb=>?_,q⟩
 ·have e1:lo+((0:Nat):Int)*1=lo:=by simp
  have e2:(((hi-lo).toNat:Nat):Int)-((0:Nat):Int)=Builtin.Range.rangeSize lo hi 1:=by rw[rangeSize_one];split<;>omega
  show IsRangeIter _ _ (lo+((0:Nat):Int)*1) ((((hi-lo).toNat:Nat):Int)-((0:Nat):Int)) 1;rw[e1,e2];exact Heap.get?_push_size _ rfl
 ·have e:b=(s.heap.push { cls:=.type "range",data:=.fields #[.int lo t,.int hi u,.int 1 v] }).objs.size:=by simpa using hb
  subst e;exact I1.rh (Nat.le_refl _) (I1.hok.fresh (Nat.le_refl _))
abbrev FX(ta:TA):TI:=fun σ H R=>ta σ H fun vs H1=>∃ j:Int,vs=[.int j]/\-(2 ^ 62)<=j/\j<2 ^ 62/\R (Itr 0 j.toNat) H1
abbrev Gq(ta:TA):TI:=fun σ H R=>ta σ H fun vs H1=>∃ i j:Int,vs=[.int i,.int j]/\(-(2 ^ 62)<=i/\i<2 ^ 62/\-(2 ^ 62)<=j/\j<2 ^ 62)/\R (Itr i (j-i).toNat) H1
def xS{a:Expr}{ta:TA}{p pos:Pos}(hg:Gl X "range")(hm:X.mg "range" = none)(ha:PA X [a] ta)(hs:starEach [a] X.env=[(false,eval a X.env)]:=by rfl):PI X tg (.Call (.Name "range" p) [a] [] pos) (FX ta):=by
 intro pins s σ H R I h;refine Call_ (j0 I hg hm boot_range (PyProof.Rows.callWith_type1 (thn (ha pos pins s σ H _ I h) fun us s1 ⟨vs,H1,I1,r1,q1⟩=>?_) hs rfl));obtain⟨j,e,q1,q2,q⟩:=q1;subst e
 cases r1 with
 |cons r rr=>
  cases rr;obtain⟨t,rfl⟩:=r;exact call_range_1 (rZ I1 (by omega) (by omega) q1 q2 (by simpa using q))
def wI{a b:Expr}{ta:TA}{p pos:Pos}(hg:Gl X "range")(hm:X.mg "range" = none)(ha:PA X [a,b] ta)(hs:starEach [a,b] X.env=[(false,eval a X.env),(false,eval b X.env)]:=by rfl)(hs2:starEach [b] X.env=[(false,eval b X.env)]:=by rfl) :
  PI X tg (.Call (.Name "range" p) [a,b] [] pos) (Gq ta):=by
 intro pins s σ H R I h;refine Call_ (j0 I hg hm boot_range (PyProof.Rows.callWith_type1 (thn (ha pos pins s σ H _ I h) fun us s1 ⟨vs,H1,I1,r1,q1⟩=>?_) (by rw[hs,hs2]) (by rw[hs2];rfl)));obtain⟨i,j,e,⟨q1,q2,q3,q4⟩,q⟩:=q1;subst e
 cases r1 with
 |cons r rr=>
  cases rr with
  |cons r' rr=>
   cases rr;obtain⟨t,rfl⟩:=r;obtain⟨t',rfl⟩:=r';exact call_range_2 (rZ I1 q1 q2 q3 q4 q)
abbrev GG(wi:TI)(g:TG)(tb:TS):TS:=fun D σ H=>wi σ H fun J H1=>∃ W:Nat->Nat->St->Hp->Prop,(∃ m,W 0 m σ H1)/\∀ i m σ H,W i m σ H ->
 (J.stop i H/\D.nx σ H)\/(J.go i H/\∃ N:St->Hp->Prop,(∀ σ' H',N σ' H'->∃ m',m'<m/\W (i+1) m' σ' H')/\∀ x H',J.yld i H x H'->g x σ H' fun σ2 H2=>tb { D with nx:=N,ct:=N,bk:=D.nx } σ2 H2)
abbrev k8(fp:List Addr)(h:Heap):List (Addr × Obj):=fp.filterMap fun b=>(h.get? b).map fun o=>(b,o)
def gG{fp:List Addr}{h:Heap}{b:Addr}{o:Obj}(hb:b∈fp)(e:h.get? b=some o):(b,o)∈k8 fp h:=List.mem_filterMap.mpr ⟨b,hb,by rw[e];rfl⟩
def vD{fp:List Addr}{h:Heap}{p:Addr × Obj}(hp:p∈k8 fp h):p.1∈fp/\h.get? p.1=some p.2:=by
 obtain⟨b,hb,e⟩:=List.mem_filterMap.mp hp
 cases q:h.get? b with
 | none=>rw[q]at e;cases e
 |some o=>
  rw[q]at e;have e':(b,o)=p:=Option.some.inj e;subst e';exact⟨hb,q⟩
def Inv.pinned{pins:List (Addr × Obj)}{σ:St}{H:Hp}{s:Shared}{fp:List Addr}(I:Inv X pins σ H s)(hf:∀ b∈fp,jH X pins H b)(ho:∀ b∈fp,∃ o,s.heap.get? b=some o/\∀ v,o.data≠.cell v):Inv X (pins++k8 fp s.heap) σ H s :=
 I.tY fun p hp=>(List.mem_append.mp hp).elim (fun z=>I.pin p (List.mem_append_right _ z)) fun z=>by
  obtain⟨hb,e⟩:=vD z;obtain⟨f0,f1,f2,_⟩:=hf p.1 hb;obtain⟨o,e',d⟩:=ho p.1 hb;rw[e]at e';cases e';exact⟨e,f0,f1,f2,d⟩
def Inv.jF{pins pl:List (Addr × Obj)}{σ:St}{H:Hp}{s:Shared}(I:Inv X (pins++pl) σ H s):Inv X pins σ H s:=I.tY fun p hp=>I.pin p (List.mem_append_right _ (List.mem_append_left _ hp))
def C9{iter:Expr}{body:List Stmt}{wi:TI}{g:TG}{tb:TS}{pos:Pos}(hp:PassesOwn (model X.prog X.w) X.A X.env X.xe)(hc:X.calm=true)(hi:PI X tg iter wi)(hg:PG X tg g)(hb:PSs X body tb)
 (hs:∀ x,foldedSetIterable iter X.env x=pure x:=by intro _;rfl):PS X (.For tg iter body [] pos) (GG wi g tb):=by
 intro pins s σ H D I h;refine wpAny_For (thn (hi pins s σ H _ I h) fun v s1 h1=>thn h1 fun itv s2 h2=>?_) hs;obtain⟨it,fp,tn,J,H2,e,I2,T,st2,f2,W,⟨m0,w0⟩,turn⟩:=h2;subst e
 have stat:∀ {H':Hp},(∀ b∈fp,H' b=none)->∀ b∈fp,jH X pins H' b:=fun hn b hb=>⟨hn b hb,(f2 b hb).2⟩
 refine codeAny_forLoop_any (fun n s'=>∃ i σ' H',Inv X pins σ' H' s'/\tn i s'.heap/\(∀ b∈fp,H' b=none)/\W i n σ' H') ?_ m0 ⟨0,σ,H2,I2,st2,fun b hb=>(f2 b hb).1,w0⟩;rintro n s3 ⟨i,σ3,H3,I3,st3,fr3,w3⟩
 rcases turn i n σ3 H3 w3 with⟨stop,qn⟩ | ⟨go,N,hN,step⟩
 ·refine wpAny_passesOwn hp (thn (T.done X rfl rfl rfl hc i pins s3 σ3 H3 X.xe I3 (stat fr3) st3 stop) fun r s4 ⟨hr,I4⟩=>?_);subst hr;exact wpAny_execs_nil ⟨σ3,H3,I4,qn⟩
 ·refine wpAny_passesOwn hp (thn (T.item X rfl rfl rfl hc i pins s3 σ3 H3 X.xe I3 (stat fr3) st3 go) fun r s4 ⟨u,hr,h4⟩=>?_);subst hr;refine wpAny_passesOwn hp (thn h4 fun _ s5 ⟨x,H5,I5,r5,y5,st5,fr5⟩=>?_);have I5':=I5.pinned (stat fr5) (T.obj _ _ st5);refine wpAny_passesOwn hp (thn (hg _ s5 σ3 H5 x u _ I5' r5 (step x H5 y5)) fun _ s6 ⟨σ6,H6,I6,q6⟩=>?_);refine wpAny_passesOwn hp (thn (hb _ s6 σ6 H6 _ I6 q6) fun f s7 q7=>?_)
  have again:∀ {σ7:St} {H7:Hp},Inv X (pins++k8 fp s5.heap) σ7 H7 s7->N σ7 H7->∃ m,m<n/\∃ i σ' H',Inv X pins σ' H' s7/\tn i s7.heap/\(∀ b∈fp,H' b=none)/\W i m σ' H':=fun {σ7 H7} I7 n7=>by
   obtain⟨m',hm,w7⟩:=hN σ7 H7 n7;refine⟨m',hm,i+1,σ7,H7,I7.jF,T.keep _ _ _ st5 fun b hb o e=>(I7.pin (b,o) (List.mem_append_right _ (List.mem_append_right _ (gG hb e)))).1,fun b hb=>?_,w7⟩;obtain⟨o,e,d⟩:=T.obj _ _ st5 b hb;exact(I7.pin (b,o) (List.mem_append_right _ (List.mem_append_right _ (gG hb e)))).2.1
  cases f with
  | next=>obtain⟨σ7,H7,I7,n7⟩:=q7;exact again I7 n7
  | cont=>obtain⟨σ7,H7,I7,n7⟩:=q7;exact again I7 n7
  | brk=>obtain⟨σ7,H7,I7,q7⟩:=q7;exact⟨σ7,H7,I7.jF,q7⟩
  | ret v=>obtain⟨x7,σ7,H7,I7,r7,q7⟩:=q7;exact⟨x7,σ7,H7,I7.jF,r7,q7⟩
end
@[reducible]noncomputable def R2:=V->V->Hp->VK->Prop
abbrev OpR(X:Cx)(f:Value->Value->Sem Value)(r:R2):Prop :=
 ∀ (pins:List (Addr × Obj)) (s:Shared) (σ:St) (H:Hp) (x y:V) (v u:Value) (Q:VK),Inv X pins σ H s->RelV x v->RelV y u->r x y H Q ->
  wpAny (model X.prog X.w) X.A (f v u) (EP X pins σ Q) X.xe s
abbrev UnR(X:Cx)(f:Value->Sem Value)(r:V->Hp->VK->Prop):Prop :=
 ∀ (pins:List (Addr × Obj)) (s:Shared) (σ:St) (H:Hp) (x:V) (v:Value) (Q:VK),Inv X pins σ H s->RelV x v->r x H Q ->
  wpAny (model X.prog X.w) X.A (f v) (EP X pins σ Q) X.xe s
abbrev bD(X:Cx)(f:Value)(r:List V->Hp->VK->Prop):Prop :=
 ∀ (pins:List (Addr × Obj)) (s:Shared) (σ:St) (H:Hp) (xs:List V) (us:List Value) (Q:VK),Inv X pins σ H s->Vals xs us->r xs H Q ->
  wpAny (model X.prog X.w) X.A (call f us) (EP X pins σ Q) X.xe s
abbrev Hv(X:Cx)(r:V->Hp->(Bool->Hp->Prop)->Prop):Prop :=
 ∀ (pins:List (Addr × Obj)) (s:Shared) (σ:St) (H:Hp) (x:V) (v:Value) (Q:Bool->Hp->Prop),Inv X pins σ H s->RelV x v->r x H Q ->
  wpAny (model X.prog X.w) X.A (truthy v) (TP X pins σ Q) X.xe s
abbrev tOp(r:R2)(ta tb:TE):TE:=fun σ H Q=>ta σ H fun x H1=>tb σ H1 fun y H2=>r x y H2 Q
abbrev tUn(r:V->Hp->VK->Prop)(ta:TE):TE:=fun σ H Q=>ta σ H fun x H1=>r x H1 Q
abbrev rI(C:Int->Int->Prop)(g:Int->Int->V):R2:=fun x y H Q=>∃ i j,x=.int i/\y=.int j/\C i j/\Q (g i j) H
abbrev rI0(g:Int->Int->V):R2:=fun x y H Q=>∃ i j,x=.int i/\y=.int j/\Q (g i j) H
abbrev rU(g:Int->V):V->Hp->VK->Prop:=fun x H Q=>∃ i,x=.int i/\Q (g i) H
section
variable{X:Cx}{a b c:Expr}{ta tb tc:TE}{pos:Pos}
def yZ(ha:PE X a ta)(hb:PE X b tb){pins:List (Addr × Obj)}{s:Shared}{σ:St}{H:Hp}{R:V->V->Hp->Prop}(I:Inv X pins σ H s)
 (h:ta σ H fun x H1=>tb σ H1 fun y H2=>R x y H2){Q:Value->Shared->Prop}{f:Value->Value->Sem Value}
 (hf:∀ v u s2 x y H2,Inv X pins σ H2 s2->RelV x v->RelV y u->R x y H2->wpAny (model X.prog X.w) X.A (f v u) Q X.xe s2) :
  wpAny (model X.prog X.w) X.A (eval a X.env) (fun v s₁=>wpAny (model X.prog X.w) X.A (eval b X.env) (fun u s₂=>wpAny (model X.prog X.w) X.A (f v u) Q X.xe s₂) X.xe s₁) X.xe s:=by
 refine thn (ha pins s σ H _ I h) fun v s1 ⟨x,H1,I1,r1,q1⟩=>?_;refine thn (hb pins s1 σ H1 _ I1 q1) fun u s2 ⟨y,H2,I2,r2,q2⟩=>?_;exact hf v u s2 x y H2 I2 r1 r2 q2
def G7{op:Operator}{r:R2}(ho:OpR X (binaryOp op) r)(ha:PE X a ta)(hb:PE X b tb):PE X (.BinOp a op b pos) (tOp r ta tb):=by
 intro pins s σ H Q I h;exact wpAny_BinOp (yZ ha hb I h fun v u s2 x y H2 I2 rx ry q=>ho pins s2 σ H2 x y v u Q I2 rx ry q)
def A2{op:UnaryOp}{r:V->Hp->VK->Prop}(ho:UnR X (unaryOp op) r)(ha:PE X a ta):PE X (.UnaryOp op a pos) (tUn r ta):=by
 intro pins s σ H Q I h;exact UnaryOp_ (thn (ha pins s σ H _ I h) fun v s1 ⟨x,H1,I1,r1,q1⟩=>ho pins s1 σ H1 x v Q I1 r1 q1)
def opI{f:Value->Value->Sem Value}{C:Int->Int->Prop}{g:Int->Int->Int}
 (rule:∀ (i j:Int) (t u:Tok) (s:Shared) (Q:Value->Shared->Prop) (E:Value->Shared->Prop),C i j->Q (.int (g i j) s.toks) { s with toks:=s.toks+1 }->wpAny (model X.prog X.w) X.A (f (.int i t) (.int j u)) Q E s) :
  OpR X f (rI C fun i j=>.int (g i j)):=by
 intro pins s σ H x y v u Q I rx ry h;obtain⟨i,j,rfl,rfl,hc,q⟩:=h;obtain⟨t,rfl⟩:=rx;obtain⟨t',rfl⟩:=ry;exact rule i j t t' s _ _ hc ⟨.int (g i j),H,I.tok _,⟨_,rfl⟩,q⟩
def CO{f:Value->Value->Sem Value}{g:Int->Int->Int}
 (rule:∀ (i j:Int) (t u:Tok) (s:Shared) (Q:Value->Shared->Prop) (E:Value->Shared->Prop),Q (.int (g i j) s.toks) { s with toks:=s.toks+1 }->wpAny (model X.prog X.w) X.A (f (.int i t) (.int j u)) Q E s) :
  OpR X f (rI0 fun i j=>.int (g i j)):=by
 intro pins s σ H x y v u Q I rx ry h;obtain⟨i,j,rfl,rfl,q⟩:=h;obtain⟨t,rfl⟩:=rx;obtain⟨t',rfl⟩:=ry;exact rule i j t t' s _ _ ⟨.int (g i j),H,I.tok _,⟨_,rfl⟩,q⟩
abbrev ER(i j:Int):Prop:=0<=j/\j<=1000000/\i.natAbs<2 ^ 64
abbrev vy(i j:Int):Prop:=(-(2 ^ 64)<i/\i<2 ^ 64)\/(-(2 ^ 64)<j/\j<2 ^ 64)
def vy.ok{i j:Int}(h:vy i j):IntMulOk i j:=by
 rcases h with⟨h1,h2⟩ | ⟨h1,h2⟩
 ·exact .of_left (intBits_le_64 h1 h2)
 ·exact .of_right (intBits_le_64 h1 h2)
def Em:OpR X (binaryOp .Add) (rI0 fun i j=>.int (i+j)):=CO fun _ _ _ _ _ _ _ q=>add_int q
def Fl:OpR X (binaryOp .Sub) (rI0 fun i j=>.int (i-j)):=CO fun _ _ _ _ _ _ _ q=>sub_int q
def Eo:OpR X (binaryOp .Mult) (rI vy fun i j=>.int (i*j)):=opI fun _ _ _ _ _ _ _ hc q=>mul_int q hc.ok
def E9:OpR X (binaryOp .Mod) (rI (fun _ j=>0<j) fun i j=>.int (i%j)):=opI fun i j _ _ _ _ _ hc q=>by
 have h1:(0:Int)<j:=hc;exact mod_int' (by omega) (by rw[Int.fmod_eq_emod_of_nonneg i (by omega)];exact q)
def Eb:OpR X (binaryOp .Pow) (rI ER fun i j=>.int (i ^ j.toNat)):=opI fun _ _ _ _ _ _ _ hc q=>pow_int_small hc.1 hc.2.1 hc.2.2 q
def unI{f:Value->Sem Value}{g:Int->Int}
 (rule:∀ (i:Int) (t:Tok) (s:Shared) (Q:Value->Shared->Prop) (E:Value->Shared->Prop),Q (.int (g i) s.toks) { s with toks:=s.toks+1 }->wpAny (model X.prog X.w) X.A (f (.int i t)) Q E s) :
  UnR X f (rU fun i=>.int (g i)):=by
 intro pins s σ H x v Q I rx h;obtain⟨i,rfl,q⟩:=h;obtain⟨t,rfl⟩:=rx;exact rule i t s _ _ ⟨.int (g i),H,I.tok _,⟨_,rfl⟩,q⟩
def wa:UnR X (unaryOp .USub) (rU fun i=>.int (-i)):=unI fun _ _ _ _ _ q=>neg_int q
end
abbrev GC:V->V->Bool
 | .non,.non=>true | .non,.int _=>true | .int _,.non=>true | .non,.bl _=>true | .bl _,.non=>true | .non,.str _=>true | .str _,.non=>true
 | .int _,.int _=>true | .bl _,.bl _=>true | .str _,.str _=>true | .byt _,.byt _=>true
 | .int _,.str _=>true | .str _,.int _=>true | .bl _,.str _=>true | .str _,.bl _=>true
 | _,_=>false
abbrev rNe:R2:=fun x y H Q=>GC x y=true/\Q (.bl (!decide (x=y))) H
def BN{i j:Int}:decide (V.int i=V.int j)=(i == j):=by
 rw[Bool.eq_iff_iff];simp
def Ec{i j:Bool}:decide (V.bl i=V.bl j)=(i == j):=by
 rw[Bool.eq_iff_iff];simp
def Cb{i j:Str}:decide (V.str i=V.str j)=(i == j):=by
 rw[Bool.eq_iff_iff];simp
def AJ{i j:Array UInt8}:decide (V.byt i=V.byt j)=(i.toList == j.toList):=by
 rw[Bool.eq_iff_iff];cases i;cases j;simp
section
variable{X:Cx}{a b c:Expr}{ta tb tc:TE}{pos:Pos}
def cE{pins:List (Addr × Obj)}{σ:St}{H:Hp}{s:Shared}{Q:VK}{k k':Bool}(I:Inv X pins σ H s)(q:Q (.bl k) H)(e:k=k'):EP X pins σ Q (.bool k') s:=by
 subst e;exact⟨.bl k,H,I,rfl,q⟩
def G6:OpR X (compareOp .NotEq) rNe:=by
 intro pins s σ H x y v u Q I rx ry h;obtain⟨hs,q⟩:=h
 cases x with
 |non=>
  cases rx
  cases y with
  | non=>cases ry;exact PySem.EqNone.ne_none_none (cE I q (by simp))
  | bl j=>cases ry;exact PySem.EqNone.ne_none_bool (cE I q (by simp))
  | int j=>obtain⟨t',rfl⟩:=ry;exact PySem.EqNone.ne_none_int (cE I q (by simp))
  | str j=>obtain⟨t',rfl⟩:=ry;exact PySem.EqNone.ne_none_str (cE I q (by simp))
  | _=>exact absurd (show false=true from hs) Bool.false_ne_true
 |bl i=>
  cases rx
  cases y with
  | non=>cases ry;exact PySem.EqNone.ne_bool_none (cE I q (by simp))
  | bl j=>cases ry;exact ne_bool (cE I q (congrArg not Ec))
  | str j=>obtain⟨t',rfl⟩:=ry;exact PySem.EqMixed.ne_bool_str (cE I q (by simp))
  | _=>exact absurd (show false=true from hs) Bool.false_ne_true
 |int i=>
  obtain⟨t,rfl⟩:=rx
  cases y with
  | non=>cases ry;exact PySem.EqNone.ne_int_none (cE I q (by simp))
  | int j=>obtain⟨t',rfl⟩:=ry;exact ne_int (cE I q (congrArg not BN))
  | str j=>obtain⟨t',rfl⟩:=ry;exact PySem.EqMixed.ne_int_str (cE I q (by simp))
  | _=>exact absurd (show false=true from hs) Bool.false_ne_true
 |str i=>
  obtain⟨t,rfl⟩:=rx
  cases y with
  | non=>cases ry;exact PySem.EqNone.ne_str_none (cE I q (by simp))
  | bl j=>cases ry;exact PySem.EqMixed.ne_str_bool (cE I q (by simp))
  | int j=>obtain⟨t',rfl⟩:=ry;exact PySem.EqMixed.ne_str_int (cE I q (by simp))
  | str j=>obtain⟨t',rfl⟩:=ry;exact ne_str (cE I q (congrArg not Cb))
  | _=>exact absurd (show false=true from hs) Bool.false_ne_true
 |byt i=>
  obtain⟨t,rfl⟩:=rx
  cases y with
  | byt j=>obtain⟨t',rfl⟩:=ry;exact PySem.W.ne_bytes (cE I q (congrArg not AJ))
  | _=>exact absurd (show false=true from hs) Bool.false_ne_true
 | _=>cases y<;>exact absurd (show false=true from hs) Bool.false_ne_true
def OpR.or{f:Value->Value->Sem Value}{r r':R2}(h:OpR X f r)(h':OpR X f r'):OpR X f (fun x y H Q=>r x y H Q\/r' x y H Q):=by
 intro pins s σ H x y v u Q I rx ry q;rcases q with q | q
 ·exact h pins s σ H x y v u Q I rx ry q
 ·exact h' pins s σ H x y v u Q I rx ry q
def vN(b:Expr){op:CmpOp}(h:op≠.In:=by decide)(h2:op≠.NotIn:=by decide):behindInMarks op b=false:=by
 have e1:(op == CmpOp.In)=false:=by cases op<;>first | rfl | exact absurd rfl h
 have e2:(op == CmpOp.NotIn)=false:=by cases op<;>first | rfl | exact absurd rfl h2
 cases b<;>simp[behindInMarks,e1,e2]
def Bt{op:CmpOp}{r:R2}(ho:OpR X (compareOp op) r)(ha:PE X a ta)(hb:PE X b tb)(hm:behindInMarks op b=false):PE X (.Compare a [op] [b] pos) (tOp r ta tb):=by
 intro pins s σ H Q I h;exact wpAny_Compare1 (yZ ha hb I h fun v u s2 x y H2 I2 rx ry q=>ho pins s2 σ H2 x y v u Q I2 rx ry q) hm
abbrev A4(t:TE):TT:=fun σ H Q=>t σ H fun x H'=>∃ k,x=.bl k/\Q k H'
def tR{op:CmpOp}{r:R2}(ho:OpR X (compareOp op) r)(ha:PE X a ta)(hb:PE X b tb)(hm:behindInMarks op b=false):PT X (.Compare a [op] [b] pos) (A4 (tOp r ta tb)):=by
 intro pins s σ H Q I h
 refine wpAny_isTrue_Compare1 (thn (ha pins s σ H _ I h) fun v s1 ⟨x,H1,I1,r1,q1⟩=>thn (hb pins s1 σ H1 _ I1 q1) fun u s2 ⟨y,H2,I2,r2,q2⟩ =>
  thn (ho pins s2 σ H2 x y v u _ I2 r1 r2 q2) fun c s3 ⟨z,H3,I3,r3,k,e,q3⟩=>?_) hm
 subst e;cases r3;exact wpAny_truthy_bool ⟨H3,I3,q3⟩
abbrev sh(r r':R2)(ta tb tc:TE):TE:=fun σ H Q=>ta σ H fun x H1=>tb σ H1 fun y H2=>r x y H2 fun z H3=>∃ k,z=.bl k /\
 (if k=true then tc σ H3 fun w' H4=>r' y w' H4 Q else Q (.bl false) H3)
def yV{op op':CmpOp}{r r':R2}(ho:OpR X (compareOp op) r)(ho':OpR X (compareOp op') r')(ha:PE X a ta)(hb:PE X b tb)(hc:PE X c tc)
 (hm:lastMarks [op,op'] [b,c]=false:=by with_unfolding_all rfl):PE X (.Compare a [op,op'] [b,c] pos) (sh r r' ta tb tc):=by
 intro pins s σ H Q I h
 refine Compare_chain (thn (ha pins s σ H _ I h) fun v s1 ⟨x,H1,I1,r1,q1⟩=>chain_link (thn (hb pins s1 σ H1 _ I1 q1) fun u s2 ⟨y,H2,I2,r2,q2⟩ =>
  thn (ho pins s2 σ H2 x y v u _ I2 r1 r2 q2) fun d s3 ⟨z,H3,I3,r3,k,e,q3⟩=>?_)) hm
 subst e;cases r3;refine wpAny_truthy_bool ?_
 cases k with
 | false=>exact ite_ff ⟨.bl false,H3,I3,rfl,q3⟩
 | true=>exact ite_tt (chain_last (thn (hc pins s3 σ H3 _ I3 q3) fun w' s4 ⟨z',H4,I4,r4,q4⟩=>ho' pins s4 σ H4 y z' u w' Q I4 r2 r4 q4))
def yy{op op':CmpOp}{r r':R2}(ho:OpR X (compareOp op) r)(ho':OpR X (compareOp op') r')(ha:PE X a ta)(hb:PE X b tb)(hc:PE X c tc)
 (hm:lastMarks [op,op'] [b,c]=false:=by with_unfolding_all rfl):PT X (.Compare a [op,op'] [b,c] pos) (A4 (sh r r' ta tb tc)):=by
 intro pins s σ H Q I h
 refine isTrue_chain (thn (ha pins s σ H _ I h) fun v s1 ⟨x,H1,I1,r1,q1⟩=>test_link (thn (hb pins s1 σ H1 _ I1 q1) fun u s2 ⟨y,H2,I2,r2,q2⟩ =>
  thn (ho pins s2 σ H2 x y v u _ I2 r1 r2 q2) fun d s3 ⟨z,H3,I3,r3,k,e,q3⟩=>?_)) hm
 subst e;cases r3;refine wpAny_truthy_bool ?_
 cases k with
 |false=>
  obtain⟨k',e',q'⟩:=q3;cases e';exact ite_ff ⟨H3,I3,q'⟩
 |true=>
  refine ite_tt (test_last (thn (hc pins s3 σ H3 _ I3 q3) fun w' s4 ⟨z',H4,I4,r4,q4⟩=>thn (ho' pins s4 σ H4 y z' u w' _ I4 r2 r4 q4) fun d' s5 ⟨z2,H5,I5,r5,k2,e2,q5⟩=>?_));subst e2;cases r5;exact wpAny_truthy_bool ⟨H5,I5,q5⟩
abbrev vb(K:PySem.W.Frag)(x:V)(H:Hp)(k:Bool):Prop :=
 match x with
 | .non=>k=false
 | .bl b=>k=b
 | .int i=>k=(i != 0)
 | .str y=>y.length<=sizeLine/\k=((y.length:Int) != 0)
 | .byt y=>y.size<=sizeLine/\k=((y.size:Int) != 0)
 | .ref p=>(∃ xs,SqL K H p xs/\k=!xs.isEmpty)\/(∃ xs,SqT K H p xs/\k=!xs.isEmpty)\/∃ kvs,H p=some (.dK kvs)/\k=!kvs.isEmpty
 | _=>False
def vh{κ:Type}{kvs:List (κ × V)}{vs:List (κ × Value)}(r:KV kvs vs):(!vs.isEmpty)=!kvs.isEmpty:=by
 cases r<;>rfl
def mK{xs:List V}{its:List Value}(r:Vals xs its):(!its.toArray.isEmpty)=!xs.isEmpty:=by
 cases r<;>simp
def ja:(sizeLine:Nat)<2 ^ 63:=by rw[sizeLine_eq];decide
def wH:Hv X (fun x H Q=>∃ k,vb X.K x H k/\Q k H):=by
 intro pins s σ H x v Q I rx h;obtain⟨k,e,q⟩:=h;have hl:=ja;have hs:sizeLine=16777216:=sizeLine_eq
 cases x with
 |non=>
  cases rx;have e':k=false:=e;subst e';exact truthy_none ⟨H,I,q⟩
 |bl b=>
  cases rx;have e':k=b:=e;subst e';exact wpAny_truthy_bool ⟨H,I,q⟩
 |int i=>
  obtain⟨t,rfl⟩:=rx;have e':k=(i != 0):=e;subst e';exact PySem.P.truthy_int ⟨H,I,q⟩
 |str y=>
  obtain⟨t,rfl⟩:=rx;obtain⟨hy,e'⟩:y.length<=sizeLine/\k=((y.length:Int) != 0):=e;subst e';exact PySem.P.truthy_str (by omega) ⟨H,I.tok _,q⟩
 |byt y=>
  obtain⟨t,rfl⟩:=rx;obtain⟨hy,e'⟩:y.size<=sizeLine/\k=((y.size:Int) != 0):=e;subst e';exact PySem.W.truthy_bytes (by omega) ⟨H,I.tok _,q⟩
 |ref p=>
  cases rx;have e':(∃ xs,SqL X.K H p xs/\k=!xs.isEmpty)\/(∃ xs,SqT X.K H p xs/\k=!xs.isEmpty)\/∃ kvs,H p=some (.dK kvs)/\k=!kvs.isEmpty:=e
  rcases e' with⟨xs,hx,e'⟩ | ⟨xs,hx,e'⟩ | ⟨kvs,hx,e'⟩
  ·subst e';obtain⟨its,r,pl,hz⟩:=I.list hx;have hlen:=r.length;exact wpAny_truthy_list pl.isList (by simp only[List.size_toArray];omega) ⟨H,I.tok _,by rw[mK r];exact q⟩
  ·subst e';obtain⟨its,r,pl,hz⟩:=I.tuple hx;have hlen:=r.length;exact truthy_tuple pl (by simp only[List.size_toArray];omega) ⟨H,I.tok _,by rw[mK r];exact q⟩
  ·subst e';obtain⟨hz,hS,vs,r,m⟩:kvs.length<=sizeLine/\(p == sysModules)=false/\∃ vs,KV kvs vs/\s.heap.DictOf (cn X.prog X.w) p vs:=I.hok p _ hx;have hlen:kvs.length=vs.length:=Paired.length r;exact wpAny_truthy_dict hS m (by omega) ⟨H,I.tok _,by rw[vh r];exact q⟩
 | _=>exact(show False from e).elim
def yG(ha:PE X a ta)(he:∀ whole,isTrue a X.env whole=(do let v <- whole;standAt a.pos;holding [v] (truthy v))) :
  PT X a (fun σ H Q=>ta σ H fun x H'=>∃ k,vb X.K x H' k/\Q k H'):=by
 intro pins s σ H Q I h;exact isTrue_plain (thn (ha pins s σ H _ I h) fun v s1 ⟨x,H1,I1,r1,q1⟩=>wH pins s1 σ H1 x v Q I1 r1 q1) (he _)
def vd:OpR X (binaryOp .Add) (fun x y H Q=>∃ i j,x=.str i/\y=.str j/\i.length+j.length<=sizeLine/\Q (.str (i++j)) H):=by
 intro pins s σ H x y v u Q I rx ry h;obtain⟨i,j,rfl,rfl,hz,q⟩:=h;obtain⟨t,rfl⟩:=rx;obtain⟨t',rfl⟩:=ry;exact add_str (fun t' tk=>⟨.str (i++j),H,I.tok _,⟨_,rfl⟩,q⟩) hz
def vals1{x:V}{us:List Value}(r:Vals [x] us):∃ u,us=[u]/\RelV x u:=by
 cases r with
 | cons r1 r2=>cases r2;exact⟨_,rfl,r1⟩
def vals2{x y:V}{us:List Value}(r:Vals [x,y] us):∃ u w',us=[u,w']/\RelV x u/\RelV y w':=by
 cases r with
 |cons r1 r2=>
  cases r2 with
  | cons r3 r4=>cases r4;exact⟨_,_,rfl,r1,r3⟩
def xG(hc:X.calm=true):bD X (.builtin "max") (fun xs H Q=>∃ i j,xs=[.int i,.int j]/\Q (.int (if j > i then j else i)) H):=by
 intro pins s σ H xs us Q I r h;obtain⟨i,j,rfl,q⟩:=h;obtain⟨u,w',rfl,⟨t,rfl⟩,⟨t',rfl⟩⟩:=vals2 r
 refine max_two_ints (I.ok.hd.1 hc) fun h' tk k=>⟨_,H,I.kept k,?_,q⟩
 by_cases hj:j > i
 ·rw[if_pos hj,if_pos hj];exact⟨_,rfl⟩
 ·rw[if_neg hj,if_neg hj];exact⟨_,rfl⟩
def vX(hc:X.calm=true):bD X (.builtin "min") (fun xs H Q=>∃ i j,xs=[.int i,.int j]/\Q (.int (if j<i then j else i)) H):=by
 intro pins s σ H xs us Q I r h;obtain⟨i,j,rfl,q⟩:=h;obtain⟨u,w',rfl,⟨t,rfl⟩,⟨t',rfl⟩⟩:=vals2 r
 refine min_two_ints (I.ok.hd.1 hc) fun h' tk k=>⟨_,H,I.kept k,?_,q⟩
 by_cases hj:j<i
 ·rw[if_pos hj,if_pos hj];exact⟨_,rfl⟩
 ·rw[if_neg hj,if_neg hj];exact⟨_,rfl⟩
def vJ:bD X (.type "int") (fun xs H Q=>(∃ i,xs=[.int i]/\Q (.int i) H)\/∃ k,xs=[.bl k]/\Q (.int (if k then 1 else 0)) H):=by
 intro pins s σ H xs us Q I r h
 rcases h with⟨i,rfl,q⟩ | ⟨k,rfl,q⟩
 ·obtain⟨u,rfl,t,rfl⟩:=vals1 r;exact call_int_int ⟨.int i,H,I,⟨_,rfl⟩,q⟩
 ·obtain⟨u,rfl,r1⟩:=vals1 r;cases r1;exact call_int_bool ⟨.int (if k then 1 else 0),H,I.tok _,⟨_,rfl⟩,q⟩
abbrev DE(K:PySem.W.Frag)(x:V)(H:Hp)(n:Nat):Prop :=
 match x with
 | .str y=>y.length<=sizeLine/\n=y.length
 | .byt y=>y.size<=sizeLine/\n=y.size
 | .ref p=>(∃ xs,SqL K H p xs/\n=xs.length)\/∃ xs,SqT K H p xs/\n=xs.length
 | _=>False
def zY:bD X (.builtin "len") (fun xs H Q=>∃ x n,xs=[x]/\DE X.K x H n/\Q (.int n) H):=by
 intro pins s σ H xs us Q I r h;obtain⟨x,n,rfl,e,q⟩:=h;obtain⟨u,rfl,rx⟩:=vals1 r;have hl:=ja;have hs:sizeLine=16777216:=sizeLine_eq
 cases x with
 |str y=>
  obtain⟨t,rfl⟩:=rx;obtain⟨hy,e'⟩:y.length<=sizeLine/\n=y.length:=e;subst e';exact len_str (by omega) ⟨.int _,H,I.tok _,⟨_,rfl⟩,q⟩
 |byt y=>
  obtain⟨t,rfl⟩:=rx;obtain⟨hy,e'⟩:y.size<=sizeLine/\n=y.size:=e;subst e';exact PySem.W.len_bytes (by omega) ⟨.int _,H,I.tok _,⟨_,rfl⟩,q⟩
 |ref p=>
  cases rx;have e':(∃ xs,SqL X.K H p xs/\n=xs.length)\/∃ xs,SqT X.K H p xs/\n=xs.length:=e
  rcases e' with⟨xs,hx,e'⟩ | ⟨xs,hx,e'⟩
  ·subst e';obtain⟨its,r',pl,hz⟩:=I.list hx;have hlen:=r'.length;exact Calls.call_len_list pl.isList (by simp only[List.size_toArray];omega) ⟨.int xs.length,H,I.tok _,⟨_,by simp only[List.size_toArray];rw[hlen]⟩,q⟩
  ·subst e';obtain⟨its,r',pl,hz⟩:=I.tuple hx;have hlen:=r'.length;exact len_tuple pl (by simp only[List.size_toArray];omega) ⟨.int xs.length,H,I.tok _,⟨_,by simp only[List.size_toArray];rw[hlen]⟩,q⟩
 | _=>exact(show False from e).elim
end
structure zg(h:Heap)(x dx C:Addr)(mA:Str->Option Value):Prop where
 obj:h.get? x=some (PySem.W.instObj C dx)
 ns:h.Ns1 dx mA
 ne:dx≠x
def v8{h:Heap}{dx:Addr}{mA:Str->Option Value}(n:h.Ns1 dx mA):∃ od,h.get? dx=some od/\∀ name,PySem.W.lookIn name od=some (mA name):=by
 obtain⟨o,es,ep,ho,hd,hk,_,hm⟩:=n;refine⟨o,ho,fun name=>?_⟩;have e:=hm name;unfold nsFind findBy at e;rw[<-Array.find?_toList]at e;unfold PySem.W.lookIn;rw[hd];dsimp only;split
 ·rename_i y q;rw[q]at e;exact congrArg some e
 ·rename_i q;rw[q]at e
  have a:es.toList.any (·.refKey)=false:=by
   rw[List.any_eq_false];intro y hy;obtain⟨z,t,hkey⟩:=hk y (Array.mem_toList_iff.mp hy);simp[DictEntry.refKey,hkey]
  have a':¬ es.toList.any (·.refKey)=true:=by rw[a];exact Bool.false_ne_true
  rw[if_neg a'];exact congrArg some e
def zg.look{h:Heap}{x dx C:Addr}{mA:Str->Option Value}(I:zg h x dx C mA):∃ od,PySem.W.InstAt h x (PySem.W.instObj C dx) C (some od)/\∀ name,PySem.W.lookIn name od=some (mA name) :=
 let ⟨od,ho,hl⟩:=v8 I.ns
 ⟨od,⟨I.obj,rfl,rfl,ho⟩,hl⟩
section
variable{prog:Program}{w:World}{A:Around}{E:Value->Shared->Prop}{s:Shared}{K:PySem.W.Frag}{x dx C f:Addr}{mA:Str->Option Value}{name:Str}{v:Value}
end
def il.some_of{v:V}{o:Option Value}(r:il (some v) o):∃ u,o=some u/\RelV v u:=by
 cases o with
 | none=>exact(show False from r).elim
 | some u=>exact⟨u,rfl,r⟩
section
variable{P:Program}{w:World}{H H':Hp}{h h':Heap}{a C dx:Addr}{fs fs':List (Str × V)}
def BK(hok:HOk P w H h)(e:H a=some (.ins C dx fs)):∃ mA,zg h a dx C mA/\(∀ f,il (fs.lookup f) (mA f))/\PySem.Within mA (fs.map (·.1))/\fs.length<=1000/\H dx=some (.own a):=by
 obtain⟨d,z,ne,ob,mA,n,r,q⟩:=(show bA P w H h a (.ins C dx fs)from hok a _ e)
 exact⟨mA,⟨ob,n,ne⟩,r,q,z,d⟩
end
structure Cls(K:PySem.W.Frag)(C:Addr):Prop where
 pg:PySem.W.plainGet K C Str.empty=true
 hd:PySem.W.hasDictIn K C=true
 po:PySem.W.plainOver K C=true
 sa:PySem.W.findIn K (.ref C) "__setattr__" = some (some (.builtin "object.__setattr__"))
def Cls.get{K:PySem.W.Frag}{C:Addr}(c:Cls K C)(f:Str):PySem.W.plainGet K C f=true:=c.pg
section
variable{X:Cx}{pins:List (Addr × Obj)}{σ:St}{H:Hp}{s:Shared}{a C dx:Addr}{fs:List (Str × V)}{f:Str}{v:V}{A:Around}{E:Value->Shared->Prop}
end
section
variable{X:Cx}{o e value:Expr}{f:Str}{pos pos' tpos:Pos}{ta tv:TE}
end
section
variable{X:Cx}{pins:List (Addr × Obj)}{σ:St}{H:Hp}{s:Shared}{A:Around}{E:Value->Shared->Prop}{Q:Value->Shared->Prop}{c:Value}{b:Bool}
inductive eS (K:PySem.W.Frag) (H:Hp):V->Value->Prop where
 | non:eS K H .non (.type "NoneType")
 | bl (x:Bool):eS K H (.bl x) (.type "bool")
 | int (i:Int):eS K H (.int i) (.type "int")
 | str (x:Str):eS K H (.str x) (.type "str")
 | flt (x:UInt64):eS K H (.flt x) (.type "float")
 | lst {a:Addr} {xs:List V} (e:H a=some (.lst xs)):eS K H (.ref a) (.type "list")
 | frz {a:Addr} {o:Obj} {xs:List V} (e:H a=some (.frz o (.lst xs))):eS K H (.ref a) (.type "list")
 | tup {a:Addr} {xs:List V} (e:H a=some (.tup xs)):eS K H (.ref a) (.type "tuple")
 | dK {a:Addr} {kvs:List (Key × V)} (e:H a=some (.dK kvs)):eS K H (.ref a) (.type "dict")
 | dT {a:Addr} {kvs:List (List Key × V)} (e:H a=some (.dT kvs)):eS K H (.ref a) (.type "dict")
 | ins {a C dx:Addr} {fs:List (Str × V)} (e:H a=some (.ins C dx fs)) (cl:Cls K C) (ha:PySem.W.findIn K (.ref C) "__class__" = some (some (.builtin "object.__class__")))
   (hn:PySem.W.specialIn K (.builtin "object.__class__") "__get__" = some (some (.builtin "getset_descriptor.__get__"))) (htk:PySem.W.takesIn K (.builtin "object.__class__")=some true)
   (hm:PySem.W.mroIn K C (.type "object")=some true):eS K H (.ref a) (.ref C)
def x6{x:V}{u t:Value}(I:Inv X pins σ H s)(rx:RelV x u)(ty:eS X.K H x t)(e:PySem.W.kitOne X.K t c=some b)(h:∀ tk,Q (.bool b) { s with toks:=tk }) :
  wpAny (model X.prog X.w) A (call (.builtin "isinstance") [u,c]) Q E s:=by
 cases ty with
 | non=>cases(show u=Value.none from rx);exact PySem.W.kia_one PySem.W.kitx_none I.kIn True.intro e (fun z=>nomatch z) h
 | bl y=>cases(show u=Value.bool y from rx);exact PySem.W.kia_one PySem.W.kitx_bool I.kIn True.intro e (fun z=>nomatch z) h
 | int i=>obtain⟨t,q⟩:=(show ∃ t,u=Value.int i t from rx);cases q;exact PySem.W.kia_one PySem.W.kitx_int I.kIn True.intro e (fun z=>nomatch z) h
 | str y=>obtain⟨t,q⟩:=(show ∃ t,u=Value.str y t from rx);cases q;exact PySem.W.kia_one PySem.W.kitx_str I.kIn True.intro e (fun z=>nomatch z) h
 | flt y=>obtain⟨t,q⟩:=(show ∃ t,u=Value.float y t from rx);cases q;exact PySem.W.kia_one PySem.W.kitx_float I.kIn True.intro e (fun z=>nomatch z) h
 |@lst a xs ea=>
  cases(show u=Value.ref a from rx)
  obtain⟨_,_,n,_,h1⟩:=(show bA X.prog X.w H s.heap a (.lst xs)from I.hok a _ ea)
  exact PySem.W.kia_one PySem.W.kitx_list I.kIn ⟨_,h1,rfl⟩ e (fun z=>nomatch z) h
 |@frz a ob xs ea=>
  cases(show u=Value.ref a from rx)
  obtain⟨_,_,_,n,_,h1⟩:=(show bA X.prog X.w H s.heap a (.frz ob (.lst xs))from I.hok a _ ea)
  exact PySem.W.kia_one PySem.W.kitx_list I.kIn ⟨_,h1,rfl⟩ e (fun z=>nomatch z) h
 |@tup a xs ea=>
  cases(show u=Value.ref a from rx)
  obtain⟨_,_,_,p⟩:=(show bA X.prog X.w H s.heap a (.tup xs)from I.hok a _ ea)
  obtain⟨o,h1,h2,_⟩:=p;exact PySem.W.kia_one PySem.W.kitx_tuple I.kIn ⟨o,h1,h2⟩ e (fun z=>nomatch z) h
 |@dK a kvs ea=>
  cases(show u=Value.ref a from rx)
  obtain⟨_,_,vs,_,p⟩:=(show bA X.prog X.w H s.heap a (.dK kvs)from I.hok a _ ea)
  obtain⟨o,es,ep,h1,h2,_⟩:=p;exact PySem.W.kia_one PySem.W.kitx_dict I.kIn ⟨o,h1,h2.1⟩ e (fun z=>nomatch z) h
 |@dT a kvs ea=>
  cases(show u=Value.ref a from rx)
  obtain⟨_,_,xs,_,o,es,ep,h1,h2,_⟩:=(show bA X.prog X.w H s.heap a (.dT kvs)from I.hok a _ ea)
  exact PySem.W.kia_one PySem.W.kitx_dict I.kIn ⟨o,h1,h2.1⟩ e (fun z=>nomatch z) h
 |@ins a C dx fs ea cl ha hn htk hm=>
  cases(show u=Value.ref a from rx);obtain⟨mA,O,_⟩:=BK I.hok ea;obtain⟨od,J,_⟩:=O.look;exact PySem.W.kia_one (PySem.W.kitx_own (cl.get _) cl.hd ha hn htk hm) I.kIn J e (fun z=>nomatch z) h
end
structure eG(k:Nat)(A:Around):Prop where
 hd:A.handled=none
 dp:A.depth+3*k+5<recursionLimit
 un:A.units+16*k+200<cLine
def eG.deeper{k:Nat}{A:Around}(r:eG (k+1) A)(env:Env):eG k (A.deeper env) :=
 ⟨r.hd,by have:=r.dp;show A.depth+1+3*k+5<_;omega,by have:=r.un;show A.units+3+16*k+200<_;omega⟩
def eG.depth{k:Nat}{A:Around}(r:eG k A):A.depth<recursionLimit:=by have:=r.dp;omega
abbrev zu:TA:=fun _ H Q=>Q [] H
abbrev vp(ta:TE)(tr:TA):TA:=fun σ H Q=>ta σ H fun x H1=>tr σ H1 fun xs H2=>Q (x::xs) H2
section
variable{X:Cx}{e:Expr}{es:List Expr}{te:TE}{t:TA}{pos:Pos}
def eZ:PA X [] zu:=fun _ _ _ _ H Q I h=>Calls.spliced_nil ⟨[],H,I,.nil,h⟩
def cK(ha:PE X e te)(hr:PA X es t)(hs:starEach (e::es) X.env=(false,eval e X.env)::starEach es X.env:=by rfl):PA X (e::es) (vp te t):=by
 intro pos pins s σ H Q I h;rw[hs];show wpAny _ _ (spliced ((false,eval e X.env)::backTo pos (starEach es X.env))) _ _ s;refine Calls.spliced_cons (thn (ha pins s σ H _ I h) fun u s1 ⟨x,H1,I1,r1,q1⟩=>?_)
 exact thn (hr pos pins s1 σ H1 _ I1 q1) fun us s2 ⟨xs,H2,I2,r2,q2⟩=>⟨x::xs,H2,I2,.cons r1 r2,q2⟩
abbrev GQ(t:TA):TE:=fun σ H Q=>t σ H fun xs H1=>xs.length<=sizeLine/\∀ p,H1 p=none->Q (.ref p) (upd H1 p (.tup xs))
abbrev Hy(t:TA):TE:=fun σ H Q=>t σ H fun xs H1=>xs.length<=sizeLine/\∀ p,H1 p=none->Q (.ref p) (upd H1 p (.lst xs))
def EC{x1}(h:PA X es t):PE X (.Tuple es x1 pos) (GQ t):=by
 intro pins s σ H Q I hq;refine wpAny_Tuple_spliced (thn (h pos pins s σ H _ I hq) fun us s1 ⟨xs,H1,I1,r,z,q⟩=>⟨by rw[<-r.length];exact z,?_⟩);have hf:H1 s1.heap.objs.size=none:=I1.hok.fresh (Nat.le_refl _);refine⟨.ref s1.heap.objs.size,upd H1 s1.heap.objs.size (.tup xs),I1.laid (t':=s1.toks) (fun b u e=>Heap.get?_push_of_some _ e) (Nat.le_refl _) ?_,rfl,q _ hf⟩;exact⟨z,us,r,⟨_,Heap.get?_push_size _ rfl,rfl,_,rfl⟩⟩
def E7(h:PA X es t):PE X (.List es pos) (Hy t):=by
 intro pins s σ H Q I hq;refine wpAny_List_spliced (thn (h pos pins s σ H _ I hq) fun us s1 ⟨xs,H1,I1,r,z,q⟩=>⟨by rw[<-r.length];exact z,?_⟩);have hf:H1 s1.heap.objs.size=none:=I1.hok.fresh (Nat.le_refl _);refine⟨.ref s1.heap.objs.size,upd H1 s1.heap.objs.size (.lst xs),I1.laid (t':=s1.toks) (fun b u e=>Heap.get?_push_of_some _ e) (Nat.le_refl _) ?_,rfl,q _ hf⟩;exact⟨z,us,0,r,Heap.get?_push_size _ rfl⟩
end
@[reducible]noncomputable def Sp:=List V->Hp->VK->XK->Prop
@[reducible]noncomputable def CXT:=List Env->Hp->Shared->XK->Value->Shared->Prop
structure uN(P:Program)(w:World)(K:PySem.W.Frag)(mg:Str->Option Value)(base:Heap)(A:Around)(outer:List Env)(s:Shared)(H:Hp):Prop where
 frames:A.frames=some outer
 mod:Mod K mg base
 bs:∀ b o,base.get? b=some o->s.heap.get? b=some o/\H b=none
 bsz:base.objs.size<=s.heap.objs.size
 ie:s.heap.FunFrames base outer
 frf:∀ b∈frs outer,H b=none
 hok:HOk P w H s.heap
 bare:AllBare s.gens
abbrev CE(outer:List Env)(P:Program)(w:World)(H:Hp)(s:Shared)(Q:VK)(u:Value)(s':Shared):Prop :=
 ∃ v H',s'.os=s.os/\AllBare s'.gens/\Un (frs outer) [] H H' s.heap s'.heap/\HOk P w H' s'.heap/\RelV v u/\Q v H'
abbrev CR(CX:CXT)(outer:List Env)(P:Program)(w:World)(H:Hp)(s:Shared)(Q:VK)(E:XK)(r:Result)(s':Shared):Prop :=
 match r with
 | .ok (.ret u)=>CE outer P w H s Q u s'
 | .ok _=>False
 | .error e=>CX outer H s E e s'
structure iQ(P:Program)(w:World)(K:PySem.W.Frag)(mg:Str->Option Value)(base:Heap)(CX:CXT)(k:Nat)(f:Addr)(fd:FuncData)(ps:List Str)(sp:Sp):Prop where
 len:∀ vs H Q E,sp vs H Q E->vs.length=ps.length
 run:∀ (A:Around) (outer:List Env) (s:Shared) (H:Hp) (args:Args) (us:List Value) (vs:List V) (Q:VK) (E:XK),eG k A->uN P w K mg base A outer s H->BindsTo s fd args (ps.zip us)->Vals vs us->sp vs H Q E ->
  codeAny (model P w) A (.call (.ref f) args) (CR CX outer P w H s Q E) s
section
variable{X:Cx}{pins:List (Addr × Obj)}{σ:St}{H:Hp}{s s':Shared}
def Inv.He(I:Inv X pins σ H s):uN X.prog X.w X.K X.mg X.base X.A X.stack s H :=
 ⟨I.ok.frames,I.ok.mod,I.bs,Nat.le_trans I.ok.bsz I.sz,I.stack,I.um,I.hok,I.bare⟩
def Inv.after{Q:VK}{u:Value}(I:Inv X pins σ H s)(h:CE X.stack X.prog X.w H s Q u s'):EP X pins σ Q u s':=by
 obtain⟨v,H',os,bare,un,hok,r,q⟩:=h;obtain⟨hh,g,d,t,os'⟩:=s';obtain rfl:os'=s.os:=os;exact⟨v,H',I.call (h':=hh) (g':=g) (d':=d) (t':=t) (ch:=[]) un hok bare (fun b z=>absurd z (by simp)),r,q⟩
end
abbrev ng(sp:Sp)(dvs:List V)(E:XK)(t:TA):TE:=fun σ H Q=>t σ H fun vs H1=>sp (vs++dvs) H1 Q E
abbrev Binds(K:PySem.W.Frag)(fd:FuncData)(ps:List Str)(ds:List Value):Prop :=
 ∀ (s:Shared) (us:List Value),K.In s.heap->(us++ds).length=ps.length->BindsTo s fd ⟨us,[]⟩ (ps.zip (us++ds))
def Binds.all{K:PySem.W.Frag}{fd:FuncData}{ps:List Str}(h:∀ us:List Value,us.length=ps.length->bindArgs fd ⟨us,[]⟩=pure (ps.zip us)):Binds K fd ps []:=fun s us _ hl=>by
 rw[List.append_nil]at hl ⊢;exact .of_eq (h us hl)
abbrev Passes(CX:CXT)(X:Cx)(E:XK):Prop:=∀ (pins:List (Addr × Obj)) (σ:St) (H:Hp) (s:Shared) (e:Value) (s':Shared),Inv X pins σ H s->CX X.stack H s E e s'->X.xe e s'
section
variable{X:Cx}{CX:CXT}{k:Nat}{f C:Addr}{fd:FuncData}{ps:List Str}{sp:Sp}{dvs:List V}{ds:List Value}{E:XK}{x m:Str}{p pos apos:Pos}{e o:Expr}{es:List Expr}{ta:TE}{t:TA}
def Eg{pins:List (Addr × Obj)}{σ:St}{H:Hp}{s:Shared}{Q:VK}{us:List Value}{vs:List V}(F:iQ X.prog X.w X.K X.mg X.base CX k f fd ps sp)(hr:eG k X.A)(hb:Binds X.K fd ps ds)(hd:Vals dvs ds)(hx:Passes CX X E)
 (I:Inv X pins σ H s)(r:Vals vs us)(h:sp (vs++dvs) H Q E):wpAny (model X.prog X.w) X.A (call (.ref f) us) (EP X pins σ Q) X.xe s:=by
 have r2:Vals (vs++dvs) (us++ds):=r.append hd
 have hl:(us++ds).length=ps.length:=by rw[<-r2.length];exact F.len _ _ _ _ h
 refine wpAny_call (codeAny_mono (F.run X.A X.stack s H ⟨us,[]⟩ (us++ds) (vs++dvs) Q E hr I.He (hb s us I.kIn hl) r2 h) fun r s' hq=>?_)
 cases r with
 | error e=>exact hx pins σ H s e s' I hq
 |ok fl=>
  cases fl with
  | ret u=>exact I.after hq
  | next=>exact False.elim hq
  | brk=>exact False.elim hq
  | cont=>exact False.elim hq
def tW(F:iQ X.prog X.w X.K X.mg X.base CX k f fd ps sp)(hr:eG k X.A)(hg:Gl X x)(hm:X.mg x=some (.ref f))(hk:PySem.W.keepIn X.K (.ref f)=true)(hb:Binds X.K fd ps ds)(hd:Vals dvs ds)(hx:Passes CX X E)
 (ha:PA X (e::es) t)(hdb:(x == ("__debug__" : Str))=false:=by decide)(he:starEach (e::es) X.env=(false,eval e X.env)::starEach es X.env:=by rfl)(hpl:(backTo pos (starEach es X.env)).any (·.1)=false:=by rfl) :
  PE X (.Call (.Name x p) (e::es) [] pos) (ng sp dvs E t):=by
 intro pins s σ H Q I h;refine wpAny_Call_Name_kw (tV I hg hm ?_ hdb);refine PySem.W.callWith_K (h₀:=X.base) I.ok.mod.kin hk (thn (ha pos pins s σ H _ I h) fun us s1 ⟨vs,H1,I1,r,q⟩=>⟨I1.kIn,?_⟩) he hpl;exact Eg F hr hb hd hx I1 r q
end
section
variable{X:Cx}{CX:CXT}{k:Nat}{f C:Addr}{fd:FuncData}{ps ks:List Str}{sp:Sp}{E:XK}{x m:Str}{p pos apos kpos:Pos}{e o:Expr}{es:List Expr}{kws:List Keyword}{te ta:TE}{t tk:TA}{nm:Option Str}
variable{g:List Value->List Value->List Value}{gV:List V->List V->List V}
end
structure l3(N P:List Str)(sc:Scope):Prop where
 kind:sc.kind=.function
 co:sc.isCoroutine=false
 gen:sc.isGenerator=false
 nd:N.Nodup
 pre:N.take P.length=P
 par:∀ x∈P,sc.names.lookup x=some .local\/sc.names.lookup x=some .cell
 DU:∀ y∈sc.names,y.2≠.free
def pz{kindOf:Str->Option NameKind}{x:Str}:∀ {binds:List (Str × Value)} {m:Str->Option Value},(∀ v,(x,v)∉binds)->bindL kindOf binds m x=m x
 | [],_,_=>rfl
 | (n,v)::r,m,h=>by
  unfold bindL;rw[pz fun w hw=>h w (List.mem_cons_of_mem _ hw)];split
  ·have:x≠n:=by rintro rfl;exact h v List.mem_cons_self
   simp[this]
  ·rfl
def pJ{kindOf:Str->Option NameKind}{x:Str}:∀ {binds:List (Str × Value)} {m:Str->Option Value},(∀ v,(x,v)∉binds)->bindC kindOf binds m x=m x
 | [],_,_=>rfl
 | (n,v)::r,m,h=>by
  unfold bindC;rw[pJ fun w hw=>h w (List.mem_cons_of_mem _ hw)];split
  ·rfl
  ·have:x≠n:=by rintro rfl;exact h v List.mem_cons_self
   simp[this]
def pd{kindOf:Str->Option NameKind}{x:Str}{v:Value}:∀ {P:List Str} {vs:List Value} {i:Nat} {m:Str->Option Value},P.Nodup->P[i]?=some x->vs[i]?=some v->kindOf x=some .local ->
  bindL kindOf (P.zip vs) m x=some v
 | [],_,_,_,_,h,_,_=>by simp at h
 | _::_,[],_,_,_,_,h,_=>by simp at h
 | p::P,w::vs,0,m,nd,h1,h2,hk=>by
  simp at h1 h2;subst h1;subst h2;show bindL kindOf ((p,w)::P.zip vs) m p=_;unfold bindL;rw[pz fun v hv=>(List.nodup_cons.mp nd).1 (List.of_mem_zip hv).1,if_pos hk];simp
 | p::P,w::vs,i+1,m,nd,h1,h2,hk=>by
  show bindL kindOf ((p,w)::P.zip vs) m x=_;unfold bindL;exact pd (i:=i) (List.nodup_cons.mp nd).2 (by simpa using h1) (by simpa using h2) hk
def p5{kindOf:Str->Option NameKind}{x:Str}{v:Value}:∀ {P:List Str} {vs:List Value} {i:Nat} {m:Str->Option Value},P.Nodup->P[i]?=some x->vs[i]?=some v->kindOf x≠some .local ->
  bindC kindOf (P.zip vs) m x=some v
 | [],_,_,_,_,h,_,_=>by simp at h
 | _::_,[],_,_,_,_,h,_=>by simp at h
 | p::P,w::vs,0,m,nd,h1,h2,hk=>by
  simp at h1 h2;subst h1;subst h2;show bindC kindOf ((p,w)::P.zip vs) m p=_;unfold bindC;rw[pJ fun v hv=>(List.nodup_cons.mp nd).1 (List.of_mem_zip hv).1,if_neg hk];simp
 | p::P,w::vs,i+1,m,nd,h1,h2,hk=>by
  show bindC kindOf ((p,w)::P.zip vs) m x=_;unfold bindC;exact p5 (i:=i) (List.nodup_cons.mp nd).2 (by simpa using h1) (by simpa using h2) hk
abbrev start(N:List Str)(vs:List V):St:=vs.map some++List.replicate (N.length-vs.length) none
abbrev m9(CX:CXT)(P:Program)(w:World)(K:PySem.W.Frag)(mg:Str->Option Value)(base:Heap)(N:List Str)(qual:Str)(scope:Scope)(f:Addr)(cd:Value)(A:Around)(outer:List Env)(s:Shared)(H:Hp)(E:XK):Cx where
 prog:=P
 w:=w
 K:=K
 mg:=mg
 base:=base
 A:=A.deeper (envOfC qual scope s.heap.objs.size f cd)
 N:=N
 s₀:=s
 H₀:=H
 env:=envOfC qual scope s.heap.objs.size f cd
 outer:=outer
 stack:=envOfC qual scope s.heap.objs.size f cd::outer
 ex:=[]
 calm:=true
 fn:=fun _=>true
 pn:=[]
 xe:=fun e s'=>wpAny (model P w) (A.deeper (envOfC qual scope s.heap.objs.size f cd)) (leaving (envOfC qual scope s.heap.objs.size f cd) e) (fun _ s''=>CX outer H s E e s'') (fun e' s''=>CX outer H s E e' s'') s'
def qP{sc:Scope}{n:Nat}{x:Str}(h:sc.names.lookup x=some .cell):∃ c,(cellsFrom n sc.names []).lookup x=some c:=by
 have q:=PySem.W.cellsFrom_some sc.names n [] (.inl h);exact Option.isSome_iff_exists.mp q
def x8{CX:CXT}{P:Program}{w:World}{K:PySem.W.Frag}{mg:Str->Option Value}{base:Heap}{N ps:List Str}{qual:Str}{scope:Scope}{f:Addr}{cd:Value}{A:Around}{outer:List Env}{s s1:Shared}{H:Hp}{E:XK}{us:List Value}{vs:List V}
 (S:l3 N ps scope)(hd:A.handled=none)(e0:uN P w K mg base A outer s H)(hl:vs.length=ps.length)(r:Vals vs us)
 (x:InCallC s s.heap.objs.size (bindL (envOfC qual scope s.heap.objs.size f cd).kindOf (ps.zip us) fun _=>none) (cellsFrom (s.heap.objs.size+1) scope.names []) (bindC (envOfC qual scope s.heap.objs.size f cd).kindOf (ps.zip us) fun _=>none) s1) :
  Inv (m9 CX P w K mg base N qual scope f cd A outer s H E) [] (start N vs) H s1:=by
 have hpl:ps.length<=N.length:=by have:=congrArg List.length S.pre;rw[List.length_take]at this;omega
 obtain⟨h1,tk,rfl,hk⟩:=x.done;have noA:∀ b:Addr,b∉(m9 CX P w K mg base N qual scope f cd A outer s H E).ex:=fun b z=>absurd (show b∈([]:List Addr)from z) (by simp)
 refine⟨⟨e0.mod,S.kind,rfl,rfl,Nat.le_refl _,fun y z c h1 h2=>?_,fun y hy=>?_,fun y c _ h=>?_,⟨fun _=>hd,.inl hd⟩,Around.frames_deeper e0.frames,.inr ⟨rfl,rfl⟩,fun b z=>absurd z (noA b),e0.bs,e0.bsz,fun b _ _=>noA b,fun b z=>absurd z (noA b),e0.ie,e0.frf⟩,
  rfl,e0.bare,Un.kept hk,⟨_,x.toInCall.ns,fun i y v h1 h2 h3=>?_⟩,fun y c h=>⟨_,x.cell y c h⟩,e0.hok.fresh (Nat.le_refl _),fun y c h=>?_,fun p hp=>absurd (show p∈([]:List (Addr × Obj))from hp) (by simp),e0.hok.kept hk,?_⟩
 ·exact name_of_addr x.apart (PySem.mem_of_lookup h1) (PySem.mem_of_lookup h2)
 ·have hy:scope.names.lookup y=some .cell\/scope.names.lookup y=some .free:=hy;rcases hy with hy | hy
  ·exact qP hy
  ·exact absurd rfl (S.DU _ (PySem.mem_of_lookup hy))
 ·exact Nat.le_of_lt (x.above y c (PySem.mem_of_lookup h))
 ·have hi:i<vs.length:=by
   unfold start at h2;by_cases hi:i<vs.length
   ·exact hi
   ·rw[List.getElem?_append_right (by simpa using hi)]at h2;rw[List.getElem?_replicate]at h2;split at h2<;>cases h2
  have ha:vs[i]?=some v:=by
   unfold start at h2;rw[List.getElem?_append_left (by simpa using hi),List.getElem?_map]at h2
   cases e:vs[i]? with
   | none=>rw[e]at h2;cases h2
   | some a=>rw[e]at h2;cases h2;rfl
  obtain⟨u,hu,rv⟩:=r.get ha
  have hp:ps[i]?=some y:=by
   rw[<-S.pre,List.getElem?_take_of_lt (by omega)];exact h1
  have ndP:ps.Nodup:=by rw[<-S.pre];exact S.nd.sublist (List.take_sublist _ _)
  refine⟨u,rv,?_⟩;rcases S.par y (List.mem_of_getElem? hp)with k | k
  ·exact .inl ⟨k,pd ndP hp hu k⟩
  ·obtain⟨c,e⟩:=qP (n:=s.heap.objs.size+1) k;refine .inr ⟨.inl k,c,e,?_⟩;have q:=x.cell y c e;rw[p5 ndP hp hu (by show scope.names.lookup y≠_;rw[k];decide)]at q;exact q
 ·exact e0.hok.fresh (Nat.le_of_lt (x.above y c (PySem.mem_of_lookup h)))
 ·unfold start;show _=N.length;rw[List.length_append,List.length_map,List.length_replicate];omega
def Gz{CX:CXT}{P:Program}{w:World}{K:PySem.W.Frag}{mg:Str->Option Value}{base:Heap}{k:Nat}{f:Addr}{name qual:Str}{params:Arguments}{body:List Stmt}{scope:Scope}{dV kV doc pm cdv ct oc:Value}{an od:Option Addr}
 {osl:Array (Option Value)}{N ps:List Str}{sp:Sp}(lk:K.lookup f=some ⟨oc,od,.func (PySem.W.fnOf name qual params body scope dV kV doc pm an cdv ct),osl⟩)(hcd:PySem.W.codeIn K cdv qual=true)(S:l3 N ps scope)
 (len:∀ vs H Q E,sp vs H Q E->vs.length=ps.length)
 (hbody:∀ (A:Around) (outer:List Env) (s:Shared) (H:Hp) (vs:List V) (Q:VK) (E:XK),eG k (A.deeper (envOfC qual scope s.heap.objs.size f cdv))->sp vs H Q E ->
   ∃ t,PSs (m9 CX P w K mg base N qual scope f cdv A outer s H E) body t/\t { nx:=fun _ H'=>Q .non H',rt:=Q } (start N vs) H) :
  iQ P w K mg base CX (k+1) f (PySem.W.fnOf name qual params body scope dV kV doc pm an cdv ct) ps sp:=by
 refine⟨len,fun A outer s H args us vs Q E hr e0 hb r hsp=>?_⟩;have hl:=len _ _ _ _ hsp;have KX:K.In s.heap:=e0.mod.kin.keeps fun b o e=>(e0.bs b o e).1;have lim:s.heap.NoLimit:=e0.mod.nolimit.keeps fun b o e=>(e0.bs b o e).1
 have hkind:∀ y∈ps.zip us,scope.names.lookup y.1=some .local\/(scope.names.lookup y.1=some .cell/\((cellsFrom (s.heap.objs.size+1) scope.names []).lookup y.1).isSome=true):=fun⟨n,v⟩ hy=>by
  rcases S.par n (List.of_mem_zip hy).1 with q | q
  ·exact .inl q
  ·exact .inr ⟨q,PySem.W.cellsFrom_some _ _ _ (.inl q)⟩
 refine codeAny_call_function hr.depth (KX _ _ lk) rfl S.co S.gen rfl (PySem.W.codeRec_of KX hcd) (hb _ _ _ _ ?_);refine wpAny_newFunctionEnv_cells S.kind hkind fun env he s1 x=>?_;subst he;refine⟨lim.keeps x.toInCall.keep,codeAny_func ?_⟩;obtain⟨t,ht,hq⟩:=hbody A outer s H vs Q E (hr.deeper _) hsp;have I:Inv (m9 CX P w K mg base N qual scope f cdv A outer s H E) [] (start N vs) H s1:=x8 S hr.hd e0 hl r x;refine wpAny_mono (ht [] s1 (start N vs) H _ I hq) (fun fl s' hs=>?_) fun e s' hs=>hs
 have fin:∀ {σ':St} {H':Hp} {v:V} {u:Value},Inv (m9 CX P w K mg base N qual scope f cdv A outer s H E) [] σ' H' s'->RelV v u->Q v H'->CE outer P w H s Q u s' :=
  fun {σ' H' v u} J rv q=>⟨v,H',J.os,J.bare,J.base,J.hok,rv,q⟩
 cases fl with
 |ret u=>
  obtain⟨v,σ',H',J,rv,q⟩:=hs;exact fin J rv q
 |next=>
  obtain⟨σ',H',J,q⟩:=hs;exact fin (v:=V.non) (u:=Value.none) J rfl q
 |brk=>
  obtain⟨_,_,_,q⟩:=hs;exact False.elim q
 |cont=>
  obtain⟨_,_,_,q⟩:=hs;exact False.elim q
section
variable{X:Cx}{x:Str}{p pos:Pos}{e:Expr}{es:List Expr}{t:TA}{id T:String}{r:List V->Hp->VK->Prop}
abbrev tCB(r:List V->Hp->VK->Prop)(t:TA):TE:=fun σ H Q=>t σ H fun vs H1=>r vs H1 Q
def ig(hc:bD X (.builtin id) r)(hg:Gl X x)(hm:X.mg x=none)(hv:bootBuiltins x=some (.builtin id))(ha:PA X (e::es) t)(hn:x ≠ "__name__" := by decide)(hdb:(x == ("__debug__" : Str))=false:=by decide)
 (he:starEach (e::es) X.env=(false,eval e X.env)::starEach es X.env:=by rfl)(hpl:(backTo pos (starEach es X.env)).any (·.1)=false:=by rfl):PE X (.Call (.Name x p) (e::es) [] pos) (tCB r t):=by
 intro pins s σ H Q I h;refine wpAny_Call_Name_kw (j0 I hg hm hv ?_ hn hdb);exact PyProof.Rows.callWith_builtin1 (thn (ha pos pins s σ H _ I h) fun us s1 ⟨vs,H1,I1,r1,q1⟩=>hc pins s1 σ H1 vs us Q I1 r1 q1) he hpl
def cO(hc:bD X (.type T) r)(hg:Gl X x)(hm:X.mg x=none)(hv:bootBuiltins x=some (.type T))(ha:PA X (e::es) t)(hn:x ≠ "__name__" := by decide)(hdb:(x == ("__debug__" : Str))=false:=by decide)
 (he:starEach (e::es) X.env=(false,eval e X.env)::starEach es X.env:=by rfl)(hpl:(backTo pos (starEach es X.env)).any (·.1)=false:=by rfl):PE X (.Call (.Name x p) (e::es) [] pos) (tCB r t):=by
 intro pins s σ H Q I h;refine wpAny_Call_Name_kw (j0 I hg hm hv ?_ hn hdb);exact PyProof.Rows.callWith_type1 (thn (ha pos pins s σ H _ I h) fun us s1 ⟨vs,H1,I1,r1,q1⟩=>hc pins s1 σ H1 vs us Q I1 r1 q1) he hpl
end
end L2
namespace HT
open PySem PyProof.Rows
section
open PySem.SeqAt
open PySem.AutoSeq1 (wpAny_loadPart')
open PySem.MeetsSeq PySem.MeetsSeq2 PySem.MeetsSeq3
end
section
variable{prog:Program}{w:World}{A:Around}{E:Value->Shared->Prop}{s:Shared}
def Cy{t b:Addr}{vs ws:List Value}{Q:Value->Shared->Prop}(ht:IsTup s.heap t vs.toArray)(hb:IsTup s.heap b ws.toArray)(hv:vs≠[])
 (h1:ws=[]->Q (.ref t) s)(h2:ws≠[]->Q (.ref s.heap.objs.size) { s with heap:=s.heap.push { cls:=.type "tuple",data:=.seq (vs++ws).toArray } })
 (hsz:vs.length+ws.length<=sizeLine):wpAny (model prog w) A (binaryOp .Add (.ref t) (.ref b)) Q E s:=by
 obtain⟨⟨cls,dd,data,sl⟩,ho,hc,n,hd⟩:=id ht;obtain⟨⟨cls2,dd2,data2,sl2⟩,ho2,hc2,n2,hd2⟩:=id hb;simp only at hc hd hc2 hd2;subst hc hd hc2 hd2
 have e:vs.toArray++ws.toArray=(vs++ws).toArray:=by simp
 by_cases hw:ws=[]
 ·exact concat_meets ⟨_,ho,rfl⟩ ⟨_,ho2,rfl⟩ noFill_tuple_add seq_tuple_add PySem.F.slot_tuple_add PySem.F.entry_tuple_add (PySem.F.args_tuple_add_2 _ _)
   (tuple_addW1 t b vs.toArray ws.toArray n n2 dd dd2 sl sl2 (by simpa using hv) (by simp[hw])) ⟨ho,ho2,h1 hw⟩
 ·refine concat_meets ⟨_,ho,rfl⟩ ⟨_,ho2,rfl⟩ noFill_tuple_add seq_tuple_add PySem.F.slot_tuple_add PySem.F.entry_tuple_add (PySem.F.args_tuple_add_2 _ _)
   (tuple_addW2 t b vs.toArray ws.toArray n n2 dd dd2 sl sl2 (by simpa using hv) (by simpa using hw) (by rw[List.size_toArray,List.size_toArray];exact hsz)) ⟨ho,ho2,?_⟩
  rw[e];exact h2 hw
abbrev sIx(n d:Nat):Option Int->Nat
 | none=>d
 | some v=>if v<0 then(v+(n:Int)).toNat else min v.toNat n
def yX(n d:Nat):sIx n d none=d:=rfl
def Er(n d:Nat)(hd:d<=n)(o:Option Int):sIx n d o<=n:=by
 cases o with
 | none=>exact hd
 |some v=>
  show(if v<0 then(v+(n:Int)).toNat else min v.toNat n)<=n;by_cases hv:v<0
  ·rw[if_pos hv];omega
  ·rw[if_neg hv];exact Nat.min_le_right _ _
def lr(v:Int)(n d:Nat):(if v<0 then max (v+(n:Int)) 0 else min v (n:Int))=((sIx n d (some v):Nat):Int):=by
 show(if v<0 then max (v+(n:Int)) 0 else min v (n:Int))=(((if v<0 then(v+(n:Int)).toNat else min v.toNat n):Nat):Int);by_cases hv:v<0
 ·simp only[if_pos hv];omega
 ·simp only[if_neg hv];omega
def vm(lo hi:Option Int)(n:Nat):Builtin.Slice.sliceAdjust lo hi 1 (n:Int)=(((sIx n 0 lo:Nat):Int),((sIx n n hi:Nat):Int)):=by
 have h1:¬ ((1:Int)<0):=by omega
 unfold Builtin.Slice.sliceAdjust;simp only[h1,if_false];refine Prod.ext ?_ ?_
 ·cases lo with
  | none=>rfl
  | some v=>exact lr v n 0
 ·cases hi with
  | none=>rfl
  | some v=>exact lr v n n
def u7(i j:Nat):Builtin.Slice.slicePlaces (i:Int) (j:Int) 1=j-i:=by
 unfold Builtin.Slice.slicePlaces
 have h1:(1:Int) > 0:=by omega
 simp only[h1,if_true,Int.ediv_one];split<;>omega
def fq{v:Value}{o:Option Int}{Q:Option Int->Shared->Prop}(p:IsPart v o)(h:Q o s):wpAny (model prog w) A (Builtin.Slice.slicePartIndex v) Q E s:=by
 cases p with
 | none=>exact slicePart_none h
 | int i t=>exact slicePart_int h
def mj{sl:Addr}{vl vu:Value}{lo hi:Option Int}{n:Nat}{Q:Int × Int × Nat->Shared->Prop}(hs:s.heap.IsSliceOf sl vl vu .none)(pl:IsPart vl lo)(pu:IsPart vu hi)
 (h:Q (((sIx n 0 lo:Nat):Int),1,sIx n n hi-sIx n 0 lo) s):wpAny (model prog w) A (Builtin.Slice.sliceApplied (.ref sl) (pure (n:Int))) Q E s:=by
 obtain⟨os,hos,hcs,hds⟩:=id hs;unfold Builtin.Slice.sliceApplied Builtin.Slice.sliceFields;refine wpAny_bind (wpAny_bind (wpAny_field hos hds (x:=vl) rfl (wpAny_bind (wpAny_field hos hds (x:=vu) rfl (wpAny_bind (wpAny_field hos hds (x:=.none) rfl (wpAny_pure ?_)))))));refine wpAny_bind (slicePart_none ?_);show wpAny _ _ (if((1:Int) == 0)=true then _ else _) _ _ s;rw[if_neg (by decide)];refine wpAny_bind (fq pl (wpAny_bind (fq pu (wpAny_bind (wpAny_pure ?_)))));show wpAny _ _ (match Builtin.Slice.sliceAdjust lo hi 1 (n:Int)with | (lo,hi)=>pure (lo,(1:Int),Builtin.Slice.slicePlaces lo hi 1)) _ _ s;rw[vm lo hi n];show wpAny _ _ (pure (((sIx n 0 lo:Nat):Int),(1:Int),Builtin.Slice.slicePlaces ((sIx n 0 lo:Nat):Int) ((sIx n n hi:Nat):Int) 1)) _ _ s;rw[u7];exact wpAny_pure h
def zS(xs:Array Value)(i k:Nat):((List.range k).filterMap fun(m:Nat)=>xs[((i:Int)+(m:Int)*1).toNat]?).toArray=((xs.toList.drop i).take k).toArray:=by
 have e:(fun(m:Nat)=>xs[((i:Int)+(m:Int)*1).toNat]?)=fun m=>xs[i+m]?:=by
  funext m
  have:((i:Int)+(m:Int)*1).toNat=i+m:=by omega
  rw[this]
 rw[e];have:=pick_run xs i k;rw[List.filterMap_map]at this;have e2:((fun x=>xs[x]?) ∘ fun x=>i+x)=fun m=>xs[i+m]?:=rfl;rw[e2]at this;rw[this]
def lG{t sl:Addr}{items:Array Value}{vl vu:Value}{lo hi:Option Int}{Q:Value->Shared->Prop}(ht:IsTup s.heap t items)(hs:s.heap.IsSliceOf sl vl vu .none)(pl:IsPart vl lo)(pu:IsPart vu hi)
 (hw:¬ (sIx items.size 0 lo=0/\sIx items.size items.size hi=items.size))
 (h:Q (.ref s.heap.objs.size) { s with heap:=s.heap.push { cls:=.type "tuple",data:=.seq ((items.toList.drop (sIx items.size 0 lo)).take (sIx items.size items.size hi-sIx items.size 0 lo)).toArray } })
 (hsz:items.size<=sizeLine):wpAny (model prog w) A (getItem (.ref t) (.ref sl)) Q E s:=by
 have htake:sizeOk (.seq ((items.toList.drop (sIx items.size 0 lo)).take (sIx items.size items.size hi-sIx items.size 0 lo)).toArray):=by
  show((items.toList.drop (sIx items.size 0 lo)).take (sIx items.size items.size hi-sIx items.size 0 lo)).toArray.size<=sizeLine;rw[List.size_toArray,List.length_take,List.length_drop,Array.length_toList];omega
 have hj:sIx items.size items.size hi<=items.size:=Er _ _ (Nat.le_refl _) hi;obtain⟨os,hos,hcs,hds⟩:=id hs
 have hTs:s.TypeIs (.ref sl) "slice" := ⟨os,hos,hcs⟩
 unfold getItem
 try with_reducible refine wpAny_holding ?_
 first | refine wpAny_bind (wpAny_pure ?_) | skip
 refine wpAny_bind (wpAny_sequenceKey ht.typeIs (by decide) ?_)
 refine wpAny_bind (wpAny_callSpecial?_slot (name:=Str.ofString "__getitem__") ht.typeIs PyProof.Rows.slot_tuple_getitem
  (wpAny_call_entry PyProof.Rows.slot_tuple_getitem ht.typeIs entry_tuple_getitem ?_ (args_tuple_getitem _ _)))
 show wpAny _ _ (Builtin.Tuple.tupleItemsOf (.ref t) >>= _) _ _ s;refine wpAny_bind (tupleItemsOf_ ht ?_);refine wpAny_bind (wpAny_typeOf hTs ?_);rw[if_pos (by decide)];refine wpAny_bind (mj hs pl pu ?_)
 have hno:¬ ((((sIx items.size 0 lo:Nat):Int) == 0&&(1:Int) == 1&&(sIx items.size items.size hi-sIx items.size 0 lo) == items.size)=true):=by
  intro q;rw[Bool.and_eq_true,Bool.and_eq_true]at q;have q1:((sIx items.size 0 lo:Nat):Int)=0:=eq_of_beq q.1.1;have q2:sIx items.size items.size hi-sIx items.size 0 lo=items.size:=eq_of_beq q.2;exact hw ⟨by omega,by omega⟩
 show wpAny _ _ (if(((sIx items.size 0 lo:Nat):Int) == 0&&(1:Int) == 1&&(sIx items.size items.size hi-sIx items.size 0 lo) == items.size)=true then _ else _) _ _ s;rw[if_neg hno,zS]
 first
  | exact wpAny_bind (m:=Builtin.Tuple.tupleExact _) (wpAny_newObj_type (wpAny_pure ⟨_,rfl,wpAny_pure h⟩) htake)
  | exact wpAny_bind (m:=Builtin.Tuple.tupleExact _) (wpAny_newObj_type (wpAny_bind (wpAny_pure (wpAny_pure ⟨_,rfl,wpAny_pure h⟩))) htake)
  | exact wpAny_bind (wpAny_bind (m:=Builtin.Tuple.tupleExact _) (wpAny_newObj_type (wpAny_pure (wpAny_pure ⟨_,rfl,wpAny_pure h⟩)) htake))
  | exact wpAny_bind (wpAny_bind (m:=Builtin.Tuple.tupleExact _) (wpAny_newObj_type (wpAny_pure ⟨_,rfl,wpAny_pure h⟩) htake))
end
end HT
namespace L2
open PySem PySem.Spec PyProof.Rows
@[reducible]noncomputable def TO:=St->Hp->(Option Int->Hp->Prop)->Prop
abbrev PO(X:Cx)(e:Option Expr)(t:TO):Prop :=
 ∀ (pins:List (Addr × Obj)) (s:Shared) (σ:St) (H:Hp) (Q:Option Int->Hp->Prop),Inv X pins σ H s->t σ H Q ->
  wpAny (model X.prog X.w) X.A (evalPart e X.env) (fun u s'=>∃ o H',Inv X pins σ H' s'/\IsPart u o/\Q o H') X.xe s
abbrev AX:TO:=fun _ H Q=>Q none H
abbrev Gr(t:TE):TO:=fun σ H Q=>t σ H fun x H1=>∃ i,x=.int i/\Q (some i) H1
def intsAre_of{ns:List Int}:∀ {us:List Value},Vals (ns.map V.int) us->IntsAre us ns:=by
 induction ns with
 | nil=>intro us r;rw[List.map_nil]at r;cases r;exact .nil
 |cons n ns ih=>
  intro us r;rw[List.map_cons]at r
  cases r with
  |cons r1 r2=>
   obtain⟨t,e⟩:=r1;subst e;exact .cons n t (ih r2)
section
variable{X:Cx}{e:Expr}{te:TE}{lo hi:Option Expr}{tl th:TO}{pos p2:Pos}
def BI:PO X none AX:=by
 intro pins s σ H Q I h;rw[evalPart_none];exact wpAny_pure ⟨none,H,I,.none,h⟩
def AL(h:PE X e te):PO X (some e) (Gr te):=by
 intro pins s σ H Q I hw;rw[evalPart_some];refine thn (h pins s σ H _ I hw) fun u s1 ⟨x,H1,I1,r1,q1⟩=>?_;obtain⟨i,rfl,q⟩:=q1;obtain⟨t,rfl⟩:=r1;exact⟨some i,H1,I1,.int i t,q⟩
abbrev SlR(X:Cx)(r:V->Option Int->Option Int->Hp->VK->Prop):Prop :=
 ∀ (pins:List (Addr × Obj)) (s:Shared) (σ:St) (H:Hp) (x:V) (v vl vu:Value) (lo hi:Option Int) (sl:Addr) (Q:VK),Inv X pins σ H s->RelV x v->s.heap.IsSliceOf sl vl vu .none->IsPart vl lo->IsPart vu hi->r x lo hi H Q ->
  ∃ T id,typeLookup (.type T) "__getitem__" = pure (some (.builtin id))/\s.TypeIs v T/\wpAny (model X.prog X.w) X.A (getItem v (.ref sl)) (EP X pins σ Q) X.xe s
def SlR.or{r r':V->Option Int->Option Int->Hp->VK->Prop}(h:SlR X r)(h':SlR X r'):SlR X (fun x lo hi H Q=>r x lo hi H Q\/r' x lo hi H Q):=by
 intro pins s σ H x v vl vu lo hi sl Q I rx hs pl pu q;rcases q with q | q
 ·exact h pins s σ H x v vl vu lo hi sl Q I rx hs pl pu q
 ·exact h' pins s σ H x v vl vu lo hi sl Q I rx hs pl pu q
abbrev tSl(r:V->Option Int->Option Int->Hp->VK->Prop)(te:TE)(tl th:TO):TE:=fun σ H Q=>te σ H fun x H1=>tl σ H1 fun l H2=>th σ H2 fun u H3=>r x l u H3 Q
def zf{r:V->Option Int->Option Int->Hp->VK->Prop}(hr:SlR X r)(he:PE X e te)(hl:PO X lo tl)(hu:PO X hi th):PE X (.Subscript e (.Slice lo hi none p2) pos) (tSl r te tl th):=by
 intro pins s σ H Q I h;refine Subscript_ (thn (he pins s σ H _ I h) fun v s1 ⟨x,H1,I1,r1,q1⟩=>?_);refine wpAny_Slice (thn (hl pins s1 σ H1 _ I1 q1) fun vl s2 ⟨l,H2,I2,pl,q2⟩=>thn (hu pins s2 σ H2 _ I2 q2) fun vu s3 ⟨u,H3,I3,pu,q3⟩=>?_);rw[evalPart_none];refine wpAny_pure ?_;have I4:Inv X pins σ H3 { s3 with heap:=s3.heap.push { cls:=.type "slice",data:=.fields #[vl,vu,.none] } }:=I3.kept (t':=s3.toks) fun b ob q=>Heap.get?_push_of_some _ q;obtain⟨T,id,hT,ht,hg⟩:=hr pins { s3 with heap:=s3.heap.push { cls:=.type "slice",data:=.fields #[vl,vu,.none] } } σ H3 x v vl vu l u s3.heap.objs.size Q I4 r1 (Heap.IsSliceOf.new ..) pl pu q3;show wpAny (model X.prog X.w) X.A (subscriptTail e (.Slice lo hi none p2) v (.ref s3.heap.objs.size)) (EP X pins σ Q) X.xe { s3 with heap:=s3.heap.push { cls:=.type "slice",data:=.fields #[vl,vu,.none] } };exact tail_any (ops:=[.ref s3.heap.objs.size,v]) ht hT hg (by with_unfolding_all rfl)
abbrev j9(xs:List V)(lo hi:Option Int):List V:=(xs.drop (HT.sIx xs.length 0 lo)).take (HT.sIx xs.length xs.length hi-HT.sIx xs.length 0 lo)
def lM(xs:List V)(lo hi:Option Int):(j9 xs lo hi).length<=xs.length:=by
 unfold j9;rw[List.length_take,List.length_drop];omega
abbrev HD(K:PySem.W.Frag):V->Option Int->Option Int->Hp->VK->Prop:=fun x lo hi H Q=>∃ a xs,x=.ref a/\SqT K H a xs /\
 ¬ (HT.sIx xs.length 0 lo=0/\HT.sIx xs.length xs.length hi=xs.length)/\∀ p,H p=none->Q (.ref p) (upd H p (.tup (j9 xs lo hi)))
def DS:SlR X (HD X.K):=by
 intro pins s σ H x v vl vu lo hi sl Q I rx hs pl pu h;obtain⟨a,xs,rfl,hx,hw,q⟩:=h;cases rx;obtain⟨its,r,ht,hz⟩:=I.tuple hx
 have hlen:its.toArray.size=xs.length:=by rw[List.size_toArray];exact r.length.symm
 refine⟨"tuple",_,PyProof.Rows.slot_tuple_getitem.lookup,ht.typeIs,?_⟩;refine HT.lG ht hs pl pu (by rw[hlen];exact hw) ?_ (by rw[hlen];exact hz);rw[hlen];refine⟨.ref s.heap.objs.size,_,I.laid (t':=s.toks) (o:=.tup (j9 xs lo hi)) (fun b ob q=>Heap.get?_push_of_some _ q) (Nat.le_refl _) ?_,rfl,q _ (I.hok.fresh (Nat.le_refl _))⟩;exact⟨Nat.le_trans (lM xs lo hi) hz,_,(r.drop (HT.sIx xs.length 0 lo)).take (HT.sIx xs.length xs.length hi-HT.sIx xs.length 0 lo),IsTup.new _ _⟩
abbrev Gy(K:PySem.W.Frag):R2:=fun x y H Q=>∃ a b xs ys,x=.ref a/\y=.ref b/\SqT K H a xs/\SqT K H b ys/\xs≠[]/\xs.length+ys.length<=sizeLine /\
 (ys=[]->Q (.ref a) H)/\(ys≠[]->∀ p,H p=none->Q (.ref p) (upd H p (.tup (xs++ys))))
def Vals.oJ{xs:List V}{us:List Value}(r:Vals xs us):us=[]↔xs=[]:=by
 cases r with
 | nil=>simp
 | cons _ _=>simp
def AZ:OpR X (binaryOp .Add) (Gy X.K):=by
 intro pins s σ H x y v u Q I rx ry h;obtain⟨a,b,xs,ys,rfl,rfl,ha,hb,hx,hz,q1,q2⟩:=h;cases rx;cases ry;obtain⟨its,r1,p1,_⟩:=I.tuple ha;obtain⟨its2,r2,p2,_⟩:=I.tuple hb;refine HT.Cy p1 p2 (fun z=>hx (r1.oJ.mp z)) (fun z=>⟨.ref a,H,I,rfl,q1 (r2.oJ.mp z)⟩) (fun z=>?_) (by rw[<-r1.length,<-r2.length];exact hz);refine⟨.ref s.heap.objs.size,_,I.laid (t':=s.toks) (o:=.tup (xs++ys)) (fun b ob q=>Heap.get?_push_of_some _ q) (Nat.le_refl _) ?_,rfl,q2 (fun w=>z (r2.oJ.mpr w)) _ (I.hok.fresh (Nat.le_refl _))⟩;exact⟨by rw[List.length_append];exact hz,_,r1.append r2,IsTup.new _ _⟩
end
abbrev ixN(n:Nat)(i:Int):Option Nat:=if 0<=i then(if i<n then some i.toNat else none)else if -(n:Int)<=i then some (i+n).toNat else none
abbrev atI{α:Type}(xs:List α)(i:Int):Option α:=(ixN xs.length i).bind fun j=>xs[j]?
def ub{n:Nat}{i:Int}{j:Nat}(h:ixN n i=some j):seqIndex? i n=some j/\j<n/\-(n:Int)<=i/\i<n:=by
 unfold ixN at h;by_cases h0:0<=i
 ·rw[if_pos h0]at h;by_cases h1:i<n
  ·rw[if_pos h1]at h;have e:i.toNat=j:=Option.some.inj h;exact⟨by rw[seqIndex_of h0 h1,e],by omega,by omega,h1⟩
  ·rw[if_neg h1]at h;cases h
 ·rw[if_neg h0]at h;by_cases h1:-(n:Int)<=i
  ·rw[if_pos h1]at h;have e:(i+n).toNat=j:=Option.some.inj h;exact⟨by rw[seqIndex_neg (by omega) h1,e],by omega,h1,by omega⟩
  ·rw[if_neg h1]at h;cases h
def oa{α:Type}{xs:List α}{i:Int}{v:α}(h:atI xs i=some v):∃ j,seqIndex? i xs.length=some j/\xs[j]?=some v/\j<xs.length/\-(xs.length:Int)<=i/\i<xs.length:=by
 unfold atI at h
 cases e:ixN xs.length i with
 | none=>rw[e]at h;cases h
 |some j=>
  rw[e]at h;obtain⟨h1,h2,h3,h4⟩:=ub e;exact⟨j,h1,h,h2,h3,h4⟩
abbrev uk(b:Expr):Prop:=∀ o i,subscripted b false o i=operate [o,i] (getItem o i)
abbrev IxR(X:Cx)(r:R2):Prop :=
 ∀ (value slice:Expr) (pins:List (Addr × Obj)) (s:Shared) (σ:St) (H:Hp) (x y:V) (v u:Value) (Q:VK),Inv X pins σ H s->RelV x v->RelV y u->r x y H Q ->
  subscripted slice false v u=operate [v,u] (getItem v u)->wpAny (model X.prog X.w) X.A (subscriptTail value slice v u) (EP X pins σ Q) X.xe s
abbrev MtR(X:Cx)(id:String)(r:V->List V->Hp->VK->Prop):Prop :=
 ∀ (pins:List (Addr × Obj)) (s:Shared) (σ:St) (H:Hp) (x:V) (xs:List V) (v:Value) (us:List Value) (Q:VK),Inv X pins σ H s->RelV x v->Vals xs us->r x xs H Q ->
  wpAny (model X.prog X.w) X.A (call (.builtin id) (v::us)) (EP X pins σ Q) X.xe s
section
variable{X:Cx}{a b:Expr}{ta tb:TE}{pos:Pos}
def IxR.or{r r':R2}(h:IxR X r)(h':IxR X r'):IxR X (fun x y H Q=>r x y H Q\/r' x y H Q):=by
 intro value slice pins s σ H x y v u Q I rx ry q hs;rcases q with q | q
 ·exact h value slice pins s σ H x y v u Q I rx ry q hs
 ·exact h' value slice pins s σ H x y v u Q I rx ry q hs
def Ge{r:R2}(hr:IxR X r)(ha:PE X a ta)(hb:PE X b tb)(hs:uk b):PE X (.Subscript a b pos) (tOp r ta tb):=by
 intro pins s σ H Q I h;exact Subscript_ (yZ ha hb I h fun v u s2 x y H2 I2 rx ry q=>hr a b pins s2 σ H2 x y v u Q I2 rx ry q (hs _ _))
abbrev Du(K:PySem.W.Frag):R2:=fun x y H Q=>∃ p xs i v,x=.ref p/\y=.int i/\SqL K H p xs/\atI xs i=some v/\Q v H
abbrev Eu(K:PySem.W.Frag):R2:=fun x y H Q=>∃ p xs i v,x=.ref p/\y=.int i/\SqT K H p xs/\atI xs i=some v/\Q v H
abbrev Ed:R2:=fun x y H Q=>∃ z i c,x=.str z/\y=.int i/\z.length<=sizeLine/\atI z.cps.toList i=some c/\Q (.str ⟨#[c]⟩) H
def BV:IxR X (Du X.K):=by
 intro value slice pins s σ H x y v u Q I rx ry h hs;obtain⟨p,xs,i,z,rfl,rfl,hq,he,q⟩:=h;cases rx;obtain⟨t,rfl⟩:=ry;obtain⟨its,r,pl,hz⟩:=I.list hq;obtain⟨j,h1,h2,h3,h4,h5⟩:=oa he;obtain⟨w,ew,rw'⟩:=r.get h2;have hl:=r.length;have hn:=ja
 have fin:EP X pins σ Q w s:=⟨z,H,I,rw',q⟩
 by_cases h0:0<=i
 ·have hj:i.toNat=j:=by
   rw[seqIndex_of h0 h5]at h1;exact Option.some.inj h1
  exact item_listR pl.isList h0 (by omega) (by rw[hj];simpa using ew) fin hs
 ·have hj:(i+(its.toArray.size:Int)).toNat=j:=by
   rw[seqIndex_neg (by omega) h4]at h1;rw[List.size_toArray,<-hl];exact Option.some.inj h1
  exact subscriptTail_builtinR (x:=w) pl.isList.typeIs slot_list_getitem.lookup
   (wpAny_getItem_list_neg (Q:=fun r s'=>r=w/\EP X pins σ Q r s') pl.isList (by omega) (by rw[List.size_toArray]<;>omega) (by omega) (by rw[hj];simpa using ew) ⟨rfl,fin⟩) hs
def fh:IxR X (Eu X.K):=by
 intro value slice pins s σ H x y v u Q I rx ry h hs;obtain⟨p,xs,i,z,rfl,rfl,hq,he,q⟩:=h;cases rx;obtain⟨t,rfl⟩:=ry;obtain⟨its,r,pl,hz⟩:=I.tuple hq;obtain⟨j,h1,h2,h3,h4,h5⟩:=oa he;obtain⟨w,ew,rw'⟩:=r.get h2;have hl:=r.length;have hn:=ja
 have fin:EP X pins σ Q w s:=⟨z,H,I,rw',q⟩
 exact subscriptTail_builtinR (x:=w) pl.typeIs slot_tuple_getitem.lookup
  (getItem_tuple (j:=j) (Q:=fun r s'=>r=w/\EP X pins σ Q r s') pl (by omega) (by omega) (by rw[List.size_toArray,<-hl];exact h1) (by simpa using ew) ⟨rfl,fin⟩) hs
def Dd:IxR X Ed:=by
 intro value slice pins s σ H x y v u Q I rx ry h hs;obtain⟨z,i,c,rfl,rfl,hz,he,q⟩:=h;obtain⟨t,rfl⟩:=rx;obtain⟨t',rfl⟩:=ry;obtain⟨j,h1,h2,h3,h4,h5⟩:=oa he
 have hl:z.cps.toList.length=z.length:=by simp[Str.length]
 rw[hl]at h1 h4 h5;have hn:=ja
 exact tail_any (typeIs_str s z t) slot_str_getitem.lookup (getItem_str (c:=c) (by
  have e1:decide (i < -(2 ^ 63:Int))=false:=decide_eq_false (by omega);have e2:decide (i≥2 ^ 63)=false:=decide_eq_false (by omega)
  rw[e1,e2,Bool.or_false]) (by rw[h1];simpa using h2) ⟨.str ⟨#[c]⟩,H,I.tok _,⟨_,rfl⟩,q⟩) hs
abbrev rIx(K:PySem.W.Frag):R2:=fun x y H Q=>Du K x y H Q\/Eu K x y H Q\/Ed x y H Q
def CN:IxR X (rIx X.K):=BV.or (fh.or Dd)
def vc(its:List Value)(n j:Nat)(u:Value):Obj.mapSeq (·.setIfInBounds j u) { cls:=.type "list",data:=.seq its.toArray n }={ cls:=.type "list",data:=.seq (its.set j u).toArray n }:=by
 simp[Obj.mapSeq]
def Inv.lst{pins:List (Addr × Obj)}{σ:St}{H:Hp}{s:Shared}{p:Addr}{xs:List V}(I:Inv X pins σ H s)(h:H p=some (.lst xs)) :
  ∃ (its:List Value) (n:Nat),Vals xs its/\s.heap.get? p=some { cls:=.type "list",data:=.seq its.toArray n }/\xs.length<=sizeLine:=by
 obtain⟨z,its,n,r,e⟩:=I.hok p _ h;exact⟨its,n,r,e,z⟩
def Inv.Fb{pins:List (Addr × Obj)}{σ:St}{H:Hp}{s:Shared}{p:Addr}{xs ys:List V}{its its':List Value}{n n':Nat}{f:Obj->Obj}(I:Inv X pins σ H s)(h:H p=some (.lst xs))
 (ho:s.heap.get? p=some { cls:=.type "list",data:=.seq its.toArray n })(hf:f { cls:=.type "list",data:=.seq its.toArray n }={ cls:=.type "list",data:=.seq its'.toArray n' })(r:Vals ys its')(hz:ys.length<=sizeLine)(t:Nat) :
  Inv X pins σ (upd H p (.lst ys)) { s with heap:=s.heap.update p f,toks:=t }:=by
 have e:(s.heap.update p f).get? p=some { cls:=.type "list",data:=.seq its'.toArray n' }:=by
  rw[Heap.get?_update_self f ho (by rw[hf]<;>rfl),hf]
 refine I.write (x:=p) (e:=p) (by rw[h];trivial) (.inl rfl) (fun b u hb q=>(Heap.get?_update_other _ _ (Ne.symm hb)).trans q) ⟨_,e⟩ ?_;exact⟨hz,its',n',r,e⟩
abbrev uA:V->V->V->Hp->(Hp->Prop)->Prop:=fun o i v H Q=>∃ p xs k j,o=.ref p/\i=.int k/\H p=some (.lst xs)/\ixN xs.length k=some j/\Q (upd H p (.lst (xs.set j v)))
def set_list:DB X uA:=by
 intro pins s σ H o i v ov iv u Q I ro ri rv h;obtain⟨p,xs,k,j,rfl,rfl,hp,hj,q⟩:=h;cases ro;obtain⟨t,rfl⟩:=ri;obtain⟨its,n,r,ho,hz⟩:=I.lst hp;obtain⟨h1,h2,h3,h4⟩:=ub hj;have hl:=r.length;have hn:=ja
 have I':Inv X pins σ (upd H p (.lst (xs.set j v))) { s with heap:=s.heap.update p (Obj.mapSeq (·.setIfInBounds j u)) } :=
  I.Fb hp ho (vc its n j u) (r.set rv j) (by rw[List.length_set];exact hz) s.toks
 by_cases h0:0<=k
 ·have hk:k.toNat=j:=by
   rw[seqIndex_of h0 h4]at h1;exact Option.some.inj h1
  exact PySem.W.ki_setAt ho h0 (by omega) (by rw[List.size_toArray,<-hl];exact h4) (by rw[hk];exact⟨_,I',q⟩)
 ·have hk:(k+(its.toArray.size:Int)).toNat=j:=by
   rw[seqIndex_neg (by omega) h3]at h1;rw[List.size_toArray,<-hl];exact Option.some.inj h1
  exact PySem.W.ki_setBack ho (by omega) (by rw[List.size_toArray,<-hl];exact h3) (by omega) (by rw[hk];exact⟨_,I',q⟩)
def qz(lo hi:Option Int)(n:Nat):(sliceBounds lo hi none n).1=((HT.sIx n 0 lo:Nat):Int)/\(sliceBounds lo hi none n).2.1=((HT.sIx n n hi:Nat):Int)/\(sliceBounds lo hi none n).2.2=1:=by
 refine⟨?_,?_,rfl⟩
 ·cases lo with
  | none=>simp[sliceBounds,HT.sIx]
  |some i=>
   simp only[sliceBounds,HT.sIx,Option.getD_none,show(1:Int) > 0 by decide,if_true];by_cases h:i<0
   ·simp only[h,if_true]<;>omega
   ·simp only[h,if_false]<;>omega
 ·cases hi with
  | none=>simp[sliceBounds,HT.sIx]
  |some i=>
   simp only[sliceBounds,HT.sIx,Option.getD_none,show(1:Int) > 0 by decide,if_true];by_cases h:i<0
   ·simp only[h,if_true]<;>omega
   ·simp only[h,if_false]<;>omega
def pQ(its:List Value)(lo hi:Option Int):slicePick its.toArray lo hi none=((its.drop (HT.sIx its.length 0 lo)).take (HT.sIx its.length its.length hi-HT.sIx its.length 0 lo)).toArray:=by
 obtain⟨h1,h2,h3⟩:=qz lo hi its.toArray.size;unfold slicePick;rw[h1,h2,h3];simp only[sliceRange_one,pick_run,List.size_toArray]<;>rfl
abbrev GW(K:PySem.W.Frag):V->Option Int->Option Int->Hp->VK->Prop:=fun x lo hi H Q=>∃ a xs,x=.ref a/\SqL K H a xs/\∀ p,H p=none->Q (.ref p) (upd H p (.lst (j9 xs lo hi)))
def Bo:SlR X (GW X.K):=by
 intro pins s σ H x v vl vu lo hi sl Q I rx hs pl pu h;obtain⟨a,xs,rfl,hx,q⟩:=h;cases rx;obtain⟨its,r,ht,hz⟩:=I.list hx;have hlen:=r.length;refine⟨"list",_,slot_list_getitem.lookup,ht.isList.typeIs,?_⟩;refine wpAny_getItem_list_slice ht.isList hs pl pu .none (by simp) ?_ (by rw[List.size_toArray]<;>omega);rw[pQ,<-hlen];refine⟨.ref s.heap.objs.size,_,I.laid (t':=s.toks) (o:=.lst (j9 xs lo hi)) (fun b ob q=>Heap.get?_push_of_some _ q) (Nat.le_refl _) ?_,rfl,q _ (I.hok.fresh (Nat.le_refl _))⟩;exact⟨Nat.le_trans (lM xs lo hi) hz,_,0,(r.drop (HT.sIx xs.length 0 lo)).take (HT.sIx xs.length xs.length hi-HT.sIx xs.length 0 lo),Heap.get?_push_size _ rfl⟩
def bD.or{f:Value}{r r':List V->Hp->VK->Prop}(h:bD X f r)(h':bD X f r'):bD X f (fun xs H Q=>r xs H Q\/r' xs H Q):=by
 intro pins s σ H xs us Q I rs q;rcases q with q | q
 ·exact h pins s σ H xs us Q I rs q
 ·exact h' pins s σ H xs us Q I rs q
def qG:bD X (.type "list") (fun xs H Q=>∃ p ys,xs=[.ref p]/\(SqL X.K H p ys\/SqT X.K H p ys)/\∀ l,H l=none->Q (.ref l) (upd H l (.lst ys))):=by
 intro pins s σ H xs us Q I r h;obtain⟨p,ys,rfl,hq,q⟩:=h;obtain⟨u,rfl,rx⟩:=vals1 r;cases rx
 have fin:∀ (its:List Value),Vals ys its->ys.length<=sizeLine->∀ (h':Heap) (c':Nat),(∀ b o',s.heap.get? b=some o'->h'.get? b=some o') ->
   h'.get? s.heap.objs.size=some { cls:=.type "list",dict:=none,data:=.seq its.toArray c',slots:=#[] }->EP X pins σ Q (.ref s.heap.objs.size) { s with heap:=h' }:=fun its r' hz h' c' kp e =>
  ⟨.ref s.heap.objs.size,_,I.laid (t':=s.toks) kp (Nat.le_refl _) (show bA X.prog X.w _ h' _ (.lst ys)from⟨hz,its,c',r',e⟩),rfl,q _ (I.hok.fresh (Nat.le_refl _))⟩
 rcases hq with hq | hq
 ·obtain⟨its,r',pl,hz⟩:=I.list hq;have hlen:=r'.length;obtain⟨o,ho,hc,n,hd⟩:=pl.isList;exact call_list_seq p (.inl rfl) ho hc hd (fun h' c' kp e=>fin its r' hz h' c' kp e) (by simp only[List.size_toArray]<;>omega)
 ·obtain⟨its,r',pl,hz⟩:=I.tuple hq;have hlen:=r'.length;obtain⟨o,ho,hc,n,hd⟩:=pl;exact call_list_seq p (.inr rfl) ho hc hd (fun h' c' kp e=>fin its r' hz h' c' kp e) (by simp only[List.size_toArray]<;>omega)
def pO:bD X (.type "tuple") (fun xs H Q=>∃ p ys,xs=[.ref p]/\((SqL X.K H p ys/\∀ l,H l=none->Q (.ref l) (upd H l (.tup ys)))\/(SqT X.K H p ys/\Q (.ref p) H))):=by
 intro pins s σ H xs us Q I r h;obtain⟨p,ys,rfl,h⟩:=h;obtain⟨u,rfl,rx⟩:=vals1 r;cases rx
 rcases h with⟨hq,q⟩ | ⟨hq,q⟩
 ·obtain⟨its,r',pl,hz⟩:=I.list hq;have hlen:=r'.length;refine call_tuple_list pl.isList (fun h' kp=>?_) (by simp only[List.size_toArray]<;>omega);have I1:Inv X pins σ H { s with heap:=h' }:=I.kept (t':=s.toks) kp
  have I2:Inv X pins σ (upd H h'.objs.size (.tup ys)) { s with heap:=h'.push { cls:=.type "tuple",data:=.seq its.toArray } } :=
   I1.laid (t':=s.toks) (fun b o e=>Heap.get?_push_of_some _ e) (Nat.le_refl _) (show bA X.prog X.w _ _ _ (.tup ys)from⟨hz,its,r',IsTup.new _ _⟩)
  exact⟨.ref h'.objs.size,_,I2,rfl,q _ (I1.hok.fresh (Nat.le_refl _))⟩
 ·obtain⟨its,r',pl,hz⟩:=I.tuple hq;exact call_tuple_same pl ⟨.ref p,H,I,rfl,q⟩
abbrev tyV(K:PySem.W.Frag)(T:String)(x:V)(H:Hp):Prop:=match x with
 | .str _=>T = "str"
 | .int _=>T = "int"
 | .ref p=>(T = "list" /\ ∃ xs,SqL K H p xs)\/(T = "tuple" /\ ∃ o,K.lookup p=some o/\o.cls=.type "tuple" /\ o.dict=none) \/
   (T = "dict" /\ ((∃ kvs,H p=some (.dK kvs))\/∃ kvs,H p=some (.dT kvs)))\/(T = "set" /\ ∃ S n,H p=some (.set S n))
 | _=>False
def wU{pins:List (Addr × Obj)}{σ:St}{H:Hp}{s:Shared}{T:String}{x:V}{v:Value}(I:Inv X pins σ H s)(r:RelV x v)(ty:tyV X.K T x H) :
  s.TypeIs v T/\∀ a,v=.ref a->∃ ob,s.heap.get? a=some ob/\ob.dict=none:=by
 cases x with
 |str z=>
  obtain⟨t,rfl⟩:=r;cases(show T = "str" from ty);exact⟨typeIs_str s z t,fun _ e=>nomatch e⟩
 |int i=>
  obtain⟨t,rfl⟩:=r;cases(show T = "int" from ty);exact⟨typeIs_int s i t,fun _ e=>nomatch e⟩
 |ref p=>
  cases r
  rcases ty with⟨rfl,xs,hq⟩ | ⟨rfl,o,hk,hc,hd⟩ | ⟨rfl,hk⟩ | ⟨rfl,S,n,hk⟩
  ·obtain⟨its,_,pl,_⟩:=I.list hq;refine⟨pl.isList.typeIs,fun a e=>?_⟩;cases e;obtain⟨o,n,e,c,hd,_⟩:=pl;exact⟨o,e,hd⟩
  ·refine⟨⟨o,I.kIn p o hk,hc⟩,fun a e=>?_⟩;cases e;exact⟨o,I.kIn _ o hk,hd⟩
  ·have z:∃ o,s.heap.get? p=some o/\o.ExactDict:=by
    rcases hk with⟨kvs,hk⟩ | ⟨kvs,hk⟩
    ·obtain⟨_,_,_,_,o,_,_,e,ex,_⟩:=I.hok p _ hk;exact⟨o,e,ex⟩
    ·obtain⟨_,_,_,_,o,_,_,e,ex,_⟩:=I.hok p _ hk;exact⟨o,e,ex⟩
   obtain⟨o,e,ex⟩:=z;refine⟨⟨o,e,ex.1⟩,fun a e2=>?_⟩;cases e2;exact⟨o,e,ex.2.1⟩
  ·obtain⟨o,_,_,_,e,ex,_⟩:=I.hok p _ hk;refine⟨⟨o,e,ex.1⟩,fun a e2=>?_⟩;cases e2;exact⟨o,e,ex.2.1⟩
 | _=>exact False.elim ty
abbrev yQ(K:PySem.W.Frag)(T:String)(r:V->List V->Hp->VK->Prop)(to:TE):TE:=fun σ H Q=>to σ H fun x H1=>tyV K T x H1/\r x [] H1 Q
abbrev tBM(K:PySem.W.Frag)(T:String)(r:V->List V->Hp->VK->Prop)(to:TE)(t:TA):TE:=fun σ H Q=>to σ H fun x H1=>tyV K T x H1/\t σ H1 fun xs H2=>r x xs H2 Q
variable{o e:Expr}{es:List Expr}{to:TE}{t:TA}{name:Str}{apos cpos:Pos}{T id:String}{r:V->List V->Hp->VK->Prop}
def xj(pa:PlainAttrs T)(slot:Slot T name id)(hty:typeOf (.builtin id)=pure (.type "method_descriptor"))(hm:MtR X id r)(ho:PE X o to)
 (hbase:attributeBase o name X.env (eval o X.env)=eval o X.env:=by rfl)(hline:(apos.endLine == cpos.line)=true:=by rfl):PE X (.Call (.Attribute o name apos) [] [] cpos) (yQ X.K T r to):=by
 intro pins s σ H Q I h;refine wpAny_Call_method0_late hbase hline (thn (ho pins s σ H _ I h) fun v s1 ⟨x,H1,I1,r1,ty,q1⟩=>?_);obtain⟨h1,h2⟩:=wU I1 r1 ty;exact⟨T,id,pa,slot,hty,h1,h2,Calls.callWith_builtin rfl (PySem.evalArgs_none (hm pins s1 σ H1 x [] v [] Q I1 r1 .nil q1))⟩
def AG(pa:PlainAttrs T)(slot:Slot T name id)(hty:typeOf (.builtin id)=pure (.type "method_descriptor"))(hm:MtR X id r)(ho:PE X o to)(ha:PA X (e::es) t)
 (hbase:attributeBase o name X.env (eval o X.env)=eval o X.env:=by rfl)
 (hfew:((backTo cpos (starEach (e::es) X.env)).all (fun x=>!x.1)&&(backToKw cpos (keywordEach [] X.env)).all (fun x=>x.1.isSome)
   && decide ((e::es).length+([]:List Keyword).length+(if([]:List Keyword).isEmpty then 0 else 1)<30))=true:=by rfl)
 (hline:(apos.endLine == cpos.line)=true:=by rfl)(hs:starEach (e::es) X.env=(false,eval e X.env)::starEach es X.env:=by rfl)(hplain:(backTo cpos (starEach es X.env)).any (·.1)=false:=by rfl) :
  PE X (.Call (.Attribute o name apos) (e::es) [] cpos) (tBM X.K T r to t):=by
 intro pins s σ H Q I h;refine wpAny_Call_method_late hbase hfew hline rfl (thn (ho pins s σ H _ I h) fun v s1 ⟨x,H1,I1,r1,ty,q1⟩=>?_);obtain⟨h1,h2⟩:=wU I1 r1 ty;refine⟨T,id,pa,slot,hty,h1,h2,?_⟩;have hA:=ha cpos pins s1 σ H1 _ I1 q1;rw[hs]at hA ⊢;refine Calls.callWith_builtin (by show(false || (backTo cpos (starEach es X.env)).any (·.1))=false;rw[hplain]<;>rfl) (Calls.evalArgs_plain ?_);exact thn hA fun us s2 ⟨vs,H2,I2,r2,q2⟩=>hm pins s2 σ H2 x vs v us Q I2 r1 r2 q2
end
abbrev MtM(X:Cx)(id:String)(r:V->List V->Hp->VK->Prop):Prop :=
 ∀ (pins:List (Addr × Obj)) (s:Shared) (σ:St) (H:Hp) (x:V) (xs:List V) (v:Value) (us:List Value) (Q:VK),Inv X pins σ H s->RelV x v->Vals xs us->r x xs H Q ->
  wpAny (model X.prog X.w) X.A (call (.builtin id) (v::us)) (EP X pins σ Q) X.xe s
def Vals.one:∀ {x:V} {us:List Value},Vals [x] us->∃ u,us=[u]/\RelV x u
 | _,_,.cons r .nil=>⟨_,rfl,r⟩
def Vals.zero:∀ {us:List Value},Vals [] us->us=[]
 | _,.nil=>rfl
def Vals.dropLast{xs:List V}{us:List Value}(h:Vals xs us):Vals xs.dropLast us.dropLast:=by
 induction h with
 | nil=>exact .nil
 |cons r t ih=>
  cases t with
  | nil=>exact .nil
  | cons q t'=>exact .cons r ih
def Vals.reverse{xs:List V}{us:List Value}(h:Vals xs us):Vals xs.reverse us.reverse:=by
 induction h with
 | nil=>exact .nil
 | cons r t ih=>rw[List.reverse_cons,List.reverse_cons];exact Vals.append ih (.cons r .nil)
def Vals.rep{xs:List V}{us:List Value}(h:Vals xs us):∀ k:Nat,Vals (List.replicate k xs).flatten (List.replicate k us).flatten
 | 0=>.nil
 | k+1=>by
  rw[List.replicate_succ,List.replicate_succ,List.flatten_cons,List.flatten_cons];exact Vals.append h (Vals.rep h k)
def uU{α:Type}(l:List α):l.eraseIdx (l.length-1)=l.dropLast:=by
 induction l with
 | nil=>rfl
 |cons a r ih=>
  cases r with
  | nil=>rfl
  |cons b r=>
   have e:(a::b::r).length-1=((b::r).length-1)+1:=by
    have h1:(a::b::r).length=r.length+2:=rfl;have h2:(b::r).length=r.length+1:=rfl;omega
   rw[e,List.eraseIdx_cons_succ,ih]
   all_goals rfl
def foldl_rep(its:List Value):∀ (k:Nat) (acc:List Value),
  List.foldl (fun x1 x2=>x1++x2) acc.toArray (List.replicate k its.toArray)=(acc++(List.replicate k its).flatten).toArray
 | 0,acc=>by simp
 | k+1,acc=>by
  have e:acc.toArray++its.toArray=(acc++its).toArray:=by simp
  have e2:(acc++its)++(List.replicate k its).flatten=acc++(List.replicate (k+1) its).flatten:=by
   rw[List.replicate_succ,List.flatten_cons,List.append_assoc]
  rw[<-e2,<-foldl_rep its k (acc++its),<-e,List.replicate_succ,List.foldl_cons]
section
variable{X:Cx}{pins:List (Addr × Obj)}{σ:St}{H:Hp}{s:Shared}{l b:Addr}{xs ys zs:List V}
def Inv.CG{its its':List Value}{n:Nat}{f:Array Value->Array Value}{t':Nat}(I:Inv X pins σ H s)(hH:H l=some (.lst xs))
 (e:s.heap.get? l=some { cls:=.type "list",data:=.seq its.toArray n })(hf:f its.toArray=its'.toArray)(hv:Vals ys its')(hz:ys.length<=sizeLine) :
  Inv X pins σ (upd H l (.lst ys)) { s with heap:=s.heap.update l (Obj.mapSeq f),toks:=t' }:=by
 have q:=PySem.IsL.update e f;rw[hf]at q;refine I.write (x:=l) (e:=l) (by rw[hH];exact trivial) (.inl rfl) (fun b' u hb hu=>(Heap.get?_update_other s.heap (Obj.mapSeq f) (Ne.symm hb)).trans hu) ⟨_,q⟩ ?_;exact⟨hz,its',_,hv,q⟩
def Inv.EF{its:List Value}{t':Nat}(I:Inv X pins σ H s)(hv:Vals ys its)(hz:ys.length<=sizeLine) :
  Inv X pins σ (upd H s.heap.objs.size (.lst ys)) { s with heap:=s.heap.push { cls:=.type "list",data:=.seq its.toArray },toks:=t' } :=
 I.laid (fun _ _ q=>Heap.get?_push_of_some _ q) (Nat.le_refl _) ⟨hz,its,0,hv,Heap.get?_push_size _ rfl⟩
def Inv.fresh(I:Inv X pins σ H s):H s.heap.objs.size=none:=I.hok.fresh (Nat.le_refl _)
def Inv.qL(I:Inv X pins σ H s)(hH:H l=some (.lst xs)):xs.length<=sizeLine/\∃ (its:List Value) (n:Nat),Vals xs its/\xs.length=its.length/\s.heap.get? l=some { cls:=.type "list",data:=.seq its.toArray n }:=by
 obtain⟨z,its,n,r,e⟩:=I.hok l _ hH;exact⟨z,its,n,r,r.length,e⟩
def yS{n:Nat}(h:n<=sizeLine):Builtin.List.listTooLong n=false:=by
 unfold Builtin.List.listTooLong;exact decide_eq_false (by omega)
end
section
variable{X:Cx}
abbrev uc:V->List V->Hp->VK->Prop:=fun x vs H Q=>∃ l xs y,x=.ref l/\vs=[y]/\H l=some (.lst xs)/\xs.length<sizeLine/\Q .non (upd H l (.lst (xs++[y])))
def pD:MtM X "list.append" uc:=by
 intro pins s σ H x vs v us Q I rx rv h;obtain⟨l,xs,y,rfl,rfl,hH,hz,q⟩:=h;cases rx;obtain⟨u,rfl,ru⟩:=rv.one;obtain⟨z,its,n,r,hl,e⟩:=I.qL hH;refine call_meets F.slot_list_append ⟨_,e,rfl⟩ F.entry_list_append (F.args_list_append_2 _ _) (PySem.list_append l its.toArray n u (by rw[List.size_toArray];omega)) ⟨e,?_⟩;refine⟨.non,_,I.CG (its':=its++[u]) hH e (by simp) (r.append (.cons ru .nil)) ?_,rfl,q⟩;rw[List.length_append,List.length_singleton];omega
abbrev Ad:V->List V->Hp->VK->Prop:=fun x vs H Q=>∃ l xs y,x=.ref l/\vs=[]/\H l=some (.lst xs)/\xs[xs.length-1]?=some y/\Q y (upd H l (.lst xs.dropLast))
def xc:MtM X "list.pop" Ad:=by
 intro pins s σ H x vs v us Q I rx rv h;obtain⟨l,xs,y,rfl,rfl,hH,hy,q⟩:=h;cases rx;have hus:=rv.zero;subst hus;obtain⟨z,its,n,r,hl,e⟩:=I.qL hH;obtain⟨u,hu,ru⟩:=r.get hy
 have hy':its.toArray[its.toArray.size-1]?=some u:=by
  show its.toArray[its.length-1]?=some u;rw[<-Array.getElem?_toList,<-hl];exact hu
 refine call_meets F.slot_list_pop ⟨_,e,rfl⟩ F.entry_list_pop (F.args_list_pop_1 _) (MeetsSeq.list_pop_last l its.toArray n u hy' (by rw[List.size_toArray];omega)) ⟨e,?_⟩;refine⟨y,_,I.CG (its':=its.dropLast) hH e ?_ r.dropLast ?_,ru,q⟩
 ·show its.toArray.eraseIdxIfInBounds (its.toArray.size-1)=its.dropLast.toArray;rw[List.size_toArray,List.eraseIdxIfInBounds_toArray,uU]
 ·rw[List.length_dropLast];omega
abbrev Hm:R2:=fun x y H Q=>∃ l b xs zs,x=.ref l/\y=.ref b/\H l=some (.lst xs)/\H b=some (.lst zs)/\xs.length+zs.length<=sizeLine/\∀ p,H p=none->Q (.ref p) (upd H p (.lst (xs++zs)))
def DH:OpR X (binaryOp .Add) Hm:=by
 intro pins s σ H x y v u Q I rx ry h;obtain⟨l,b,xs,zs,rfl,rfl,hH,hB,hz,q⟩:=h;cases rx;cases ry;obtain⟨z,its,n,r,hl,e⟩:=I.qL hH;obtain⟨z2,its2,n2,r2,hl2,e2⟩:=I.qL hB;refine PySem.P.add_list e e2 ?_ (by rw[List.size_toArray,List.size_toArray];omega)
 have ea:its.toArray++its2.toArray=(its++its2).toArray:=by simp
 rw[ea];exact⟨.ref _,_,I.EF (t':=s.toks) (r.append r2) (by rw[List.length_append];omega),rfl,q _ I.fresh⟩
abbrev Hw:R2:=fun x y H Q=>∃ l k xs,x=.ref l/\y=.int k/\H l=some (.lst xs)/\-(2 ^ 63)<=k/\k<2 ^ 63/\xs.length*k.toNat<=sizeLine /\
 ∀ p,H p=none->Q (.ref p) (upd H p (.lst (List.replicate k.toNat xs).flatten))
def len_rep{α:Type}(xs:List α)(k:Nat):(List.replicate k xs).flatten.length=k*xs.length:=by
 induction k with
 | zero=>simp
 | succ k ih=>rw[List.replicate_succ,List.flatten_cons,List.length_append,ih,Nat.succ_mul,Nat.add_comm]
def ES:OpR X (binaryOp .Mult) Hw:=by
 intro pins s σ H x y v u Q I rx ry h;obtain⟨l,k,xs,rfl,rfl,hH,h1,h2,hz,q⟩:=h;cases rx;obtain⟨t,rfl⟩:=ry;obtain⟨z,its,n,r,hl,e⟩:=I.qL hH
 have hlen:its.toArray.size*k.toNat<=sizeLine:=by rw[List.size_toArray,<-hl];exact hz
 have hcap:¬ its.toArray.size*k.toNat > (2 ^ 63-1) / 8:=by
  have:(sizeLine:Nat)<=(2 ^ 63-1) / 8:=by decide
  omega
 have hfit:¬ (!Builtin.List.listFitsIndex k)=true:=by
  rw[fitsIndex_both h1 h2];exact Bool.false_ne_true
 have hlong:¬ Builtin.List.listTooLong (its.toArray.size*k.toNat)=true:=by
  rw[yS hlen];exact Bool.false_ne_true
 have hnew:List.foldl (fun x1 x2=>x1++x2) #[] (List.replicate (if its.toArray.isEmpty=true then 0 else k.toNat) its.toArray)=(List.replicate k.toNat its).flatten.toArray:=by
  have f0:∀ m:Nat,List.foldl (fun x1 x2=>x1++x2) #[] (List.replicate m its.toArray)=(List.replicate m its).flatten.toArray:=fun m=>by
   have:=foldl_rep its m [];rw[List.nil_append]at this;exact this
  rw[f0]
  cases its with
  | nil=>simp
  | cons a r'=>rw[if_neg (by simp)]
 refine wpAny_binaryOp_repeat_ref (T := "list") (U := "int") (by decide) ⟨_,e,rfl⟩ (fun s'=>typeIs_int s' k t) noFill_list_mul F.fills_int_mul F.slot_int_rmul repeat_list F.slot_int_index.lookup
  (call_meets F.slot_int_rmul (typeIs_int s k t) F.entry_int_rmul (F.args_int_rmul_2 _ _) (int___rmul___int_list k t l its.toArray n)
   ⟨e,rfl,⟨_,e,rfl⟩,call_meets F.slot_list_mul ⟨_,e,rfl⟩ F.entry_list_mul (F.args_list_mul_2 _ _) (AutoListH.list___mul___list_int_3 l its.toArray n k t hfit hcap hlong) ⟨e,?_⟩⟩)
 rw[hnew];exact⟨.ref _,_,I.EF (t':=s.toks) (r.rep k.toNat) (by rw[len_rep,Nat.mul_comm];exact hz),rfl,q _ I.fresh⟩
end
section
variable{prog:Program}{w:World}{A:Around}{E:Value->Shared->Prop}{s:Shared}
set_option maxRecDepth 100000 in
end
section
variable{X:Cx}
end
section
variable{κ:Type} [DecidableEq κ]
abbrev fE(kvs:List (κ × V))(k:κ):Option V:=(kvs.find? fun kv=>decide (kv.1=k)).map (·.2)
abbrev putK(kvs:List (κ × V))(k:κ)(v:V):List (κ × V) :=
 if(kvs.any fun kv=>decide (kv.1=k))=true then kvs.map (fun kv=>if kv.1=k then(kv.1,v)else kv)else kvs++[(k,v)]
def jI{p:κ × V}{r:List (κ × V)}{k:κ}(e:p.1=k):fE (p::r) k=some p.2:=by simp[fE,List.find?_cons,e]
def jO{p:κ × V}{r:List (κ × V)}{k:κ}(e:¬ p.1=k):fE (p::r) k=fE r k:=by simp[fE,List.find?_cons,e]
def ql(k:κ):∀ kvs:List (κ × V),(kvs.any fun kv=>decide (kv.1=k))=(fE kvs k).isSome
 | []=>rfl
 | p::r=>by
  rw[List.any_cons];by_cases e:p.1=k
  ·simp only[jI e,decide_eq_true e,Bool.true_or,Option.isSome_some]
  ·rw[jO e,decide_eq_false e,Bool.false_or];exact ql k r
def lL(kvs:List (κ × V))(k:κ)(v:V):(putK kvs k v).length<=kvs.length+1:=by
 unfold putK;split
 ·rw[List.length_map];omega
 ·rw[List.length_append,List.length_cons,List.length_nil];omega
def il.gn{o:Option V}{u:Option Value}(r:il o u):o.isSome=u.isSome:=by
 cases o with
 | none=>cases u with
  | none=>rfl
  | some _=>exact(show False from r).elim
 | some _=>cases u with
  | none=>exact(show False from r).elim
  | some _=>rfl
def KV.val{kvs:List (κ × V)}{vs:List (κ × Value)}(r:KV kvs vs)(k:κ):il (fE kvs k) (valueAt vs k):=by
 unfold KV at r
 induction r with
 | nil=>exact True.intro
 |@cons p q ps qs h t ih=>
  obtain⟨h1,h2⟩:=h;by_cases e:p.1=k
  ·have e':q.1=k:=h1.symm.trans e
   have b:valueAt (q::qs) k=some q.2:=by simp[valueAt,List.find?_cons,e']
   rw[jI e,b];exact h2
  ·have e':¬ q.1=k:=fun z=>e (h1.trans z)
   have b:valueAt (q::qs) k=valueAt qs k:=by simp[valueAt,List.find?_cons,e']
   rw[jO e,b];exact ih
def KV.any{kvs:List (κ × V)}{vs:List (κ × Value)}(r:KV kvs vs)(k:κ):(kvs.any fun kv=>decide (kv.1=k))=vs.any fun kv=>decide (kv.1=k):=by
 unfold KV at r
 induction r with
 | nil=>rfl
 | cons h t ih=>rw[List.any_cons,List.any_cons,ih,h.1]
def KV.zo{kvs:List (κ × V)}{vs:List (κ × Value)}(r:KV kvs vs)(k:κ){y:V}{u:Value}(ry:RelV y u) :
  KV (kvs.map fun kv=>if kv.1=k then(kv.1,y)else kv) (vs.map fun kv=>if kv.1=k then(kv.1,u)else kv):=by
 unfold KV at r ⊢
 induction r with
 | nil=>exact .nil
 |@cons p q ps qs h t ih=>
  rw[List.map_cons,List.map_cons];refine .cons ?_ ih;obtain⟨h1,h2⟩:=h;by_cases e:p.1=k
  ·rw[if_pos e,if_pos (h1.symm.trans e)];exact⟨h1,ry⟩
  ·rw[if_neg e,if_neg (fun z=>e (h1.trans z))];exact⟨h1,h2⟩
def KV.put{kvs:List (κ × V)}{vs:List (κ × Value)}(r:KV kvs vs)(k:κ){y:V}{u:Value}(ry:RelV y u):KV (putK kvs k y) (stored vs k u):=by
 unfold putK stored;rw[r.any k];by_cases e:(vs.any fun kv=>decide (kv.1=k))=true
 ·rw[if_pos e,if_pos e];exact r.zo k ry
 ·rw[if_neg e,if_neg e];exact Paired.snoc r ⟨rfl,ry⟩
def KV.length{kvs:List (κ × V)}{vs:List (κ × Value)}(r:KV kvs vs):kvs.length=vs.length:=Paired.length r
end
def mO{P:Program}{w:World}{k:Key}{u:Value}(r:RelV (kV k) u):(cn P w).is k u=true:=by
 cases k with
 | inl i=>obtain⟨t,e⟩:=(show ∃ t,u=Value.int i t from r);subst e;exact sV P w i t
 | inr x=>obtain⟨t,e⟩:=(show ∃ t,u=Value.str x t from r);subst e;exact sZ P w x t
def p7{P:Program}{w:World}:∀ {ks:List Key} {us:List Value},Vals (ks.map kV) us->ItemsAre (cn P w) ks us
 | [],_,r=>by rw[List.map_nil]at r;cases r;exact .nil
 | k::ks,_,r=>by
  rw[List.map_cons]at r
  cases r with
  | cons h t=>exact .cons (mO h) (p7 t)
@[reducible]noncomputable def KT(H:Hp):List (List Key × V)->List (List Key × Addr × Value)->Prop:=Paired fun p q=>p.1=q.1/\H q.2.1=some (.tup (p.1.map kV))/\RelV p.2 q.2.2
def KT.val{H:Hp}{kvs:List (List Key × V)}{xs:List (List Key × Addr × Value)}(r:KT H kvs xs)(k:List Key):il (fE kvs k) ((atKey xs k).map (·.2)):=by
 induction r with
 | nil=>exact True.intro
 |@cons p q ps qs h t ih=>
  obtain⟨h1,_,h2⟩:=h;by_cases e:p.1=k
  ·have e':q.1=k:=h1.symm.trans e
   have b:atKey (q::qs) k=some q.2:=by simp[atKey,List.find?_cons,e']
   rw[jI e,b];exact h2
  ·have e':¬ q.1=k:=fun z=>e (h1.trans z)
   have b:atKey (q::qs) k=atKey qs k:=by simp[atKey,List.find?_cons,e']
   rw[jO e,b];exact ih
def KT.zo{H:Hp}{kvs:List (List Key × V)}{xs:List (List Key × Addr × Value)}(r:KT H kvs xs)(k:List Key){y:V}{u:Value}(ry:RelV y u) :
  KT H (kvs.map fun kv=>if kv.1=k then(kv.1,y)else kv) (xs.map (putAt k u)):=by
 induction r with
 | nil=>exact .nil
 |@cons p q ps qs h t ih=>
  rw[List.map_cons,List.map_cons];refine .cons ?_ ih;obtain⟨h1,h2,h3⟩:=h;unfold putAt;by_cases e:p.1=k
  ·rw[if_pos e,if_pos (h1.symm.trans e)];exact⟨h1,h2,ry⟩
  ·rw[if_neg e,if_neg (fun z=>e (h1.trans z))];exact⟨h1,h2,h3⟩
def KT.put{H:Hp}{kvs:List (List Key × V)}{xs:List (List Key × Addr × Value)}(r:KT H kvs xs)(k:List Key){b:Addr}{y:V}{u:Value}(hb:H b=some (.tup (k.map kV)))(ry:RelV y u) :
  KT H (putK kvs k y) (storedH xs k b u):=by
 have e:(kvs.any fun kv=>decide (kv.1=k))=(atKey xs k).isSome:=by
  rw[ql,(r.val k).gn,Option.isSome_map]
 unfold putK storedH;rw[e];by_cases q:(atKey xs k).isSome=true
 ·rw[if_pos q,if_pos q];exact r.zo k ry
 ·rw[if_neg q,if_neg q];exact Paired.snoc r ⟨rfl,hb,ry⟩
def KT.keeps{H H':Hp}{kvs:List (List Key × V)}{xs:List (List Key × Addr × Value)}(r:KT H kvs xs)(ht:∀ b ys,H b=some (.tup ys)->H' b=some (.tup ys)):KT H' kvs xs :=
 Paired.zR r fun _ _ z=>⟨z.1,ht _ _ z.2.1,z.2.2⟩
section
variable{P:Program}{w:World}{H:Hp}{h:Heap}{a:Addr}
def AF{u:HO}(ok:HOk P w H h)(e:Rd H a u):bA P w H h a u:=e.ok ok
def lA{kvs:List (Key × V)}(ok:HOk P w H h)(e:Rd H a (.dK kvs)):kvs.length<=sizeLine/\(a == sysModules)=false/\∃ vs,KV kvs vs/\h.DictOf (cn P w) a vs :=
 show bA P w H h a (.dK kvs)from AF ok e
def FI{kvs:List (Key × V)}(ok:HOk P w H h)(e:H a=some (.dK kvs)):kvs.length<=sizeLine/\(a == sysModules)=false/\∃ vs,KV kvs vs/\h.DictOf (cn P w) a vs:=lA ok (.inl e)
def kq{ks:List Key}(ok:HOk P w H h)(e:H a=some (.tup (ks.map kV))):(tupleKind (cn P w)).is h ks a:=by
 obtain⟨_,its,r,o,h1,h2,n,h3⟩:=(show bA P w H h a (.tup (ks.map kV))from ok a _ e)
 exact⟨o,its.toArray,n,h1,h2,h3,by simpa using p7 r⟩
def mM{kvs:List (List Key × V)}(ok:HOk P w H h)(e:Rd H a (.dT kvs)):kvs.length<=sizeLine/\(a == sysModules)=false /\
  ∃ xs,KT H kvs xs/\h.DictOfH (tupleKind (cn P w)) a xs:=by
 obtain⟨z,y,xs,r,o,es,ep,h1,h2,h3,h4,h5⟩:=(show bA P w H h a (.dT kvs)from AF ok e)
 refine⟨z,y,xs,r,o,es,ep,h1,h2,h3,h4,fun x hx=>?_,h5⟩
 have all:∀ {l:List (List Key × V)} {m:List (List Key × Addr × Value)},KT H l m->∀ x∈m,(tupleKind (cn P w)).is h x.1 x.2.1:=by
  intro l m q
  induction q with
  | nil=>intro x hx;exact nomatch hx
  |@cons p q ps qs hq t ih=>
   intro x hx;rcases List.mem_cons.mp hx with e | hx
   ·subst e;exact kq ok (by rw[<-hq.1];exact hq.2.1)
   ·exact ih x hx
 exact all r x hx
def Ar{kvs:List (List Key × V)}(ok:HOk P w H h)(e:H a=some (.dT kvs)):kvs.length<=sizeLine/\(a == sysModules)=false /\
  ∃ xs,KT H kvs xs/\h.DictOfH (tupleKind (cn P w)) a xs:=mM ok (.inl e)
end
abbrev eX(H:Hp)(a:Addr)(y:V)(r:Option V):Prop :=
 (∃ kvs k,Rd H a (.dK kvs)/\y=kV k/\r=fE kvs k)\/∃ kvs k b,Rd H a (.dT kvs)/\y=.ref b/\H b=some (.tup (k.map kV))/\r=fE kvs k
abbrev k9(H:Hp)(a:Addr)(y v:V)(H':Hp):Prop :=
 (∃ kvs k,H a=some (.dK kvs)/\y=kV k/\kvs.length<sizeLine/\H'=upd H a (.dK (putK kvs k v))) \/
 ∃ kvs k b,H a=some (.dT kvs)/\y=.ref b/\H b=some (.tup (k.map kV))/\kvs.length<sizeLine/\H'=upd H a (.dT (putK kvs k v))
def eX.k{H:Hp}{a:Addr}{kvs:List (Key × V)}{k:Key}(e:H a=some (.dK kvs)):eX H a (kV k) (fE kvs k):=.inl ⟨kvs,k,.inl e,rfl,rfl⟩
def eX.t{H:Hp}{a b:Addr}{kvs:List (List Key × V)}{k:List Key}(e:H a=some (.dT kvs))(eb:H b=some (.tup (k.map kV))):eX H a (.ref b) (fE kvs k):=.inr ⟨kvs,k,b,.inl e,rfl,eb,rfl⟩
def k9.k{H:Hp}{a:Addr}{kvs:List (Key × V)}{k:Key}{v:V}(e:H a=some (.dK kvs))(hl:kvs.length<sizeLine):k9 H a (kV k) v (upd H a (.dK (putK kvs k v))):=.inl ⟨kvs,k,e,rfl,hl,rfl⟩
def k9.t{H:Hp}{a b:Addr}{kvs:List (List Key × V)}{k:List Key}{v:V}(e:H a=some (.dT kvs))(eb:H b=some (.tup (k.map kV)))(hl:kvs.length<sizeLine) :
  k9 H a (.ref b) v (upd H a (.dT (putK kvs k v))):=.inr ⟨kvs,k,b,e,rfl,eb,hl,rfl⟩
section
variable{X:Cx}{pins:List (Addr × Obj)}{σ:St}{H:Hp}{s:Shared}{a:Addr}{y v:V}{u r:Value}{o:Option V}{A:Around}{E:Value->Shared->Prop}
def Inv.big(I:Inv X pins σ H s):sysModules<s.heap.objs.size:=by
 have h:mainGlobals<s.heap.objs.size:=(I.mod.glob.keeps I.bk).lt;exact Nat.lt_trans (by decide) h
def xC{Q:Value->Shared->Prop}(hu:A.units+1<cLine)(I:Inv X pins σ H s)(g:eX H a y (some v))(ry:RelV y u)(h:∀ w' s',Inv X pins σ H s'->RelV v w'->Q w' s') :
  wpAny (model X.prog X.w) A (getItem (.ref a) u) Q E s:=by
 rcases g with⟨kvs,k,e,ey,l⟩ | ⟨kvs,k,b,e,ey,eb,l⟩
 ·subst ey;obtain⟨z,hd,vs,rel,dd⟩:=lA I.hok e;obtain⟨w',hw,rw'⟩:=il.some_of (v:=v) (o:=valueAt vs k) (by rw[l];exact rel.val k);exact wpAny_getItem_of (mO ry) dd.mapOf hw (h w' _ (I.tok _) rw')
 ·subst ey;cases(show u=Value.ref b from ry);obtain⟨z,hd,xs,rel,dd⟩:=mM I.hok e;obtain⟨w',hw,rw'⟩:=il.some_of (v:=v) (o:=(atKey xs k).map (·.2)) (by rw[l];exact rel.val k);obtain⟨p,hp,hp2⟩:=Option.map_eq_some_iff.mp hw;refine wpAny_getItem_heap (tupleKind_room_in1 hu) (kq I.hok eb) dd hp ?_;rw[hp2];exact h w' _ (I.tok _) rw'
def Hq{Q:Value->Shared->Prop}(hu:A.units+1<cLine)(I:Inv X pins σ H s)(g:eX H a y o)(ry:RelV y u)(h:∀ s',Inv X pins σ H s'->Q (.bool o.isSome) s') :
  wpAny (model X.prog X.w) A (compareOp .In u (.ref a)) Q E s:=by
 rcases g with⟨kvs,k,e,ey,l⟩ | ⟨kvs,k,b,e,ey,eb,l⟩
 ·subst ey;obtain⟨z,hd,vs,rel,dd⟩:=lA I.hok e;refine wpAny_in_of (mO ry) hd dd.mapOf ?_;rw[<-(rel.val k).gn,<-l];exact h _ (I.tok _)
 ·subst ey;cases(show u=Value.ref b from ry);obtain⟨z,hd,xs,rel,dd⟩:=mM I.hok e;refine wpAny_in_heap (tupleKind_room_in1 hu) (kq I.hok eb) hd dd ?_;have q:=(rel.val k).gn;rw[Option.isSome_map]at q;rw[<-q,<-l];exact h _ (I.tok _)
def BF{Q:Value->Shared->Prop}(hu:A.units+1<cLine)(I:Inv X pins σ H s)(g:eX H a y o)(ry:RelV y u)(h:∀ s',Inv X pins σ H s'->Q (.bool (!o.isSome)) s') :
  wpAny (model X.prog X.w) A (compareOp .NotIn u (.ref a)) Q E s:=by
 rcases g with⟨kvs,k,e,ey,l⟩ | ⟨kvs,k,b,e,ey,eb,l⟩
 ·subst ey;obtain⟨z,hd,vs,rel,dd⟩:=lA I.hok e;refine wpAny_notIn_of (mO ry) hd dd.mapOf ?_;rw[<-(rel.val k).gn,<-l];exact h _ (I.tok _)
 ·subst ey;cases(show u=Value.ref b from ry);obtain⟨z,hd,xs,rel,dd⟩:=mM I.hok e;refine wpAny_notIn_heap (tupleKind_room_in1 hu) (kq I.hok eb) hd dd ?_;have q:=(rel.val k).gn;rw[Option.isSome_map]at q;rw[<-q,<-l];exact h _ (I.tok _)
def tH{h':Heap}{t':Nat}{ob:HO}(I:Inv X pins σ H s)(mu:Mut (H a))(hs:Heap.SameBut a s.heap h')(he:∃ q,h'.get? a=some q)(new:bA X.prog X.w (upd H a ob) h' a ob) :
  Inv X pins σ (upd H a ob) { s with heap:=h',toks:=t' } :=
 I.write (x:=a) (e:=a) mu (.inl rfl) (fun b q hb z=>(hs.2 b hb).trans z) he new
def EA{P:Program}{w:World}{H':Hp}{h':Heap}{kvs:List (Key × V)}{vs:List (Key × Value)}(z:kvs.length<=sizeLine)(hd:(a == sysModules)=false)(rel:KV kvs vs)(dd:h'.DictOf (cn P w) a vs) :
  bA P w H' h' a (.dK kvs):=⟨z,hd,vs,rel,dd⟩
def xg{H':Hp}{Q:Unit->Shared->Prop}(hu:A.units+1<cLine)(I:Inv X pins σ H s)(g:k9 H a y v H')(ry:RelV y u)(rv:RelV v r)(h:∀ s',Inv X pins σ H' s'->Q () s') :
  wpAny (model X.prog X.w) A (setItem (.ref a) u r) Q E s:=by
 rcases g with⟨kvs,k,e,ey,l,eH⟩ | ⟨kvs,k,b,e,ey,eb,l,eH⟩
 ·subst ey eH;obtain⟨z,hd,vs,rel,dd⟩:=FI I.hok e
  have hz:vs.length<=sizeLine:=by rw[<-rel.length];exact z
  have hl:(putK kvs k v).length<=sizeLine:=by have:=lL kvs k v;omega
  refine wpAny_setItem_pairs (hsz:=hz) (mO ry) dd fun h' dd' hs=>h _ ?_;have he:∃ q,h'.get? a=some q:=let ⟨q,_,_,hq,_⟩:=dd';⟨q,hq⟩;exact tH I (by rw[e];exact True.intro) hs he (EA hl hd (rel.put k rv) dd')
 ·subst ey eH;cases(show u=Value.ref b from ry);obtain⟨z,hd,xs,rel,dd⟩:=Ar I.hok e
  have hz:xs.length<=sizeLine:=by rw[<-Paired.length rel];exact z
  have hl:(putK kvs k v).length<=sizeLine:=by have:=lL kvs k v;omega
  refine wpAny_setItem_heap (hsz:=hz) (tupleKind_room_in1 hu) (kq I.hok eb) dd fun h' dd' hs=>h _ ?_;obtain⟨q,es,ep,hq,h2,h3,h4,_,h5⟩:=dd';refine tH I (by rw[e];exact True.intro) hs ⟨q,hq⟩ ⟨hl,hd,_,(rel.put k eb rv).keeps fun c ys ec=>?_,q,es,ep,hq,h2,h3,h4,h5⟩;rw[aV (qb ec e (fun z=>nomatch z))];exact ec
end
section
variable{X:Cx}{pins:List (Addr × Obj)}{σ:St}{H:Hp}{s:Shared}{a:Addr}{kvs:List (Key × V)}{k:Key}{u:Value}{A:Around}{E:Value->Shared->Prop}
def FN{Q:Value->Shared->Prop}(I:Inv X pins σ H s)(e:Rd H a (.dK kvs))(h:∀ t s',Inv X pins σ H s'->Q (.int kvs.length t) s'):wpAny (model X.prog X.w) A (call (.builtin "len") [.ref a]) Q E s:=by
 obtain⟨z,hd,vs,rel,dd⟩:=lA I.hok e;refine call_len_dict hd dd (by rw[<-rel.length];rw[sizeLine_eq]at z;omega) ?_;rw[<-rel.length];exact h _ _ (I.tok _)
end
abbrev vn(i:Expr):Prop:=∀ ov iv,subscripted i false ov iv=operate [ov,iv] (getItem ov iv)
def AK{prog:Program}{w:World}{A:Around}{E:Value->Shared->Prop}{s:Shared}{env:Env}{value slice:Expr}{pos:Pos}{T id:String}{Q:Value->Shared->Prop}
 (hl:typeLookup (.type T) "__getitem__" = pure (some (.builtin id)))(hs:vn slice)
 (h:wpAny (model prog w) A (eval value env) (fun o s₁=>wpAny (model prog w) A (eval slice env) (fun i s₂=>s₂.TypeIs o T/\wpAny (model prog w) A (getItem o i) Q E s₂) E s₁) E s) :
  wpAny (model prog w) A (eval (.Subscript value slice pos) env) Q E s:=by
 refine Subscript_ (wpAny_mono h (fun o s₁ h₁=>wpAny_mono h₁ (fun i s₂ h₂=>?_) fun _ _ x=>x) fun _ _ x=>x);obtain⟨hT,h₂⟩:=h₂;unfold subscriptTail;refine wpAny_bind ?_;rw[getitemInPython_of_ne hT.not_modules];refine wpAny_bind (wpAny_specialOf hT hl ?_)
 have fin:wpAny (model prog w) A (subscripted slice false o i) (fun r s₃=>wpAny (model prog w) A (letTemporaryGo value o r >>= fun _=>pure r) Q E s₃) E s₂:=by
  rw[hs o i];exact wpAny_operating (wpAny_mono h₂ (fun r s₃ h₃=>wpAny_bind (wpAny_letTemporaryGo (wpAny_pure h₃))) fun _ _ x=>x)
 first
  | exact wpAny_pure (wpAny_bind fin)
  | exact wpAny_bind (wpAny_pure (wpAny_bind fin))
  | exact wpAny_bind fin
def sY{X:Cx}{pins:List (Addr × Obj)}{σ:St}{H:Hp}{s:Shared}{a:Addr}{y:V}{o:Option V}(I:Inv X pins σ H s)(g:eX H a y o):s.TypeIs (.ref a) "dict" := by
 rcases g with⟨kvs,k,e,_,_⟩ | ⟨kvs,k,b,e,_,_,_⟩
 ·obtain⟨_,_,vs,_,dd⟩:=lA I.hok e;exact dd.typeIs
 ·obtain⟨_,_,xs,_,dd⟩:=mM I.hok e;exact dd.typeIs
abbrev FJ(td ty:TE):TE:=fun σ H Q=>td σ H fun x H1=>ty σ H1 fun y H2=>∃ a v,x=.ref a/\eX H2 a y (some v)/\Q v H2
abbrev CU(ty td:TE):TE:=fun σ H Q=>ty σ H fun y H1=>td σ H1 fun x H2=>∃ a o,x=.ref a/\eX H2 a y o/\Q (.bl o.isSome) H2
abbrev uv(ty td:TE):TE:=fun σ H Q=>ty σ H fun y H1=>td σ H1 fun x H2=>∃ a o,x=.ref a/\eX H2 a y o/\Q (.bl (!o.isSome)) H2
abbrev u3(td ty tv:TE):TS:=fun D σ H=>tv σ H fun v H1=>td σ H1 fun x H2=>ty σ H2 fun y H3=>∃ a H4,x=.ref a/\k9 H3 a y v H4/\D.nx σ H4
section
variable{X:Cx}{o i e value:Expr}{pos pos' tpos:Pos}{td ty tv:TE}
def C4(hu:X.A.units+1<cLine)(ho:PE X o td)(hi:PE X i ty)(hs:vn i):PE X (.Subscript o i pos) (FJ td ty):=by
 intro pins s σ H Q I h;refine AK PySem.F.slot_dict_getitem.lookup hs (thn (ho pins s σ H _ I h) fun u s1 ⟨x,H1,I1,rx,q1⟩=>thn (hi pins s1 σ H1 _ I1 q1) fun iv s2 ⟨y,H2,I2,ry,a,v,ex,g,q2⟩=>?_);subst ex;obtain rfl:u=Value.ref a:=rx;exact⟨sY I2 g,xC hu I2 g ry fun w' s3 I3 rw'=>⟨v,H2,I3,rw',q2⟩⟩
def Fo(hu:X.A.units+1<cLine)(hi:PE X i ty)(ho:PE X o td):PC X .In i o (CU ty td):=by
 intro pins s σ H Q I h;refine thn (hi pins s σ H _ I h) fun iv s1 ⟨y,H1,I1,ry,q1⟩=>thn (ho pins s1 σ H1 _ I1 q1) fun u s2 ⟨x,H2,I2,rx,a,ov,ex,g,q2⟩=>?_;subst ex;obtain rfl:u=Value.ref a:=rx
 exact Hq hu I2 g ry fun s3 I3=>⟨.bl ov.isSome,H2,I3,rfl,q2⟩
def xN(hu:X.A.units+1<cLine)(hi:PE X i ty)(ho:PE X o td):PC X .NotIn i o (uv ty td):=by
 intro pins s σ H Q I h;refine thn (hi pins s σ H _ I h) fun iv s1 ⟨y,H1,I1,ry,q1⟩=>thn (ho pins s1 σ H1 _ I1 q1) fun u s2 ⟨x,H2,I2,rx,a,ov,ex,g,q2⟩=>?_;subst ex;obtain rfl:u=Value.ref a:=rx
 exact BF hu I2 g ry fun s3 I3=>⟨.bl (!ov.isSome),H2,I3,rfl,q2⟩
def Bc(hu:X.A.units+1<cLine)(ho:PE X o td)(hi:PE X i ty)(hv:PE X value tv)(hs:swapsWith value (some (.Subscript o i pos')) pos.line X.env=pure false) :
  PS X (.Assign [.Subscript o i pos'] value pos) (u3 td ty tv):=by
 intro pins s σ H D I h;refine wpAny_Assign_Subscript (thn (hv pins s σ H _ I h) fun r s1 ⟨v,H1,I1,rv,q1⟩=>thn (ho pins s1 σ H1 _ I1 q1) fun u s2 ⟨x,H2,I2,rx,q2⟩=>thn (hi pins s2 σ H2 _ I2 q2) fun iv s3 ⟨y,H3,I3,ry,a,H4,ex,g,q3⟩=>?_) hs;subst ex;obtain rfl:u=Value.ref a:=rx
 exact xg hu I3 g ry rv fun s4 I4=>⟨σ,H4,I4,q3⟩
end
def zb{P:Program}{w:World}{H:Hp}(h:Heap)(hb:sysModules<h.objs.size):bA P w H (h.push { cls:=.type "dict",data:=.dict #[] }) h.objs.size (.dK []) :=
 ⟨Nat.zero_le _,beq_eq_false_iff_ne.mpr (Ne.symm (Nat.ne_of_lt hb)),[],.nil,Heap.DictOf.new h⟩
def zy{P:Program}{w:World}{H:Hp}(h:Heap)(hb:sysModules<h.objs.size):bA P w H (h.push { cls:=.type "dict",data:=.dict #[] }) h.objs.size (.dT []) :=
 ⟨Nat.zero_le _,beq_eq_false_iff_ne.mpr (Ne.symm (Nat.ne_of_lt hb)),[],.nil,_,#[],0,Heap.get?_push_size _ rfl,⟨rfl,rfl,rfl⟩,rfl,rfl,List.nodup_nil⟩
abbrev DZ:TE:=fun _ H Q=>∀ p,H p=none->Q (.ref p) (upd H p (.dK []))
abbrev DV:TE:=fun _ H Q=>∀ p,H p=none->Q (.ref p) (upd H p (.dT []))
section
variable{X:Cx}{pos:Pos}
def zt:PE X (.Dict [] [] pos) DZ:=fun pins s σ H Q I h =>
 wpAny_Dict_empty ⟨.ref s.heap.objs.size,_,I.laid (a:=s.heap.objs.size) (o:=.dK []) (t':=s.toks) (fun _ _ q=>Heap.get?_push_of_some _ q) (Nat.le_refl _) (zb s.heap I.big),rfl,h _ (I.hok.fresh (Nat.le_refl _))⟩
def zX:PE X (.Dict [] [] pos) DV:=fun pins s σ H Q I h =>
 wpAny_Dict_empty ⟨.ref s.heap.objs.size,_,I.laid (a:=s.heap.objs.size) (o:=.dT []) (t':=s.toks) (fun _ _ q=>Heap.get?_push_of_some _ q) (Nat.le_refl _) (zy s.heap I.big),rfl,h _ (I.hok.fresh (Nat.le_refl _))⟩
end
section
variable{X:Cx}{pins:List (Addr × Obj)}{σ:St}{H:Hp}{s:Shared}{a:Addr}{y d:V}{u r:Value}{o:Option V}{A:Around}{E:Value->Shared->Prop}
end
section
variable{X:Cx}{o e f:Expr}{apos cpos:Pos}{td ty tx:TE}
end
section
variable{X:Cx}{pins:List (Addr × Obj)}{σ:St}{H:Hp}{s:Shared}{a:Addr}{kvs:List (Key × V)}{A:Around}{E:Value->Shared->Prop}
end
section
variable{X:Cx}{pins:List (Addr × Obj)}{σ:St}{H:Hp}{s:Shared}{a:Addr}{y:V}{u:Value}{A:Around}{E:Value->Shared->Prop}
end
end L2
namespace Att
open PySem PySem.W PySem.Calls PyProof.Rows
def ny{P:Params}{h:Heap}:∀ (ns:List Int) (vs:List Value),WellAll P h vs (ns.map WData.int)->IntsAre vs ns:=by
 intro ns
 induction ns with
 |nil=>
  intro vs w;rw[List.map_nil]at w;cases w;exact .nil
 |cons n ns ih=>
  intro vs w;rw[List.map_cons]at w
  cases w with
  |cons a b=>
   cases a;exact .cons _ _ (ih _ b)
def wc{l:OpenLaw}{n:Nat}(hn:l.most=some n){P:Params}{h:Heap}{args:List WData}{vals:List Value}
 (hpre:l.row.toRowW.claim.pre args=true)(hwl:WellAll P h vals args) :
  ∃ a vs ns,vals=[Value.ref a]/\args=[WData.list (ns.map WData.int)]/\h.get? a=some { cls:=.type "list",data:=.seq vs.toArray }/\IntsAre vs ns/\ns.length<=n:=by
 have hsh:WShape.hasAll [] args [.list .int]=true:=(pre_splitW hpre).1;have hc:l.pre.holds [] { args:=args }=true:=(pre_splitW hpre).2;obtain⟨d,r,rfl,h1,h2⟩:=hasAllW_cons hsh;obtain rfl:=hasAllW_nil h2;obtain⟨xs,rfl,h3⟩:=hasW_list h1;obtain⟨ns,rfl⟩:=items_int h3
 have hlen:ns.length<=n:=by
  unfold OpenLaw.pre at hc
  have h4:(WTm.not (.lt (.lit (.int (n:Int))) (.len (.arg 0)))).holds [] { args:=[.list (ns.map .int)] }=true:=by
   have h4:=(holds_andW hc).1;rw[hn]at h4;exact h4
  have h5:=condW_of h4 (w_not (w_lt w_lit (w_len_list (w_arg rfl))));rw[List.length_map]at h5;refine Nat.le_of_not_lt fun q=>?_
  have q':(n:Int)<((ns.length:Nat):Int):=by omega
  first
   | (rw[decide_eq_true q']at h5;exact absurd h5 (by decide))
   | (simp at h5;omega)
 cases hwl with
 |cons w1 w2=>
  cases w2
  cases w1 with
  | list ho hall=>exact⟨_,_,ns,rfl,rfl,ho,ny ns _ hall,hlen⟩
def wJ(l:OpenLaw)(args:List WData):l.row.toRowW.claim.post args (.bool true) args=true :=
 postW_of (r:=l.row.toRowW) (X:=(true == true))
  (show WShape.has [] (.bool true) .bool=true by first | rfl | decide | simp[WShape.has,WShape.arms,WShape.armsAll])
  (show(WTm.eq .res (.lit (.bool true))).value [] { args:=args,res:=some (.bool true),after:=args }=some (.bool (true == true))from w_eq_bool (w_res rfl) w_lit) rfl
def tf{l:OpenLaw}{n:Nat}{q:Program}{loose:List Str}{XP:(Str->Option Value)->Heap->Prop}{YP:World->Heap->Prop}{d:DefRec}
 (hn:l.most=some n)(hdf:d.params.defaults=[])
 (call:∀ (w:World) (s₀ s₁:Shared) (mg mb:Str->Option Value) (fa:Addr) (o:Obj) (pm cd doc:Value) (a:Addr) (vs:List Value) (ns:List Int),
   Ground q loose [] XP w s₀ mg mb s₁.heap->YP w s₁.heap ->
   s₁.heap.get? fa=some o->o.data=.func (docDef d.name d.params d.body d.scope pm cd doc)->s₁.heap.CodeRec cd d.name->mg d.name=some (.ref fa) ->
   s₁.heap.get? a=some { cls:=.type "list",data:=.seq vs.toArray }->IntsAre vs ns->ns.length<=n->s₁.gens=#[] ->
   codeAny (model l.prog w) callerA (.call (.ref fa) ⟨[.ref a],[]⟩) (fun r s'=>r=.ok (.ret (.bool true))/\OldK s₁.heap s'.heap/\s'.os=s₁.os/\AllBare s'.gens) s₁) :
  WalkO q loose XP YP l.row.toRowW d [] (fun f vs=>PySem.call f vs):=by
 intro w s₀ s₁ mg mb G Y fa o pm cd doc dV kV ho hd hcd hD hmg hg args vals as hpre hlay hrd hwl hlo;obtain rfl:dV=.none:=Dflts.none hD hdf;obtain rfl:kV=.none:=Dflts.noKw hD;obtain⟨a,vs,ns,rfl,rfl,hobj,hints,hlen⟩:=wc hn hpre hwl;refine enter_call (codeAny_mono (call w s₀ s₁ mg mb fa o pm cd doc a vs ns G Y ho (fd_plain hd) hcd hmg hobj hints hlen hg) fun r s' hq=>?_);obtain⟨rfl,h2,h3,h4⟩:=hq;exact⟨.inl ⟨.bool true,.bool true,[],rfl,fun _=>rfl,.bool true,wJ l _,fun _=>⟨List.Pairwise.nil,fun _ hm=>(nomatch hm)⟩⟩,h2,h3,h4⟩
section
variable{prog:Program}{w:World}{A:Around}{E:Value->Shared->Prop}{s:Shared}{K:Frag}
end
end Att
namespace L2
open PySem PySem.Spec PyProof.Rows
def kI:∀ {vs:List Value} {ns:List Int},IntsAre vs ns->Vals (ns.map V.int) vs
 | _,_,.nil=>.nil
 | _,_,.cons n t h=>.cons ⟨t,rfl⟩ (kI h)
abbrev qO(H:Hp):Prop:=∀ b,H b=none\/∃ o xs,H b=some (.frz o (.lst xs))
def zj{P:Program}{w:World}{K:PySem.W.Frag}{mg mb:Str->Option Value}{CX:CXT}{k:Nat}{fa a:Addr}{fd:FuncData}{x:Str}{sp:Sp}{s₁:Shared}{vs:List Value}{ns:List Int}
 (KX:K.In s₁.heap)(hns:s₁.heap.Ns mainGlobals mg)(hb:s₁.heap.Ns builtinsNs mb)(hbb:∀ x:Str,x ≠ "__name__" -> mb x=bootBuiltins x)(hlim:s₁.heap.NoLimit)(hg:s₁.gens=#[])
 (ha:s₁.heap.get? a=some { cls:=.type "list",data:=.seq vs.toArray })(hi:IntsAre vs ns)(hl:ns.length<=sizeLine)(hr:eG k callerA)
 (F:∀ base:Heap,K.In base->base.Ns mainGlobals mg->iQ P w K mg base CX k fa fd [x] sp)(hbind:∀ (s:Shared) (u:Value),BindsTo s fd ⟨[u],[]⟩ [(x,u)])
 (hsp:∀ H:Hp,qO H->SqL K H a (ns.map V.int)->sp [.ref a] H (fun v _=>v=.bl true) fun _ _ _=>False)
 (hCX:∀ H e s',CX [] H s₁ (fun _ _ _=>False) e s'->False) :
  codeAny (model P w) callerA (.call (.ref fa) ⟨[.ref a],[]⟩) (fun r s'=>r=.ok (.ret (.bool true))/\OldK s₁.heap s'.heap/\s'.os=s₁.os/\AllBare s'.gens) s₁:=by
 have rv:=kI hi;have lenV:=hi.length
 have core:∀ H:Hp,qO H->SqL K H a (ns.map V.int)->HOk P w H s₁.heap->(∀ b,H b≠none->b=a)->(H a≠none->K.lookup a=none) ->
   codeAny (model P w) callerA (.call (.ref fa) ⟨[.ref a],[]⟩) (fun r s'=>r=.ok (.ret (.bool true))/\OldK s₁.heap s'.heap/\s'.os=s₁.os/\AllBare s'.gens) s₁:=by
  intro H hO hS hok hA hK;have base_of:∀ {b:Addr} {o:Obj},s₁.heap.get? b=some o->H b=none->(jR s₁.heap H).get? b=some o:=fun e n=>xY e n
  have noA:∀ {b:Addr} {o:Obj} {es:Array DictEntry} {ep:Nat},s₁.heap.get? b=some o->o.data=.dict es ep->H b=none:=fun {b o es ep} e d=>by
   cases q:H b with
   | none=>rfl
   |some u=>
    have e':b=a:=hA b (by rw[q];simp);subst e';rw[ha]at e;cases e;have d':Data.seq vs.toArray _=Data.dict es ep:=d;cases d'
  have nsK:∀ {b:Addr} {m:Str->Option Value},s₁.heap.Ns b m->(jR s₁.heap H).Ns b m:=fun {b m} ⟨o,es,ep,e,d,r⟩=>⟨o,es,ep,base_of e (noA e d),d,r⟩
  have hKb:K.In (jR s₁.heap H):=fun b o e=>base_of (KX b o e) (by
   cases q:H b with
   | none=>rfl
   |some u=>
    have e':b=a:=hA b (by rw[q];simp);subst e'
    rw[hK (by rw[q];simp)]at e;cases e)
  have hM:Mod K mg (jR s₁.heap H):=⟨hKb,nsK hns,⟨mb,nsK hb,hbb⟩,let ⟨mc,h1,h2⟩:=hlim;⟨mc,nsK h1,h2⟩⟩
  have e0:uN P w K mg (jR s₁.heap H) callerA [] s₁ H:=⟨rfl,hM,fun b o e=>Bw e,Nat.le_of_eq (wY _ _),trivial,fun b hb=>absurd (show b∈([]:List Addr)from hb) (by simp),hok,.of_eq hg⟩
  refine codeAny_mono ((F _ hKb (nsK hns)).run callerA [] s₁ H ⟨[.ref a],[]⟩ [.ref a] [.ref a] _ _ hr e0 (hbind s₁ (.ref a)) (.cons rfl .nil) (hsp H hO hS)) fun r s' h=>?_
  cases r with
  | error e=>exact(hCX H e s' h).elim
  |ok fl=>
   cases fl with
   | next=>exact False.elim h
   | brk=>exact False.elim h
   | cont=>exact False.elim h
   |ret u=>
    obtain⟨v,H',os,bare,un,hok',r',q⟩:=h;have q':v=.bl true:=q;subst q';obtain rfl:u=Value.bool true:=r';refine⟨rfl,OldK.of_keep fun b o e=>?_,os,bare⟩
    cases q:H b with
    | none=>exact un.keep b o e q (by intro z;exact absurd (show b∈([]:List Addr)from z) (by simp)) (by simp)
    |some u=>
     rcases hO b with z | ⟨ob,xs,z⟩
     ·rw[q]at z;cases z
     ·have z2:=un.iS b ob _ z;obtain⟨e1,_⟩:=hok b _ z;obtain⟨e2,_⟩:=hok' b _ z2;rw[e]at e1;cases e1;exact e2
 cases hk:K.lookup a with
 |some o=>
  have e:=KX a o hk;rw[ha]at e;cases e;refine core (fun _=>none) (fun _=>.inl rfl) (.inr ⟨_,vs.toArray,_,hk,rfl,rfl,rfl,by rw[List.size_toArray,lenV];exact hl,by simpa using rv⟩) (fun b u z=>by have z':(none:Option HO)=some u:=z;cases z') (fun b z=>absurd rfl z) fun z=>absurd rfl z
 |none=>
  refine core (fun b=>if b=a then some (.frz { cls:=.type "list",data:=.seq vs.toArray } (.lst (ns.map V.int)))else none) (fun b=>?_) (.inl (.inr ⟨{ cls:=.type "list",data:=.seq vs.toArray },if_pos rfl⟩)) (fun b u z=>?_) (fun b z=>?_) fun _=>hk
  ·by_cases hb:b=a
   ·exact .inr ⟨_,_,if_pos hb⟩
   ·exact .inl (if_neg hb)
  ·by_cases hb:b=a
   ·have z':=(if_pos hb).symm.trans z;cases z';subst hb;exact⟨ha,by rw[List.length_map];exact hl,vs,_,rv,ha⟩
   ·have z':=(if_neg hb).symm.trans z;cases z'
  ·by_cases hb:b=a
   ·exact hb
   ·exact absurd (if_neg hb) z
@[reducible]noncomputable def KOf{K:PySem.W.Frag}{h:Heap}(_:K.In h):PySem.W.Frag:=K
def uy{l:PySem.W.OpenLaw}{n k:Nat}{q:Program}{loose:List Str}{XP:(Str->Option Value)->Heap->Prop}{YP:World->Heap->Prop}{d:DefRec}{K:Params->PySem.W.Frag}{CX:World->CXT}{sp:World->Sp}{x:Str}
 (hn:l.most=some n)(hn2:n<=sizeLine)(hdf:d.params.defaults=[])(hr:eG k callerA)
 (hY:∀ (w:World) (h:Heap),YP w h->(K w.params).In h)
 (F:∀ (w:World) (mg:Str->Option Value) (fa:Addr) (h:Heap),(K w.params).In h->h.Ns mainGlobals mg->mg d.name=some (.ref fa) ->
   ∃ fd:FuncData,(∀ (s:Shared) (u:Value),BindsTo s fd ⟨[u],[]⟩ [(x,u)]) /\
    ∀ base:Heap,(K w.params).In base->base.Ns mainGlobals mg->iQ l.prog w (K w.params) mg base (CX w) k fa fd [x] (sp w))
 (hsp:∀ (w:World) (H:Hp) (a:Addr) (ns:List Int),ns.length<=n->qO H->SqL (K w.params) H a (ns.map V.int)->sp w [.ref a] H (fun v _=>v=.bl true) fun _ _ _=>False)
 (hCX:∀ (w:World) (H:Hp) (s:Shared) (e:Value) (s':Shared),CX w [] H s (fun _ _ _=>False) e s'->False) :
  PySem.W.WalkO q loose XP YP l.row.toRowW d [] (fun f vs=>PySem.call f vs):=by
 refine Att.tf hn hdf fun w s₀ s₁ mg mb fa o pm cd doc a vs ns G Y ho hd hcd hmg hobj hints hlen hg=>?_;have KX:=hY w _ Y;obtain⟨fd,hb,hF⟩:=F w mg fa _ KX G.T.g hmg;exact zj KX G.T.g G.T.b G.T.builtins G.T.nolimit hg hobj hints (Nat.le_trans hlen hn2) hr hF hb (fun H hO hS=>hsp w H a ns hlen hO hS) fun H e s'=>hCX w H s₁ e s'
def Ab{l:PySem.W.OpenLaw}{n k:Nat}{q:Program}{loose:List Str}{XP:(Str->Option Value)->Heap->Prop}{YP:World->Heap->Prop}{d:DefRec}{K:Params->PySem.W.Frag}{CX:CXT}{sp:PySem.W.Frag->Sp}{x:Str}
 (hn:l.most=some n)(hn2:n<=sizeLine)(hdf:d.params.defaults=[])(hr:eG k callerA)
 (hY:∀ (w:World) (h:Heap),YP w h->(K w.params).In h)
 (F:∀ (w:World) (mg:Str->Option Value) (fa:Addr) (h:Heap),(K w.params).In h->h.Ns mainGlobals mg->mg d.name=some (.ref fa) ->
   ∃ fd:FuncData,(∀ (s:Shared) (u:Value),BindsTo s fd ⟨[u],[]⟩ [(x,u)]) /\
    ∀ base:Heap,(K w.params).In base->base.Ns mainGlobals mg->iQ l.prog w (K w.params) mg base CX k fa fd [x] (sp (K w.params)))
 (hsp:∀ (K:PySem.W.Frag) (H:Hp) (a:Addr) (ns:List Int),ns.length<=n->qO H->SqL K H a (ns.map V.int)->sp K [.ref a] H (fun v _=>v=.bl true) fun _ _ _=>False)
 (hCX:∀ (H:Hp) (s:Shared) (e:Value) (s':Shared),CX [] H s (fun _ _ _=>False) e s'->False) :
  PySem.W.WalkO q loose XP YP l.row.toRowW d [] (fun f vs=>PySem.call f vs) :=
 uy (K:=K) (CX:=fun _=>CX) (sp:=fun w=>sp (K w.params)) hn hn2 hdf hr hY F (fun w H a ns h1 h2 h3=>hsp (K w.params) H a ns h1 h2 h3) fun _ H s e s'=>hCX H s e s'
abbrev jv(s:Stmt):Arguments:=match s with
 | .FunctionDef _ a _ _ _ _ _ _ _ _=>a
 | _=>{ posonlyargs:=[],args:=[],vararg:=none,kwonlyargs:=[],kw_defaults:=[],kwarg:=none,defaults:=[] }
abbrev fO(s:Stmt):List Stmt:=match s with
 | .FunctionDef _ _ b _ _ _ _ _ _ _=>b
 | _=>[]
abbrev c8(s:Stmt):Scope:=match s with
 | .FunctionDef _ _ _ _ _ _ sc _ _ _=>sc
 | _=>{ kind:=.function,names:=[],isGenerator:=false,isCoroutine:=false }
@[reducible]noncomputable def CX0:CXT:=fun _ _ _ _ _ _=>False
@[reducible]noncomputable def E0:XK:=fun _ _ _=>False
def Ae{X:Cx}:Passes CX0 X E0:=fun _ _ _ _ _ _ _ h=>h.elim
structure Fun(K:PySem.W.Frag)(x qual:Str)(st:Stmt)(f:Addr)(fd:FuncData):Prop where
 ex:∃ (oc:Value) (od:Option Addr) (kV doc pm:Value) (an:Option Addr) (cdv ct:Value) (osl:Array (Option Value)),
  fd=PySem.W.fnOf x qual (jv st) (fO st) (c8 st) .none kV doc pm an cdv ct/\K.lookup f=some ⟨oc,od,.func fd,osl⟩/\PySem.W.codeIn K cdv qual=true
 kp:PySem.W.keepIn K (.ref f)=true
section
variable{P:Program}{w:World}{K:PySem.W.Frag}{mg:Str->Option Value}{base:Heap}
def Fun.ok{x qual:Str}{st:Stmt}{f:Addr}{fd:FuncData}{N ps:List Str}{k:Nat}{sp:Sp}(F:Fun K x qual st f fd)(S:l3 N ps (c8 st))(len:∀ vs H Q E,sp vs H Q E->vs.length=ps.length)
 (hbody:∀ (cdv:Value) (A:Around) (outer:List Env) (s:Shared) (H:Hp) (vs:List V) (Q:VK) (E:XK),eG k (A.deeper (envOfC qual (c8 st) s.heap.objs.size f cdv))->sp vs H Q E ->
   ∃ t,PSs (m9 CX0 P w K mg base N qual (c8 st) f cdv A outer s H E).nox (fO st) t/\t { nx:=fun _ H'=>Q .non H',rt:=Q } (start N vs) H):iQ P w K mg base CX0 (k+1) f fd ps sp:=by
 obtain⟨oc,od,kV,doc,pm,an,cdv,ct,osl,rfl,lk,hcd⟩:=F.ex;refine Gz lk hcd S len fun A outer s H vs Q E hr hsp=>?_;obtain⟨t,h,q⟩:=hbody cdv A outer s H vs Q E hr hsp;exact⟨t,h.nox,q⟩
def Fun.binds{x qual:Str}{st:Stmt}{f:Addr}{fd:FuncData}{ps:List Str}(F:Fun K x qual st f fd)
 (h:∀ (kV doc pm:Value) (an:Option Addr) (cdv ct:Value) (us:List Value),us.length=ps.length->bindArgs (PySem.W.fnOf x qual (jv st) (fO st) (c8 st) .none kV doc pm an cdv ct) ⟨us,[]⟩=pure (ps.zip us)):Binds K fd ps []:=by
 obtain⟨oc,od,kV,doc,pm,an,cdv,ct,osl,rfl,lk,hcd⟩:=F.ex;exact .all (h kV doc pm an cdv ct)
def Di{x qual:Str}{st:Stmt}{f:Addr}{oc:Value}{od an:Option Addr}{osl:Array (Option Value)}{kV doc pm cdv ct:Value}(l:K.lookup f=some ⟨oc,od,.func (PySem.W.fnOf x qual (jv st) (fO st) (c8 st) .none kV doc pm an cdv ct),osl⟩)
 (c:PySem.W.codeIn K cdv qual=true)(k:PySem.W.keepIn K (.ref f)=true):Fun K x qual st f (PySem.W.fnOf x qual (jv st) (fO st) (c8 st) .none kV doc pm an cdv ct):=⟨⟨oc,od,kV,doc,pm,an,cdv,ct,osl,rfl,l,c⟩,k⟩
end
def pH{n:Nat}(h:n<=1000):n<sizeLine:=Nat.lt_of_le_of_lt h (by decide)
section
variable{X:Cx}
end
def gy{A B:Prop}(h:B):if false=true then A else B:=by
 rw[if_neg Bool.false_ne_true];exact h
def f7{A B:Prop}(h:A):if true=true then A else B:=by
 rw[if_pos rfl];exact h
abbrev a6(H H':Hp):Prop:=∀ b o,H b=some o->H' b=some o
def a6.refl(H:Hp):a6 H H:=fun _ _ h=>h
def a6.trans{H H1 H2:Hp}(a:a6 H H1)(b:a6 H1 H2):a6 H H2:=fun c o h=>b c o (a c o h)
def a6.free{H H':Hp}(e:a6 H H'){l:Addr}(h:H' l=Option.none):H l=Option.none:=by
 cases q:H l with
 | none=>rfl
 |some o=>
  rw[e l o q]at h;cases h
section
variable{X:Cx}
def xv:bD X (.builtin "len") (fun xs H Q=>∃ a kvs,xs=[V.ref a]/\H a=some (.dK kvs)/\Q (.int kvs.length) H):=by
 intro pins s σ H xs us Q I r h;obtain⟨a,kvs,rfl,ha,q⟩:=h;obtain⟨u,rfl,ru⟩:=vals1 r;cases ru
 exact FN I (.inl ha) fun t s' I'=>⟨.int kvs.length,H,I',⟨t,rfl⟩,q⟩
end
section
variable{κ:Type} [DecidableEq κ]
end
end L2
namespace RS
open PySem PySem.Spec PyProof.Rows L2
@[reducible]noncomputable def VE:List Value:=[.type "ValueError",.type "Exception",.type "BaseException",.type "object"]
abbrev zF:List Str:=["RibbonError", "BadPegs", "BadFrame", "BadHalf", "BadHook", "BadName", "NoNumber", "NoFrame", "NoStack", "NoPlace", "Taken", "Full", "NothingThere", "BadTrade", "Hangs", "BadPage"]
abbrev D0(f:Option PySem.Builtin.ObjectAttr.Found):Bool:=match f with
 | some (.bind (.builtin a) (.builtin b))=>a == "getset_descriptor.__get__" && b == "object.__class__"
 | _=>false
abbrev FU(K:PySem.W.Frag)(x:Str)(C:Addr):Bool :=
 PySem.W.excIn K C VE "ValueError.__new__" && PySem.W.findIn K (.ref C) "__getattribute__" == some (some (.builtin "BaseException.__getattribute__"))&&PySem.W.findIn K (.ref C) "__getattr__" == some none&&D0 (PySem.W.findObj K C none "__class__") &&
 PySem.W.mroIn K C (.type "object") == some true&&PySem.W.subIn K (.ref C) (.type "BaseException") == some true&&(PySem.W.clsIn K C).isSome&&PySem.W.kitOne K (.ref C) (.type "ValueError") == some true &&
 zF.all fun c=>match PySem.W.nsIn K mainGlobals c with
  | some (some (.ref D))=>PySem.W.kitOne K (.ref C) (.ref D) == some (RL.Af x c)&&PySem.W.subIn K (.ref C) (.ref D) == some (RL.Af x c)
  | _=>true
structure Cls(K:PySem.W.Frag)(x:Str)(C:Addr):Prop where
 ns:PySem.W.nsIn K mainGlobals x=some (some (.ref C))
 ok:FU K x C=true
section
variable{K:PySem.W.Frag}{x c:Str}{C D:Addr}
end
abbrev nP:Addr->Prop:=fun _=>False
abbrev ku(K:PySem.W.Frag)(H:Hp)(a:Addr)(xs:List V):Prop:=(∃ o,H a=some (.frz o (.lst xs)))\/SqL K (fun _=>none) a xs
def ku.seq{K:PySem.W.Frag}{H:Hp}{a:Addr}{xs:List V}(h:ku K H a xs):SqL K H a xs:=by
 rcases h with⟨o,h⟩ | (h | ⟨o,h⟩) | h
 ·exact .inl (.inr ⟨o,h⟩)
 ·cases h
 ·cases h
 ·exact .inr h
def ku.same{K:PySem.W.Frag}{H H':Hp}{a:Addr}{xs:List V}(e:a6 H H')(h:ku K H a xs):ku K H' a xs:=by
 rcases h with⟨o,h⟩ | h
 ·exact .inl ⟨o,e _ _ h⟩
 ·exact .inr h
abbrev ExV(K:PySem.W.Frag)(H:Hp)(c:Str)(v:V):Prop:=∃ a o u D vs,v=.ref a/\H a=some (.frz o u)/\(o.cls=.ref D/\o.dict=none)/\o.data=.fields vs/\vs[2]?=some .none/\Cls K c D
def ExV.keep{K:PySem.W.Frag}{H H':Hp}{c:Str}{v:V}(h:ExV K H c v)(k:∀ b o u,H b=some (.frz o u)->H' b=some (.frz o u)):ExV K H' c v :=
 let ⟨a,o,u,D,vs,h1,h2,r⟩:=h;⟨a,o,u,D,vs,h1,k _ _ _ h2,r⟩
mutual
noncomputable def Rep(P:Addr->Prop)(K:PySem.W.Frag)(H:Hp):RL.D->V->Prop
 | .non,v=>v=.non
 | .bl b,v=>v=.bl b
 | .int i,v=>v=.int i
 | .str x,v=>v=.str x
 | .tup ds,v=>∃ a xs,v=.ref a/\H a=some (.tup xs)/\ae P K H ds xs
 | .lst ds,v=>∃ a xs,v=.ref a/\¬ P a/\H a=some (.lst xs)/\ae P K H ds xs
 | .dK ks ds,v=>∃ a xs,v=.ref a/\¬ P a/\H a=some (.dK (ks.zip xs))/\ks.length=ds.length/\ae P K H ds xs
 | .dT ks ds,v=>∃ a xs,v=.ref a/\¬ P a/\H a=some (.dT (ks.zip xs))/\ks.length=ds.length/\ae P K H ds xs
 | .scr ds,v=>∃ a xs,v=.ref a/\ku K H a xs/\ae P K H ds xs
 | .exc c,v=>ExV K H c v
noncomputable def ae(P:Addr->Prop)(K:PySem.W.Frag)(H:Hp):List RL.D->List V->Prop
 | [],xs=>xs=[]
 | d::r,xs=>∃ x t,xs=x::t/\Rep P K H d x/\ae P K H r t
end
mutual
theorem Rep.same{P:Addr->Prop}{K:PySem.W.Frag}{H H':Hp}(e:a6 H H'):∀ {d:RL.D} {v:V},Rep P K H d v->Rep P K H' d v
 | .non,v,h=>by simpa[Rep]using h
 | .bl _,v,h=>by simpa[Rep]using h
 | .int _,v,h=>by simpa[Rep]using h
 | .str _,v,h=>by simpa[Rep]using h
 | .tup ds,v,h=>by
  rw[Rep]at h ⊢;obtain⟨a,xs,e1,e2,e3⟩:=h;exact⟨a,xs,e1,e _ _ e2,ae.same e e3⟩
 | .lst ds,v,h=>by
  rw[Rep]at h ⊢;obtain⟨a,xs,e1,e0,e2,e3⟩:=h;exact⟨a,xs,e1,e0,e _ _ e2,ae.same e e3⟩
 | .dK ks ds,v,h=>by
  rw[Rep]at h ⊢;obtain⟨a,xs,e1,e0,e2,el,e3⟩:=h;exact⟨a,xs,e1,e0,e _ _ e2,el,ae.same e e3⟩
 | .dT ks ds,v,h=>by
  rw[Rep]at h ⊢;obtain⟨a,xs,e1,e0,e2,el,e3⟩:=h;exact⟨a,xs,e1,e0,e _ _ e2,el,ae.same e e3⟩
 | .scr ds,v,h=>by
  rw[Rep]at h ⊢;obtain⟨a,xs,e1,e2,e3⟩:=h;exact⟨a,xs,e1,ku.same e e2,ae.same e e3⟩
 | .exc c,v,h=>by rw[Rep]at h ⊢;exact h.keep fun _ _ _ q=>e _ _ q
theorem ae.same{P:Addr->Prop}{K:PySem.W.Frag}{H H':Hp}(e:a6 H H'):∀ {ds:List RL.D} {xs:List V},ae P K H ds xs->ae P K H' ds xs
 | [],xs,h=>by rw[ae]at h ⊢;exact h
 | d::r,xs,h=>by
  rw[ae]at h ⊢;obtain⟨x,t,e1,e2,e3⟩:=h;exact⟨x,t,e1,Rep.same e e2,ae.same e e3⟩
end
mutual
theorem Rep.weak{P P':Addr->Prop}{K:PySem.W.Frag}{H:Hp}(e:∀ a,P' a->P a):∀ {d:RL.D} {v:V},Rep P K H d v->Rep P' K H d v
 | .non,v,h=>by simpa[Rep]using h
 | .bl _,v,h=>by simpa[Rep]using h
 | .int _,v,h=>by simpa[Rep]using h
 | .str _,v,h=>by simpa[Rep]using h
 | .tup ds,v,h=>by
  rw[Rep]at h ⊢;obtain⟨a,xs,e1,e2,e3⟩:=h;exact⟨a,xs,e1,e2,ae.weak e e3⟩
 | .lst ds,v,h=>by
  rw[Rep]at h ⊢;obtain⟨a,xs,e1,e0,e2,e3⟩:=h;exact⟨a,xs,e1,fun z=>e0 (e a z),e2,ae.weak e e3⟩
 | .dK ks ds,v,h=>by
  rw[Rep]at h ⊢;obtain⟨a,xs,e1,e0,e2,el,e3⟩:=h;exact⟨a,xs,e1,fun z=>e0 (e a z),e2,el,ae.weak e e3⟩
 | .dT ks ds,v,h=>by
  rw[Rep]at h ⊢;obtain⟨a,xs,e1,e0,e2,el,e3⟩:=h;exact⟨a,xs,e1,fun z=>e0 (e a z),e2,el,ae.weak e e3⟩
 | .scr ds,v,h=>by
  rw[Rep]at h ⊢;obtain⟨a,xs,e1,e2,e3⟩:=h;exact⟨a,xs,e1,e2,ae.weak e e3⟩
 | .exc c,v,h=>by rw[Rep]at h ⊢;exact h
theorem ae.weak{P P':Addr->Prop}{K:PySem.W.Frag}{H:Hp}(e:∀ a,P' a->P a):∀ {ds:List RL.D} {xs:List V},ae P K H ds xs->ae P' K H ds xs
 | [],xs,h=>by rw[ae]at h ⊢;exact h
 | d::r,xs,h=>by
  rw[ae]at h ⊢;obtain⟨x,t,e1,e2,e3⟩:=h;exact⟨x,t,e1,Rep.weak e e2,ae.weak e e3⟩
end
def Rep.none{P:Addr->Prop}{K:PySem.W.Frag}{H:Hp}{d:RL.D}{v:V}(h:Rep P K H d v):Rep nP K H d v:=h.weak fun _ z=>z.elim
mutual
theorem Rep.imm{P P':Addr->Prop}{K:PySem.W.Frag}{H:Hp}:∀ {d:RL.D} {v:V},d.imm=true->Rep P K H d v->Rep P' K H d v
 | .non,v,_,h=>by simpa[Rep]using h
 | .bl _,v,_,h=>by simpa[Rep]using h
 | .int _,v,_,h=>by simpa[Rep]using h
 | .str _,v,_,h=>by simpa[Rep]using h
 | .tup ds,v,i,h=>by
  rw[Rep]at h ⊢;rw[RL.D.imm]at i;obtain⟨a,xs,e1,e2,e3⟩:=h;exact⟨a,xs,e1,e2,ae.imm i e3⟩
 | .lst ds,v,i,h=>by rw[RL.D.imm]at i;cases i
 | .dK ks ds,v,i,h=>by rw[RL.D.imm]at i;cases i
 | .dT ks ds,v,i,h=>by rw[RL.D.imm]at i;cases i
 | .scr ds,v,i,h=>by
  rw[Rep]at h ⊢;rw[RL.D.imm]at i;obtain⟨a,xs,e1,e2,e3⟩:=h;exact⟨a,xs,e1,e2,ae.imm i e3⟩
 | .exc c,v,i,h=>by rw[Rep]at h ⊢;exact h
theorem ae.imm{P P':Addr->Prop}{K:PySem.W.Frag}{H:Hp}:∀ {ds:List RL.D} {xs:List V},RL.aq ds=true->ae P K H ds xs->ae P' K H ds xs
 | [],xs,_,h=>by rw[ae]at h ⊢;exact h
 | d::r,xs,i,h=>by
  rw[ae]at h ⊢;rw[RL.aq,Bool.and_eq_true]at i;obtain⟨x,t,e1,e2,e3⟩:=h;exact⟨x,t,e1,Rep.imm i.1 e2,ae.imm i.2 e3⟩
end
abbrev cZ(o:HO):Prop:=(∃ xs,o=.lst xs)\/(∃ kvs,o=.dK kvs)\/(∃ kvs,o=.dT kvs)
mutual
theorem Rep.upd{P:Addr->Prop}{K:PySem.W.Frag}{H:Hp}{a:Addr}{o o':HO}(ha:H a=some o)(m:cZ o)(p:P a):∀ {d:RL.D} {v:V},Rep P K H d v->Rep P K (upd H a o') d v
 | .non,v,h=>by simpa[Rep]using h
 | .bl _,v,h=>by simpa[Rep]using h
 | .int _,v,h=>by simpa[Rep]using h
 | .str _,v,h=>by simpa[Rep]using h
 | .tup ds,v,h=>by
  rw[Rep]at h ⊢;obtain⟨b,xs,e1,e2,e3⟩:=h;have n:b≠a:=qb e2 ha (by rcases m with⟨z,rfl⟩ | ⟨z,rfl⟩ | ⟨z,rfl⟩<;>(intro q;cases q));exact⟨b,xs,e1,by rw[L2.aV n];exact e2,ae.upd ha m p e3⟩
 | .lst ds,v,h=>by
  rw[Rep]at h ⊢;obtain⟨b,xs,e1,e0,e2,e3⟩:=h;have n:b≠a:=fun z=>e0 (z▸p);exact⟨b,xs,e1,e0,by rw[L2.aV n];exact e2,ae.upd ha m p e3⟩
 | .dK ks ds,v,h=>by
  rw[Rep]at h ⊢;obtain⟨b,xs,e1,e0,e2,el,e3⟩:=h;have n:b≠a:=fun z=>e0 (z▸p);exact⟨b,xs,e1,e0,by rw[L2.aV n];exact e2,el,ae.upd ha m p e3⟩
 | .dT ks ds,v,h=>by
  rw[Rep]at h ⊢;obtain⟨b,xs,e1,e0,e2,el,e3⟩:=h;have n:b≠a:=fun z=>e0 (z▸p);exact⟨b,xs,e1,e0,by rw[L2.aV n];exact e2,el,ae.upd ha m p e3⟩
 | .scr ds,v,h=>by
  rw[Rep]at h ⊢;obtain⟨b,xs,e1,e2,e3⟩:=h;refine⟨b,xs,e1,?_,ae.upd ha m p e3⟩;rcases e2 with⟨q,e2⟩ | e2
  ·have n:b≠a:=qb e2 ha (by rcases m with⟨z,rfl⟩ | ⟨z,rfl⟩ | ⟨z,rfl⟩<;>(intro q;cases q));exact .inl ⟨q,by rw[L2.aV n];exact e2⟩
  ·exact .inr e2
 | .exc c,v,h=>by
  rw[Rep]at h ⊢;refine h.keep fun b ob u q=>?_;have n:b≠a:=qb q ha (by rcases m with⟨z,rfl⟩ | ⟨z,rfl⟩ | ⟨z,rfl⟩<;>(intro q;cases q));rw[L2.aV n];exact q
theorem ae.upd{P:Addr->Prop}{K:PySem.W.Frag}{H:Hp}{a:Addr}{o o':HO}(ha:H a=some o)(m:cZ o)(p:P a):∀ {ds:List RL.D} {xs:List V},ae P K H ds xs->ae P K (upd H a o') ds xs
 | [],xs,h=>by rw[ae]at h ⊢;exact h
 | d::r,xs,h=>by
  rw[ae]at h ⊢;obtain⟨x,t,e1,e2,e3⟩:=h;exact⟨x,t,e1,Rep.upd ha m p e2,ae.upd ha m p e3⟩
end
section lists
variable{P:Addr->Prop}{K:PySem.W.Frag}{H:Hp}
def ae.nil:ae P K H [] []:=by rw[ae]
def ae.cons{d:RL.D}{ds:List RL.D}{x:V}{xs:List V}(h:Rep P K H d x)(t:ae P K H ds xs):ae P K H (d::ds) (x::xs):=by rw[ae];exact⟨x,xs,rfl,h,t⟩
def ae.length:∀ {ds:List RL.D} {xs:List V},ae P K H ds xs->ds.length=xs.length
 | [],xs,h=>by rw[ae]at h;rw[h];rfl
 | d::r,xs,h=>by
  rw[ae]at h;obtain⟨x,t,rfl,_,e3⟩:=h;rw[List.length_cons,List.length_cons,ae.length e3]
def ae.append:∀ {ds es:List RL.D} {xs ys:List V},ae P K H ds xs->ae P K H es ys->ae P K H (ds++es) (xs++ys)
 | [],_,xs,_,h,k=>by rw[ae]at h;rw[h];exact k
 | d::r,_,xs,_,h,k=>by
  rw[ae]at h;obtain⟨x,t,rfl,e2,e3⟩:=h;exact ae.cons e2 (ae.append e3 k)
def ae.get:∀ {ds:List RL.D} {xs:List V} {i:Nat} {d:RL.D},ae P K H ds xs->ds[i]?=some d->∃ x,xs[i]?=some x/\Rep P K H d x
 | [],_,i,d,_,e=>by simp at e
 | d::r,xs,0,d',h,e=>by
  rw[ae]at h;obtain⟨x,t,rfl,e2,_⟩:=h;simp at e;subst e;exact⟨x,rfl,e2⟩
 | d::r,xs,i+1,d',h,e=>by
  rw[ae]at h;obtain⟨x,t,rfl,_,e3⟩:=h;obtain⟨y,h1,h2⟩:=ae.get (i:=i) e3 (by simpa using e);exact⟨y,by simpa using h1,h2⟩
def ae.set:∀ {ds:List RL.D} {xs:List V} (i:Nat) {d:RL.D} {x:V},ae P K H ds xs->Rep P K H d x->ae P K H (ds.set i d) (xs.set i x)
 | [],xs,_,_,_,h,_=>by rw[ae]at h;rw[h];exact ae.nil
 | d::r,xs,0,_,_,h,k=>by
  rw[ae]at h;obtain⟨x,t,rfl,_,e3⟩:=h;exact ae.cons k e3
 | d::r,xs,i+1,_,_,h,k=>by
  rw[ae]at h;obtain⟨x,t,rfl,e2,e3⟩:=h;exact ae.cons e2 (ae.set i e3 k)
def ae.take:∀ {ds:List RL.D} {xs:List V} (n:Nat),ae P K H ds xs->ae P K H (ds.take n) (xs.take n)
 | _,_,0,_=>by simpa using ae.nil
 | [],xs,n+1,h=>by rw[ae]at h;rw[h];simpa using ae.nil
 | d::r,xs,n+1,h=>by
  rw[ae]at h;obtain⟨x,t,rfl,e2,e3⟩:=h;exact ae.cons e2 (ae.take n e3)
def ae.rev{ds:List RL.D}{xs:List V}(h:ae P K H ds xs):ae P K H ds.reverse xs.reverse:=by
 induction ds generalizing xs with
 | nil=>rw[ae]at h;rw[h];exact ae.nil
 |cons d r ih=>
  rw[ae]at h;obtain⟨x,t,rfl,e2,e3⟩:=h;rw[List.reverse_cons,List.reverse_cons];exact ae.append (ih e3) (ae.cons e2 ae.nil)
def ae.rep{ds:List RL.D}{xs:List V}(h:ae P K H ds xs):∀ n:Nat,ae P K H (List.replicate n ds).flatten (List.replicate n xs).flatten
 | 0=>ae.nil
 | n+1=>by
  rw[List.replicate_succ,List.replicate_succ,List.flatten_cons,List.flatten_cons];exact ae.append h (ae.rep h n)
end lists
abbrev RV0(K:PySem.W.Frag)(σD:RL.St)(σ:L2.St)(H:Hp):Prop:=σD.length<=σ.length/\∀ (i:Nat) (d:RL.D),σD[i]?=some (some d)->∃ v,σ[i]?=some (some v)/\Rep nP K H d v
def RV0.same{K:PySem.W.Frag}{σD:RL.St}{σ:L2.St}{H H':Hp}(h:RV0 K σD σ H)(e:a6 H H'):RV0 K σD σ H':=⟨h.1,fun i d q=>by
 obtain⟨v,h1,h2⟩:=h.2 i d q
 exact⟨v,h1,h2.same e⟩⟩
abbrev kz:RL.D->Bool
 | .lst _=>true
 | .dK _ _=>true
 | .dT _ _=>true
 | _=>false
structure Res(K:PySem.W.Frag)(σD:RL.St)(σ:L2.St)(H:Hp)(e:RL.E)(d:RL.D)(v:V)(H':Hp):Prop where
 same:a6 H H'
 rep:Rep nP K H' d v
 fresh:RL.aH e=true->kz d=true->∀ a,v=.ref a->H a=none
 av:∀ M,RL.avE M e=true->∀ P:Addr->Prop,(∀ a,P a->H a≠none)->(∀ (j:Nat) (dj:RL.D) (vj:V),M.contains j=false->σD[j]?=some (some dj)->σ[j]?=some (some vj)->Rep P K H dj vj)->Rep P K H' d v
abbrev tE(K:PySem.W.Frag)(cl:RL.Cl)(e:RL.E):TE:=fun σ H Q=>∃ σD d,RV0 K σD σ H/\RL.ev cl σD e=some d/\∀ v H',Res K σD σ H e d v H'->Q v H'
abbrev SE(X:Cx)(cl:RL.Cl)(e:Expr)(e':RL.E):Prop:=PE X e (tE X.K cl e')
def PE.weak{X:Cx}{e:Expr}{t t':TE}(h:PE X e t)(w:∀ σ H Q,t' σ H Q->t σ H Q):PE X e t':=fun pins s σ H Q I q=>h pins s σ H Q I (w σ H Q q)
abbrev tEs(K:PySem.W.Frag)(cl:RL.Cl)(es:RL.Es):TA:=fun σ H Q=>∃ σD ds,RV0 K σD σ H/\RL.evs cl σD es=some ds/\∀ vs H',a6 H H'->ae nP K H' ds vs->Q vs H'
abbrev SEs(X:Cx)(cl:RL.Cl)(es:List Expr)(es':RL.Es):Prop:=PA X es (tEs X.K cl es')
section rules
variable{X:Cx}{cl:RL.Cl}{a b c:Expr}{a' b' c':RL.E}{pos:Pos}
def two{σD:RL.St}{σ:L2.St}{H:Hp}{x y:RL.D}{R:V->V->Hp->Prop}(rv:RV0 X.K σD σ H)(ea:RL.ev cl σD a'=some x)(eb:RL.ev cl σD b'=some y)
 (k:∀ v u H1 H2,a6 H H1->a6 H1 H2->Rep nP X.K H2 x v->Rep nP X.K H2 y u->Res X.K σD σ H a' x v H1->Res X.K σD σ H1 b' y u H2->R v u H2) :
  tE X.K cl a' σ H fun v H1=>tE X.K cl b' σ H1 fun u H2=>R v u H2 :=
 ⟨σD,x,rv,ea,fun v H1 r1=>⟨σD,y,rv.same r1.same,eb,fun u H2 r2=>k v u H1 H2 r1.same r2.same (r1.rep.same r2.same) r2.rep r1 r2⟩⟩
def bind_some{α β:Type}{o:Option α}{f:α->Option β}{y:β}(h:o.bind f=some y):∃ x,o=some x/\f x=some y:=by
 cases o with
 | none=>cases h
 | some x=>exact⟨x,rfl,h⟩
def map_some{α β:Type}{o:Option α}{f:α->β}{y:β}(h:o.map f=some y):∃ x,o=some x/\f x=y:=by
 cases o with
 | none=>cases h
 | some x=>exact⟨x,rfl,Option.some.inj h⟩
def cw:RL.most<=sizeLine:=by decide
def a6.c7{H:Hp}{p:Addr}{o:HO}(hn:H p=none):a6 H (upd H p o):=fun b u e=>by rw[aV (bc e hn)];exact e
def DP{i:Nat}{x:Str}(hN:X.N[i]?=some x)(hv:Vis X.env.scope x)(hd:(x == ("__debug__" : Str))=false)(hcd:(x == ("__classdict__" : Str))=false):SE X cl (.Name x pos) (.var i):=by
 refine PE.weak (iw hN hv hd hcd) fun σ H Q h=>?_;obtain⟨σD,d,rv,e,k⟩:=h
 have e':σD[i]?=some (some d):=by
  obtain⟨o,h1,h2⟩:=bind_some e
  cases o with
  | none=>cases h2
  | some z=>cases h2;exact h1
 obtain⟨v,h1,h2⟩:=rv.2 i d e';refine⟨v,h1,k v H ⟨a6.refl H,h2,fun z=>(by cases z),fun M z P hP av=>?_⟩⟩;rw[RL.avE]at z;exact av i d v (by simpa using z) e' h1
def mR{j:Nat}{k:Const}{d:RL.D}{v:V}(h:PE X (.Constant k j pos) (tC v))(r:∀ P H,Rep P X.K H d v)(hm:kz d=false):SE X cl (.Constant k j pos) (.cst d):=by
 refine PE.weak h fun σ H Q q=>?_;obtain⟨σD,d',rv,e,k⟩:=q;cases e;exact k v H ⟨a6.refl H,r _ _,fun z=>(by cases z),fun M z=>nomatch (show false=true from z)⟩
def Dz{x:Str}{i:Int}{u:Value}(h:PE X (.Name x pos) (tC (.int i))):SE X cl (.Name x pos) (.glb x i):=by
 refine PE.weak h fun σ H Q q=>?_;obtain⟨σD,d',rv,e,k⟩:=q;cases e;exact k _ H ⟨a6.refl H,(by rw[Rep]),fun z=>(by cases z),fun M z=>nomatch (show false=true from z)⟩
end rules
section rules
variable{X:Cx}{cl:RL.Cl}{a b c:Expr}{a' b' c':RL.E}{pos:Pos}
def cJ{σD:RL.St}{σ:L2.St}{H H':Hp}{e:RL.E}{d:RL.D}{v:V}(sm:a6 H H')(r:Rep nP X.K H' d v)(im:d.imm=true):Res X.K σD σ H e d v H' where
 same:=sm
 rep:=r
 fresh:=fun _ m=>by
  cases d with
  | lst _=>cases im
  | dK _ _=>cases im
  | dT _ _=>cases im
  | _=>cases m
 av:=fun M _ P _ _=>r.imm im
def zq:OpR X (binaryOp .FloorDiv) (rI (fun _ j=>0<j/\j<2 ^ 200) fun i j=>.int (i / j)):=opI fun i j _ _ _ _ _ hc q=>by
 refine floordiv_int (by lia) ?_ (.inl (PyProof.noPylong_of_log2 ?_))
 ·rw[Int.fdiv_eq_ediv_of_nonneg _ (by lia)];exact q
 ·have h0:j.natAbs≠0:=by lia
  have h1:j.natAbs<2 ^ 200:=by
   have:=hc.2;omega
  have h2:j.natAbs.log2<200:=(Nat.log2_lt h0).mpr h1;lia
def dZ{σD:RL.St}{σ:L2.St}{H H1:Hp}{e:RL.E}{ds:List RL.D}{xs:List V}{p:Addr}(sm:a6 H H1)(hn:H1 p=none)(r:ae nP X.K H1 ds xs)(hav:∀ M,RL.avE M e=false):Res X.K σD σ H e (.lst ds) (.ref p) (upd H1 p (.lst xs)) where
 same:=sm.trans (a6.c7 hn)
 rep:=by
  rw[Rep];exact⟨p,xs,rfl,fun z=>z,bw,r.same (a6.c7 hn)⟩
 fresh:=fun _ _ a z=>by
  cases z;exact sm.free hn
 av:=fun M z=>by rw[hav M]at z;cases z
def i4{σD:RL.St}{σ:L2.St}{H H1:Hp}{e:RL.E}{ds:List RL.D}{xs:List V}{p:Addr}(sm:a6 H H1)(hn:H1 p=none)(r:ae nP X.K H1 ds xs)(hav:∀ M,RL.avE M e=false):Res X.K σD σ H e (.tup ds) (.ref p) (upd H1 p (.tup xs)) where
 same:=sm.trans (a6.c7 hn)
 rep:=by
  rw[Rep];exact⟨p,xs,rfl,bw,r.same (a6.c7 hn)⟩
 fresh:=fun _ m=>by cases m
 av:=fun M z=>by rw[hav M]at z;cases z
abbrev qX:RL.Bop->Operator
 | .add=>.Add
 | .sub=>.Sub
 | .mul=>.Mult
 | .fdiv=>.FloorDiv
 | .mod=>.Mod
 | .pow=>.Pow
def aQ{P:Addr->Prop}{K:PySem.W.Frag}{H:Hp}{i:Int}:Rep P K H (.int i) (.int i):=by rw[Rep]
def rR{P:Addr->Prop}{K:PySem.W.Frag}{H:Hp}{i:Bool}:Rep P K H (.bl i) (.bl i):=by rw[Rep]
def iX{P:Addr->Prop}{K:PySem.W.Frag}{H:Hp}{i:Str}:Rep P K H (.str i) (.str i):=by rw[Rep]
def ah{P:Addr->Prop}{K:PySem.W.Frag}{H:Hp}{i:Int}{v:V}(h:Rep P K H (.int i) v):v=.int i:=by rw[Rep]at h;exact h
def bg{P:Addr->Prop}{K:PySem.W.Frag}{H:Hp}{i:Bool}{v:V}(h:Rep P K H (.bl i) v):v=.bl i:=by rw[Rep]at h;exact h
def aY{P:Addr->Prop}{K:PySem.W.Frag}{H:Hp}{i:Str}{v:V}(h:Rep P K H (.str i) v):v=.str i:=by rw[Rep]at h;exact h
abbrev mF(X:Cx)(o:RL.Bop)(r:R2):Prop :=
 ∀ (σD:RL.St) (σ:L2.St) (H H2:Hp) (e:RL.E) (x y d:RL.D) (v u:V) (Q:VK),a6 H H2->Rep nP X.K H2 x v->Rep nP X.K H2 y u->RL.aA o x y=some d->(∀ M,RL.avE M e=false) ->
  (∀ w H',Res X.K σD σ H e d w H'->Q w H')->r v u H2 Q
def gP{o:RL.Bop}{r:R2}(ho:OpR X (binaryOp (qX o)) r)(ok:mF X o r)(ha:SE X cl a a')(hb:SE X cl b b'):SE X cl (.BinOp a (qX o) b pos) (.bin o a' b'):=by
 refine PE.weak (G7 ho ha hb) fun σ H Q h=>?_;obtain⟨σD,d,rv,e,k⟩:=h;obtain⟨x,ea,e⟩:=bind_some e;obtain⟨y,eb,e⟩:=bind_some e;refine two rv ea eb fun v u H1 H2 s1 s2 rx ry _ _=>?_;exact ok σD σ H H2 _ x y d v u Q (s1.trans s2) rx ry e (fun _=>rfl) k
end rules
section rules
variable{X:Cx}{cl:RL.Cl}{a b c:Expr}{a' b' c':RL.E}{pos:Pos}
def df{α:Type}{c:Prop} [Decidable c]{a d:α}(h:(if c then some a else none)=some d):c/\d=a:=by
 by_cases hc:c
 ·rw[if_pos hc]at h;exact⟨hc,(Option.some.inj h).symm⟩
 ·rw[if_neg hc]at h;cases h
def noN{α:Type}{o:Option α}{d:α}{p:Prop}(e:o=none)(h:o=some d):p:=by rw[e]at h;cases h
def zW{x y d:RL.D}(h:RL.aA .add x y=some d):(∃ i j,x=.int i/\y=.int j/\d=.int (i+j))\/(∃ i j:Str,x=.str i/\y=.str j/\i.length+j.length<=RL.most/\d=.str (i++j)) \/
  (∃ i j,x=.lst i/\y=.lst j/\i.length+j.length<=RL.most/\d=.lst (i++j)) \/
  (∃ i j,x=.tup i/\y=.tup j/\(i.length+j.length<=RL.most/\0<i.length)/\d=.tup (i++j)):=by
 cases x with
 | int i=>cases y with
  | int j=>cases h;exact .inl ⟨i,j,rfl,rfl,rfl⟩
  | _=>exact noN rfl h
 | str i=>cases y with
  |str j=>
   obtain⟨hc,e⟩:=df h;exact .inr (.inl ⟨i,j,rfl,rfl,hc,e⟩)
  | _=>exact noN rfl h
 | lst i=>cases y with
  |lst j=>
   obtain⟨hc,e⟩:=df h;exact .inr (.inr (.inl ⟨i,j,rfl,rfl,hc,e⟩))
  | _=>exact noN rfl h
 | tup i=>cases y with
  |tup j=>
   obtain⟨hc,e⟩:=df h;exact .inr (.inr (.inr ⟨i,j,rfl,rfl,hc,e⟩))
  | _=>exact noN rfl h
 | _=>exact noN rfl h
def yD{x y d:RL.D}(h:RL.aA .mul x y=some d):(∃ i j,x=.int i/\y=.int j/\vy i j/\d=.int (i*j)) \/
  (∃ i j,x=.lst i/\y=.int j/\(0<=j/\j<=RL.most/\i.length*j.toNat<=RL.most)/\d=.lst (List.replicate j.toNat i).flatten):=by
 cases x with
 | int i=>cases y with
  |int j=>
   obtain⟨hc,e⟩:=df h;exact .inl ⟨i,j,rfl,rfl,hc,e⟩
  | _=>exact noN rfl h
 | lst i=>cases y with
  |int j=>
   obtain⟨hc,e⟩:=df h;exact .inr ⟨i,j,rfl,rfl,hc,e⟩
  | _=>exact noN rfl h
 | _=>exact noN rfl h
def iE{o:RL.Bop}{x y d:RL.D}(h:RL.aA o x y=some d)(ho:o≠.add)(hm:o≠.mul):∃ i j,x=.int i/\y=.int j/\RL.aA o (.int i) (.int j)=some d:=by
 have no:∀ {a b:RL.D},RL.aA .sub a b=none->RL.aA .fdiv a b=none->RL.aA .mod a b=none->RL.aA .pow a b=none->RL.aA o a b=some d->False:=fun e1 e2 e3 e4 h=>by
  cases o with
  | add=>exact ho rfl
  | mul=>exact hm rfl
  | sub=>rw[e1]at h;cases h
  | fdiv=>rw[e2]at h;cases h
  | mod=>rw[e3]at h;cases h
  | pow=>rw[e4]at h;cases h
 cases x with
 | int i=>cases y with
  | int j=>exact⟨i,j,rfl,rfl,h⟩
  | _=>exact(no rfl rfl rfl rfl h).elim
 | _=>exact(no rfl rfl rfl rfl h).elim
def yC{x y d:RL.D}(h:RL.aA .sub x y=some d):∃ i j,x=.int i/\y=.int j/\d=.int (i-j):=by
 obtain⟨i,j,e1,e2,h⟩:=iE h (by decide) (by decide);cases h;exact⟨i,j,e1,e2,rfl⟩
def wV{x y d:RL.D}(h:RL.aA .fdiv x y=some d):∃ i j,x=.int i/\y=.int j/\(0<j/\j<2 ^ 200)/\d=.int (i / j):=by
 obtain⟨i,j,e1,e2,h⟩:=iE h (by decide) (by decide);obtain⟨hc,e⟩:=df h;exact⟨i,j,e1,e2,hc,e⟩
def xX{x y d:RL.D}(h:RL.aA .mod x y=some d):∃ i j,x=.int i/\y=.int j/\0<j/\d=.int (i%j):=by
 obtain⟨i,j,e1,e2,h⟩:=iE h (by decide) (by decide);obtain⟨hc,e⟩:=df h;exact⟨i,j,e1,e2,hc,e⟩
def zr{x y d:RL.D}(h:RL.aA .pow x y=some d):∃ i j,x=.int i/\y=.int j/\(0<=j/\j<=1000/\i.natAbs<2 ^ 64)/\d=.int (i ^ j.toNat):=by
 obtain⟨i,j,e1,e2,h⟩:=iE h (by decide) (by decide);obtain⟨hc,e⟩:=df h;exact⟨i,j,e1,e2,hc,e⟩
def aB{P:Addr->Prop}{K:PySem.W.Frag}{H:Hp}{ds:List RL.D}{v:V}(h:Rep P K H (.lst ds) v):∃ a xs,v=.ref a/\¬ P a/\H a=some (.lst xs)/\ae P K H ds xs:=by rw[Rep]at h;exact h
def b9{P:Addr->Prop}{K:PySem.W.Frag}{H:Hp}{ds:List RL.D}{v:V}(h:Rep P K H (.tup ds) v):∃ a xs,v=.ref a/\H a=some (.tup xs)/\ae P K H ds xs:=by rw[Rep]at h;exact h
def CJ:mF X .sub (rI0 fun i j=>.int (i-j)):=by
 intro σD σ H H2 e x y d v u Q sm rx ry h hav k;obtain⟨i,j,rfl,rfl,rfl⟩:=yC h;exact⟨i,j,ah rx,ah ry,k _ _ (cJ sm aQ rfl)⟩
def Bh:mF X .fdiv (rI (fun _ j=>0<j/\j<2 ^ 200) fun i j=>.int (i / j)):=by
 intro σD σ H H2 e x y d v u Q sm rx ry h hav k;obtain⟨i,j,rfl,rfl,hc,rfl⟩:=wV h;exact⟨i,j,ah rx,ah ry,hc,k _ _ (cJ sm aQ rfl)⟩
def En:mF X .mod (rI (fun _ j=>0<j) fun i j=>.int (i%j)):=by
 intro σD σ H H2 e x y d v u Q sm rx ry h hav k;obtain⟨i,j,rfl,rfl,hc,rfl⟩:=xX h;exact⟨i,j,ah rx,ah ry,hc,k _ _ (cJ sm aQ rfl)⟩
def CB:mF X .pow (rI ER fun i j=>.int (i ^ j.toNat)):=by
 intro σD σ H H2 e x y d v u Q sm rx ry h hav k;obtain⟨i,j,rfl,rfl,hc,rfl⟩:=zr h;exact⟨i,j,ah rx,ah ry,⟨hc.1,Int.le_trans hc.2.1 (by decide),hc.2.2⟩,k _ _ (cJ sm aQ rfl)⟩
def EI(ha:SE X cl a a')(hb:SE X cl b b'):SE X cl (.BinOp a .Add b pos) (.bin .add a' b'):=by
 refine gP (o:=.add) (Em.or (vd.or (DH.or AZ))) ?_ ha hb;intro σD σ H H2 e x y d v u Q sm rx ry h hav k
 rcases zW h with⟨i,j,rfl,rfl,rfl⟩ | ⟨i,j,rfl,rfl,hc,rfl⟩ | ⟨i,j,rfl,rfl,hc,rfl⟩ | ⟨i,j,rfl,rfl,⟨hc,ha⟩,rfl⟩
 ·exact .inl ⟨i,j,ah rx,ah ry,k _ _ (cJ sm aQ rfl)⟩
 ·exact .inr (.inl ⟨i,j,aY rx,aY ry,Nat.le_trans hc cw,k _ _ (cJ sm iX rfl)⟩)
 ·obtain⟨p,xs,e1,_,e2,e3⟩:=aB rx;obtain⟨q,ys,f1,_,f2,f3⟩:=aB ry;refine .inr (.inr (.inl ⟨p,q,xs,ys,e1,f1,e2,f2,?_,fun l hl=>k _ _ (dZ sm hl (e3.append f3) hav)⟩));rw[<-e3.length,<-f3.length];exact Nat.le_trans hc cw
 ·obtain⟨p,xs,e1,e2,e3⟩:=b9 rx;obtain⟨q,ys,f1,f2,f3⟩:=b9 ry;refine .inr (.inr (.inr ⟨p,q,xs,ys,e1,f1,SqT.of e2,SqT.of f2,fun z=>?_,?_,fun z=>?_,fun _ l hl=>k _ _ (i4 sm hl (e3.append f3) hav)⟩))
  ·rw[e3.length,z]at ha;exact absurd ha (by decide)
  ·rw[<-e3.length,<-f3.length];exact Nat.le_trans hc cw
  ·have hj:j=[]:=by
    have:=f3.length;rw[z]at this;exact List.length_eq_zero_iff.mp this
   subst hj;rw[List.append_nil]at k;exact k _ _ ⟨sm,e1▸rx,fun _ m=>(by cases m),fun M z=>by rw[hav M]at z;cases z⟩
def CF(ha:SE X cl a a')(hb:SE X cl b b'):SE X cl (.BinOp a .Mult b pos) (.bin .mul a' b'):=by
 refine gP (o:=.mul) (Eo.or ES) ?_ ha hb;intro σD σ H H2 e x y d v u Q sm rx ry h hav k
 rcases yD h with⟨i,j,rfl,rfl,hc,rfl⟩ | ⟨i,j,rfl,rfl,hc,rfl⟩
 ·exact .inl ⟨i,j,ah rx,ah ry,hc,k _ _ (cJ sm aQ rfl)⟩
 ·obtain⟨p,xs,e1,_,e2,e3⟩:=aB rx;refine .inr ⟨p,j,xs,e1,ah ry,e2,?_,?_,?_,fun l hl=>k _ _ (dZ sm hl (e3.rep _) hav)⟩
  ·exact Int.le_trans (by decide) hc.1
  ·exact Int.lt_of_le_of_lt hc.2.1 (by decide)
  ·rw[<-e3.length];exact Nat.le_trans hc.2.2 cw
def EB{o:RL.Bop}(ha:SE X cl a a')(hb:SE X cl b b'):SE X cl (.BinOp a (qX o) b pos) (.bin o a' b'):=by
 cases o with
 | add=>exact EI ha hb
 | mul=>exact CF ha hb
 | sub=>exact gP (o:=.sub) Fl CJ ha hb
 | fdiv=>exact gP (o:=.fdiv) zq Bh ha hb
 | mod=>exact gP (o:=.mod) E9 En ha hb
 | pow=>exact gP (o:=.pow) Eb CB ha hb
def fN{σD:RL.St}{σ:L2.St}{H H':Hp}{e:RL.E}{k:Bool}(sm:a6 H H'):Res X.K σD σ H e (.bl k) (.bl k) H':=cJ sm rR rfl
def DQ{rest:List Expr}(ha:SE X cl a a')(hb:SE X cl (.BoolOp .And (b::rest) pos) b'):SE X cl (.BoolOp .And (a::b::rest) pos) (.and a' b'):=by
 refine PE.weak (Fg ha hb) fun σ H Q h=>?_;obtain⟨σD,d,rv,e,k⟩:=h;obtain⟨x,ea,e⟩:=bind_some e;refine⟨σD,x,rv,ea,fun v H1 r1=>?_⟩
 cases x with
 |bl t=>
  refine⟨t,bg r1.rep,?_⟩
  cases t with
  |true=>
   refine f7 ?_;refine⟨σD,d,rv.same r1.same,e,fun w H2 r2=>k w H2 ?_⟩;exact⟨r1.same.trans r2.same,r2.rep,fun z=>(by cases z),fun M z=>nomatch (show false=true from z)⟩
  |false=>
   refine gy ?_;cases e;exact k _ _ (fN r1.same)
 | _=>cases e
def FT{rest:List Expr}(ha:SE X cl a a')(hb:SE X cl (.BoolOp .Or (b::rest) pos) b'):SE X cl (.BoolOp .Or (a::b::rest) pos) (.or a' b'):=by
 refine PE.weak (Gh ha hb) fun σ H Q h=>?_;obtain⟨σD,d,rv,e,k⟩:=h;obtain⟨x,ea,e⟩:=bind_some e;refine⟨σD,x,rv,ea,fun v H1 r1=>?_⟩
 cases x with
 |bl t=>
  refine⟨t,bg r1.rep,?_⟩
  cases t with
  |false=>
   refine gy ?_;refine⟨σD,d,rv.same r1.same,e,fun w H2 r2=>k w H2 ?_⟩;exact⟨r1.same.trans r2.same,r2.rep,fun z=>(by cases z),fun M z=>nomatch (show false=true from z)⟩
  |true=>
   refine f7 ?_;cases e;exact k _ _ (fN r1.same)
 | _=>cases e
def xD{op}(ha:SE X cl a a'):SE X cl (.BoolOp op [a] pos) a':=Ej ha
abbrev tT(K:PySem.W.Frag)(cl:RL.Cl)(e:RL.E):TT:=fun σ H Q=>∃ σD k,RV0 K σD σ H/\(RL.ev cl σD e).bind RL.truth=some k/\∀ H',a6 H H'->Q k H'
abbrev ST(X:Cx)(cl:RL.Cl)(e:Expr)(e':RL.E):Prop:=PT X e (tT X.K cl e')
abbrev SW(X:Cx)(cl:RL.Cl)(e:Expr)(e':RL.E):Prop:=PW X e (tT X.K cl e')
def PT.weak{e:Expr}{t t':TT}(h:PT X e t)(w:∀ σ H Q,t' σ H Q->t σ H Q):PT X e t':=fun pins s σ H Q I q=>h pins s σ H Q I (w σ H Q q)
def PW.weak{e:Expr}{t t':TT}(h:PW X e t)(w:∀ σ H Q,t' σ H Q->t σ H Q):PW X e t':=fun wh pins s σ H Q I q=>h wh pins s σ H Q I (w σ H Q q)
def ae.isEmpty{P:Addr->Prop}{K:PySem.W.Frag}{H:Hp}{ds:List RL.D}{xs:List V}(h:ae P K H ds xs):ds.isEmpty=xs.isEmpty:=by
 cases ds with
 | nil=>rw[ae]at h;rw[h];rfl
 |cons d r=>
  rw[ae]at h;obtain⟨x,t,rfl,_⟩:=h;rfl
def Dn{K:PySem.W.Frag}{H:Hp}{d:RL.D}{v:V}{k:Bool}(r:Rep nP K H d v)(h:RL.truth d=some k):vb K v H k:=by
 cases d<;>simp only[RL.truth]at h<;>first | (cases h;done) | skip
 case bl t=>cases h;rw[bg r];exact rfl
 case int t =>
  cases h;rw[ah r];simp[vb]
 case tup ds =>
  obtain⟨a,xs,rfl,e,rs⟩:=b9 r;cases h;exact .inr (.inl ⟨xs,SqT.of e,by rw[rs.isEmpty]⟩)
 case lst ds =>
  obtain⟨a,xs,rfl,_,e,rs⟩:=aB r;cases h;exact .inl ⟨xs,SqL.of e,by rw[rs.isEmpty]⟩
def yq(ha:SE X cl a a')(he:∀ whole,isTrue a X.env whole=(do let v <- whole;standAt a.pos;holding [v] (truthy v))):ST X cl a a':=by
 refine PT.weak (yG ha he) fun σ H Q h=>?_;obtain⟨σD,k,rv,e,q⟩:=h;obtain⟨d,e1,e2⟩:=bind_some e;exact⟨σD,d,rv,e1,fun v H1 r1=>⟨k,Dn r1.rep e2,q H1 r1.same⟩⟩
def wz{op:BoolOp}(ha:ST X cl a a'):SW X cl (.BoolOp op [a] pos) a':=by
 cases op with
 | And=>exact BZ ha
 | Or=>exact Dw ha
def xA{σD:RL.St}{k:Bool}(h:(RL.ev cl σD (.and a' b')).bind RL.truth=some k):∃ t,(RL.ev cl σD a').bind RL.truth=some t/\(if t=true then(RL.ev cl σD b').bind RL.truth=some k else k=false):=by
 rw[RL.ev]at h
 cases ea:RL.ev cl σD a' with
 | none=>rw[ea]at h;cases h
 |some x=>
  rw[ea]at h
  cases x with
  |bl t=>
   cases t with
   | true=>exact⟨true,rfl,f7 h⟩
   | false=>exact⟨false,rfl,gy (by cases h;rfl)⟩
  | _=>exact noN rfl h
def yk{σD:RL.St}{k:Bool}(h:(RL.ev cl σD (.or a' b')).bind RL.truth=some k):∃ t,(RL.ev cl σD a').bind RL.truth=some t/\(if t=true then k=true else(RL.ev cl σD b').bind RL.truth=some k):=by
 rw[RL.ev]at h
 cases ea:RL.ev cl σD a' with
 | none=>rw[ea]at h;cases h
 |some x=>
  rw[ea]at h
  cases x with
  |bl t=>
   cases t with
   | true=>exact⟨true,rfl,f7 (by cases h;rfl)⟩
   | false=>exact⟨false,rfl,gy h⟩
  | _=>exact noN rfl h
def DA{rest:List Expr}(ha:ST X cl a a')(hb:SW X cl (.BoolOp .And (b::rest) pos) b'):SW X cl (.BoolOp .And (a::b::rest) pos) (.and a' b'):=by
 refine PW.weak (EO ha hb) fun σ H Q h=>?_;obtain⟨σD,k,rv,e,q⟩:=h;obtain⟨t,e1,e2⟩:=xA e;refine⟨σD,t,rv,e1,fun H1 s1=>?_⟩
 cases t with
 | true=>exact f7 ⟨σD,k,rv.same s1,e2,fun H2 s2=>q H2 (s1.trans s2)⟩
 |false=>
  have e2:k=false:=e2;subst e2;exact gy (q H1 s1)
def FH{rest:List Expr}(ha:ST X cl a a')(hb:SW X cl (.BoolOp .Or (b::rest) pos) b'):SW X cl (.BoolOp .Or (a::b::rest) pos) (.or a' b'):=by
 refine PW.weak (G1 ha hb) fun σ H Q h=>?_;obtain⟨σD,k,rv,e,q⟩:=h;obtain⟨t,e1,e2⟩:=yk e;refine⟨σD,t,rv,e1,fun H1 s1=>?_⟩
 cases t with
 |true=>
  have e2:k=true:=e2;subst e2;exact f7 (q H1 s1)
 | false=>exact gy ⟨σD,k,rv.same s1,e2,fun H2 s2=>q H2 (s1.trans s2)⟩
def CV(ha:ST X cl a a'):ST X cl (.UnaryOp .Not a pos) (.not a'):=by
 refine PT.weak (EG ha) fun σ H Q h=>?_;obtain⟨σD,k,rv,e,q⟩:=h;obtain⟨d,e1,e2⟩:=bind_some e;obtain⟨t,e3,e4⟩:=map_some e1;subst e4;cases e2;exact⟨σD,t,rv,e3,fun H1 s1=>q H1 s1⟩
def DW(hc:ST X cl c c')(ha:SE X cl a a')(hb:SE X cl b b'):SE X cl (.IfExp c a b pos) (.ifx c' a' b'):=by
 refine PE.weak (y8 hc ha hb) fun σ H Q h=>?_;obtain⟨σD,d,rv,e,q⟩:=h;obtain⟨t,e1,e2⟩:=bind_some e;refine⟨σD,t,rv,e1,fun H1 s1=>?_⟩;have fin:∀ (a':RL.E) (v:V) (H2:Hp),(∀ M,RL.avE M (.ifx c' a' b')=true->RL.avE M a'=true)->True:=fun _ _ _ _=>trivial
 cases t with
 |true=>
  refine f7 ⟨σD,d,rv.same s1,e2,fun v H2 r2=>q v H2 ⟨s1.trans r2.same,r2.rep,fun z=>(by cases z),fun M z P hP av=>?_⟩⟩;have z:(RL.avE M a'&&RL.avE M b')=true:=z;rw[Bool.and_eq_true]at z;exact r2.av M z.1 P (fun a p=>(Option.ne_none_iff_exists'.mpr (by obtain⟨o,ho⟩:=Option.ne_none_iff_exists'.mp (hP a p);exact⟨o,s1 _ _ ho⟩))) fun j dj vj h1 h2 h3=>(av j dj vj h1 h2 h3).same s1
 |false=>
  refine gy ⟨σD,d,rv.same s1,e2,fun v H2 r2=>q v H2 ⟨s1.trans r2.same,r2.rep,fun z=>(by cases z),fun M z P hP av=>?_⟩⟩;have z:(RL.avE M a'&&RL.avE M b')=true:=z;rw[Bool.and_eq_true]at z;exact r2.av M z.2 P (fun a p=>(Option.ne_none_iff_exists'.mpr (by obtain⟨o,ho⟩:=Option.ne_none_iff_exists'.mp (hP a p);exact⟨o,s1 _ _ ho⟩))) fun j dj vj h1 h2 h3=>(av j dj vj h1 h2 h3).same s1
end rules
section rules
variable{X:Cx}{cl:RL.Cl}{a b c:Expr}{a' b' c':RL.E}{pos:Pos}
def Fe(ha:SE X cl a a'):SE X cl (.UnaryOp .Not a pos) (.not a'):=by
 intro pins s σ H Q I h;obtain⟨σD,d,rv,e,k⟩:=h;obtain⟨t,e1,e2⟩:=map_some e;obtain⟨x,e3,e4⟩:=bind_some e1;subst e2;refine UnaryOp_ (thn (ha pins s σ H (fun v H1=>a6 H H1/\Rep nP X.K H1 x v) I ⟨σD,x,rv,e3,fun v H1 r1=>⟨r1.same,r1.rep⟩⟩) fun v s1 ⟨y,H1,I1,r1,sm,rp⟩=>?_);refine not_of (thn (wH pins s1 σ H1 y v (fun k H2=>k=t/\H2=H1) I1 r1 ⟨t,Dn rp e4,rfl,rfl⟩) fun k2 s2 ⟨H2,I2,q1,q2⟩=>?_);subst q1;subst q2;exact⟨.bl (!k2),H2,I2,rfl,k _ _ (fN sm)⟩
abbrev noStar:Expr->Bool
 | .Starred _ _=>false
 | _=>true
def aC{e:Expr}(es:List Expr)(h:noStar e=true):starEach (e::es) X.env=(false,eval e X.env)::starEach es X.env:=by
 cases e<;>first | rfl | (cases h)
def dP:∀ {es:List Expr} {pos:Pos},es.all noStar=true->(backTo pos (starEach es X.env)).any (·.1)=false
 | [],_,_=>rfl
 | e::es,pos,h=>by
  rw[List.all_cons,Bool.and_eq_true]at h;rw[aC es h.1];show(false || (backTo pos (starEach es X.env)).any (·.1))=false;rw[dP h.2];rfl
def c6:SEs X cl [] .nil:=by
 intro pos pins s σ H Q I h;obtain⟨σD,ds,rv,e,k⟩:=h;cases e;exact eZ pos pins s σ H Q I (k [] H (a6.refl H) ae.nil)
def bz{e:Expr}{es:List Expr}{e':RL.E}{es':RL.Es}(he:SE X cl e e')(hr:SEs X cl es es')(hn:noStar e=true):SEs X cl (e::es) (.cons e' es'):=by
 intro pos pins s σ H Q I h;refine cK he hr (aC es hn) pos pins s σ H Q I ?_;obtain⟨σD,ds,rv,e,k⟩:=h;obtain⟨d,e1,e2⟩:=bind_some e;obtain⟨r,e3,e4⟩:=map_some e2;subst e4;refine⟨σD,d,rv,e1,fun v H1 r1=>⟨σD,r,rv.same r1.same,e3,fun vs H2 s2 r2=>k (v::vs) H2 (r1.same.trans s2) (ae.cons (r1.rep.same s2) r2)⟩⟩
abbrev fA:RL.Es->Nat
 | .nil=>0
 | .cons _ r=>fA r+1
def lQ{σD:RL.St}:∀ {es:RL.Es} {ds:List RL.D},RL.evs cl σD es=some ds->ds.length=fA es
 | .nil,ds,h=>by rw[RL.evs]at h;cases h;rfl
 | .cons e r,ds,h=>by
  obtain⟨d,e1,e2⟩:=bind_some h;obtain⟨t,e3,e4⟩:=map_some e2;subst e4;rw[List.length_cons,lQ e3,fA]
def DC{es:List Expr}{es':RL.Es}{x1}(h:SEs X cl es es')(hl:fA es'<=1000):SE X cl (.Tuple es x1 pos) (.tup es'):=by
 refine PE.weak (EC h) fun σ H Q q=>?_;obtain⟨σD,d,rv,e,k⟩:=q;obtain⟨ds,e1,e2⟩:=map_some e;subst e2;refine⟨σD,ds,rv,e1,fun vs H1 s1 r1=>⟨?_,fun p hp=>k _ _ (i4 s1 hp r1 fun _=>rfl)⟩⟩;rw[<-r1.length,lQ e1];exact Nat.le_of_lt (pH hl)
def E4{es:List Expr}{es':RL.Es}(h:SEs X cl es es')(hl:fA es'<=1000):SE X cl (.List es pos) (.lst es'):=by
 refine PE.weak (E7 h) fun σ H Q q=>?_;obtain⟨σD,d,rv,e,k⟩:=q;obtain⟨ds,e1,e2⟩:=map_some e;subst e2;refine⟨σD,ds,rv,e1,fun vs H1 s1 r1=>⟨?_,fun p hp=>k _ _ (dZ s1 hp r1 fun _=>rfl)⟩⟩;rw[<-r1.length,lQ e1];exact Nat.le_of_lt (pH hl)
def oV{α:Type}{xs:List α}{i:Int}{x:α}(h:RL.cB xs i=some x):atI xs i=some x:=by
 unfold RL.cB at h;unfold atI ixN;by_cases h0:0<=i
 ·rw[if_pos h0]at h;rw[if_pos h0];obtain⟨h1,_⟩:=List.getElem?_eq_some_iff.mp h;rw[if_pos (by lia)];exact h
 ·rw[if_neg h0]at h;rw[if_neg h0];by_cases h1:-(xs.length:Int)<=i
  ·rw[if_pos h1]at h;rw[if_pos h1];exact h
  ·rw[if_neg h1]at h;cases h
def iD{P:Addr->Prop}{K:PySem.W.Frag}{H:Hp}{ds:List RL.D}{xs:List V}{i:Int}{d:RL.D}(r:ae P K H ds xs)(h:RL.cB ds i=some d):∃ x,RL.cB xs i=some x/\Rep P K H d x:=by
 unfold RL.cB at h ⊢;rw[<-r.length];by_cases h0:0<=i
 ·rw[if_pos h0]at h ⊢;exact r.get h
 ·rw[if_neg h0]at h ⊢;by_cases h1:-(ds.length:Int)<=i
  ·rw[if_pos h1]at h ⊢;exact r.get h
  ·rw[if_neg h1]at h;cases h
abbrev m6:Expr->Bool
 | .Slice _ _ _ _=>false
 | _=>true
def AW{b:Expr}(h:m6 b=true):uk b:=by
 intro o i
 cases b<;>first | rfl | (cases h)
def xq{x y d:RL.D}(h:RL.ixV x y=some d):(∃ xs i,x=.lst xs/\y=.int i/\RL.cB xs i=some d)\/(∃ xs i,x=.tup xs/\y=.int i/\RL.cB xs i=some d) \/
  (∃ (z:Str) (i:Int) (c:Nat),x=.str z/\y=.int i/\z.length<=RL.most/\RL.cB z.cps.toList i=some c/\d=.str ⟨#[c]⟩):=by
 have no:∀ {o:Option RL.D},o=none->o=some d->False:=fun e h=>by rw[e]at h;cases h
 cases x with
 | lst xs=>cases y with
  | int i=>exact .inl ⟨xs,i,rfl,rfl,h⟩
  | _=>exact(no rfl h).elim
 | tup xs=>cases y with
  | int i=>exact .inr (.inl ⟨xs,i,rfl,rfl,h⟩)
  | _=>exact(no rfl h).elim
 | str z=>cases y with
  |int i=>
   by_cases hc:z.length<=RL.most
   ·obtain⟨c,e1,e2⟩:=map_some (show(RL.cB z.cps.toList i).map (fun c=>RL.D.str ⟨#[c]⟩)=some d from(if_pos hc).symm.trans h);exact .inr (.inr ⟨z,i,c,rfl,rfl,hc,e1,e2.symm⟩)
   ·exact(no (if_neg hc) h).elim
  | _=>exact(no rfl h).elim
 | _=>exact(no rfl h).elim
def Gs(ha:SE X cl a a')(hb:SE X cl b b')(hs:m6 b=true):SE X cl (.Subscript a b pos) (.ix a' b'):=by
 refine PE.weak (Ge CN ha hb (AW hs)) fun σ H Q h=>?_;obtain⟨σD,d,rv,e,k⟩:=h;obtain⟨x,ea,e⟩:=bind_some e;obtain⟨y,eb,e⟩:=bind_some e;refine two rv ea eb fun v u H1 H2 s1 s2 rx ry ra rb=>?_
 have fin:∀ (w:V),Rep nP X.K H2 d w->(∀ P:Addr->Prop,Rep P X.K H2 x v->Rep P X.K H2 d w)->Res X.K σD σ H (.ix a' b') d w H2:=fun w h1 h2=>{
  same:=s1.trans s2
  rep:=h1
  fresh:=fun z=>by cases z
  av:=fun M z P hP av=>h2 P ((ra.av M z P hP av).same s2) }
 rcases xq e with⟨xs,i,rfl,rfl,hd⟩ | ⟨xs,i,rfl,rfl,hd⟩ | ⟨z,i,c,rfl,rfl,hz,hd,rfl⟩
 ·obtain⟨p,ys,rfl,_,e2,e3⟩:=aB rx;obtain⟨w,h1,h2⟩:=iD e3 hd;refine .inl ⟨p,ys,i,w,rfl,ah ry,SqL.of e2,oV h1,k _ _ (fin w h2 fun P rp=>?_)⟩;obtain⟨p',ys',q1,_,q2,q3⟩:=aB rp;cases q1;rw[e2]at q2;cases q2;obtain⟨w',h3,h4⟩:=iD q3 hd;rw[h1]at h3;cases h3;exact h4
 ·obtain⟨p,ys,rfl,e2,e3⟩:=b9 rx;obtain⟨w,h1,h2⟩:=iD e3 hd;refine .inr (.inl ⟨p,ys,i,w,rfl,ah ry,SqT.of e2,oV h1,k _ _ (fin w h2 fun P rp=>?_)⟩);obtain⟨p',ys',q1,q2,q3⟩:=b9 rp;cases q1;rw[e2]at q2;cases q2;obtain⟨w',h3,h4⟩:=iD q3 hd;rw[h1]at h3;cases h3;exact h4
 ·exact .inr (.inr ⟨z,i,c,aY rx,ah ry,Nat.le_trans hz cw,oV hd,k _ _ (fin _ iX fun P _=>iX)⟩)
end rules
section rules
variable{X:Cx}{cl:RL.Cl}{a b c:Expr}{a' b' c':RL.E}{pos:Pos}
def gS{f:RL.D->RL.D->Option Bool}:∀ {as bs:List RL.D} {k:Bool},RL.eqs f as bs=some k ->
  ∃ e:Nat->Bool,k=(List.range (min as.length bs.length)).all e/\∀ j x y,as[j]?=some x->bs[j]?=some y->f x y=some (e j)
 | [],bs,k,h=>by
  have h:some true=some k:=by simpa[RL.eqs]using h
  cases h;exact⟨fun _=>true,by simp,fun j x y h1=>by simp at h1⟩
 | a::r,[],k,h=>by
  have h:some true=some k:=by simpa[RL.eqs]using h
  cases h;exact⟨fun _=>true,by simp,fun j x y h1 h2=>by simp at h2⟩
 | a::r,b::s,k,h=>by
  rw[RL.eqs]at h;obtain⟨e0,h1,h2⟩:=bind_some h;obtain⟨k',h3,h4⟩:=map_some h2;obtain⟨e,h5,h6⟩:=gS h3;refine⟨fun j=>match j with | 0=>e0 | j+1=>e j,?_,fun j x y hx hy=>?_⟩
  ·rw[<-h4,h5,List.length_cons,List.length_cons,Nat.succ_min_succ,List.range_succ_eq_map,List.all_cons,List.all_map];rfl
  ·cases j with
   |zero=>
    simp at hx hy;subst hx hy;exact h1
   | succ j=>exact h6 j x y (by simpa using hx) (by simpa using hy)
def gq{n:Nat}{x y:RL.D}{k:Bool}(h:RL.eqD n x y=some k):(∃ i j,x=.bl i/\y=.bl j/\(i == j)=k)\/(∃ i j,x=.int i/\y=.int j/\(i == j)=k)\/(∃ i j,x=.str i/\y=.str j/\(i == j)=k) \/
  (∃ m i j,n=m+1/\x=.tup i/\y=.tup j/\Option.map (fun k=>k&&i.length == j.length) (RL.eqs (RL.eqD m) i j)=some k)\/(∃ m i j,n=m+1/\x=.lst i/\y=.lst j/\Option.map (fun k=>k&&i.length == j.length) (RL.eqs (RL.eqD m) i j)=some k):=by
 cases n with
 | zero=>cases x with
  | bl i=>cases y with
   | bl j=>exact .inl ⟨i,j,rfl,rfl,Option.some.inj h⟩
   | _=>exact noN rfl h
  | int i=>cases y with
   | int j=>exact .inr (.inl ⟨i,j,rfl,rfl,Option.some.inj h⟩)
   | _=>exact noN rfl h
  | str i=>cases y with
   | str j=>exact .inr (.inr (.inl ⟨i,j,rfl,rfl,Option.some.inj h⟩))
   | _=>exact noN rfl h
  | _=>exact noN rfl h
 | succ m=>cases x with
  | bl i=>cases y with
   | bl j=>exact .inl ⟨i,j,rfl,rfl,Option.some.inj h⟩
   | _=>exact noN rfl h
  | int i=>cases y with
   | int j=>exact .inr (.inl ⟨i,j,rfl,rfl,Option.some.inj h⟩)
   | _=>exact noN rfl h
  | str i=>cases y with
   | str j=>exact .inr (.inr (.inl ⟨i,j,rfl,rfl,Option.some.inj h⟩))
   | _=>exact noN rfl h
  | tup i=>cases y with
   | tup j=>exact .inr (.inr (.inr (.inl ⟨m,i,j,rfl,rfl,rfl,h⟩)))
   | _=>exact noN rfl h
  | lst i=>cases y with
   | lst j=>exact .inr (.inr (.inr (.inr ⟨m,i,j,rfl,rfl,rfl,h⟩)))
   | _=>exact noN rfl h
  | _=>exact noN rfl h
def p9{K:PySem.W.Frag}{H:Hp}:∀ (n:Nat) (x y:RL.D) (v:V) (k:Bool),Rep nP K H x v->Rep nP K H y v->RL.eqD n x y=some k->k=true:=by
 intro n
 induction n with
 |zero=>
  intro x y v k rx ry h
  rcases gq h with⟨i,j,rfl,rfl,rfl⟩ | ⟨i,j,rfl,rfl,rfl⟩ | ⟨i,j,rfl,rfl,rfl⟩ | ⟨m,i,j,hn,hx,hy,h⟩ | ⟨m,i,j,hn,hx,hy,h⟩
  ·have:=bg rx;rw[bg ry]at this;cases this;simp
  ·have:=ah rx;rw[ah ry]at this;cases this;simp
  ·have:=aY rx;rw[aY ry]at this;cases this;simp
  ·cases hn
  ·cases hn
 |succ n ih=>
  intro x y v k rx ry h
  have seq:∀ (i j:List RL.D) (xs:List V) (k:Bool),ae nP K H i xs->ae nP K H j xs->Option.map (fun k=>k&&i.length == j.length) (RL.eqs (RL.eqD n) i j)=some k->k=true:=by
   intro i j xs k e3 f3 h;obtain⟨k',h1,h2⟩:=map_some h;obtain⟨e,h3,h4⟩:=gS h1;have hl:i.length=j.length:=e3.length.trans f3.length.symm
   have hk:k'=true:=by
    rw[h3,List.all_eq_true];intro m hm;rw[List.mem_range]at hm;obtain⟨w,w1,w2⟩:=e3.get (i:=m) (d:=i[m]'(by lia)) (by simp);obtain⟨w',w1',w2'⟩:=f3.get (i:=m) (d:=j[m]'(by lia)) (by simp);rw[w1]at w1';cases w1';exact ih _ _ w (e m) w2 w2' (h4 m _ _ (by simp) (by simp))
   rw[<-h2,hk,hl];simp
  rcases gq h with⟨i,j,rfl,rfl,rfl⟩ | ⟨i,j,rfl,rfl,rfl⟩ | ⟨i,j,rfl,rfl,rfl⟩ | ⟨m,i,j,hn,hx,hy,h⟩ | ⟨m,i,j,hn,hx,hy,h⟩
  ·have:=bg rx;rw[bg ry]at this;cases this;simp
  ·have:=ah rx;rw[ah ry]at this;cases this;simp
  ·have:=aY rx;rw[aY ry]at this;cases this;simp
  ·cases hn;subst hx;subst hy;obtain⟨p,xs,rfl,e2,e3⟩:=b9 rx;obtain⟨q,ys,q1,f2,f3⟩:=b9 ry;cases q1;rw[e2]at f2;cases f2;exact seq i j xs k e3 f3 h
  ·cases hn;subst hx;subst hy;obtain⟨p,xs,rfl,_,e2,e3⟩:=aB rx;obtain⟨q,ys,q1,_,f2,f3⟩:=aB ry;cases q1;rw[e2]at f2;cases f2;exact seq i j xs k e3 f3 h
open SeqAt in
def deep{pins:List (Addr × Obj)}{σ:L2.St}{H:Hp}{s:Shared}(I:Inv X pins σ H s):∀ (n:Nat) (A:Around) (x y:RL.D) (v u:V) (va ua:Value) (k:Bool),A.units+n<cLine->Rep nP X.K H x v->Rep nP X.K H y u->RelV v va->RelV u ua ->
  RL.eqD n x y=some k->RcAt A s va ua k/\EqAt A s va ua k:=by
 intro n
 induction n with
 |zero=>
  intro A x y v u va ua k hu rx ry qx qy h
  rcases gq h with⟨i,j,rfl,rfl,rfl⟩ | ⟨i,j,rfl,rfl,rfl⟩ | ⟨i,j,rfl,rfl,rfl⟩ | ⟨m,i,j,hn,hx,hy,h⟩ | ⟨m,i,j,hn,hx,hy,h⟩
  ·rw[bg rx]at qx;rw[bg ry]at qy;cases qx;cases qy;exact⟨RcAt.bool_bool i j,EqAt.bool_bool i j⟩
  ·rw[ah rx]at qx;rw[ah ry]at qy;obtain⟨t,rfl⟩:=qx;obtain⟨t',rfl⟩:=qy;exact⟨RcAt.int_int i t j t',EqAt.int_int i t j t'⟩
  ·rw[aY rx]at qx;rw[aY ry]at qy;obtain⟨t,rfl⟩:=qx;obtain⟨t',rfl⟩:=qy;exact⟨RcAt.str_str i t j t',EqAt.str_str i t j t'⟩
  ·cases hn
  ·cases hn
 |succ n ih=>
  intro A x y v u va ua k hu rx ry qx qy h
  rcases gq h with⟨i,j,rfl,rfl,rfl⟩ | ⟨i,j,rfl,rfl,rfl⟩ | ⟨i,j,rfl,rfl,rfl⟩ | ⟨m,i,j,hn,hx,hy,h⟩ | ⟨m,i,j,hn,hx,hy,h⟩
  ·rw[bg rx]at qx;rw[bg ry]at qy;cases qx;cases qy;exact⟨RcAt.bool_bool i j,EqAt.bool_bool i j⟩
  ·rw[ah rx]at qx;rw[ah ry]at qy;obtain⟨t,rfl⟩:=qx;obtain⟨t',rfl⟩:=qy;exact⟨RcAt.int_int i t j t',EqAt.int_int i t j t'⟩
  ·rw[aY rx]at qx;rw[aY ry]at qy;obtain⟨t,rfl⟩:=qx;obtain⟨t',rfl⟩:=qy;exact⟨RcAt.str_str i t j t',EqAt.str_str i t j t'⟩
  ·cases hn;subst hx;subst hy;obtain⟨p,xs,rfl,e2,e3⟩:=b9 rx;obtain⟨q,ys,rfl,f2,f3⟩:=b9 ry;cases qx;cases qy;obtain⟨its,r1,t1,z1⟩:=I.tuple (SqT.of e2);obtain⟨jts,r2,t2,z2⟩:=I.tuple (SqT.of f2);obtain⟨k',h1,h2⟩:=map_some h;obtain⟨e,h3,h4⟩:=gS h1;have l1:i.length=its.length:=e3.length.trans r1.length;have l2:j.length=jts.length:=f3.length.trans r2.length
   have he:∀ m (g1:m<its.toArray.size) (g2:m<jts.toArray.size),EqAt A.in1 s its.toArray[m] jts.toArray[m] (e m):=fun m g1 g2=>by
    rw[List.size_toArray]at g1 g2;obtain⟨w,w1,w2⟩:=e3.get (i:=m) (d:=i[m]'(by lia)) (by simp);obtain⟨w',w1',w2'⟩:=f3.get (i:=m) (d:=j[m]'(by lia)) (by simp);obtain⟨uu,b1,b2⟩:=r1.get w1;obtain⟨uu',b1',b2'⟩:=r2.get w1'
    have c1:its.toArray[m]=uu:=by simpa using(List.getElem?_eq_some_iff.mp b1).2
    have c2:jts.toArray[m]=uu':=by simpa using(List.getElem?_eq_some_iff.mp b1').2
    rw[c1,c2];exact(ih A.in1 _ _ w w' uu uu' (e m) (by show A.units+1+n<cLine;lia) w2 w2' b2 b2' (h4 m _ _ (by simp) (by simp))).2
   have main:RcAt A s (.ref p) (.ref q) k:=by
    have z:=RcAt.tuples (e:=e) t1 t2 (by lia) he;rw[List.size_toArray,List.size_toArray,<-l1,<-l2,<-h3,h2]at z;exact z
   refine⟨main,?_⟩;by_cases z:p=q
   ·subst z;rw[p9 (n+1) _ _ _ k rx ry h];exact EqAt.same _
   ·exact EqAt.of_refs z main
  ·cases hn;subst hx;subst hy;obtain⟨p,xs,rfl,_,e2,e3⟩:=aB rx;obtain⟨q,ys,rfl,_,f2,f3⟩:=aB ry;cases qx;cases qy;obtain⟨its,r1,t1,z1⟩:=I.list (SqL.of e2);obtain⟨jts,r2,t2,z2⟩:=I.list (SqL.of f2);obtain⟨k',h1,h2⟩:=map_some h;obtain⟨e,h3,h4⟩:=gS h1;have l1:i.length=its.length:=e3.length.trans r1.length;have l2:j.length=jts.length:=f3.length.trans r2.length
   have he:∀ m (g1:m<its.toArray.size) (g2:m<jts.toArray.size),EqAt A.in1 s its.toArray[m] jts.toArray[m] (e m):=fun m g1 g2=>by
    rw[List.size_toArray]at g1 g2;obtain⟨w,w1,w2⟩:=e3.get (i:=m) (d:=i[m]'(by lia)) (by simp);obtain⟨w',w1',w2'⟩:=f3.get (i:=m) (d:=j[m]'(by lia)) (by simp);obtain⟨uu,b1,b2⟩:=r1.get w1;obtain⟨uu',b1',b2'⟩:=r2.get w1'
    have c1:its.toArray[m]=uu:=by simpa using(List.getElem?_eq_some_iff.mp b1).2
    have c2:jts.toArray[m]=uu':=by simpa using(List.getElem?_eq_some_iff.mp b1').2
    rw[c1,c2];exact(ih A.in1 _ _ w w' uu uu' (e m) (by show A.units+1+n<cLine;lia) w2 w2' b2 b2' (h4 m _ _ (by simp) (by simp))).2
   have main:RcAt A s (.ref p) (.ref q) k:=by
    by_cases hl:its.length=jts.length
    ·have z:=RcAt.lists (e:=e) t1.isList t2.isList (by rw[List.size_toArray,List.size_toArray];exact hl) (by lia) he;rw[List.size_toArray]at z
     have hk:k=(List.range its.length).all e:=by
      rw[<-h2,h3,l1,l2,hl];simp
     rw[hk];exact z
    ·have hk:k=false:=by
      rw[<-h2,l1,l2];simp[hl]
     rw[hk];exact RcAt.lists_lengths t1.isList t2.isList (by rw[List.size_toArray,List.size_toArray];simpa using hl) (by lia)
   refine⟨main,?_⟩;by_cases z:p=q
   ·subst z;rw[p9 (n+1) _ _ _ k rx ry h];exact EqAt.same _
   ·exact EqAt.of_refs z main
end rules
section rules
variable{X:Cx}{cl:RL.Cl}{a b c:Expr}{a' b' c':RL.E}{pos:Pos}
open SeqAt in
def Fv{pins:List (Addr × Obj)}{σ:L2.St}{H:Hp}{s:Shared}(I:Inv X pins σ H s)(n:Nat)(A:Around)(x y:RL.D)(v u:V)(va ua:Value)(k:Bool)(hu:A.units+n<cLine)(rx:Rep nP X.K H x v)(ry:Rep nP X.K H y u)(qx:RelV v va)(qy:RelV u ua)
 (h:RL.eqD n x y=some k):RcNeAt A s va ua (!k):=by
 rcases gq h with⟨i,j,rfl,rfl,rfl⟩ | ⟨i,j,rfl,rfl,rfl⟩ | ⟨i,j,rfl,rfl,rfl⟩ | ⟨nn,i,j,hn,hx,hy,h⟩ | ⟨nn,i,j,hn,hx,hy,h⟩
 ·rw[bg rx]at qx;rw[bg ry]at qy;cases qx;cases qy;exact RcNeAt.bool_bool i j
 ·rw[ah rx]at qx;rw[ah ry]at qy;obtain⟨t,rfl⟩:=qx;obtain⟨t',rfl⟩:=qy;exact RcNeAt.int_int i t j t'
 ·rw[aY rx]at qx;rw[aY ry]at qy;obtain⟨t,rfl⟩:=qx;obtain⟨t',rfl⟩:=qy;exact RcNeAt.str_str i t j t'
 ·subst hn;subst hx;subst hy;obtain⟨p,xs,rfl,e2,e3⟩:=b9 rx;obtain⟨q,ys,rfl,f2,f3⟩:=b9 ry;cases qx;cases qy;obtain⟨its,r1,t1,z1⟩:=I.tuple (SqT.of e2);obtain⟨jts,r2,t2,z2⟩:=I.tuple (SqT.of f2);obtain⟨k',h1,h2⟩:=map_some h;obtain⟨e,h3,h4⟩:=gS h1;have l1:i.length=its.length:=e3.length.trans r1.length;have l2:j.length=jts.length:=f3.length.trans r2.length
  have he:∀ m (g1:m<its.toArray.size) (g2:m<jts.toArray.size),EqAt A.in1 s its.toArray[m] jts.toArray[m] (e m):=fun m g1 g2=>by
   rw[List.size_toArray]at g1 g2;obtain⟨w,w1,w2⟩:=e3.get (i:=m) (d:=i[m]'(by lia)) (by simp);obtain⟨w',w1',w2'⟩:=f3.get (i:=m) (d:=j[m]'(by lia)) (by simp);obtain⟨uu,b1,b2⟩:=r1.get w1;obtain⟨uu',b1',b2'⟩:=r2.get w1'
   have c1:its.toArray[m]=uu:=by simpa using(List.getElem?_eq_some_iff.mp b1).2
   have c2:jts.toArray[m]=uu':=by simpa using(List.getElem?_eq_some_iff.mp b1').2
   rw[c1,c2];exact(deep I nn A.in1 _ _ w w' uu uu' (e m) (by show A.units+1+nn<cLine;lia) w2 w2' b2 b2' (h4 m _ _ (by simp) (by simp))).2
  have z:=RcNeAt.tuples (e:=e) t1 t2 (by lia) he;rw[List.size_toArray,List.size_toArray,<-l1,<-l2,<-h3,h2]at z;exact z
 ·subst hn;subst hx;subst hy;obtain⟨p,xs,rfl,_,e2,e3⟩:=aB rx;obtain⟨q,ys,rfl,_,f2,f3⟩:=aB ry;cases qx;cases qy;obtain⟨its,r1,t1,z1⟩:=I.list (SqL.of e2);obtain⟨jts,r2,t2,z2⟩:=I.list (SqL.of f2);obtain⟨k',h1,h2⟩:=map_some h;obtain⟨e,h3,h4⟩:=gS h1;have l1:i.length=its.length:=e3.length.trans r1.length;have l2:j.length=jts.length:=f3.length.trans r2.length
  have he:∀ m (g1:m<its.toArray.size) (g2:m<jts.toArray.size),EqAt A.in1 s its.toArray[m] jts.toArray[m] (e m):=fun m g1 g2=>by
   rw[List.size_toArray]at g1 g2;obtain⟨w,w1,w2⟩:=e3.get (i:=m) (d:=i[m]'(by lia)) (by simp);obtain⟨w',w1',w2'⟩:=f3.get (i:=m) (d:=j[m]'(by lia)) (by simp);obtain⟨uu,b1,b2⟩:=r1.get w1;obtain⟨uu',b1',b2'⟩:=r2.get w1'
   have c1:its.toArray[m]=uu:=by simpa using(List.getElem?_eq_some_iff.mp b1).2
   have c2:jts.toArray[m]=uu':=by simpa using(List.getElem?_eq_some_iff.mp b1').2
   rw[c1,c2];exact(deep I nn A.in1 _ _ w w' uu uu' (e m) (by show A.units+1+nn<cLine;lia) w2 w2' b2 b2' (h4 m _ _ (by simp) (by simp))).2
  by_cases hl:its.length=jts.length
  ·have z:=RcNeAt.lists (e:=e) t1.isList t2.isList (by rw[List.size_toArray,List.size_toArray];exact hl) (by lia) he;rw[List.size_toArray]at z
   have hk:k=(List.range its.length).all e:=by
    rw[<-h2,h3,l1,l2,hl];simp
   rw[hk];exact z
  ·have hk:k=false:=by
    rw[<-h2,l1,l2];simp[hl]
   rw[hk];exact RcNeAt.lists_lengths t1.isList t2.isList (by rw[List.size_toArray,List.size_toArray];simpa using hl) (by lia)
abbrev dH:RL.Cop->CmpOp
 | .lt=>.Lt
 | .le=>.LtE
 | .gt=>.Gt
 | .ge=>.GtE
 | .eq=>.Eq
 | .ne=>.NotEq
abbrev uT(K:PySem.W.Frag)(c:RL.Cop):R2:=fun v u H Q=>∃ x y k,Rep nP K H x v/\Rep nP K H y u/\RL.bF c x y=some k/\Q (.bl k) H
def jE{c:RL.Cop}(hc:c≠.eq)(hc2:c≠.ne){x y:RL.D}{k:Bool}(h:RL.bF c x y=some k):∃ i j,x=.int i/\y=.int j:=by
 have no:∀ {a b:RL.D},RL.bF .lt a b=none->RL.bF .le a b=none->RL.bF .gt a b=none->RL.bF .ge a b=none->RL.bF c a b=some k->False:=fun e1 e2 e3 e4 h=>by
  cases c with
  | eq=>exact hc rfl
  | ne=>exact hc2 rfl
  | lt=>rw[e1]at h;cases h
  | le=>rw[e2]at h;cases h
  | gt=>rw[e3]at h;cases h
  | ge=>rw[e4]at h;cases h
 cases x with
 | int i=>cases y with
  | int j=>exact⟨_,_,rfl,rfl⟩
  | _=>exact(no rfl rfl rfl rfl h).elim
 | _=>exact(no rfl rfl rfl rfl h).elim
def jf{c:RL.Cop}(hu:X.A.units+100<cLine):OpR X (compareOp (dH c)) (uT X.K c):=by
 intro pins s σ H x y v u Q I rx ry h;obtain⟨dx,dy,k,ex,ey,e,q⟩:=h
 have fin:EP X pins σ Q (.bool k) s:=⟨.bl k,H,I,rfl,q⟩
 cases c with
 |eq=>
  have e:RL.eqD 8 dx dy=some k:=e;exact(deep I 8 X.A dx dy x y v u k (by lia) ex ey rx ry e).1 X.prog X.w X.xe _ fin
 |ne=>
  obtain⟨k',e1,e2⟩:=map_some (show(RL.eqD 8 dx dy).map not=some k from e);subst e2;exact Fv I 8 X.A dx dy x y v u k' (by lia) ex ey rx ry e1 X.prog X.w X.xe _ fin
 |lt=>
  obtain⟨i,j,rfl,rfl⟩:=jE (by decide) (by decide) e;cases e;rw[ah ex]at rx;rw[ah ey]at ry;obtain⟨t,rfl⟩:=rx;obtain⟨t',rfl⟩:=ry;exact lt_int fin
 |le=>
  obtain⟨i,j,rfl,rfl⟩:=jE (by decide) (by decide) e;cases e;rw[ah ex]at rx;rw[ah ey]at ry;obtain⟨t,rfl⟩:=rx;obtain⟨t',rfl⟩:=ry;exact le_int fin
 |gt=>
  obtain⟨i,j,rfl,rfl⟩:=jE (by decide) (by decide) e;cases e;rw[ah ex]at rx;rw[ah ey]at ry;obtain⟨t,rfl⟩:=rx;obtain⟨t',rfl⟩:=ry;exact gt_int fin
 |ge=>
  obtain⟨i,j,rfl,rfl⟩:=jE (by decide) (by decide) e;cases e;rw[ah ex]at rx;rw[ah ey]at ry;obtain⟨t,rfl⟩:=rx;obtain⟨t',rfl⟩:=ry;exact ge_int fin
def jS{c:RL.Cop}(b:Expr):behindInMarks (dH c) b=false:=by cases c<;>exact vN b
def xF{c:RL.Cop}{σ:L2.St}{H:Hp}{Q:VK}(h:∃ σD d,RV0 X.K σD σ H/\RL.ev cl σD (.cmp c a' b')=some d/\∀ H',a6 H H'->∃ k,d=.bl k/\Q (.bl k) H'):tOp (uT X.K c) (tE X.K cl a') (tE X.K cl b') σ H Q:=by
 obtain⟨σD,d,rv,e,k⟩:=h;obtain⟨x,ea,e⟩:=bind_some e;obtain⟨y,eb,e⟩:=bind_some e;obtain⟨t,e1,e2⟩:=map_some e;refine two rv ea eb fun v u H1 H2 s1 s2 rx ry _ _=>?_;obtain⟨k',h1,h2⟩:=k H2 (s1.trans s2);rw[h1]at e2;cases e2;exact⟨x,y,t,rx,ry,e1,h2⟩
def pA{c:RL.Cop}{σD:RL.St}{d:RL.D}(e:RL.ev cl σD (.cmp c a' b')=some d):∃ k,d=.bl k:=by
 obtain⟨x,ea,e⟩:=bind_some e;obtain⟨y,eb,e⟩:=bind_some e;obtain⟨t,e1,e2⟩:=map_some e;exact⟨t,e2.symm⟩
def Fx{c:RL.Cop}(hu:X.A.units+100<cLine)(ha:SE X cl a a')(hb:SE X cl b b'):SE X cl (.Compare a [dH c] [b] pos) (.cmp c a' b'):=by
 refine PE.weak (Bt (jf hu) ha hb (jS b)) fun σ H Q h=>?_;obtain⟨σD,d,rv,e,k⟩:=h;obtain⟨t,rfl⟩:=pA e;exact xF ⟨σD,_,rv,e,fun H' sm=>⟨t,rfl,k _ _ (fN sm)⟩⟩
def EZ{c:RL.Cop}(hu:X.A.units+100<cLine)(ha:SE X cl a a')(hb:SE X cl b b'):ST X cl (.Compare a [dH c] [b] pos) (.cmp c a' b'):=by
 refine PT.weak (tR (jf hu) ha hb (jS b)) fun σ H Q h=>?_;obtain⟨σD,k,rv,e,q⟩:=h;obtain⟨d,e1,e2⟩:=bind_some e;obtain⟨t,rfl⟩:=pA e1;cases e2;exact xF ⟨σD,_,rv,e1,fun H' sm=>⟨k,rfl,k,rfl,q H' sm⟩⟩
def An{c c':RL.Cop}(b e:Expr):lastMarks [dH c,dH c'] [b,e]=false:=by
 show behindInMarks (dH c') e=false;exact jS e
variable{e:Expr}{e':RL.E}
def lK{c c':RL.Cop}{σD:RL.St}{d:RL.D}(h:RL.ev cl σD (.chain c c' a' b' e')=some d):∃ k,d=.bl k:=by
 obtain⟨x,ea,h⟩:=bind_some h;obtain⟨y,eb,h⟩:=bind_some h;obtain⟨t,e1,h⟩:=bind_some h
 cases t with
 |true=>
  obtain⟨z,ec,h⟩:=bind_some (show(RL.ev cl σD e').bind _=some d from h);obtain⟨t,e1,e2⟩:=map_some h;exact⟨t,e2.symm⟩
 | false=>exact⟨false,(Option.some.inj (show some (RL.D.bl false)=some d from h)).symm⟩
def rE{c c':RL.Cop}{σ:L2.St}{H:Hp}{Q:VK}(h:∃ σD k,RV0 X.K σD σ H/\RL.ev cl σD (.chain c c' a' b' e')=some (.bl k)/\∀ H',a6 H H'->Q (.bl k) H') :
  sh (uT X.K c) (uT X.K c') (tE X.K cl a') (tE X.K cl b') (tE X.K cl e') σ H Q:=by
 obtain⟨σD,k,rv,h,q⟩:=h;obtain⟨x,ea,h⟩:=bind_some h;obtain⟨y,eb,h⟩:=bind_some h;obtain⟨t,e1,h⟩:=bind_some h;refine two rv ea eb fun v u H1 H2 s1 s2 rx ry _ _=>?_;refine⟨x,y,t,rx,ry,e1,t,rfl,?_⟩;have sm:=s1.trans s2
 cases t with
 |true=>
  rw[if_pos rfl]at h;obtain⟨z,ec,h⟩:=bind_some h;obtain⟨t,e3,e2⟩:=map_some h;cases e2;exact f7 ⟨σD,z,rv.same sm,ec,fun w H3 r3=>⟨y,z,k,ry.same r3.same,r3.rep,e3,q H3 (sm.trans r3.same)⟩⟩
 |false=>
  rw[if_neg (by decide)]at h;cases h;exact gy (q H2 sm)
def zh{c c':RL.Cop}(hu:X.A.units+100<cLine)(ha:SE X cl a a')(hb:SE X cl b b')(he:SE X cl e e'):SE X cl (.Compare a [dH c,dH c'] [b,e] pos) (.chain c c' a' b' e'):=by
 refine PE.weak (yV (jf hu) (jf hu) ha hb he (An b e)) fun σ H Q h=>?_;obtain⟨σD,d,rv,h,k⟩:=h;obtain⟨t,rfl⟩:=lK h;exact rE ⟨σD,t,rv,h,fun H' sm=>k _ _ (fN sm)⟩
def yJ{c c':RL.Cop}(hu:X.A.units+100<cLine)(ha:SE X cl a a')(hb:SE X cl b b')(he:SE X cl e e'):ST X cl (.Compare a [dH c,dH c'] [b,e] pos) (.chain c c' a' b' e'):=by
 refine PT.weak (yy (jf hu) (jf hu) ha hb he (An b e)) fun σ H Q h=>?_;obtain⟨σD,k,rv,h,q⟩:=h;obtain⟨d,e1,e2⟩:=bind_some h;obtain⟨t,rfl⟩:=lK e1;cases e2;exact rE ⟨σD,k,rv,e1,fun H' sm=>⟨k,rfl,q H' sm⟩⟩
end rules
section rules
variable{X:Cx}{cl:RL.Cl}{a b c:Expr}{a' b' c':RL.E}{pos:Pos}
def jU{P:Addr->Prop}{K:PySem.W.Frag}{H:Hp}{d:RL.D}{ds:List RL.D}{v:V}(h:RL.items d=some ds)(r:Rep P K H d v):∃ p xs,v=.ref p/\((H p=some (.lst xs)/\d=.lst ds)\/(H p=some (.tup xs)/\d=.tup ds))/\ae P K H ds xs:=by
 cases d<;>simp only[RL.items]at h<;>first | (cases h;done) | skip
 case lst ys=>cases h;obtain⟨p,xs,e1,_,e2,e3⟩:=aB r;exact⟨p,xs,e1,.inl ⟨e2,rfl⟩,e3⟩
 case tup ys=>cases h;obtain⟨p,xs,e1,e2,e3⟩:=b9 r;exact⟨p,xs,e1,.inr ⟨e2,rfl⟩,e3⟩
abbrev vt:Expr->Bool
 | .Set _ _ _=>false
 | _=>true
def pG{op:CmpOp}{b:Expr}(h:vt b=true):behindInMarks op b=false:=by
 cases b<;>first | rfl | (cases h)
abbrev spF(K:PySem.W.Frag)(cl:RL.Cl)(f:Nat):Sp:=fun vs H Q _=>∃ ds d,ae nP K H ds vs/\cl f ds=some d/\∀ v H',a6 H H'->Rep (fun p=>H p≠none) K H' d v->Q v H'
def AM{es:List Expr}{e:Expr}{es':RL.Es}{e':RL.E}{f:Nat}{x:Str}{p:Pos}{k:Nat}{fa:Addr}{fd:FuncData}{ps:List Str}(F:iQ X.prog X.w X.K X.mg X.base CX0 k fa fd ps (spF X.K cl f))(hr:eG k X.A)(hg:Gl X x)
 (hm:X.mg x=some (.ref fa))(hk:PySem.W.keepIn X.K (.ref fa)=true)(hb:Binds X.K fd ps [])(he:SEs X cl (e::es) (.cons e' es'))(hdb:(x == ("__debug__" : Str))=false)(hn:noStar e=true)(hns:es.all noStar=true) :
  SE X cl (.Call (.Name x p) (e::es) [] pos) (.call f (.cons e' es')):=by
 refine PE.weak (tW F hr hg hm hk hb .nil Ae he hdb (aC es hn) (dP hns)) fun σ H Q h=>?_;obtain⟨σD,d,rv,ev,q⟩:=h;obtain⟨ds,e1,e2⟩:=bind_some ev;refine⟨σD,ds,rv,e1,fun vs H1 s1 r1=>?_⟩;show spF X.K cl f (vs++[]) H1 Q E0;rw[List.append_nil];refine⟨ds,d,r1,e2,fun v H2 s2 r2=>q v H2 ⟨s1.trans s2,r2.none,fun _ m a z=>?_,fun M _ P hP _=>?_⟩⟩
 ·subst z
  have hh:H1 a=none:=by
   cases d with
   | lst ds=>obtain⟨p,xs,e1,e2,_⟩:=aB r2;cases e1;exact Classical.byContradiction e2
   | dK ks ds=>rw[Rep]at r2;obtain⟨p,xs,e1,e2,_⟩:=r2;cases e1;exact Classical.byContradiction e2
   | dT ks ds=>rw[Rep]at r2;obtain⟨p,xs,e1,e2,_⟩:=r2;cases e1;exact Classical.byContradiction e2
   | _=>cases m
  exact s1.free hh
 ·refine r2.weak fun a z=>?_;obtain⟨o,ho⟩:=Option.ne_none_iff_exists'.mp (hP a z);rw[s1 _ _ ho]
  exact fun q=>nomatch q
end rules
abbrev Off(P:Addr->Prop)(H H':Hp):Prop:=∀ b o,¬ P b->H b=some o->H' b=some o
def Off.same{H H':Hp}(h:a6 H H'){P:Addr->Prop}:Off P H H':=fun b o _ e=>h b o e
mutual
theorem Rep.off{P:Addr->Prop}{K:PySem.W.Frag}{H H':Hp}(hm:∀ b o,P b->H b=some o->cZ o)(k:Off P H H'):∀ {d:RL.D} {v:V},Rep P K H d v->Rep P K H' d v
 | .non,v,h=>by simpa[Rep]using h
 | .bl _,v,h=>by simpa[Rep]using h
 | .int _,v,h=>by simpa[Rep]using h
 | .str _,v,h=>by simpa[Rep]using h
 | .tup ds,v,h=>by
  rw[Rep]at h ⊢;obtain⟨b,xs,e1,e2,e3⟩:=h
  have n:¬ P b:=fun p=>by rcases hm b _ p e2 with⟨z,q⟩ | ⟨z,q⟩ | ⟨z,q⟩<;>cases q
  exact⟨b,xs,e1,k _ _ n e2,ae.off hm k e3⟩
 | .lst ds,v,h=>by
  rw[Rep]at h ⊢;obtain⟨b,xs,e1,e0,e2,e3⟩:=h;exact⟨b,xs,e1,e0,k _ _ e0 e2,ae.off hm k e3⟩
 | .dK ks ds,v,h=>by
  rw[Rep]at h ⊢;obtain⟨b,xs,e1,e0,e2,el,e3⟩:=h;exact⟨b,xs,e1,e0,k _ _ e0 e2,el,ae.off hm k e3⟩
 | .dT ks ds,v,h=>by
  rw[Rep]at h ⊢;obtain⟨b,xs,e1,e0,e2,el,e3⟩:=h;exact⟨b,xs,e1,e0,k _ _ e0 e2,el,ae.off hm k e3⟩
 | .scr ds,v,h=>by
  rw[Rep]at h ⊢;obtain⟨b,xs,e1,e2,e3⟩:=h;refine⟨b,xs,e1,?_,ae.off hm k e3⟩;rcases e2 with⟨q,e2⟩ | e2
  ·have n:¬ P b:=fun p=>by rcases hm b _ p e2 with⟨z,q⟩ | ⟨z,q⟩ | ⟨z,q⟩<;>cases q
   exact .inl ⟨q,k _ _ n e2⟩
  ·exact .inr e2
 | .exc c,v,h=>by
  rw[Rep]at h ⊢;exact h.keep fun b ob u q=>k _ _ (fun p=>by rcases hm b _ p q with⟨z,y⟩ | ⟨z,y⟩ | ⟨z,y⟩<;>cases y) q
theorem ae.off{P:Addr->Prop}{K:PySem.W.Frag}{H H':Hp}(hm:∀ b o,P b->H b=some o->cZ o)(k:Off P H H'):∀ {ds:List RL.D} {xs:List V},ae P K H ds xs->ae P K H' ds xs
 | [],xs,h=>by rw[ae]at h ⊢;exact h
 | d::r,xs,h=>by
  rw[ae]at h ⊢;obtain⟨x,t,e1,e2,e3⟩:=h;exact⟨x,t,e1,Rep.off hm k e2,ae.off hm k e3⟩
end
structure ke(K:PySem.W.Frag)(J:L2.It)(ds:List RL.D)(P:Addr->Prop)(H:Hp):Prop where
 go:∀ H' i,Off P H H'->i<ds.length->J.go i H'
 stop:∀ H',Off P H H'->J.stop ds.length H'
 yld:∀ H' i d x H2,Off P H H'->ds[i]?=some d->J.yld i H' x H2->a6 H' H2/\(d.imm=true\/a6 H H'->Rep nP K H2 d x)
abbrev A8(K:PySem.W.Frag)(σD:RL.St)(σ:L2.St)(H:Hp)(it:RL.It)(J:L2.It)(ds:List RL.D)(H1:Hp):Prop :=
 ke K J ds nP H1/\∀ (M:List Nat) (P:Addr->Prop),RL.yp M it=true->(∀ b,P b->∃ o,H b=some o/\cZ o)->(∀ (j:Nat) (dj:RL.D) (vj:V),M.contains j=false->σD[j]?=some (some dj)->σ[j]?=some (some vj)->Rep P K H dj vj)->ke K J ds P H1
abbrev tI(K:PySem.W.Frag)(cl:RL.Cl)(it:RL.It):TI:=fun σ H R=>∃ σD ds,RV0 K σD σ H/\RL.aU cl σD it=some ds/\∀ J H1,a6 H H1->A8 K σD σ H it J ds H1->R J H1
abbrev SI(X:Cx)(cl:RL.Cl)(tg iter:Expr)(it:RL.It):Prop:=PI X tg iter (tI X.K cl it)
def PI.weak{X:Cx}{tg iter:Expr}{t t':TI}(h:PI X tg iter t)(w:∀ σ H R,t' σ H R->t σ H R):PI X tg iter t':=fun pins s σ H R I q=>h pins s σ H R I (w σ H R q)
def m5{K:PySem.W.Frag}{P:Addr->Prop}{H H':Hp}{d:RL.D}{v:V}(hm:∀ b o,P b->H b=some o->cZ o)(k:Off P H H')(r:Rep nP K H d v)(i:d.imm=true):Rep nP K H' d v :=
 ((r.imm i).off hm k).imm i
def uj{K:PySem.W.Frag}{H:Hp}{a:Addr}{ds:List RL.D}{xs:List V}{P:Addr->Prop}(h:H a=some (.lst xs))(r:ae nP K H ds xs)(hp:¬ P a)(hm:∀ b o,P b->H b=some o->cZ o):ke K (Itl K a) ds P H where
 go:=fun H' i k hi=>by
  obtain⟨x,e,_⟩:=r.get (i:=i) (d:=ds[i]) (by simp[hi]);exact⟨xs,x,SqL.of (k _ _ hp h),e⟩
 stop:=fun H' k=>⟨xs,SqL.of (k _ _ hp h),by rw[r.length];exact Nat.le_refl _⟩
 yld:=fun H' i d x H2 k e y=>by
  obtain⟨z,y⟩:=y;subst z;have hx:=y xs (SqL.of (k _ _ hp h));obtain⟨x',e1,e2⟩:=r.get e;rw[hx]at e1;cases e1;refine⟨a6.refl _,fun q=>?_⟩;rcases q with q | q
  ·exact m5 hm k e2 q
  ·exact e2.same q
def xl{K:PySem.W.Frag}{H:Hp}{a:Addr}{ds:List RL.D}{xs:List V}{P:Addr->Prop}(h:H a=some (.tup xs))(r:ae nP K H ds xs)(hm:∀ b o,P b->H b=some o->cZ o):ke K (Itt K a) ds P H:=by
 have hp:¬ P a:=fun p=>by rcases hm a _ p h with⟨z,q⟩ | ⟨z,q⟩ | ⟨z,q⟩<;>cases q
 exact {
  go:=fun H' i k hi=>by
   obtain⟨x,e,_⟩:=r.get (i:=i) (d:=ds[i]) (by simp[hi]);exact⟨xs,x,SqT.of (k _ _ hp h),e⟩
  stop:=fun H' k=>⟨xs,SqT.of (k _ _ hp h),by rw[r.length];exact Nat.le_refl _⟩
  yld:=fun H' i d x H2 k e y=>by
   obtain⟨z,y⟩:=y;subst z;have hx:=y xs (SqT.of (k _ _ hp h));obtain⟨x',e1,e2⟩:=r.get e;rw[hx]at e1;cases e1;refine⟨a6.refl _,fun q=>?_⟩;rcases q with q | q
   ·exact m5 hm k e2 q
   ·exact e2.same q }
def nr:∀ (n:Nat) (lo:Int) (i:Nat) (d:RL.D),(RL.cM lo n)[i]?=some d->d=.int (lo+i)
 | 0,lo,i,d,h=>by simp[RL.cM]at h
 | n+1,lo,0,d,h=>by simp[RL.cM]at h;simp[h]
 | n+1,lo,i+1,d,h=>by
  rw[RL.cM,List.getElem?_cons_succ]at h;rw[nr n (lo+1) i d h];congr 1;lia
def jT:∀ (n:Nat) (lo:Int),(RL.cM lo n).length=n
 | 0,_=>rfl
 | n+1,lo=>by rw[RL.cM,List.length_cons,jT n]
def mY{K:PySem.W.Frag}{H:Hp}{lo:Int}{n:Nat}{P:Addr->Prop}:ke K (Itr lo n) (RL.cM lo n) P H where
 go:=fun H' i k hi=>by rw[jT]at hi;exact hi
 stop:=fun H' k=>by rw[jT];exact Nat.le_refl _
 yld:=fun H' i d x H2 k e y=>by
  obtain⟨z,y⟩:=y;subst z;refine⟨a6.refl _,fun _=>?_⟩;rw[nr n lo i d e,y];exact aQ
section rules
variable{X:Cx}{cl:RL.Cl}{tg a b l:Expr}{a' b' e':RL.E}{pos p:Pos}
def G5{t t':TE}{l:Expr}(hl:PE X l t):PI X tg l (fun σ H R=>t σ H fun x H1=>(∃ a,x=.ref a/\(∃ xs,SqL X.K H1 a xs)/\R (Itl X.K a) H1)\/(∃ a,x=.ref a/\(∃ xs,SqT X.K H1 a xs)/\R (Itt X.K a) H1)):=by
 intro pins s σ H R I h;refine thn (hl pins s σ H _ I h) fun v s1 ⟨x,H1,I1,r1,q1⟩=>?_
 rcases q1 with⟨a,e,⟨xs,hq⟩,q⟩ | ⟨a,e,⟨xs,hq⟩,q⟩
 ·subst e;cases r1;obtain⟨its,rv,p,hz⟩:=I1.list hq;refine wpAny_pyIter_list p.isList ⟨s1.heap.objs.size,[s1.heap.objs.size],_,_,H1,rfl,I1.kept (t':=s1.toks) fun b o e=>Heap.get?_push_of_some _ e,xa a _,⟨_,Heap.get?_push_size _ rfl,rfl,rfl⟩,fun b hb=>?_,q⟩;rw[show b=s1.heap.objs.size by simpa using hb];exact I1.rh (Nat.le_refl _) (I1.hok.fresh (Nat.le_refl _))
 ·subst e;cases r1;obtain⟨its,rv,p,hz⟩:=I1.tuple hq;refine wpAny_pyIter_tuple (show s1.heap.IsTuple a its.toArray from p) ⟨s1.heap.objs.size,[s1.heap.objs.size],_,_,H1,rfl,I1.kept (t':=s1.toks) fun b o e=>Heap.get?_push_of_some _ e,uP a _,⟨_,Heap.get?_push_size _ rfl,rfl,rfl⟩,fun b hb=>?_,q⟩;rw[show b=s1.heap.objs.size by simpa using hb];exact I1.rh (Nat.le_refl _) (I1.hok.fresh (Nat.le_refl _))
def xh{σD:RL.St}{σ:L2.St}{H H1:Hp}{d:RL.D}{v:V}{M:List Nat}{P:Addr->Prop}(r1:Res X.K σD σ H e' d v H1)(z:(RL.avE M e' || RL.aH e')=true)(hP:∀ b,P b->∃ o,H b=some o/\cZ o)
 (av:∀ (j:Nat) (dj:RL.D) (vj:V),M.contains j=false->σD[j]?=some (some dj)->σ[j]?=some (some vj)->Rep P X.K H dj vj):∀ ds a,d=.lst ds->v=.ref a->¬ P a:=by
 intro ds a hd hv;subst hd hv;rw[Bool.or_eq_true]at z;rcases z with z | z
 ·obtain⟨p,xs,e1,e2,_⟩:=aB (r1.av M z P (fun b q=>by obtain⟨o,ho,_⟩:=hP b q;rw[ho];exact fun z=>nomatch z) av);cases e1;exact e2
 ·intro q;obtain⟨o,ho,_⟩:=hP a q;rw[r1.fresh z rfl a rfl]at ho;cases ho
def fL{P:Addr->Prop}{H H1:Hp}(s:a6 H H1)(hP:∀ b,P b->∃ o,H b=some o/\cZ o):∀ b o,P b->H1 b=some o->cZ o:=fun b o q e=>by
 obtain⟨o',ho,m⟩:=hP b q;rw[s _ _ ho]at e;cases e;exact m
def jk{H1:Hp}:∀ b o,nP b->H1 b=some o->cZ o:=fun b o q=>q.elim
def Et(hl:SE X cl l e')(hs:True):PI X tg l (fun σ H R=>∃ σD d ds,RV0 X.K σD σ H/\RL.ev cl σD e'=some d/\RL.items d=some ds/\∀ J H1,a6 H H1->A8 X.K σD σ H (.seq e') J ds H1->R J H1):=by
 refine PI.weak (G5 (t':=tE X.K cl e') hl) fun σ H R h=>?_;obtain⟨σD,d,ds,rv,e,ei,k⟩:=h;refine⟨σD,d,rv,e,fun v H1 r1=>?_⟩;obtain⟨p,xs,rfl,hp,rs⟩:=jU ei r1.rep
 rcases hp with⟨hp,rfl⟩ | ⟨hp,rfl⟩
 ·refine .inl ⟨p,rfl,⟨xs,SqL.of hp⟩,k _ _ r1.same ⟨uj hp rs (fun z=>z) jk,fun M P z hP av=>uj hp rs (xh r1 z hP av _ _ rfl rfl) (fL r1.same hP)⟩⟩
 ·exact .inr ⟨p,rfl,⟨xs,SqT.of hp⟩,k _ _ r1.same ⟨xl hp rs jk,fun M P z hP av=>xl hp rs (fL r1.same hP)⟩⟩
def mZ{x y:RL.D}{ds:List RL.D}(h:RL.cH x y=some ds):∃ i j:Int,x=.int i/\y=.int j/\(-(2 ^ 62)<=i/\i<2 ^ 62/\-(2 ^ 62)<=j/\j<2 ^ 62)/\(j-i).toNat<=RL.most/\ds=RL.cM i (j-i).toNat:=by
 have no:∀ {o:Option (List RL.D)},o=none->o=some ds->False:=fun e h=>by rw[e]at h;cases h
 cases x with
 | int i=>cases y with
  |int j=>
   obtain⟨hc,e⟩:=df h
   have lo:-(2 ^ 62:Int)<=-(2 ^ 60):=by decide
   have hi:(2 ^ 60:Int)<2 ^ 62:=by decide
   exact⟨i,j,rfl,rfl,⟨Int.le_trans lo hc.2.1,Int.lt_trans hc.2.2.1 hi,Int.le_trans lo hc.2.2.2.1,Int.lt_trans hc.2.2.2.2 hi⟩,hc.1,e⟩
  | _=>exact(no rfl h).elim
 | _=>exact(no rfl h).elim
def Cm(hg:Gl X "range")(hm:X.mg "range" = none)(ha:SE X cl a a')(hn:noStar a=true):SI X cl tg (.Call (.Name "range" p) [a] [] pos) (.rng1 a'):=by
 refine PI.weak (xS hg hm (bz (cl:=cl) ha c6 hn) (aC [] hn)) fun σ H R h=>?_;obtain⟨σD,ds,rv,e,k⟩:=h;obtain⟨x,ea,e⟩:=bind_some e;obtain⟨i,j,e1,rfl,hb,_,rfl⟩:=mZ e;cases e1;refine⟨σD,[.int j],rv,by rw[RL.evs,ea];rfl,fun vs H1 s1 r1=>?_⟩;rw[ae]at r1;obtain⟨v,t,rfl,r2,r3⟩:=r1;rw[ae]at r3;subst r3;refine⟨j,by rw[ah r2],hb.2.2.1,hb.2.2.2,?_⟩
 have hz:(j-0).toNat=j.toNat:=by simp
 rw[hz]at k;exact k _ _ s1 ⟨mY,fun _ _ _ _ _=>mY⟩
def BR(hg:Gl X "range")(hm:X.mg "range" = none)(ha:SE X cl a a')(hb:SE X cl b b')(hn:noStar a=true)(hn2:noStar b=true):SI X cl tg (.Call (.Name "range" p) [a,b] [] pos) (.rng2 a' b'):=by
 refine PI.weak (wI hg hm (bz (cl:=cl) ha (bz hb c6 hn2) hn) (by rw[aC _ hn,aC _ hn2];rfl) (aC [] hn2)) fun σ H R h=>?_;obtain⟨σD,ds,rv,e,k⟩:=h;obtain⟨x,ea,e⟩:=bind_some e;obtain⟨y,eb,e⟩:=bind_some e;obtain⟨i,j,rfl,rfl,hb,_,rfl⟩:=mZ e;refine⟨σD,[.int i,.int j],rv,by rw[RL.evs,ea,RL.evs,eb];rfl,fun vs H1 s1 r1=>?_⟩;rw[ae]at r1;obtain⟨v,t,rfl,r2,r3⟩:=r1;rw[ae]at r3;obtain⟨u,t,rfl,r4,r5⟩:=r3;rw[ae]at r5;subst r5;exact⟨i,j,by rw[ah r2,ah r4],hb,k _ _ s1 ⟨mY,fun _ _ _ _ _=>mY⟩⟩
end rules
end RS
namespace L2
open PySem PySem.Spec PyProof.Rows
abbrev hJ(ifs:List Expr)(env:Env):Sem Bool:=forIn ifs true fun c r=>if r=true then do let ok <- isTrue c env (eval c env);pure (ForInStep.yield ok)else pure (ForInStep.yield r)
section
variable{M:Model}{A:Around}{Q:Fin->Shared->Prop}{E:Value->Shared->Prop}{s:Shared}
def Fw{α:Type}{m:Sem α}{P:α->Shared->Prop}{E:Value->Shared->Prop}{s:Shared}(h:wpAny M A m P (fun _ _=>False) s):wpAny M A m P E s :=
 wpAny_mono h (fun _ _ q=>q) fun _ _ z=>z.elim
def dw{α β:Type}{m:Sem α}{k:α->Sem β}{P:β->Shared->Prop}{E:Value->Shared->Prop}{s:Shared}(h:wpAny M A m (fun a s1=>wpAny M A (k a) P E s1) (fun _ _=>False) s):wpAny M A (m >>= k) P E s:=wpAny_bind (Fw h)
end
section
variable{prog:Program}{w:World}{A:Around}{elt tg iter:Expr}{ifs:List Expr}{scope:Scope}{pos:Pos}{it acc:Value}{env:Env}
abbrev pC(prog:Program)(w:World)(A:Around)(elt tg:Expr)(ifs:List Expr)(it acc:Value)(env:Env)(stop next:Shared->Prop)(s:Shared):Prop :=
 wpAny (model prog w) A (pyNext it) (fun r s1=>match r with
  | none=>stop s1
  | some v=>wpAny (model prog w) A (letOwnedTupleGo tg it v) (fun _ s2=>wpAny (model prog w) A (assign tg env v) (fun _ s3=>wpAny (model prog w) A (hJ ifs env) (fun ok s4 =>
     if ok=true then wpAny (model prog w) A (eval elt env) (fun x s5=>wpAny (model prog w) A (call (.builtin "list.append") [acc,x]) (fun _ s6=>next s6) (fun _ _=>False) s5) (fun _ _=>False) s4
     else next s4) (fun _ _=>False) s3) (fun _ _=>False) s2) (fun _ _=>False) s1) (fun _ _=>False) s
def zT{stop next:Shared->Prop}{E:Value->Shared->Prop}{s:Shared}(h:pC prog w A elt tg ifs it acc env stop next s) :
  wpAny (model prog w) A (compTurn (.ListComp elt [⟨tg,iter,ifs,0⟩] scope pos) 0 it acc env) (fun fin s'=>match fin with
   | .done f=>f=.next/\stop s'
   | .again c=>c=.compLoop (.ListComp elt [⟨tg,iter,ifs,0⟩] scope pos) 0 it acc env/\next s') E s:=by
 rw[compTurn_list];apply wpAny_bind;apply wpAny_standAt;apply dw;refine thn h fun r s1 h1=>?_
 cases r with
 |none=>
  apply wpAny_pure;exact⟨rfl,h1⟩
 |some v=>
  apply dw;refine thn h1 fun _ s2 h2=>?_;apply dw;refine thn h2 fun _ s3 h3=>?_;apply dw;refine thn h3 fun ok s4 h4=>?_;cases ok
  ·apply wpAny_pure;exact⟨rfl,h4⟩
  ·apply wpAny_bind;apply dw;refine thn h4 fun x s5 h5=>?_;apply dw;refine thn h5 fun _ s6 h6=>?_;apply wpAny_pure;apply wpAny_pure;exact⟨rfl,h6⟩
def vT{R:Result->Shared->Prop}{s:Shared}(I:Nat->Shared->Prop)(turn:∀ n s,I n s->pC prog w A elt tg ifs it acc env (R (.ok .next)) (fun s'=>∃ m,m<n/\I m s') s)
 (n:Nat)(h:I n s):codeAny (model prog w) A (.compLoop (.ListComp elt [⟨tg,iter,ifs,0⟩] scope pos) 0 it acc env) R s :=
 codeAny_loop (M:=model prog w) rfl I (fun n s hI=>wpAny_noted (thn (zT (turn n s hI)) fun fin s' q=>by
  cases fin with
  |done f=>
   obtain⟨rfl,q⟩:=q;exact q
  | again c=>exact q)) n h
end
def l8:∀ (names:List (Str × NameKind)) (n:Nat) (acc:List (Str × Addr)) (x:Str) (c:Addr),(cellsFrom n names acc).lookup x=some c->(acc.lookup x=some c/\(x,NameKind.cell)∉names)\/(n<=c/\(x,NameKind.cell)∈names)
 | [],n,acc,x,c,h=>.inl ⟨h,by simp⟩
 | (nm,k)::r,n,acc,x,c,h=>by
  unfold cellsFrom at h;by_cases hk:(k == NameKind.cell)=true
  ·rw[if_pos hk]at h
   have ek:k=.cell:=by simpa using hk
   subst ek
   rcases l8 r (n+1) ((nm,n)::acc) x c h with⟨a,b⟩ | ⟨a,b⟩
   ·rw[List.lookup_cons]at a
    cases hx:x == nm with
    |true=>
     rw[hx]at a;cases a
     have:x=nm:=by simpa using hx
     subst this;exact .inr ⟨Nat.le_refl _,List.mem_cons_self ..⟩
    |false=>
     rw[hx]at a;refine .inl ⟨a,fun z=>?_⟩;rcases List.mem_cons.mp z with z | z
     ·cases z;simp at hx
     ·exact b z
   ·exact .inr ⟨Nat.le_of_succ_le a,List.mem_cons_of_mem _ b⟩
  ·rw[if_neg hk]at h
   rcases l8 r n acc x c h with⟨a,b⟩ | ⟨a,b⟩
   ·refine .inl ⟨a,fun z=>?_⟩;rcases List.mem_cons.mp z with z | z
    ·cases z;exact hk (by simp)
    ·exact b z
   ·exact .inr ⟨a,List.mem_cons_of_mem _ b⟩
def oN:∀ (names:List (Str × NameKind)) (n:Nat) (acc:List (Str × Addr)) (x:Str),(x,NameKind.cell)∉names->(cellsFrom n names acc).lookup x=acc.lookup x
 | [],n,acc,x,_=>rfl
 | (nm,k)::r,n,acc,x,h=>by
  have hr:(x,NameKind.cell)∉r:=fun z=>h (List.mem_cons_of_mem _ z);unfold cellsFrom;by_cases hk:(k == NameKind.cell)=true
  ·rw[if_pos hk,oN r (n+1) _ x hr,List.lookup_cons]
   have ek:k=.cell:=by simpa using hk
   subst ek
   have:(x == nm)=false:=by
    rw[beq_eq_false_iff_ne];intro z;subst z;exact h (List.mem_cons_self ..)
   rw[this]
  ·rw[if_neg hk];exact oN r n acc x hr
def qB:∀ (names:List (Str × NameKind)) (n:Nat) (acc:List (Str × Addr)),(∀ x c,acc.lookup x=some c->c<n)->(∀ x y c,acc.lookup x=some c->acc.lookup y=some c->x=y)->∀ x y c,(cellsFrom n names acc).lookup x=some c->(cellsFrom n names acc).lookup y=some c->x=y
 | [],n,acc,_,hi,x,y,c,h1,h2=>hi x y c h1 h2
 | (nm,k)::r,n,acc,hl,hi,x,y,c,h1,h2=>by
  unfold cellsFrom at h1 h2;by_cases hk:(k == NameKind.cell)=true
  ·rw[if_pos hk]at h1 h2;refine qB r (n+1) ((nm,n)::acc) (fun x c e=>?_) (fun x y c e1 e2=>?_) x y c h1 h2
   ·rw[List.lookup_cons]at e
    cases hx:x == nm with
    | true=>rw[hx]at e;cases e;exact Nat.lt_succ_self _
    | false=>rw[hx]at e;exact Nat.lt_succ_of_lt (hl x c e)
   ·rw[List.lookup_cons]at e1 e2
    cases hx:x == nm with
    |true=>
     rw[hx]at e1;cases e1
     cases hy:y == nm with
     |true=>
      have a:x=nm:=by simpa using hx
      have b:y=nm:=by simpa using hy
      rw[a,b]
     |false=>
      rw[hy]at e2;exact absurd (hl y n e2) (Nat.lt_irrefl _)
    |false=>
     rw[hx]at e1
     cases hy:y == nm with
     |true=>
      rw[hy]at e2;cases e2;exact absurd (hl x n e1) (Nat.lt_irrefl _)
     |false=>
      rw[hy]at e2;exact hi x y c e1 e2
  ·rw[if_neg hk]at h1 h2;exact qB r n acc hl hi x y c h1 h2
def oM:∀ (names:List (Str × NameKind)) (h:Heap) (acc:List (Str × Addr)) (x:Str) (c:Addr),(cellsFrom h.objs.size names acc).lookup x=some c->acc.lookup x=some c\/(pushCells h names).IsCell c none
 | [],h,acc,x,c,e=>.inl e
 | (nm,k)::r,h,acc,x,c,e=>by
  unfold cellsFrom at e;unfold pushCells;by_cases hk:(k == NameKind.cell)=true
  ·rw[if_pos hk]at e ⊢
   have e':(cellsFrom (h.push { cls:=.type "cell",data:=.cell none }).objs.size r ((nm,h.objs.size)::acc)).lookup x=some c:=by rw[Heap.size_push];exact e
   rcases oM r (h.push { cls:=.type "cell",data:=.cell none }) ((nm,h.objs.size)::acc) x c e' with a | a
   ·rw[List.lookup_cons]at a
    cases hx:x == nm with
    |true=>
     rw[hx]at a;cases a;exact .inr ⟨_,pushCells_keeps r _ _ _ (Heap.get?_push_size _ rfl),rfl⟩
    |false=>
     rw[hx]at a;exact .inl a
   ·exact .inr a
  ·rw[if_neg hk]at e ⊢;exact oM r h acc x c e
def Bx{M:Model}{A:Around}{E:Value->Shared->Prop}{s:Shared}{scope:Scope}{globals:Addr}{closure:List (Str × Addr)}{qual:Str}{func:Option Addr}{code:Value}{outer:Env}{builtins:Addr}{Q:Env->Shared->Prop}
 (hQ:Q (newEnv scope s.heap.objs.size globals (cellsFrom (s.heap.objs.size+1) scope.names closure) qual func code (some outer) builtins) { s with heap:=pushCells (s.heap.push { cls:=.type "dict",data:=.dict #[] }) scope.names }) :
  wpAny M A (newFunctionEnv scope globals closure [] qual func code (some outer) builtins) Q E s:=by
 simp only[newFunctionEnv,Option.isSome_some,if_true];refine wpAny_bind (wpAny_alloc ?_);refine wpAny_bind (wpAny_layCells _ (fun name kind cells=>by cases hkc:kind == NameKind.cell<;>simp[hkc]) _ _ _ _ ?_);rw[show({ s with heap:=s.heap.push { cls:=.type "dict",data:=.dict #[] } }:Shared).heap.objs.size=s.heap.objs.size+1 from Heap.size_push ..];refine wpAny_bind ?_;rw[List.forIn_nil];exact wpAny_pure (wpAny_pure hQ)
abbrev blk(X:Cx)(scope:Scope)(cls:List (Str × Addr))(C:Addr)(fp:List Addr)(s:Shared)(H:Hp):Cx where
 prog:=X.prog
 w:=X.w
 K:=X.K
 mg:=X.mg
 base:=X.base
 A:=X.A
 N:=X.N
 s₀:=s
 H₀:=H
 env:=compEnvC scope cls C X.env
 outer:=X.stack
 stack:=X.stack
 ex:=fp
 fn:=fun x=>scope.names.lookup x == some .cell
 calm:=X.calm
 pn:=[]
 xe:=fun _ _=>False
structure gu(scope:Scope)(sc:Scope)(cls:List (Str × Addr))(cells:List (Str × Addr)):Prop where
 kind:scope.kind=.function
 own:∀ x∈scope.names,x.2=.cell->scope.names.lookup x.1=some .cell
 loc:∀ x∈scope.names,x.2=.local->scope.names.lookup x.1=some .local
 sub:∀ x c,cls.lookup x=some c->cells.lookup x=some c
 has:∀ x,scope.names.lookup x=some .free->∃ c,cls.lookup x=some c
 vis:∀ x,scope.names.lookup x=some .free->sc.names.lookup x=some .cell\/sc.names.lookup x=some .free
def bV{env:Env}:∀ {names:List (Str × NameKind)} {x:Str} {k:NameKind},
  (names.map fun(n,k)=>if(k == NameKind.free&&env.scope.kind == .function&&env.kindOf n == some .cell)then(n,NameKind.cell)else(n,k)).lookup x=some k ->
  names.lookup x=some k\/(k=.cell/\names.lookup x=some .free/\env.kindOf x=some .cell)
 | [],x,k,h=>by simp at h
 | (n,k')::r,x,k,h=>by
  have ih:=@bV env r x k;rw[List.map_cons]at h
  cases hx:x == n with
  |true=>
   have en:x=n:=by simpa using hx
   subst en;by_cases hc:(k' == NameKind.free&&env.scope.kind == .function&&env.kindOf x == some .cell)=true
   ·simp only[hc,if_true]at h;rw[List.lookup_cons,hx]at h;cases h;simp only[Bool.and_eq_true,beq_iff_eq]at hc;refine .inr ⟨rfl,?_,hc.2⟩;rw[List.lookup_cons,hx,hc.1.1]
   ·simp only[Bool.not_eq_true]at hc;simp only[hc,Bool.false_eq_true,if_false]at h;rw[List.lookup_cons,hx]at h;cases h;exact .inl (by rw[List.lookup_cons,hx])
  |false=>
   have h':(r.map fun(n,k)=>if(k == NameKind.free&&env.scope.kind == .function&&env.kindOf n == some .cell)then(n,NameKind.cell)else(n,k)).lookup x=some k:=by
    by_cases hc:(k' == NameKind.free&&env.scope.kind == .function&&env.kindOf n == some .cell)=true
    ·simp only[hc,if_true]at h;rw[List.lookup_cons,hx]at h;exact h
    ·simp only[Bool.not_eq_true]at hc;simp only[hc,Bool.false_eq_true,if_false]at h;rw[List.lookup_cons,hx]at h;exact h
   rcases ih h' with q | ⟨q1,q2,q3⟩
   ·exact .inl (by rw[List.lookup_cons,hx];exact q)
   ·exact .inr ⟨q1,by rw[List.lookup_cons,hx];exact q2,q3⟩
abbrev Aq(X:Cx)(scope:Scope)(σ σB:St):Prop:=σB.length=σ.length/\∀ (i:Nat) (x:Str) (v:V),X.N[i]?=some x->σB[i]?=some (some v)->σ[i]?=some (some v)/\scope.names.lookup x≠some .local/\scope.names.lookup x≠some .cell
section
variable{X:Cx}{pins:List (Addr × Obj)}{σ σB:St}{H:Hp}{s:Shared}{scope:Scope}{cls:List (Str × Addr)}{fp:List Addr}
def Inv.hxb{scope:Scope}{cls:List (Str × Addr)}{C:Addr}{fp:List Addr}(I:Inv X pins σ H s):HX (blk X scope cls C fp s H):=by
 rcases I.ok.hd.2 with z | ⟨h,o,u,vs,h1,h2,h3⟩
 ·exact .inl z
 ·exact .inr ⟨h,o,u,vs,h1,I.base.iS _ _ _ h2,h3⟩
def B8{h':Heap}{t:Nat}(I:Inv X pins σ H s)(S:gu scope X.env.scope cls X.env.cells)(hf:∀ b∈fp,jH X pins H b/\b<s.heap.objs.size)(ho:Aq X scope σ σB)
 (hns:h'.Ns s.heap.objs.size (fun _=>none))(hk:∀ b o,s.heap.get? b=some o->h'.get? b=some o)(hcl:∀ x c,(cellsFrom (s.heap.objs.size+1) scope.names cls).lookup x=some c->cls.lookup x=some c\/h'.IsCell c none) :
  Inv (blk X scope (cellsFrom (s.heap.objs.size+1) scope.names cls) s.heap.objs.size fp s H) [] σB H { s with heap:=h',toks:=t }:=by
 have hC:H s.heap.objs.size=none:=I.hok.fresh (Nat.le_refl _)
 have clt:∀ x c,cls.lookup x=some c->c<s.heap.objs.size:=fun x c e=>by
  obtain⟨v,q⟩:=I.cell x c (S.sub x c e);exact q.lt
 have cas:∀ x c,(cellsFrom (s.heap.objs.size+1) scope.names cls).lookup x=some c->(X.env.cells.lookup x=some c/\c<s.heap.objs.size)\/(s.heap.objs.size+1<=c/\scope.names.lookup x=some .cell):=fun x c e=>by
  rcases l8 _ _ _ _ _ e with⟨a,_⟩ | ⟨a,b⟩
  ·exact .inl ⟨S.sub x c a,clt x c a⟩
  ·exact .inr ⟨a,S.own _ b rfl⟩
 have fre:∀ x c,cls.lookup x=some c->scope.names.lookup x=some .free->(cellsFrom (s.heap.objs.size+1) scope.names cls).lookup x=some c:=fun x c e f=>by
  rw[oN _ _ _ _ fun z=>by rw[S.own _ z rfl]at f;cases f];exact e
 refine⟨⟨I.ok.mod,?_,I.ok.glob,I.ok.blt,Nat.le_refl _,fun x y c h1 h2=>qB _ _ _ (fun x c e=>Nat.lt_succ_of_lt (clt x c e)) (fun x y c e1 e2=>I.ok.inj x y c (S.sub x c e1) (S.sub y c e2)) x y c h1 h2,fun x hx=>?_,fun x c z e=>?_,⟨I.ok.hd.1,I.hxb⟩,I.ok.frames,.inl rfl,fun b hb=>?_,fun b o e=>I.bs b o e,Nat.le_trans I.ok.bsz I.sz,fun b o e hb=>?_,fun b hb=>?_,I.stack,I.um⟩,
  rfl,I.bare,Un.kept hk,⟨_,hns,fun i x v h1 h2 h3=>?_⟩,fun x c e=>?_,hC,fun x c e=>?_,fun p hp=>absurd hp (by simp[blk]),I.hok.kept hk,ho.1.trans I.len⟩
 ·exact S.kind
 ·have hx:(relabel scope X.env).names.lookup x=some .cell\/(relabel scope X.env).names.lookup x=some .free:=hx
  have key:scope.names.lookup x=some .cell\/scope.names.lookup x=some .free:=by
   rcases hx with hx | hx
   ·rcases bV hx with q | ⟨_,q,_⟩
    ·exact .inl q
    ·exact .inr q
   ·rcases bV hx with q | ⟨q,_⟩
    ·exact .inr q
    ·cases q
  rcases key with q | q
  ·have:=PySem.W.cellsFrom_some scope.names (s.heap.objs.size+1) cls (.inl q);exact Option.isSome_iff_exists.mp this
  ·obtain⟨c,hc⟩:=S.has x q;exact⟨c,fre x c hc q⟩
 ·have z:(scope.names.lookup x == some .cell)=true:=z
  rcases l8 _ _ _ _ _ (show(cellsFrom (s.heap.objs.size+1) scope.names cls).lookup x=some c from e)with⟨_,b⟩ | ⟨b,_⟩
  ·exact absurd (PySem.mem_of_lookup (by simpa using z)) b
  ·exact Nat.le_of_succ_le b
 ·obtain⟨⟨f0,f1,f2,f3,f4,f5⟩,f6⟩:=hf b hb;refine⟨Nat.ne_of_lt f6,fun x c e=>?_⟩
  rcases cas x c e with⟨a,_⟩ | ⟨a,_⟩
  ·exact f4 x c a
  ·exact Nat.ne_of_gt (Nat.lt_trans f6 a)
 ·obtain⟨⟨f0,f1,f2,f3,f4,f5⟩,f6⟩:=hf b hb;rcases f3 with z | z
  ·exact I.ok.qS b o e z
  ·exact absurd (Nat.lt_of_lt_of_le (Heap.lt_size e) I.ok.bsz) (Nat.not_lt.mpr z)
 ·obtain⟨⟨f0,f1,f2,f3,f4,f5⟩,f6⟩:=hf b hb;intro z;rcases List.mem_cons.mp (I.qr b z)with e | e
  ·exact f1 e
  ·exact f2 e
 ·obtain⟨h4,h5,h6⟩:=ho.2 i x v h1 h2;have h3:(relabel scope X.env).names.lookup x=some .local\/(relabel scope X.env).names.lookup x=some .cell\/(relabel scope X.env).names.lookup x=some .free:=h3
  have key:scope.names.lookup x=some .free:=by
   rcases h3 with z | z | z
   ·rcases bV z with q | ⟨q,_⟩
    ·exact absurd q h5
    ·cases q
   ·rcases bV z with q | ⟨_,q,_⟩
    ·exact absurd q h6
    ·exact q
   ·rcases bV z with q | ⟨q,_⟩
    ·exact q
    ·cases q
  obtain⟨c,hc⟩:=S.has x key;have hcx:=S.sub x c hc;obtain⟨m,hn,hl⟩:=I.loc;have hv:Vis X.env.scope x:=.inr (S.vis x key);obtain⟨u,ru,lk⟩:=hl i x v h1 h4 hv;refine⟨u,ru,.inr ⟨?_,c,fre x c hc key,?_⟩⟩
  ·rcases h3 with z | z
   ·rcases bV z with q | ⟨q,_⟩
    ·exact absurd q h5
    ·cases q
   ·exact z
  ·rcases lk with⟨z,_⟩ | ⟨_,c',e',q⟩
   ·have z:X.env.scope.names.lookup x=some .local:=z;rcases S.vis x key with z' | z'<;>(rw[z]at z';cases z')
   ·rw[hcx]at e';cases e';obtain⟨o,g1,g2⟩:=q;exact⟨o,hk _ _ g1,g2⟩
 ·rcases hcl x c e with a | a
  ·obtain⟨v,q⟩:=I.cell x c (S.sub x c a);obtain⟨o,h1,h2⟩:=q;exact⟨v,o,hk _ _ h1,h2⟩
  ·exact⟨none,a⟩
 ·rcases cas x c e with⟨a,_⟩ | ⟨a,_⟩
  ·exact I.fF x c a
  ·exact I.hok.fresh (Nat.le_of_succ_le a)
abbrev gg(wi:TI)(clr:St->St)(g:TG)(tc:TT)(te:TE):TE:=fun σ H Q=>wi σ H fun J H1=>∀ l,H1 l=none->∃ W:Nat->Nat->List V->Hp->Prop,(∃ m,W 0 m [] (upd H1 l (.lst []))) /\
 ∀ i m ys H2,W i m ys H2->H2 l=some (.lst ys)/\((J.stop i H2/\Q (.ref l) H2)\/(J.go i H2/\∀ x H3,J.yld i H2 x H3->g x (clr σ) H3 fun σ4 H4=>tc σ4 H4 fun k H5 =>
  if k=true then te σ4 H5 fun y H6=>H6 l=some (.lst ys)/\ys.length<sizeLine/\∃ m',m'<m/\W (i+1) m' (ys++[y]) (upd H6 l (.lst (ys++[y])))else ∃ m',m'<m/\W (i+1) m' ys H5))
structure pW(X:Cx)(scope:Scope)(tg:Expr)(ifs:List Expr)(elt:Expr)(clr:St->St)(g:TG)(tc:TT)(te:TE):Prop where
 htg:∀ cls C fp s H,PG (blk X scope cls C fp s H) tg g
 htc:∀ cls C fp s H pins s' σ H' Q,Inv (blk X scope cls C fp s H) pins σ H' s'->tc σ H' Q->wpAny (model X.prog X.w) X.A (hJ ifs (compEnvC scope cls C X.env)) (TP (blk X scope cls C fp s H) pins σ Q) (fun _ _=>False) s'
 hte:∀ cls C fp s H,PE (blk X scope cls C fp s H) elt te
 Ex:∀ σ:St,σ.length=X.N.length->Aq X scope σ (clr σ)
 A3:∀ (x:V) (σ:St) (H:Hp) (Q:St->Hp->Prop),g x (clr σ) H Q->g x (clr σ) H fun σ2 H2=>Q σ2 H2/\(clr σ).length=σ2.length/\∀ (i:Nat) v,(clr σ)[i]?=some (some v)->σ2[i]?=some (some v)
def pF{elt tg iter:Expr}{ifs:List Expr}{pos:Pos}{wi:TI}{clr:St->St}{g:TG}{tc:TT}{te:TE}{Q:VK}{RR:Value->Addr->Result->Shared->Prop}{CM:Cx->Prop}(hc:∀ {pins:List (Addr × Obj)} {σ:St} {H:Hp} {s:Shared} (cls:List (Str × Addr)) (C:Addr) (fp:List Addr),Inv X pins σ H s->CM (blk X scope cls C fp s H))(S:gu scope X.env.scope cls X.env.cells)
 (hi:PI' CM X tg iter wi)(B:pW X scope tg ifs elt clr g tc te)(I:Inv X pins σ H s)(h:gg wi clr g tc te σ H Q)
 (hRR:∀ l C H' s',Inv X pins σ H' s'->(∃ m,s'.heap.Ns C m)->H' C=none->C≠X.env.locals->X.s₀.heap.objs.size<=C->(∀ x c,X.env.cells.lookup x=some c->c≠C)->(∀ p∈X.pn++pins,p.1≠C)->Q (.ref l) H'->RR (.ref l) C (.ok .next) s') :
  wpAny (model X.prog X.w) X.A (eval iter X.env) (fun x s1=>wpAny (model X.prog X.w) X.A (pyIter x) (fun it s2=>wpAny (model X.prog X.w) X.A (newList []) (fun acc s3 =>
   wpAny (model X.prog X.w) X.A (newFunctionEnv scope X.env.globals cls [] X.env.qual none .none (some X.env)) (fun cenv s4 =>
    codeAny (model X.prog X.w) X.A (.compStart (.ListComp elt [⟨tg,iter,ifs,0⟩] scope pos) 0 it acc { cenv with scope:=relabel scope X.env }) (RR acc cenv.locals) s4) X.xe s3) X.xe s2) X.xe s1) X.xe s:=by
 refine thn (hi pins s σ H _ I h) fun x s1 h1=>thn h1 fun itv s2 h2=>?_;obtain⟨it,fp,tn,J,H2,e,I2,T,st2,f2,h3⟩:=h2;subst e
 have flt:∀ b∈fp,b<s2.heap.objs.size:=fun b hb=>by
  obtain⟨o,e,_⟩:=T.obj _ _ st2 b hb;exact Heap.lt_size e
 refine wpAny_newObj_type ?_
 have I3:Inv X pins σ (upd H2 s2.heap.objs.size (.lst [])) { s2 with heap:=s2.heap.push { cls:=.type "list",dict:=none,data:=.seq ([]:List Value).toArray } } :=
  I2.laid (t':=s2.toks) (fun b u e=>Heap.get?_push_of_some _ e) (Nat.le_refl _) ⟨Nat.zero_le _,[],0,.nil,Heap.get?_push_size _ rfl⟩
 have hl2:H2 s2.heap.objs.size=none:=I2.hok.fresh (Nat.le_refl _);obtain⟨W,⟨m0,w0⟩,turn⟩:=h3 s2.heap.objs.size hl2
 have f3:∀ b∈fp,jH X pins (upd H2 s2.heap.objs.size (.lst [])) b/\b<(s2.heap.push { cls:=.type "list",dict:=none,data:=.seq ([]:List Value).toArray }).objs.size:=fun b hb=>by
  obtain⟨z0,z⟩:=f2 b hb;refine⟨⟨?_,z⟩,?_⟩
  ·rw[aV (Nat.ne_of_lt (flt b hb))];exact z0
  ·rw[Heap.size_push];exact Nat.lt_succ_of_lt (flt b hb)
 generalize hs3:({ s2 with heap:=s2.heap.push { cls:=.type "list",dict:=none,data:=.seq ([]:List Value).toArray } }:Shared)=s3 at I3
 have hs3h:s3.heap=s2.heap.push { cls:=.type "list",dict:=none,data:=.seq ([]:List Value).toArray }:=by rw[<-hs3]
 rw[<-hs3h]at f3
 have st3:tn 0 s3.heap:=T.keep _ _ _ st2 fun b hb o e=>by rw[hs3h];exact Heap.get?_push_of_some _ e
 refine Bx ?_;have k4:∀ b o,s3.heap.get? b=some o->(pushCells (s3.heap.push { cls:=.type "dict",data:=.dict #[] }) scope.names).get? b=some o:=fun b o e=>pushCells_keeps _ _ b o (Heap.get?_push_of_some _ e);have hns4:(pushCells (s3.heap.push { cls:=.type "dict",data:=.dict #[] }) scope.names).Ns s3.heap.objs.size (fun _=>none):=(Heap.Ns.new s3.heap (.type "dict")).keeps (pushCells_keeps _ _);have hcl4:∀ x c,(cellsFrom (s3.heap.objs.size+1) scope.names cls).lookup x=some c->cls.lookup x=some c\/(pushCells (s3.heap.push { cls:=.type "dict",data:=.dict #[] }) scope.names).IsCell c none:=fun x c e=>oM scope.names (s3.heap.push { cls:=.type "dict",data:=.dict #[] }) cls x c (by rw[Heap.size_push];exact e);generalize pushCells (s3.heap.push { cls:=.type "dict",data:=.dict #[] }) scope.names=h4 at k4 hns4 hcl4
 have I4:Inv (blk X scope (cellsFrom (s3.heap.objs.size+1) scope.names cls) s3.heap.objs.size fp s3 (upd H2 s2.heap.objs.size (.lst []))) [] (clr σ) (upd H2 s2.heap.objs.size (.lst [])) { s3 with heap:=h4 } :=
  B8 (t:=s3.toks) I3 S f3 (B.Ex σ I.len) hns4 k4 hcl4
 generalize hs4:({ s3 with heap:=h4 }:Shared)=s4 at I4
 have hs4h:s4.heap=h4:=by rw[<-hs4]
 generalize hH3:upd H2 s2.heap.objs.size (.lst [])=H3 at I3 I4 w0
 have st4:tn 0 s4.heap:=T.keep _ _ _ st3 fun b hb o e=>by rw[hs4h];exact k4 b o e
 have fn4:∀ b∈fp,H3 b=none:=fun b hb=>by rw[<-hH3];exact(f3 b hb).1.1
 have stat:∀ {H':Hp} {σ':St} {s':Shared},Inv (blk X scope (cellsFrom (s3.heap.objs.size+1) scope.names cls) s3.heap.objs.size fp s3 H3) [] σ' H' s'->(∀ b∈fp,H' b=none)->∀ b∈fp,jH (blk X scope (cellsFrom (s3.heap.objs.size+1) scope.names cls) s3.heap.objs.size fp s3 H3) [] H' b :=
  fun {H' σ' s'} J hn b hb=>⟨hn b hb,(J.ok.exf b hb).1,J.ok.sr b hb,.inl hb,(J.ok.exf b hb).2,fun p hp=>absurd hp (by simp[blk])⟩
 have fin:∀ {H':Hp} {s':Shared},Inv (blk X scope (cellsFrom (s3.heap.objs.size+1) scope.names cls) s3.heap.objs.size fp s3 H3) [] (clr σ) H' s'->Q (.ref s2.heap.objs.size) H'->RR (.ref s2.heap.objs.size) s3.heap.objs.size (.ok .next) s':=fun {H' s'} J q=>by
  obtain⟨m,hn,_⟩:=J.loc
  have J1:Inv X pins σ H' s':=I3.AD (s':=s') (ch:=fp) (J.os.trans rfl) J.base J.hok J.bare fun b hb=>by
   obtain⟨⟨g0,g1,g2,g3,g4,g5⟩,_⟩:=f3 b hb;exact⟨g3,g1,g4,g5⟩
  refine hRR _ _ H' s' J1 ⟨m,hn⟩ J.free (Nat.ne_of_gt I3.lt) I3.sz (fun x c e=>?_) (fun p hp=>?_) q
  ·obtain⟨v,z⟩:=I3.cell x c e;exact Nat.ne_of_lt z.lt
  ·exact Nat.ne_of_lt (Heap.lt_size (I3.pin p hp).1)
 have loop:codeAny (model X.prog X.w) X.A (.compLoop (.ListComp elt [⟨tg,iter,ifs,0⟩] scope pos) 0 (.ref it) (.ref s2.heap.objs.size) (compEnvC scope (cellsFrom (s3.heap.objs.size+1) scope.names cls) s3.heap.objs.size X.env))
   (RR (.ref s2.heap.objs.size) s3.heap.objs.size) s4:=by
  refine vT (fun n s'=>∃ i ys H',Inv (blk X scope (cellsFrom (s3.heap.objs.size+1) scope.names cls) s3.heap.objs.size fp s3 H3) [] (clr σ) H' s'/\tn i s'.heap/\(∀ b∈fp,H' b=none)/\W i n ys H') ?_ m0 ⟨0,[],H3,I4,st4,fn4,w0⟩;rintro n s5 ⟨i,ys,H5,I5,st5,fr5,w5⟩;obtain⟨hl5,tr⟩:=turn i n ys H5 w5
  rcases tr with⟨stop,qn⟩ | ⟨go,step⟩
  ·refine thn (T.done (blk X scope (cellsFrom (s3.heap.objs.size+1) scope.names cls) s3.heap.objs.size fp s3 H3) rfl rfl rfl (hc _ _ _ I3) i [] s5 (clr σ) H5 (fun _ _=>False) I5 (stat I5 fr5) st5 stop) fun r s6 ⟨hr,I6⟩=>?_;subst hr;exact fin I6 qn
  ·refine thn (T.item (blk X scope (cellsFrom (s3.heap.objs.size+1) scope.names cls) s3.heap.objs.size fp s3 H3) rfl rfl rfl (hc _ _ _ I3) i [] s5 (clr σ) H5 (fun _ _=>False) I5 (stat I5 fr5) st5 go) fun r s6 ⟨u,hr,h6⟩=>?_;subst hr;refine thn h6 fun _ s7 ⟨x,H7,I7,r7,y7,st7,fr7⟩=>?_;have I7':=I7.pinned (stat I7 fr7) (T.obj _ _ st7)
   have back:∀ {σ':St} {H':Hp} {s':Shared},Inv (blk X scope (cellsFrom (s3.heap.objs.size+1) scope.names cls) s3.heap.objs.size fp s3 H3) ([]++k8 fp s7.heap) σ' H' s'->(clr σ).length=σ'.length->(∀ (i:Nat) v,(clr σ)[i]?=some (some v)->σ'[i]?=some (some v))->(∃ m ys',m<n/\W (i+1) m ys' H') ->
     ∃ m,m<n/\∃ i ys H',Inv (blk X scope (cellsFrom (s3.heap.objs.size+1) scope.names cls) s3.heap.objs.size fp s3 H3) [] (clr σ) H' s'/\tn i s'.heap/\(∀ b∈fp,H' b=none)/\W i m ys H':=fun {σ' H' s'} J el ew hw=>by
    obtain⟨m,ys',hm,w8⟩:=hw;refine⟨m,hm,i+1,ys',H',J.jF.weak el ew,T.keep _ _ _ st7 fun b hb o e=>(J.pin (b,o) (List.mem_append_right _ (List.mem_append_right _ (gG hb e)))).1,fun b hb=>?_,w8⟩;obtain⟨o,e,d⟩:=T.obj _ _ st7 b hb;exact(J.pin (b,o) (List.mem_append_right _ (List.mem_append_right _ (gG hb e)))).2.1
   refine thn (B.htg _ s3.heap.objs.size fp s3 H3 _ s7 (clr σ) H7 x u _ I7' r7 (B.A3 x σ H7 _ (step x H7 y7))) fun _ s8 ⟨σ8,H8,I8,q8,el8,ew8⟩=>?_;refine thn (B.htc _ s3.heap.objs.size fp s3 H3 _ s8 σ8 H8 _ I8 q8) fun ok s9 ⟨H9,I9,q9⟩=>?_
   cases ok with
   |false=>
    have q9:∃ m',m'<n/\W (i+1) m' ys H9:=q9;obtain⟨m',hm,w9⟩:=q9;exact back I9 el8 ew8 ⟨m',ys,hm,w9⟩
   |true=>
    refine thn (B.hte _ s3.heap.objs.size fp s3 H3 _ s9 σ8 H9 _ I9 q9) fun v s10 ⟨y,H10,I10,r10,hl10,hz,m',hm,w10⟩=>?_;refine thn (pD (X:=blk X scope (cellsFrom (s3.heap.objs.size+1) scope.names cls) s3.heap.objs.size fp s3 H3) _ s10 σ8 H10 (.ref s2.heap.objs.size) [y] (.ref s2.heap.objs.size) [v] (fun _ H'=>H'=upd H10 s2.heap.objs.size (.lst (ys++[y]))) I10 rfl (.cons r10 .nil) ⟨_,ys,y,rfl,rfl,hl10,hz,rfl⟩) fun _ s11 ⟨_,H11,I11,_,e11⟩=>?_;subst e11;exact back I11 el8 ew8 ⟨m',_,hm,w10⟩
 exact codeAny_compStart_list loop (T.self _ 0 _ _ _ st4 loop)
def oF{elt tg iter:Expr}{ifs:List Expr}{pos:Pos}{wi:TI}{clr:St->St}{g:TG}{tc:TT}{te:TE}{CM:Cx->Prop}(hc:∀ {pins:List (Addr × Obj)} {σ:St} {H:Hp} {s:Shared} (cls:List (Str × Addr)) (C:Addr) (fp:List Addr),Inv X pins σ H s->CM (blk X scope cls C fp s H))(S:gu scope X.env.scope cls X.env.cells)(hclos:closureFor scope X.env=pure cls)
 (hi:PI' CM X tg iter wi)(B:pW X scope tg ifs elt clr g tc te)(hs:∀ x,foldedSetIterable iter X.env x=pure x):PE X (.ListComp elt [⟨tg,iter,ifs,0⟩] scope pos) (gg wi clr g tc te):=by
 intro pins s σ H Q I h;rw[eval_ListComp];refine wpAny_comprehension_free (use:=none) rfl hs hclos S.kind S.loc (pF (RR:=fun acc C=>compPost (model X.prog X.w) X.A X.xe none (EP X pins σ Q) acc C) hc S hi B I h ?_);intro l C H' s' J hn c0 c1 c2 c3 c4 q;obtain⟨m,hn⟩:=hn;exact⟨m,hn,fun h' sb=>⟨.ref l,H',J.turned (it:=C) (h':=h') (t':=s'.toks) (fun b o hb e=>(sb.2 b hb).trans e) c0 (Ne.symm (Ne.symm c1)) (.inr c2) c3 c4,rfl,q⟩⟩
abbrev Gf(i:Nat)(t:TE):TS:=fun D σ H=>t σ H fun v H1=>D.nx (σ.set i (some v)) H1
def oq{elt tg iter:Expr}{ifs:List Expr}{pos spos py:Pos}{y:Str}{i:Nat}{wi:TI}{clr:St->St}{g:TG}{tc:TT}{te:TE}(hc:X.calm=true)(hN:X.N.Nodup)(hiy:X.N[i]?=some y)(hy:X.env.scope.names.lookup y=some .local)
 (S:gu scope X.env.scope cls X.env.cells)(hclos:closureFor scope X.env=pure cls)
 (hi:PI X tg iter wi)(B:pW X scope tg ifs elt clr g tc te)(hs:∀ x,foldedSetIterable iter X.env x=pure x)
 (hsw:swapsWith (.ListComp elt [⟨tg,iter,ifs,0⟩] scope pos) (some (.Name y py)) spos.line X.env=pure true) :
  PS X (.Assign [.Name y py] (.ListComp elt [⟨tg,iter,ifs,0⟩] scope pos) spos) (Gf i (gg wi clr g tc te)):=by
 intro pins s σ H D I h
 have back:∀ (l C:Addr) (H':Hp) (s':Shared),Inv X pins σ H' s'->(∃ m,s'.heap.Ns C m)->H' C=none->C≠X.env.locals->X.s₀.heap.objs.size<=C->(∀ x c,X.env.cells.lookup x=some c->c≠C)->(∀ p∈X.pn++pins,p.1≠C)->D.nx (σ.set i (some (.ref l))) H' ->
   compPost (model X.prog X.w) X.A X.xe (some (assign (.Name y py) X.env)) (fun _ s'=>SP X pins D .next s') (.ref l) C (.ok .next) s':=by
  intro l C H' s' J hn c0 c1 c2 c3 c4 q;obtain⟨m,hn⟩:=hn;show wpAny _ X.A (assign (.Name y py) X.env (.ref l)) _ _ s';refine wpAny_assign_Name (pb (v:=.ref l) J hN hiy (.inl hy) rfl (fun s2 J2 ⟨a,sb,ha⟩=>?_) (.inr hy))
  have hne:C≠a:=by
   rcases ha with z | z
   ·rw[z];exact c1
   ·exact(c3 _ _ z).symm
  exact⟨m,hn.sameBut sb hne,fun h' sb'=>⟨σ.set i (some (.ref l)),H',J2.turned (it:=C) (h':=h') (t':=s2.toks) (fun b o hb e=>(sb'.2 b hb).trans e) c0 c1 (.inr c2) c3 c4,q⟩⟩
 have core:=pF (RR:=fun acc C=>compPost (model X.prog X.w) X.A X.xe (some (assign (.Name y py) X.env)) (fun _ s'=>SP X pins D .next s') acc C) (pos:=pos) (fun _ _ _ _=>hc) S hi B I h back;have whole:=wpAny_comprehension_free (e:=.ListComp elt [⟨tg,iter,ifs,0⟩] scope pos) (newAcc:=newList []) (use:=some (assign (.Name y py) X.env)) (Q:=fun _ s'=>SP X pins D .next s') (pos:=iter.pos) rfl hs hclos S.kind S.loc core;rw[exec_Assign_Name_used (hs:=hsw)];apply wpAny_bind;apply wpAny_standAt;apply wpAny_bind;apply wpAny_bind;refine thn whole fun _ s' hq=>?_;apply wpAny_pure;apply wpAny_pure;exact hq
end
end L2
namespace RS
open PySem PySem.Spec PyProof.Rows L2
def jN{env:Env}:∀ (names:List (Str × NameKind)) (acc:List (Str × Addr)),(∀ x,(x,NameKind.free)∈names->∃ c,env.cells.lookup x=some c)->(∀ x c,acc.lookup x=some c->env.cells.lookup x=some c) ->
  ∃ cls,(forIn names acc fun(p:Str × NameKind) cs=>match p with | (name,kind)=>if(kind == NameKind.free)=true then do let c <- cellOf env name;pure (ForInStep.yield ((name,c)::cs))else pure (ForInStep.yield cs):Sem (List (Str × Addr)))=pure cls /\
   (∀ x c,cls.lookup x=some c->env.cells.lookup x=some c)/\(∀ x,(acc.lookup x).isSome=true\/(x,NameKind.free)∈names->∃ c,cls.lookup x=some c)
 | [],acc,_,ha=>⟨acc,rfl,ha,fun x hx=>by
   rcases hx with h | h
   ·exact Option.isSome_iff_exists.mp h
   ·simp at h⟩
 | (n,k)::r,acc,hn,ha=>by
  by_cases hk:k=.free
  ·subst hk;obtain⟨c,hc⟩:=hn n List.mem_cons_self
   have ha':∀ x c',((n,c)::acc).lookup x=some c'->env.cells.lookup x=some c':=fun x c' e=>by
    rw[List.lookup_cons]at e
    cases hx:x == n with
    |true=>
     rw[hx]at e;cases e;rw[show x=n by simpa using hx];exact hc
    |false=>
     rw[hx]at e;exact ha x c' e
   obtain⟨cls,h1,h2,h3⟩:=jN r ((n,c)::acc) (fun x hx=>hn x (List.mem_cons_of_mem _ hx)) ha';refine⟨cls,?_,h2,fun x hx=>h3 x ?_⟩
   ·rw[List.forIn_cons]
    have hcell:cellOf env n=pure c:=by unfold cellOf;rw[hc]
    simp only[beq_self_eq_true,if_true,hcell];exact h1
   ·rcases hx with h | h
    ·left;rw[List.lookup_cons];split<;>simp_all
    ·rcases List.mem_cons.mp h with e | e
     ·cases e;left;simp[List.lookup_cons]
     ·exact .inr e
  ·obtain⟨cls,h1,h2,h3⟩:=jN r acc (fun x hx=>hn x (List.mem_cons_of_mem _ hx)) ha;refine⟨cls,?_,h2,fun x hx=>h3 x ?_⟩
   ·rw[List.forIn_cons]
    have:(k == NameKind.free)=false:=by simpa using hk
    simp only[this,Bool.false_eq_true,if_false];exact h1
   ·rcases hx with h | h
    ·exact .inl h
    ·rcases List.mem_cons.mp h with e | e
     ·cases e;exact absurd rfl hk
     ·exact .inr e
def uB{env:Env}{scope:Scope}(h:∀ x,(x,NameKind.free)∈scope.names->∃ c,env.cells.lookup x=some c) :
  ∃ cls,closureFor scope env=pure cls/\(∀ x c,cls.lookup x=some c->env.cells.lookup x=some c)/\(∀ x,scope.names.lookup x=some .free->∃ c,cls.lookup x=some c):=by
 obtain⟨cls,h1,h2,h3⟩:=jN (env:=env) scope.names [] h (fun x c e=>by simp at e);refine⟨cls,?_,h2,fun x hx=>h3 x (.inr (PySem.mem_of_lookup hx))⟩;unfold closureFor;simp only[bind_pure_comp]at h1 ⊢;rw[h1];rfl
section
variable{X:Cx}{pos:Pos}
abbrev nZ(K:PySem.W.Frag)(n:Nat)(t:TGs):TG:=fun v σ H Q=>∃ a xs,v=.ref a/\SqL K H a xs/\xs.length=n/\t xs σ H Q
def vO{es:List Expr}{k:Nat}{t:TGs}{n:Nat}(hc:X.calm=true)(h:PGs X es t)(hn:(assignEach es X.env).length=n)(hst:(assignEach es X.env).findIdx? (·.1)=none):PG X (.Tuple es k pos) (nZ X.K n t):=by
 intro pins s σ H v u Q I r hw;obtain⟨a,xs,e1,hq,hl,hw⟩:=hw;subst e1;cases r;obtain⟨its,rv,ht,hz⟩:=I.list hq
 have hsz:(assignEach es X.env).length=its.toArray.size:=by rw[hn,<-hl,rv.length,List.size_toArray]
 rw[PyProof.Rows.assign_Tuple];refine wpAny_bind (wpAny_standAt ?_);unfold unpack;rw[hsz,hst];refine wpAny_bind (wpAny_holding (PySem.W.kun_itemsOf (I.ok.hd.1 hc) ht.isList fun h' hx=>?_));have I1:Inv X pins σ H { s with heap:=h' }:=I.kept (t':=s.toks) fun b o e=>hx b o (Nat.ne_of_lt (Heap.lt_size e)) e;exact h pins _ σ H xs _ Q I1 (by simpa using rv) hw
end
section
variable{X:Cx}
def xk{tgE:Expr}{t t':TG}(h:PG X tgE t)(h':PG X tgE t'):PG X tgE (fun v σ H Q=>t v σ H Q\/t' v σ H Q):=by
 intro pins s σ H v u Q I r hw;rcases hw with q | q
 ·exact h pins s σ H v u Q I r q
 ·exact h' pins s σ H v u Q I r q
end
abbrev gs:List Nat->TGs
 | []=>Ez
 | i::r=>Ai (mQ i) (gs r)
abbrev gT(K:PySem.W.Frag):List Nat->TG
 | [i]=>mQ i
 | is=>fun v σ H Q=>nJ K is.length (gs is) v σ H Q\/nZ K is.length (gs is) v σ H Q
abbrev cU:List Nat->List V->L2.St->L2.St
 | i::is,v::vs,σ=>cU is vs (σ.set i (some v))
 | _,_,σ=>σ
abbrev eK:List Nat->List RL.D->RL.St->RL.St
 | i::is,d::ds,σ=>eK is ds (σ.set i (some d))
 | _,_,σ=>σ
def gw:∀ {is:List Nat} {ds:List RL.D} {σ σ1:RL.St},RL.bo is ds σ=some σ1->is.length=ds.length/\σ1=eK is ds σ
 | [],[],σ,σ1,h=>by cases h;exact⟨rfl,rfl⟩
 | [],d::ds,σ,σ1,h=>by cases h
 | i::is,[],σ,σ1,h=>by cases h
 | i::is,d::ds,σ,σ1,h=>by
  obtain⟨h1,h2⟩:=gw (is:=is) (ds:=ds) (σ:=σ.set i (some d)) h;exact⟨by simp[h1],h2⟩
def jP:∀ {is:List Nat} {vs:List V} {σ:L2.St} {H:Hp} {Q:L2.St->Hp->Prop},is.length=vs.length->Q (cU is vs σ) H->gs is vs σ H Q
 | [],[],σ,H,Q,_,q=>⟨rfl,q⟩
 | [],_::_,_,_,_,h,_=>by simp at h
 | _::_,[],_,_,_,h,_=>by simp at h
 | i::is,v::vs,σ,H,Q,h,q=>⟨v,vs,rfl,jP (is:=is) (by simpa using h) q⟩
def v5{K:PySem.W.Frag}{tg:List Nat}{d:RL.D}{v:V}{σD σD1:RL.St}{H:Hp}(h:RL.a8 tg d σD=some σD1)(r:Rep nP K H d v) :
  ∃ ds vs,σD1=eK tg ds σD/\tg.length=ds.length/\ae nP K H ds vs/\(d.imm=true->RL.aq ds=true)/\∀ (σ:L2.St) (Q:L2.St->Hp->Prop),Q (cU tg vs σ) H->gT K tg v σ H Q:=by
 unfold RL.a8 at h;split at h
 ·rename_i i;cases h;exact⟨[d],[v],rfl,rfl,ae.cons r ae.nil,fun z=>by simp[RL.aq,z],fun σ Q q=>q⟩
 ·rename_i hne
  have key:gT K tg=fun v σ H Q=>nJ K tg.length (gs tg) v σ H Q\/nZ K tg.length (gs tg) v σ H Q:=by
   unfold gT;split
   ·rename_i i;exact absurd rfl (hne i)
   ·rfl
  rw[key];split at h
  ·rename_i ds;obtain⟨h1,h2⟩:=gw h;obtain⟨p,xs,rfl,e2,e3⟩:=b9 r;exact⟨ds,xs,h2,h1,e3,fun z=>by rw[RL.D.imm]at z;exact z,fun σ Q q=>.inl ⟨p,xs,rfl,SqT.of e2,by rw[<-e3.length,h1],jP (h1.trans e3.length) q⟩⟩
  ·rename_i ds;obtain⟨h1,h2⟩:=gw h;obtain⟨p,xs,rfl,_,e2,e3⟩:=aB r;exact⟨ds,xs,h2,h1,e3,fun z=>(by cases z),fun σ Q q=>.inr ⟨p,xs,rfl,SqL.of e2,by rw[<-e3.length,h1],jP (h1.trans e3.length) q⟩⟩
  ·cases h
def qw:∀ (is:List Nat) (vs:List V) (σ:L2.St),(cU is vs σ).length=σ.length
 | [],_,_=>rfl
 | _::_,[],_=>rfl
 | i::is,v::vs,σ=>by rw[cU,qw is vs,List.length_set]
def oG:∀ (is:List Nat) (vs:List V) (σ:L2.St) (j:Nat),is.contains j=false->(cU is vs σ)[j]?=σ[j]?
 | [],_,_,_,_=>rfl
 | _::_,[],_,_,_=>rfl
 | i::is,v::vs,σ,j,h=>by
  rw[List.contains_cons,Bool.or_eq_false_iff]at h;rw[cU,oG is vs _ j h.2,List.getElem?_set_ne (by intro e;subst e;simp at h)]
def lX:∀ (is:List Nat) (vs:List RL.D) (σ:RL.St),(eK is vs σ).length=σ.length
 | [],_,_=>rfl
 | _::_,[],_=>rfl
 | i::is,v::vs,σ=>by rw[eK,lX is vs,List.length_set]
def lB:∀ (is:List Nat) (vs:List RL.D) (σ:RL.St) (j:Nat),is.contains j=false->(eK is vs σ)[j]?=σ[j]?
 | [],_,_,_,_=>rfl
 | _::_,[],_,_,_=>rfl
 | i::is,v::vs,σ,j,h=>by
  rw[List.contains_cons,Bool.or_eq_false_iff]at h;rw[eK,lB is vs _ j h.2,List.getElem?_set_ne (by intro e;subst e;simp at h)]
abbrev RVx(T:List Nat)(K:PySem.W.Frag)(σD:RL.St)(σ:L2.St)(H:Hp):Prop:=σD.length<=σ.length/\∀ (i:Nat) (d:RL.D),T.contains i=false->σD[i]?=some (some d)->∃ v,σ[i]?=some (some v)/\Rep nP K H d v
def RVx.set{K:PySem.W.Frag}{σD:RL.St}{σ:L2.St}{H:Hp}{i:Nat}{T:List Nat}{d:RL.D}{v:V}(h:RVx (i::T) K σD σ H)(r:Rep nP K H d v):RVx T K (σD.set i (some d)) (σ.set i (some v)) H:=⟨by simpa using h.1,fun j dj hT e=>by
 by_cases hj:j=i
 ·subst hj
  have hlt:j<σD.length:=by
   have:=(List.getElem?_eq_some_iff.mp e).1;simpa using this
  rw[List.getElem?_set_self hlt]at e;cases e;exact⟨v,by rw[List.getElem?_set_self (Nat.lt_of_lt_of_le hlt h.1)],r⟩
 ·rw[List.getElem?_set_ne (Ne.symm hj)]at e ⊢
  exact h.2 j dj (by rw[List.contains_cons,hT,Bool.or_false];simpa using hj) e⟩
def RVx.bo{K:PySem.W.Frag}{H:Hp}:∀ {is:List Nat} {ds:List RL.D} {vs:List V} {σD:RL.St} {σ:L2.St},RVx is K σD σ H->is.length=ds.length->ae nP K H ds vs->RV0 K (eK is ds σD) (cU is vs σ) H
 | [],_,_,_,_,h,_,_=>⟨h.1,fun i d e=>h.2 i d rfl e⟩
 | i::is,[],_,_,_,_,hl,_=>by simp at hl
 | i::is,d::ds,vs,σD,σ,h,hl,r=>by
  rw[ae]at r;obtain⟨v,t,rfl,r1,r2⟩:=r;rw[eK,cU];exact RVx.bo (h.set r1) (by simpa using hl) r2
def Ff{K:PySem.W.Frag}{tg:List Nat}{v:V}{σ:L2.St}{H:Hp}{Q:L2.St->Hp->Prop}(h:gT K tg v σ H Q):∃ vs,tg.length=vs.length/\Q (cU tg vs σ) H/\∀ Q':L2.St->Hp->Prop,Q' (cU tg vs σ) H->gT K tg v σ H Q':=by
 have inv:∀ (is:List Nat) (xs:List V) (σ:L2.St) (Q:L2.St->Hp->Prop),gs is xs σ H Q->is.length=xs.length/\Q (cU is xs σ) H:=by
  intro is
  induction is with
  | nil=>intro xs σ Q h;obtain⟨rfl,q⟩:=h;exact⟨rfl,q⟩
  |cons i r ih=>
   intro xs σ Q h;obtain⟨v,t,rfl,q⟩:=h;obtain⟨h1,h2⟩:=ih t _ Q q;exact⟨by simp[h1],h2⟩
 unfold gT at h;split at h
 ·rename_i i;exact⟨[v],rfl,h,fun Q' q=>q⟩
 ·rename_i hne
  have key:gT K tg=fun v σ H Q=>nJ K tg.length (gs tg) v σ H Q\/nZ K tg.length (gs tg) v σ H Q:=by
   unfold gT;split
   ·rename_i i;exact absurd rfl (hne i)
   ·rfl
  rw[key]
  rcases h with⟨a,xs,rfl,hq,hl,hg⟩ | ⟨a,xs,rfl,hq,hl,hg⟩
  ·obtain⟨h1,h2⟩:=inv _ _ _ _ hg;exact⟨xs,h1,h2,fun Q' q=>.inl ⟨a,xs,rfl,hq,hl,jP h1 q⟩⟩
  ·obtain⟨h1,h2⟩:=inv _ _ _ _ hg;exact⟨xs,h1,h2,fun Q' q=>.inr ⟨a,xs,rfl,hq,hl,jP h1 q⟩⟩
abbrev eu(tg:List Nat)(σ:L2.St):L2.St:=σ.mapIdx fun i o=>if tg.contains i then none else o
def lZ(tg:List Nat)(σ:L2.St):(eu tg σ).length=σ.length:=by simp[eu]
def oy{tg:List Nat}{σ:L2.St}{i:Nat}(h:tg.contains i=false):(eu tg σ)[i]?=σ[i]?:=by
 unfold eu;rw[List.getElem?_mapIdx]
 cases σ[i]? with
 | none=>rfl
 | some o=>simp only[Option.map_some,h,Bool.false_eq_true,if_false]
def uo{tg:List Nat}{σ:L2.St}{i:Nat}{v:V}(h:tg.contains i=true):(eu tg σ)[i]?≠some (some v):=by
 unfold eu;rw[List.getElem?_mapIdx]
 cases σ[i]? with
 | none=>simp
 | some o=>simp only[Option.map_some,h,if_true];intro z;cases z
section comp
variable{X:Cx}{cl:RL.Cl}{tgE iter elt c:Expr}{e' c':RL.E}{it:RL.It}{tg:List Nat}{scope:Scope}{cls:List (Str × Addr)}{pos:Pos}{ifs:List Expr}
structure iL(X:Cx)(cl:RL.Cl)(scope:Scope)(tgE:Expr)(tg:List Nat)(elt:Expr)(e':RL.E)(tcs:TT)(ifs:List Expr):Prop where
 htg:∀ cls C fp s H,PG (blk X scope cls C fp s H) tgE (gT X.K tg)
 htc:∀ cls C fp s H pins s' σ H' Q,Inv (blk X scope cls C fp s H) pins σ H' s'->tcs σ H' Q->wpAny (model X.prog X.w) X.A (hJ ifs (compEnvC scope cls C X.env)) (TP (blk X scope cls C fp s H) pins σ Q) (fun _ _=>False) s'
 hte:∀ cls C fp s H,SE (blk X scope cls C fp s H) cl elt e'
 cover:∀ (i:Nat) (x:Str),X.N[i]?=some x->scope.names.lookup x=some .local\/scope.names.lookup x=some .cell->tg.contains i=true
def iL.blk{tcs:TT}(B:iL X cl scope tgE tg elt e' tcs ifs):pW X scope tgE ifs elt (eu tg) (gT X.K tg) tcs (tE X.K cl e') where
 htg:=B.htg
 htc:=B.htc
 hte:=B.hte
 Ex:=fun σ hl=>⟨lZ tg σ,fun i x v h1 h2=>by
  by_cases hc:tg.contains i=true
  ·exact absurd h2 (uo hc)
  ·simp only[Bool.not_eq_true]at hc;rw[oy hc]at h2;refine⟨h2,fun z=>?_,fun z=>?_⟩
   ·rw[B.cover i x h1 (.inl z)]at hc;cases hc
   ·rw[B.cover i x h1 (.inr z)]at hc
    cases hc⟩
 A3:=fun x σ H Q h=>by
  obtain⟨vs,h1,h2,h3⟩:=Ff h;refine h3 _ ⟨h2,(qw _ _ _).symm,fun i v e=>?_⟩;by_cases hc:tg.contains i=true
  ·exact absurd e (uo hc)
  ·simp only[Bool.not_eq_true]at hc;rw[oG _ _ _ _ hc];exact e
def xw{f:RL.St->Option (Option RL.D)}{σ:RL.St}{d:RL.D}{r ys:List RL.D}(h:RL.cq f tg σ (d::r)=some ys):∃ σ1 y ys',RL.a8 tg d σ=some σ1/\f σ1=some y/\RL.cq f tg σ r=some ys'/\RL.kJ y ys'=some ys:=by
 rw[RL.cq]at h;obtain⟨σ1,h1,h⟩:=bind_some h;obtain⟨y,h2,h⟩:=bind_some h;obtain⟨ys',h3,h⟩:=bind_some h;exact⟨σ1,y,ys',h1,h2,h3,h⟩
def t6{tcs:TT}{f:RL.St->Option (Option RL.D)}{σ:L2.St}{H:Hp}{Q:VK}{σD:RL.St}{ds total:List RL.D}(rv:RV0 X.K σD σ H)(ei:RL.aU cl σD it=some ds)(hz:ds.length<=RL.most)(hm:RL.cq f tg σD ds=some total)
 (ht:∀ σ1 σV H y (Q:Bool->Hp->Prop),RV0 X.K σ1 σV H->f σ1=some y->(∀ k H',a6 H H'->(if k=true then ∃ d,y=some d/\RL.ev cl σ1 e'=some d else y=none)->Q k H')->tcs σV H Q)
 (k:∀ l H',a6 H H'->H l=none->(∃ xs,H' l=some (.lst xs)/\ae nP X.K H' total xs)->Q (.ref l) H'):gg (tI X.K cl it) (eu tg) (gT X.K tg) tcs (tE X.K cl e') σ H Q:=by
 refine⟨σD,ds,rv,ei,fun J H1 s1 src l hl=>?_⟩;obtain⟨ok,_⟩:=src
 refine⟨fun i m xs H2=>∃ don rest,m=ds.length-i/\i<=ds.length/\a6 H1 H2/\H2 l=some (.lst xs)/\ae (fun p=>p=l) X.K H2 don xs/\RL.cq f tg σD (ds.drop i)=some rest/\don++rest=total/\don.length<=i,
  ⟨_,[],total,rfl,Nat.zero_le _,a6.c7 hl,bw,ae.nil,hm,rfl,Nat.le_refl _⟩,?_⟩
 rintro i m xs H2 ⟨don,rest,rfl,hi,s2,hl2,rs,hr,htot,hdn⟩;refine⟨hl2,?_⟩;have off:Off nP H1 H2:=Off.same s2;by_cases hlt:i<ds.length
 ·refine .inr ⟨ok.go H2 i off hlt,fun x H3 y=>?_⟩
  have hd:ds[i]?=some ds[i]:=by simp[hlt]
  obtain⟨s3,rp⟩:=ok.yld H2 i ds[i] x H3 off hd y;have rp:=rp (.inr s2);rw[List.drop_eq_getElem_cons hlt]at hr;obtain⟨σ1,y1,ys',h1,h2,h3,h4⟩:=xw hr;obtain⟨dv,vs,e1,e2,e3,_,e5⟩:=v5 h1 rp;refine e5 _ _ ?_;have rv3:RV0 X.K σD σ H3:=rv.same ((s1.trans s2).trans s3)
  have rvx:RVx tg X.K σD (eu tg σ) H3:=⟨by rw[lZ];exact rv3.1,fun j d hT e=>by rw[oy hT];exact rv3.2 j d e⟩
  have rv1:RV0 X.K σ1 (cU tg vs (eu tg σ)) H3:=by rw[e1];exact rvx.bo e2 e3
  refine ht σ1 _ H3 y1 _ rv1 h2 fun t H5 s5 hy=>?_;have hl5:H5 l=some (.lst xs):=s5 _ _ (s3 _ _ hl2);have rs5:ae (fun p=>p=l) X.K H5 don xs:=(rs.same s3).same s5
  cases t with
  |true=>
   obtain⟨d,rfl,hv⟩:=(show ∃ d,y1=some d/\RL.ev cl σ1 e'=some d from hy)
   have him:d.imm=true/\rest=d::ys':=by
    unfold RL.kJ at h4;dsimp only at h4;split at h4
    ·rename_i hh;cases h4;exact⟨hh,rfl⟩
    ·cases h4
   refine f7 ⟨σ1,d,rv1.same s5,hv,fun v H6 r6=>⟨r6.same _ _ hl5,?_,ds.length-(i+1),by lia,don++[d],ys',rfl,hlt,?_,bw,?_,h3,?_,?_⟩⟩
   ·rw[<-rs.length];exact Nat.lt_of_lt_of_le (Nat.lt_of_le_of_lt hdn (Nat.lt_of_lt_of_le hlt hz)) (Nat.le_of_lt (by decide))
   ·intro b o e;have hb:b≠l:=bc e hl;rw[aV hb];exact r6.same _ _ (s5 _ _ (s3 _ _ (s2 _ _ e)))
   ·exact ae.upd (P:=fun p=>p=l) (r6.same _ _ hl5) (.inl ⟨_,rfl⟩) rfl (ae.append (rs5.same r6.same) (ae.cons (r6.rep.imm him.1) ae.nil))
   ·rw[<-htot,him.2,List.append_assoc];rfl
   ·rw[List.length_append,List.length_singleton];lia
  |false=>
   have hy:y1=none:=hy;subst hy
   have hr2:rest=ys':=by
    unfold RL.kJ at h4;dsimp only at h4;cases h4;rfl
   refine gy ⟨ds.length-(i+1),by lia,don,ys',rfl,hlt,(s2.trans s3).trans s5,hl5,rs5,h3,by rw[<-htot,hr2],by lia⟩
 ·have e:i=ds.length:=by lia
  subst e;refine .inl ⟨ok.stop H2 off,k l H2 (s1.trans s2) (s1.free hl) ⟨xs,hl2,?_⟩⟩;rw[List.drop_length,RL.cq]at hr;cases hr;rw[List.append_nil]at htot;rw[<-htot];exact ae.weak (fun _ z=>z.elim) rs
def vC{f:RL.St->Option RL.D}{fr:Bool}{σ:RL.St}{d:RL.D}{r ys:List RL.D}(h:RL.hW f fr tg σ (d::r)=some ys):∃ σ1 y ys',RL.a8 tg d σ=some σ1/\f σ1=some y/\RL.a9 y=true/\fr=true/\RL.hW f fr tg σ r=some ys'/\ys=y::ys':=by
 rw[RL.hW]at h;obtain⟨σ1,h1,h⟩:=bind_some h;obtain⟨y,h2,h⟩:=bind_some h;by_cases c:(RL.a9 y&&fr)=true
 ·rw[if_pos c]at h;obtain⟨ys',h3,h4⟩:=map_some h;rw[Bool.and_eq_true]at c;exact⟨σ1,y,ys',h1,h2,c.1,c.2,h3,h4.symm⟩
 ·rw[if_neg c]at h;cases h
def Cp{P:Addr->Prop}{K:PySem.W.Frag}{H:Hp}{d:RL.D}{v:V}(im:RL.a9 d=true)(r:Rep nP K H d v)(h:∀ a,v=.ref a->¬ P a):Rep P K H d v:=by
 cases d with
 |lst ds=>
  obtain⟨a,xs,e1,_,e2,e3⟩:=aB r;rw[Rep];exact⟨a,xs,e1,h a e1,e2,e3.imm im⟩
 |dK ks ds=>
  rw[Rep]at r ⊢;obtain⟨a,xs,e1,_,e2,e3,e4⟩:=r;exact⟨a,xs,e1,h a e1,e2,e3,e4.imm im⟩
 |dT ks ds=>
  rw[Rep]at r ⊢;obtain⟨a,xs,e1,_,e2,e3,e4⟩:=r;exact⟨a,xs,e1,h a e1,e2,e3,e4.imm im⟩
 | _=>cases im
def zE{tcs:TT}{σ:L2.St}{H:Hp}{Q:VK}{σD:RL.St}{ds total:List RL.D}(rv:RV0 X.K σD σ H)(ei:RL.aU cl σD it=some ds)(hz:ds.length<=RL.most)(hm:RL.hW (fun σ1=>RL.ev cl σ1 e') (RL.aH e') tg σD ds=some total)
 (ht:∀ σV H (Q:Bool->Hp->Prop),Q true H->tcs σV H Q)
 (k:∀ l H',a6 H H'->H l=none->(∃ xs,H' l=some (.lst xs)/\ae (fun p=>p=l\/H p≠none) X.K H' total xs)->Q (.ref l) H'):gg (tI X.K cl it) (eu tg) (gT X.K tg) tcs (tE X.K cl e') σ H Q:=by
 refine⟨σD,ds,rv,ei,fun J H1 s1 src l hl=>?_⟩;obtain⟨ok,_⟩:=src
 refine⟨fun i m xs H2=>∃ don rest,m=ds.length-i/\i<=ds.length/\a6 H1 H2/\H2 l=some (.lst xs)/\ae (fun p=>p=l\/H p≠none) X.K H2 don xs/\RL.hW (fun σ1=>RL.ev cl σ1 e') (RL.aH e') tg σD (ds.drop i)=some rest/\don++rest=total/\don.length<=i,
  ⟨_,[],total,rfl,Nat.zero_le _,a6.c7 hl,bw,ae.nil,hm,rfl,Nat.le_refl _⟩,?_⟩
 rintro i m xs H2 ⟨don,rest,rfl,hi,s2,hl2,rs,hr,htot,hdn⟩;refine⟨hl2,?_⟩;have off:Off nP H1 H2:=Off.same s2;by_cases hlt:i<ds.length
 ·refine .inr ⟨ok.go H2 i off hlt,fun x H3 y=>?_⟩
  have hd:ds[i]?=some ds[i]:=by simp[hlt]
  obtain⟨s3,rp⟩:=ok.yld H2 i ds[i] x H3 off hd y;have rp:=rp (.inr s2);rw[List.drop_eq_getElem_cons hlt]at hr;obtain⟨σ1,d,ys',h1,hv,im,fr,h3,rfl⟩:=vC hr;obtain⟨dv,vs,e1,e2,e3,_,e5⟩:=v5 h1 rp;refine e5 _ _ ?_;have rv3:RV0 X.K σD σ H3:=rv.same ((s1.trans s2).trans s3)
  have rvx:RVx tg X.K σD (eu tg σ) H3:=⟨by rw[lZ];exact rv3.1,fun j d hT e=>by rw[oy hT];exact rv3.2 j d e⟩
  have rv1:RV0 X.K σ1 (cU tg vs (eu tg σ)) H3:=by rw[e1];exact rvx.bo e2 e3
  refine ht _ H3 _ ?_;have hl5:H3 l=some (.lst xs):=s3 _ _ hl2;refine f7 ⟨σ1,d,rv1,hv,fun v H6 r6=>⟨r6.same _ _ hl5,?_,ds.length-(i+1),by lia,don++[d],ys',rfl,hlt,?_,bw,?_,h3,?_,?_⟩⟩
  ·rw[<-rs.length];exact Nat.lt_of_lt_of_le (Nat.lt_of_le_of_lt hdn (Nat.lt_of_lt_of_le hlt hz)) (Nat.le_of_lt (by decide))
  ·intro b o e;have hb:b≠l:=bc e hl;rw[aV hb];exact r6.same _ _ (s3 _ _ (s2 _ _ e))
  ·have md:kz d=true:=by
    cases d with
    | lst _=>rfl
    | dK _ _=>rfl
    | dT _ _=>rfl
    | _=>cases im
   have apart:∀ a,v=.ref a->¬ (a=l\/H a≠none):=fun a z q=>by
    have fa:=r6.fresh fr md a z;rcases q with rfl | q
    ·rw[hl5]at fa;cases fa
    ·obtain⟨u,hu⟩:=Option.ne_none_iff_exists'.mp q;rw[s3 _ _ (s2 _ _ (s1 _ _ hu))]at fa;cases fa
   exact ae.upd (P:=fun p=>p=l\/H p≠none) (r6.same _ _ hl5) (.inl ⟨_,rfl⟩) (.inl rfl) (ae.append ((rs.same s3).same r6.same) (ae.cons (Cp im r6.rep apart) ae.nil))
  ·rw[<-htot,List.append_assoc];rfl
  ·rw[List.length_append,List.length_singleton];lia
 ·have e:i=ds.length:=by lia
  subst e;refine .inl ⟨ok.stop H2 off,k l H2 (s1.trans s2) (s1.free hl) ⟨xs,hl2,?_⟩⟩;rw[List.drop_length,RL.hW]at hr;cases hr;rw[List.append_nil]at htot;rw[<-htot];exact rs
end comp
section comp
variable{X:Cx}{cl:RL.Cl}{tgE iter elt c:Expr}{e' c':RL.E}{it:RL.It}{tg:List Nat}{scope:Scope}{pos:Pos}{ifs:List Expr}
structure km(scope sc:Scope):Prop where
 kind:scope.kind=.function
 own:∀ x∈scope.names,x.2=.cell->scope.names.lookup x.1=some .cell
 loc:∀ x∈scope.names,x.2=.local->scope.names.lookup x.1=some .local
 vis:∀ x∈scope.names,x.2=.free->sc.names.lookup x.1=some .cell\/sc.names.lookup x.1=some .free
def dX{pins:List (Addr × Obj)}{σ:L2.St}{H:Hp}{s:Shared}(S:km scope X.env.scope)(I:Inv X pins σ H s):∃ cls,closureFor scope X.env=pure cls/\gu scope X.env.scope cls X.env.cells:=by
 obtain⟨cls,h1,h2,h3⟩:=uB (env:=X.env) (scope:=scope) fun x hx=>I.ok.has x (S.vis _ hx rfl);exact⟨cls,h1,S.kind,S.own,S.loc,h2,h3,fun x hx=>S.vis _ (PySem.mem_of_lookup hx) rfl⟩
def qA{σD:RL.St}{σ:L2.St}{H H':Hp}{e:RL.E}{l:Addr}{total:List RL.D}(sm:a6 H H')(hl:H l=none)(h:∃ xs,H' l=some (.lst xs)/\ae nP X.K H' total xs)(hav:∀ M,RL.avE M e=false):Res X.K σD σ H e (.lst total) (.ref l) H' where
 same:=sm
 rep:=by
  obtain⟨xs,h1,h2⟩:=h;rw[Rep];exact⟨l,xs,rfl,fun z=>z,h1,h2⟩
 fresh:=fun _ _ a z=>by cases z;exact hl
 av:=fun M z=>by rw[hav M]at z;cases z
abbrev hU:TT:=fun _ H Q=>Q true H
def qg{σ:L2.St}{H:Hp}{Q:VK}(h:tE X.K cl (.compA e' tg it) σ H Q):gg (tI X.K cl it) (eu tg) (gT X.K tg) hU (tE X.K cl e') σ H Q:=by
 obtain⟨σD,d,rv,e,k⟩:=h;obtain⟨ds,e1,e⟩:=bind_some e;obtain⟨ds',e2,e⟩:=bind_some e;obtain⟨total,e3,e4⟩:=map_some e;unfold RL.fits at e2;split at e2
 ·rename_i hz;cases e2;subst e4;refine t6 (f:=fun σ1=>(RL.ev cl σ1 e').map some) rv e1 hz e3 (fun σ1 σV H y Q rv1 hy q=>?_) fun l H' sm hl hx=>k _ _ (qA sm hl hx fun _=>rfl);obtain⟨d,h1,h2⟩:=map_some hy;exact q true H (a6.refl H) (f7 ⟨d,h2.symm,h1⟩)
 ·cases e2
def rD{σ:L2.St}{H:Hp}{Q:VK}(h:tE X.K cl (.compL e' tg it) σ H Q):gg (tI X.K cl it) (eu tg) (gT X.K tg) hU (tE X.K cl e') σ H Q:=by
 obtain⟨σD,d,rv,e,k⟩:=h;obtain⟨ds,e1,e⟩:=bind_some e;obtain⟨ds',e2,e⟩:=bind_some e;obtain⟨total,e3,e4⟩:=map_some e;unfold RL.fits at e2;split at e2
 ·rename_i hz;cases e2;subst e4;refine zE rv e1 hz e3 (fun _ _ _ q=>q) fun l H' sm hl ⟨xs,h1,h2⟩=>k _ _ ⟨sm,?_,fun _ _ a z=>?_,fun M _ P hP _=>?_⟩
  ·rw[Rep];exact⟨l,xs,rfl,fun z=>z,h1,h2.weak fun _ z=>z.elim⟩
  ·cases z;exact hl
  ·rw[Rep];exact⟨l,xs,rfl,fun z=>hP l z hl,h1,h2.weak fun p z=>.inr (hP p z)⟩
 ·cases e2
def qZ{σ:L2.St}{H:Hp}{Q:VK}(h:tE X.K cl (.comp e' tg it c') σ H Q):gg (tI X.K cl it) (eu tg) (gT X.K tg) (tT X.K cl c') (tE X.K cl e') σ H Q:=by
 obtain⟨σD,d,rv,e,k⟩:=h;obtain⟨ds,e1,e⟩:=bind_some e;obtain⟨ds',e2,e⟩:=bind_some e;obtain⟨total,e3,e4⟩:=map_some e;unfold RL.fits at e2;split at e2
 ·rename_i hz;cases e2;subst e4;refine t6 rv e1 hz e3 (fun σ1 σV H y Q rv1 hy q=>?_) fun l H' sm hl hx=>k _ _ (qA sm hl hx fun _=>rfl);obtain⟨t,h1,h2⟩:=bind_some hy;refine⟨σ1,t,rv1,h1,fun H' sm=>q t H' sm ?_⟩
  cases t with
  |true=>
   obtain⟨d,h3,h4⟩:=map_some (show(RL.ev cl σ1 e').map some=some y from h2);exact f7 ⟨d,h4.symm,h3⟩
  |false=>
   cases(show(some none:Option (Option RL.D))=some y from h2);exact gy rfl
 ·cases e2
def yY(hc:X.calm=true)(S:km scope X.env.scope)(hi:SI X cl tgE iter it)(B:iL X cl scope tgE tg elt e' hU [])(hs:∀ x,foldedSetIterable iter X.env x=pure x):SE X cl (.ListComp elt [⟨tgE,iter,[],0⟩] scope pos) (.compA e' tg it):=by
 intro pins s σ H Q I h;obtain⟨cls,h1,h2⟩:=dX S I;exact oF (fun _ _ _ _=>hc) h2 h1 hi B.blk hs pins s σ H Q I (qg h)
def xZ(hc:X.calm=true)(S:km scope X.env.scope)(hi:SI X cl tgE iter it)(B:iL X cl scope tgE tg elt e' hU [])(hs:∀ x,foldedSetIterable iter X.env x=pure x):SE X cl (.ListComp elt [⟨tgE,iter,[],0⟩] scope pos) (.compL e' tg it):=by
 intro pins s σ H Q I h;obtain⟨cls,h1,h2⟩:=dX S I;exact oF (fun _ _ _ _=>hc) h2 h1 hi B.blk hs pins s σ H Q I (rD h)
def yB{CM:Cx->Prop}(hc:∀ {pins:List (Addr × Obj)} {σ:L2.St} {H:Hp} {s:Shared} (cls:List (Str × Addr)) (C:Addr) (fp:List Addr),Inv X pins σ H s->CM (blk X scope cls C fp s H))(S:km scope X.env.scope)(hi:PI' CM X tgE iter (tI X.K cl it))(B:iL X cl scope tgE tg elt e' (tT X.K cl c') [c])(hs:∀ x,foldedSetIterable iter X.env x=pure x):SE X cl (.ListComp elt [⟨tgE,iter,[c],0⟩] scope pos) (.comp e' tg it c'):=by
 intro pins s σ H Q I h;obtain⟨cls,h1,h2⟩:=dX S I;exact oF hc h2 h1 hi B.blk hs pins s σ H Q I (qZ h)
abbrev SA(X:Cx)(cl:RL.Cl)(st:Stmt)(i:Nat)(e':RL.E):Prop:=PS X st (fun D σ H=>tE X.K cl e' σ H fun v H1=>D.nx (σ.set i (some v)) H1)
def PS.weak{st:Stmt}{t t':TS}(h:PS X st t)(w:∀ D σ H,t' D σ H->t D σ H):PS X st t':=fun pins s σ H D I q=>h pins s σ H D I (w D σ H q)
def PSs.weak{st:List Stmt}{t t':TS}(h:PSs X st t)(w:∀ D σ H,t' D σ H->t D σ H):PSs X st t':=fun pins s σ H D I q=>h pins s σ H D I (w D σ H q)
variable{y:Str}{i:Nat}{py spos:Pos}
def ym(hc:X.calm=true)(hN:X.N.Nodup)(hiy:X.N[i]?=some y)(hy:X.env.scope.names.lookup y=some .local)(S:km scope X.env.scope)(hi:SI X cl tgE iter it)(B:iL X cl scope tgE tg elt e' hU [])(hs:∀ x,foldedSetIterable iter X.env x=pure x)
 (hsw:swapsWith (.ListComp elt [⟨tgE,iter,[],0⟩] scope pos) (some (.Name y py)) spos.line X.env=pure true):SA X cl (.Assign [.Name y py] (.ListComp elt [⟨tgE,iter,[],0⟩] scope pos) spos) i (.compA e' tg it):=by
 intro pins s σ H D I h;obtain⟨cls,h1,h2⟩:=dX S I;exact oq hc hN hiy hy h2 h1 hi B.blk hs hsw pins s σ H D I (qg h)
def yW(hc:X.calm=true)(hN:X.N.Nodup)(hiy:X.N[i]?=some y)(hy:X.env.scope.names.lookup y=some .local)(S:km scope X.env.scope)(hi:SI X cl tgE iter it)(B:iL X cl scope tgE tg elt e' hU [])(hs:∀ x,foldedSetIterable iter X.env x=pure x)
 (hsw:swapsWith (.ListComp elt [⟨tgE,iter,[],0⟩] scope pos) (some (.Name y py)) spos.line X.env=pure true):SA X cl (.Assign [.Name y py] (.ListComp elt [⟨tgE,iter,[],0⟩] scope pos) spos) i (.compL e' tg it):=by
 intro pins s σ H D I h;obtain⟨cls,h1,h2⟩:=dX S I;exact oq hc hN hiy hy h2 h1 hi B.blk hs hsw pins s σ H D I (rD h)
def yr(hc:X.calm=true)(hN:X.N.Nodup)(hiy:X.N[i]?=some y)(hy:X.env.scope.names.lookup y=some .local)(S:km scope X.env.scope)(hi:SI X cl tgE iter it)(B:iL X cl scope tgE tg elt e' (tT X.K cl c') [c])(hs:∀ x,foldedSetIterable iter X.env x=pure x)
 (hsw:swapsWith (.ListComp elt [⟨tgE,iter,[c],0⟩] scope pos) (some (.Name y py)) spos.line X.env=pure true):SA X cl (.Assign [.Name y py] (.ListComp elt [⟨tgE,iter,[c],0⟩] scope pos) spos) i (.comp e' tg it c'):=by
 intro pins s σ H D I h;obtain⟨cls,h1,h2⟩:=dX S I;exact oq hc hN hiy hy h2 h1 hi B.blk hs hsw pins s σ H D I (qZ h)
def yT{e:Expr}(hN:X.N.Nodup)(hiy:X.N[i]?=some y)(hx:Loc X.env.scope y)(he:SE X cl e e')(hf:X.fn y=true\/X.env.scope.names.lookup y=some .local)(hs:swapsWith e (some (.Name y py)) spos.line X.env=pure false)(hf2:True):SA X cl (.Assign [.Name y py] e spos) i e':=by
 exact wO hN hiy hx he hs hf
end comp
abbrev bC(M:List Nat)(σ:L2.St):Addr->Prop:=fun a=>∃ i,M.contains i=true/\σ[i]?=some (some (.ref a))
abbrev Own(K:PySem.W.Frag)(H:Hp)(d:RL.D)(v:V):Prop:=kz d=true/\RL.a9 d=true/\Rep nP K H d v
structure RVm(K:PySem.W.Frag)(M:List Nat)(σD:RL.St)(σ:L2.St)(H:Hp):Prop where
 len:σD.length=σ.length
 val:∀ (i:Nat) (d:RL.D),σD[i]?=some (some d)->∃ v,σ[i]?=some (some v)/\(if M.contains i=true then Own K H d v else Rep (bC M σ) K H d v)
 non:∀ (i:Nat) (v:V),σ[i]?=some (some v)->∃ d,σD[i]?=some (some d)
 sep:∀ (i j:Nat) (a:Addr),M.contains i=true->M.contains j=true->σ[i]?=some (some (.ref a))->σ[j]?=some (some (.ref a))->i=j
abbrev Fr'(M:List Nat)(σ:L2.St)(H:Hp)(σ':L2.St)(H':Hp):Prop:=(∀ b o,H b=some o->¬ bC M σ b->H' b=some o/\¬ bC M σ' b)/\∀ j,2<=M.count j->σ'[j]?=σ[j]?
def Fr'.trans{M:List Nat}{σ σ1 σ2:L2.St}{H H1 H2:Hp}(a:Fr' M σ H σ1 H1)(b:Fr' M σ1 H1 σ2 H2):Fr' M σ H σ2 H2:=⟨fun c o e n=>b.1 c o (a.1 c o e n).1 (a.1 c o e n).2,fun j hj=>(b.2 j hj).trans (a.2 j hj)⟩
def Fr'.same{M:List Nat}{σ:L2.St}{H H1:Hp}(s:a6 H H1):Fr' M σ H σ H1:=⟨fun c o e n=>⟨s _ _ e,n⟩,fun _ _=>rfl⟩
def lE{M:List Nat}{j:Nat}(h:2<=M.count j):M.contains j=true:=by
 have:0<M.count j:=by lia
 simpa using List.count_pos_iff.mp this
section st
variable{K:PySem.W.Frag}{M:List Nat}{σD:RL.St}{σ:L2.St}{H H1:Hp}
def Own.ref{d:RL.D}{v:V}(h:Own K H d v):∃ a o,v=.ref a/\H a=some o/\cZ o:=by
 obtain⟨m,_,r⟩:=h
 cases d with
 | lst ds=>obtain⟨a,xs,e1,_,e2,_⟩:=aB r;exact⟨a,_,e1,e2,.inl ⟨_,rfl⟩⟩
 | dK ks ds=>rw[Rep]at r;obtain⟨a,xs,e1,_,e2,_⟩:=r;exact⟨a,_,e1,e2,.inr (.inl ⟨_,rfl⟩)⟩
 | dT ks ds=>rw[Rep]at r;obtain⟨a,xs,e1,_,e2,_⟩:=r;exact⟨a,_,e1,e2,.inr (.inr ⟨_,rfl⟩)⟩
 | _=>cases m
def RVm.rv0(h:RVm K M σD σ H):RV0 K σD σ H:=⟨Nat.le_of_eq h.len,fun i d e=>by
 obtain⟨v,h1,h2⟩:=h.val i d e;refine⟨v,h1,?_⟩;by_cases hm:M.contains i=true
 ·rw[if_pos hm]at h2;exact h2.2.2
 ·rw[if_neg hm]at h2
  exact h2.none⟩
def RVm.zc(h:RVm K M σD σ H):∀ a,bC M σ a->∃ o,H a=some o/\cZ o:=fun a ⟨i,hi,e⟩=>by
 obtain⟨d,hd⟩:=h.non i _ e;obtain⟨v,h1,h2⟩:=h.val i d hd;rw[if_pos hi]at h2;obtain⟨b,o,e1,e2,e3⟩:=h2.ref;rw[e]at h1;cases h1;cases e1;exact⟨o,e2,e3⟩
def RVm.sL(h:RVm K M σD σ H):∀ a,bC M σ a->H a≠none:=fun a p=>by
 obtain⟨o,e,_⟩:=h.zc a p;rw[e]
 exact fun z=>nomatch z
def Own.same{d:RL.D}{v:V}(h:Own K H d v)(s:a6 H H1):Own K H1 d v:=⟨h.1,h.2.1,h.2.2.same s⟩
def RVm.same(h:RVm K M σD σ H)(s:a6 H H1):RVm K M σD σ H1:=⟨h.len,fun i d e=>by
 obtain⟨v,h1,h2⟩:=h.val i d e;refine⟨v,h1,?_⟩;by_cases hm:M.contains i=true
 ·rw[if_pos hm]at h2 ⊢;exact h2.same s
 ·rw[if_neg hm]at h2 ⊢
  exact h2.same s,h.non,h.sep⟩
def bC.set{i:Nat}{v:V}(hi:M.contains i=false):bC M (σ.set i (some v))=bC M σ:=by
 funext a;apply propext;constructor
 ·rintro⟨j,hj,e⟩
  have hne:i≠j:=fun z=>by subst z;rw[hi]at hj;cases hj
  rw[List.getElem?_set_ne hne]at e;exact⟨j,hj,e⟩
 ·rintro⟨j,hj,e⟩
  have hne:i≠j:=fun z=>by subst z;rw[hi]at hj;cases hj
  exact⟨j,hj,by rw[List.getElem?_set_ne hne];exact e⟩
def RVm.bind{i:Nat}{d:RL.D}{v:V}(h:RVm K M σD σ H)(hi:M.contains i=false)(r:Rep (bC M σ) K H d v):RVm K M (σD.set i (some d)) (σ.set i (some v)) H where
 len:=by simpa using h.len
 val:=fun j dj e=>by
  rw[bC.set hi];by_cases hj:j=i
  ·subst hj
   have hlt:j<σD.length:=by
    have:=(List.getElem?_eq_some_iff.mp e).1;simpa using this
   rw[List.getElem?_set_self hlt]at e;cases e;refine⟨v,by rw[List.getElem?_set_self (by rw[<-h.len];exact hlt)],?_⟩;rw[if_neg (by rw[hi];decide)];exact r
  ·rw[List.getElem?_set_ne (Ne.symm hj)]at e ⊢;exact h.val j dj e
 non:=fun j w e=>by
  by_cases hj:j=i
  ·subst hj
   have hlt:j<σ.length:=by
    have:=(List.getElem?_eq_some_iff.mp e).1;simpa using this
   exact⟨d,by rw[List.getElem?_set_self (by rw[h.len];exact hlt)]⟩
  ·rw[List.getElem?_set_ne (Ne.symm hj)]at e ⊢;exact h.non j w e
 sep:=fun j k a hj hk e1 e2=>by
  have n1:i≠j:=fun z=>by subst z;rw[hi]at hj;cases hj
  have n2:i≠k:=fun z=>by subst z;rw[hi]at hk;cases hk
  rw[List.getElem?_set_ne n1]at e1;rw[List.getElem?_set_ne n2]at e2;exact h.sep j k a hj hk e1 e2
def Fr'.bind{i:Nat}{v:V}(hi:M.contains i=false)(s:a6 H H1):Fr' M σ H (σ.set i (some v)) H1:=⟨fun b o e n=>⟨s _ _ e,by rw[bC.set hi];exact n⟩,fun j hj=>List.getElem?_set_ne (fun z=>by subst z;rw[lE hj]at hi;cases hi)⟩
end st
mutual
theorem Rep.fB{P:Addr->Prop}{K:PySem.W.Frag}{H:Hp}{a:Addr}(ha:H a=none):∀ {d:RL.D} {v:V},Rep P K H d v->Rep (fun p=>P p\/p=a) K H d v
 | .non,v,h=>by simpa[Rep]using h
 | .bl _,v,h=>by simpa[Rep]using h
 | .int _,v,h=>by simpa[Rep]using h
 | .str _,v,h=>by simpa[Rep]using h
 | .tup ds,v,h=>by
  rw[Rep]at h ⊢;obtain⟨b,xs,e1,e2,e3⟩:=h;exact⟨b,xs,e1,e2,ae.fB ha e3⟩
 | .lst ds,v,h=>by
  rw[Rep]at h ⊢;obtain⟨b,xs,e1,e0,e2,e3⟩:=h;exact⟨b,xs,e1,fun z=>z.elim e0 (fun q=>bc e2 ha q),e2,ae.fB ha e3⟩
 | .dK ks ds,v,h=>by
  rw[Rep]at h ⊢;obtain⟨b,xs,e1,e0,e2,el,e3⟩:=h;exact⟨b,xs,e1,fun z=>z.elim e0 (fun q=>bc e2 ha q),e2,el,ae.fB ha e3⟩
 | .dT ks ds,v,h=>by
  rw[Rep]at h ⊢;obtain⟨b,xs,e1,e0,e2,el,e3⟩:=h;exact⟨b,xs,e1,fun z=>z.elim e0 (fun q=>bc e2 ha q),e2,el,ae.fB ha e3⟩
 | .scr ds,v,h=>by
  rw[Rep]at h ⊢;obtain⟨b,xs,e1,e2,e3⟩:=h;exact⟨b,xs,e1,e2,ae.fB ha e3⟩
 | .exc c,v,h=>by rw[Rep]at h ⊢;exact h
theorem ae.fB{P:Addr->Prop}{K:PySem.W.Frag}{H:Hp}{a:Addr}(ha:H a=none):∀ {ds:List RL.D} {xs:List V},ae P K H ds xs->ae (fun p=>P p\/p=a) K H ds xs
 | [],xs,h=>by rw[ae]at h ⊢;exact h
 | d::r,xs,h=>by
  rw[ae]at h ⊢;obtain⟨x,t,e1,e2,e3⟩:=h;exact⟨x,t,e1,Rep.fB ha e2,ae.fB ha e3⟩
end
section st
variable{K:PySem.W.Frag}{M:List Nat}{σD:RL.St}{σ:L2.St}{H H1:Hp}
def RVm.own{i:Nat}{d:RL.D}{a:Addr}(h:RVm K M σD σ H)(s:a6 H H1)(hi:M.contains i=true)(hi2:M.count i<2)(ha:H a=none)(r:Own K H1 d (.ref a)):RVm K M (σD.set i (some d)) (σ.set i (some (.ref a))) H1/\Fr' M σ H (σ.set i (some (.ref a))) H1:=by
 have sub:∀ b,bC M (σ.set i (some (.ref a))) b->bC M σ b\/b=a:=fun b ⟨j,hj,e⟩=>by
  by_cases hji:j=i
  ·subst hji
   have hlt:j<σ.length:=by
    have:=(List.getElem?_eq_some_iff.mp e).1;simpa using this
   rw[List.getElem?_set_self hlt]at e;cases e;exact .inr rfl
  ·rw[List.getElem?_set_ne (Ne.symm hji)]at e;exact .inl ⟨j,hj,e⟩
 have old:∀ b,bC M σ b->b≠a:=fun b p z=>h.sL b p (z▸ha);refine⟨⟨by simpa using h.len,fun j dj e=>?_,fun j w e=>?_,fun j k b hj hk e1 e2=>?_⟩,⟨fun b o e n=>⟨s _ _ e,fun z=>(sub b z).elim n fun q=>bc e ha q⟩,fun j hj=>List.getElem?_set_ne (fun z=>by subst z;lia)⟩⟩
 ·by_cases hj:j=i
  ·subst hj
   have hlt:j<σD.length:=by
    have:=(List.getElem?_eq_some_iff.mp e).1;simpa using this
   rw[List.getElem?_set_self hlt]at e;cases e;refine⟨.ref a,by rw[List.getElem?_set_self (by rw[<-h.len];exact hlt)],?_⟩;rw[if_pos hi];exact r
  ·rw[List.getElem?_set_ne (Ne.symm hj)]at e ⊢;obtain⟨v,h1,h2⟩:=h.val j dj e;refine⟨v,h1,?_⟩;by_cases hm:M.contains j=true
   ·rw[if_pos hm]at h2 ⊢;exact h2.same s
   ·rw[if_neg hm]at h2 ⊢;exact((h2.fB ha).weak sub).same s
 ·by_cases hj:j=i
  ·subst hj
   have hlt:j<σ.length:=by
    have:=(List.getElem?_eq_some_iff.mp e).1;simpa using this
   exact⟨d,by rw[List.getElem?_set_self (by rw[h.len];exact hlt)]⟩
  ·rw[List.getElem?_set_ne (Ne.symm hj)]at e ⊢;exact h.non j w e
 ·by_cases h1:j=i
  ·by_cases h2:k=i
   ·rw[h1,h2]
   ·subst h1
    have hlt:j<σ.length:=by
     have:=(List.getElem?_eq_some_iff.mp e1).1;simpa using this
    rw[List.getElem?_set_self hlt]at e1;rw[List.getElem?_set_ne (Ne.symm h2)]at e2;cases e1;exact absurd rfl (old _ ⟨k,hk,e2⟩)
  ·rw[List.getElem?_set_ne (Ne.symm h1)]at e1;by_cases h2:k=i
   ·subst h2
    have hlt:k<σ.length:=by
     have:=(List.getElem?_eq_some_iff.mp e2).1;simpa using this
    rw[List.getElem?_set_self hlt]at e2;cases e2;exact absurd rfl (old _ ⟨j,hj,e1⟩)
   ·rw[List.getElem?_set_ne (Ne.symm h2)]at e2;exact h.sep j k b hj hk e1 e2
def RVm.jy{i:Nat}{d':RL.D}{a:Addr}{o o':HO}(h:RVm K M σD σ H)(hi:M.contains i=true)(e:σ[i]?=some (some (.ref a)))(ha:H a=some o)(m:cZ o)(r:Own K (upd H a o') d' (.ref a)):RVm K M (σD.set i (some d')) σ (upd H a o')/\Fr' M σ H σ (upd H a o'):=by
 have pa:bC M σ a:=⟨i,hi,e⟩
 refine⟨⟨by simpa using h.len,fun j dj e'=>?_,fun j w e'=>?_,h.sep⟩,⟨fun b u eb n=>⟨?_,n⟩,fun _ _=>rfl⟩⟩
 ·by_cases hj:j=i
  ·subst hj
   have hlt:j<σD.length:=by
    have:=(List.getElem?_eq_some_iff.mp e').1;simpa using this
   rw[List.getElem?_set_self hlt]at e';cases e';refine⟨.ref a,e,?_⟩;rw[if_pos hi];exact r
  ·rw[List.getElem?_set_ne (Ne.symm hj)]at e';obtain⟨v,h1,h2⟩:=h.val j dj e';refine⟨v,h1,?_⟩;by_cases hm:M.contains j=true
   ·rw[if_pos hm]at h2 ⊢;obtain⟨b,ob,rfl,hb,_⟩:=h2.ref
    have hne:b≠a:=fun z=>by subst z;exact hj (h.sep j i b hm hi h1 e)
    obtain⟨q1,q2,q3⟩:=h2;refine⟨q1,q2,?_⟩;have im:∀ {ds:List RL.D} {xs:List V},RL.aq ds=true->ae nP K H ds xs->ae nP K (L2.upd H a o') ds xs:=fun hi r=>(ae.upd (P:=fun p=>p=a) ha m rfl (r.imm hi)).imm hi
    cases dj with
    | lst ds=>obtain⟨b',xs,e1,e0,e2,e3⟩:=aB q3;cases e1;rw[Rep];exact⟨b,xs,rfl,fun z=>z,by rw[L2.aV hne];exact e2,im q2 e3⟩
    | dK ks ds=>rw[Rep]at q3 ⊢;obtain⟨b',xs,e1,e0,e2,el,e3⟩:=q3;cases e1;exact⟨b,xs,rfl,fun z=>z,by rw[L2.aV hne];exact e2,el,im q2 e3⟩
    | dT ks ds=>rw[Rep]at q3 ⊢;obtain⟨b',xs,e1,e0,e2,el,e3⟩:=q3;cases e1;exact⟨b,xs,rfl,fun z=>z,by rw[L2.aV hne];exact e2,el,im q2 e3⟩
    | _=>cases q1
   ·rw[if_neg hm]at h2 ⊢;exact Rep.upd ha m pa h2
 ·obtain⟨dj,hd⟩:=h.non j w e';by_cases hj:j=i
  ·subst hj;have hlt:=(List.getElem?_eq_some_iff.mp hd).1;exact⟨d',by rw[List.getElem?_set_self hlt]⟩
  ·exact⟨dj,by rw[List.getElem?_set_ne (Ne.symm hj)];exact hd⟩
 ·have hb:b≠a:=fun z=>n (z▸pa);rw[L2.aV hb];exact eb
end st
abbrev uM(K:PySem.W.Frag)(M:List Nat)(D:Ends)(σ:L2.St)(H:Hp):RL.Out->RL.St->Prop
 | .nx,σD'=>∀ σ' H',RVm K M σD' σ' H'->Fr' M σ H σ' H'->D.nx σ' H'
 | .rt d,σD'=>∀ σ1 H1 v H',RVm K M σD' σ1 H1->Fr' M σ H σ1 H1->a6 H1 H'->(∀ P:Addr->Prop,(∀ p,P p->H1 p≠none/\¬ bC M σ1 p)->Rep P K H' d v)->D.rt v H'
def uM.from{K:PySem.W.Frag}{M:List Nat}{D:Ends}{σ σ1:L2.St}{H H1:Hp}{r:RL.Out}{σD':RL.St}(h:uM K M D σ H r σD')(f:Fr' M σ H σ1 H1):uM K M D σ1 H1 r σD':=by
 cases r with
 | nx=>exact fun σ2 H2 rv2 fr2=>h σ2 H2 rv2 (f.trans fr2)
 | rt d=>exact fun σ1 H1 v H2 rv2 fr2 sm rp=>h σ1 H1 v H2 rv2 (f.trans fr2) sm rp
abbrev tS(K:PySem.W.Frag)(M:List Nat)(f:RL.St->Option (RL.Out × RL.St)):TS:=fun D σ H=>∃ σD r σD',RVm K M σD σ H/\f σD=some (r,σD')/\uM K M D σ H r σD'
abbrev SS(X:Cx)(cl:RL.Cl)(M:List Nat)(st:Stmt)(s:RL.S):Prop:=PS X st (tS X.K M (RL.evS cl M s))
abbrev SSs(X:Cx)(cl:RL.Cl)(M:List Nat)(st:List Stmt)(s:RL.Ss):Prop:=PSs X st (tS X.K M (RL.ag cl M s))
section rules
variable{X:Cx}{cl:RL.Cl}{M:List Nat}{st:Stmt}{sts:List Stmt}{e' k' c':RL.E}{i j:Nat}
def Bq:SSs X cl M [] .nil:=by
 refine PSs.weak AR fun D σ H h=>?_;obtain⟨σD,r,σD',rv,e,k⟩:=h;rw[RL.ag]at e;cases e;exact k σ H rv (Fr'.same (a6.refl H))
def yA{s:RL.S}{r:RL.Ss}(h1:SS X cl M st s)(h2:SSs X cl M sts r):SSs X cl M (st::sts) (.cons s r):=by
 refine PSs.weak (zi h1 h2) fun D σ H h=>?_;obtain⟨σD,o,σD',rv,e,k⟩:=h;rw[RL.ag]at e;obtain⟨p,e1,e2⟩:=bind_some e;obtain⟨o1,σ1⟩:=p;refine⟨σD,o1,σ1,rv,e1,?_⟩
 cases o1 with
 |rt d=>
  cases e2;exact k
 |nx=>
  exact fun σ' H' rv' fr'=>⟨σ1,o,σD',rv',e2,k.from fr'⟩
def Ft(h:SA X cl st i e')(hi:M.contains i=false):SS X cl M st (.asg i e'):=by
 refine PS.weak h fun D σ H h=>?_;obtain⟨σD,o,σD',rv,e,k⟩:=h;obtain⟨d,e1,e2⟩:=bind_some e;split at e2
 ·rename_i ok;cases e2;refine⟨σD,d,rv.rv0,e1,fun v H1 r1=>k _ _ ?_ (Fr'.bind hi r1.same)⟩;refine(rv.same r1.same).bind hi ?_;unfold RL.aP at ok;rw[Bool.or_eq_true,Bool.or_eq_true,Bool.and_eq_true]at ok;rcases ok with(q | ⟨q1,q2⟩) | q
  ·exact r1.rep.imm q
  ·have rp:=r1.rep;have fr:kz d=true->∀ a,v=.ref a->¬ bC M σ a:=fun m a z p=>rv.sL a p (r1.fresh q2 m a z)
   cases d with
   | lst ds=>obtain⟨a,xs,e1,e0,e2,e3⟩:=aB rp;rw[Rep];exact⟨a,xs,e1,fr rfl a e1,e2,e3.imm q1⟩
   | dK ks ds=>rw[Rep]at rp ⊢;obtain⟨a,xs,e1,e0,e2,el,e3⟩:=rp;exact⟨a,xs,e1,fr rfl a e1,e2,el,e3.imm q1⟩
   | dT ks ds=>rw[Rep]at rp ⊢;obtain⟨a,xs,e1,e0,e2,el,e3⟩:=rp;exact⟨a,xs,e1,fr rfl a e1,e2,el,e3.imm q1⟩
   | _=>cases q1
  ·refine r1.av M q _ rv.sL fun j dj vj hj h1 h2=>?_;obtain⟨v',h3,h4⟩:=rv.val j dj h1;rw[h2]at h3;cases h3;rw[if_neg (by rw[hj];decide)]at h4;exact h4
 ·cases e2
def Fj(h:SA X cl st i e')(hi:M.contains i=true)(hi2:M.count i<2):SS X cl M st (.own i e'):=by
 refine PS.weak h fun D σ H h=>?_;obtain⟨σD,o,σD',rv,e,k⟩:=h;obtain⟨d,e1,e2⟩:=bind_some e;split at e2
 ·rename_i ok;cases e2;rw[Bool.and_eq_true]at ok;refine⟨σD,d,rv.rv0,e1,fun v H1 r1=>?_⟩
  have m:kz d=true:=by
   cases d with
   | lst _=>rfl
   | dK _ _=>rfl
   | dT _ _=>rfl
   | _=>cases ok.1
  have ow:Own X.K H1 d v:=⟨m,ok.1,r1.rep⟩
  obtain⟨a,ob,rfl,_,_⟩:=ow.ref;obtain⟨h1,h2⟩:=rv.own r1.same hi hi2 (r1.fresh ok.2 m a rfl) ow;exact k _ _ h1 h2
 ·cases e2
def Gg{c:Expr}{a b:List Stmt}{a' b':RL.Ss}{pos:Pos}(hc:ST X cl c c')(ha:SSs X cl M a a')(hb:SSs X cl M b b'):SS X cl M (.If c a b pos) (.ife c' a' b'):=by
 refine PS.weak (Ah hc ha hb) fun D σ H h=>?_;obtain⟨σD,o,σD',rv,e,k⟩:=h;obtain⟨t,e1,e2⟩:=bind_some e;refine⟨σD,t,rv.rv0,e1,fun H1 s1=>?_⟩;have k1:=k.from (Fr'.same (σ:=σ) s1)
 cases t with
 | true=>exact f7 ⟨σD,o,σD',rv.same s1,e2,k1⟩
 | false=>exact gy ⟨σD,o,σD',rv.same s1,e2,k1⟩
def Dk{e:Expr}{pos:Pos}(he:SE X cl e e')(hv:∀ i,e'=.var i->M.contains i=false):SS X cl M (.Return (some e) pos) (.ret e'):=by
 refine PS.weak (vM he) fun D σ H h=>?_;obtain⟨σD,o,σD',rv,ev,k⟩:=h;obtain⟨d,e1,e2⟩:=bind_some ev;split at e2
 ·rename_i ok;cases e2;refine⟨σD,d,rv.rv0,e1,fun v H1 r1=>k σ H v H1 rv (Fr'.same (a6.refl H)) r1.same fun P hP=>?_⟩;unfold RL.aW at ok;rw[Bool.or_eq_true,Bool.and_eq_true,Bool.or_eq_true]at ok
  rcases ok with q | ⟨q1,q2⟩
  ·exact r1.rep.imm q
  ·have rp:=r1.rep
   have fr:kz d=true->∀ a,v=.ref a->¬ P a:=fun m a z p=>by
    rcases q2 with q | q
    ·exact(hP a p).1 (r1.fresh q m a z)
    ·cases e' with
     |var i=>
      have hi:M.contains i=true:=q;rw[hv i rfl]at hi;cases hi
     | _=>cases q
   cases d with
   | lst ds=>obtain⟨a,xs,e1,e0,e2,e3⟩:=aB rp;rw[Rep];exact⟨a,xs,e1,fr rfl a e1,e2,e3.imm q1⟩
   | dK ks ds=>rw[Rep]at rp ⊢;obtain⟨a,xs,e1,e0,e2,el,e3⟩:=rp;exact⟨a,xs,e1,fr rfl a e1,e2,el,e3.imm q1⟩
   | dT ks ds=>rw[Rep]at rp ⊢;obtain⟨a,xs,e1,e0,e2,el,e3⟩:=rp;exact⟨a,xs,e1,fr rfl a e1,e2,el,e3.imm q1⟩
   | _=>cases q1
 ·cases e2
def BS{x:Str}{p pos:Pos}(hN:X.N[i]?=some x)(hv:Vis X.env.scope x)(hd:(x == ("__debug__" : Str))=false)(hcd:(x == ("__classdict__" : Str))=false)(hi:M.contains i=true):SS X cl M (.Return (some (.Name x p)) pos) (.ret (.var i)):=by
 refine PS.weak (vM (iw hN hv hd hcd)) fun D σ H h=>?_;obtain⟨σD,o,σD',rv,e,k⟩:=h;obtain⟨d,e1,e2⟩:=bind_some e;split at e2
 ·cases e2
  have e3:σD[i]?=some (some d):=by
   obtain⟨o,h1,h2⟩:=bind_some e1
   cases o with
   | none=>cases h2
   | some z=>cases h2;exact h1
  obtain⟨v,h1,h2⟩:=rv.val i d e3;rw[if_pos hi]at h2;refine⟨v,h1,k σ H v H rv (Fr'.same (a6.refl H)) (a6.refl H) fun P hP=>?_⟩;obtain⟨a,o,rfl,_,_⟩:=h2.ref;have np:¬ P a:=fun p=>(hP a p).2 ⟨i,hi,h1⟩;obtain⟨q1,q2,q3⟩:=h2
  cases d with
  | lst ds=>obtain⟨b,xs,e1,e0,e2,e3⟩:=aB q3;cases e1;rw[Rep];exact⟨a,xs,rfl,np,e2,e3.imm q2⟩
  | dK ks ds=>rw[Rep]at q3 ⊢;obtain⟨b,xs,e1,e0,e2,el,e3⟩:=q3;cases e1;exact⟨a,xs,rfl,np,e2,el,e3.imm q2⟩
  | dT ks ds=>rw[Rep]at q3 ⊢;obtain⟨b,xs,e1,e0,e2,el,e3⟩:=q3;cases e1;exact⟨a,xs,rfl,np,e2,el,e3.imm q2⟩
  | _=>cases q1
 ·cases e2
def slot_get{σD:RL.St}{d:RL.D}(h:(σD[i]?).bind id=some d):σD[i]?=some (some d):=by
 obtain⟨o,h1,h2⟩:=bind_some h
 cases o with
 | none=>cases h2
 | some z=>cases h2;exact h1
def Fd(h:PS X st (pU (tBM X.K "list" uc (jM i) (tEs X.K cl (.cons e' .nil)))))(hi:M.contains i=true):SS X cl M st (.app i e'):=by
 refine PS.weak h fun D σ H h=>?_;obtain⟨σD,o,σD',rv,e,k⟩:=h;obtain⟨d,e1,e2⟩:=bind_some e;obtain⟨l,e3,e4⟩:=bind_some e2
 cases l with
 |lst ds=>
  dsimp only at e4;split at e4
  ·rename_i ok;cases e4;rw[Bool.and_eq_true,decide_eq_true_eq]at ok;obtain⟨v,h1,h2⟩:=rv.val i _ (slot_get e3);rw[if_pos hi]at h2;obtain⟨q1,q2,q3⟩:=h2;obtain⟨a,xs,rfl,_,f2,f3⟩:=aB q3;refine⟨.ref a,h1,.inl ⟨rfl,xs,SqL.of f2⟩,σD,[d],rv.rv0,by rw[RL.evs,e1];rfl,fun vs H1 s1 r1=>?_⟩;rw[ae]at r1;obtain⟨y,t,rfl,r2,r3⟩:=r1;rw[ae]at r3;subst r3
   have hl:xs.length<sizeLine:=by rw[<-f3.length];exact Nat.lt_of_lt_of_le ok.2 cw
   refine⟨a,xs,y,rfl,rfl,s1 _ _ f2,hl,?_⟩
   have im:RL.aq (ds++[d])=true:=by
    have:∀ l:List RL.D,RL.aq l=true->RL.aq (l++[d])=true:=fun l=>by
     induction l with
     | nil=>intro _;simp[RL.aq,ok.1]
     | cons z r ih=>intro h;rw[RL.aq,Bool.and_eq_true]at h;rw[List.cons_append,RL.aq,h.1,ih h.2];rfl
    exact this ds q2
   have rs:ae nP X.K (upd H1 a (.lst (xs++[y]))) (ds++[d]) (xs++[y]):=(ae.upd (P:=fun p=>p=a) (s1 _ _ f2) (.inl ⟨_,rfl⟩) rfl ((ae.append (f3.same s1) (ae.cons r2 ae.nil)).imm im)).imm im;obtain⟨g1,g2⟩:=(rv.same s1).jy (d':=.lst (ds++[d])) (o':=.lst (xs++[y])) hi h1 (s1 _ _ f2) (.inl ⟨_,rfl⟩) ⟨rfl,im,by rw[Rep];exact⟨a,_,rfl,fun z=>z,bw,rs⟩⟩;exact k _ _ g1 ((Fr'.same s1).trans g2)
  ·cases e4
 | _=>cases e4
end rules
def RVm.bo{K:PySem.W.Frag}{M:List Nat}{H:Hp}:∀ {tg:List Nat} {ds:List RL.D} {vs:List V} {σD:RL.St} {σ:L2.St},RVm K M σD σ H->(∀ i∈tg,M.contains i=false)->tg.length=ds.length->RL.aq ds=true->ae nP K H ds vs ->
  RVm K M (eK tg ds σD) (cU tg vs σ) H/\bC M (cU tg vs σ)=bC M σ
 | [],_,_,_,_,h,_,_,_,_=>⟨h,rfl⟩
 | i::is,[],_,_,_,_,_,hl,_,_=>by simp at hl
 | i::is,d::ds,vs,σD,σ,h,hM,hl,him,r=>by
  rw[ae]at r;obtain⟨v,t,rfl,r1,r2⟩:=r;rw[RL.aq,Bool.and_eq_true]at him;rw[eK,cU];have hi:=hM i List.mem_cons_self;obtain⟨g1,g2⟩:=RVm.bo (h.bind hi (r1.imm him.1)) (fun j hj=>hM j (List.mem_cons_of_mem _ hj)) (by simpa using hl) him.2 r2;exact⟨g1,g2.trans (bC.set hi)⟩
def qT{M tg:List Nat}{vs:List V}{σ:L2.St}{j:Nat}(hM:∀ i∈tg,M.contains i=false)(hj:2<=M.count j):(cU tg vs σ)[j]?=σ[j]?:=by
 refine oG tg vs σ j ?_
 cases hc:tg.contains j with
 | false=>rfl
 |true=>
  have:=hM j (by simpa using hc);rw[lE hj]at this;cases this
section rules
variable{X:Cx}{cl:RL.Cl}{M:List Nat}{st:Stmt}{tgE iter:Expr}{body:List Stmt}{b:RL.Ss}{it:RL.It}{tg:List Nat}{e' k' a' b':RL.E}{i j:Nat}{pos:Pos}
def uS{f:RL.St->Option (RL.Out × RL.St)}{d:RL.D}{ds:List RL.D}{σ:RL.St}{p:RL.Out × RL.St}(h:RL.aO f tg (d::ds) σ=some p):d.imm=true/\∃ σ1 o σ2,RL.a8 tg d σ=some σ1/\f σ1=some (o,σ2) /\
  (match o with | .nx=>RL.aO f tg ds σ2=some p | .rt d=>p=(.rt d,σ2)):=by
 rw[RL.aO]at h;split at h
 ·rename_i him;obtain⟨σ1,h1,h⟩:=bind_some h;obtain⟨⟨o,σ2⟩,h2,h⟩:=bind_some h;refine⟨him,σ1,o,σ2,h1,h2,?_⟩
  cases o with
  | nx=>exact h
  | rt d=>exact(Option.some.inj h).symm
 ·cases h
def Eh(hx:X.xe=fun _ _=>False)(hc:X.calm=true)(hi:SI X cl tgE iter it)(hg:PG X tgE (gT X.K tg))(hb:SSs X cl M body b)(hs:∀ x,foldedSetIterable iter X.env x=pure x)(hav:RL.yp M it=true)(hM:∀ i∈tg,M.contains i=false) :
  SS X cl M (.For tgE iter body [] pos) (.forr tg it b):=by
 refine PS.weak (C9 (by rw[hx];exact PassesOwn.never) hc hi hg hb hs) fun D σ H h=>?_;obtain⟨σD,r,σD',rv,e,k⟩:=h;obtain⟨ds,e1,e2⟩:=bind_some e;refine⟨σD,ds,rv.rv0,e1,fun J H1 s1 src=>?_⟩
 have ok:ke X.K J ds (bC M σ) H1:=src.2 M (bC M σ) hav rv.zc fun j dj vj hj h1 h2=>by
  obtain⟨v',h3,h4⟩:=rv.val j dj h1;rw[h2]at h3;cases h3;rw[if_neg (by rw[hj];decide)]at h4;exact h4
 have k1:=k.from (Fr'.same (σ:=σ) s1);refine⟨fun i m σ2 H2=>∃ σD2,m=ds.length-i/\i<=ds.length/\RVm X.K M σD2 σ2 H2/\Fr' M σ H1 σ2 H2/\RL.aO (RL.ag cl M b) tg (ds.drop i) σD2=some (r,σD'),⟨_,σD,rfl,Nat.zero_le _,rv.same s1,Fr'.same (a6.refl _),e2⟩,?_⟩;rintro i m σ2 H2 ⟨σD2,rfl,hi2,rv2,fr2,hl⟩;have off:Off (bC M σ) H1 H2:=fun b o n e=>(fr2.1 b o e n).1;by_cases hlt:i<ds.length
 ·refine .inr ⟨ok.go H2 i off hlt,fun σ' H'=>∃ m',m'<ds.length-i/\∃ σD2,m'=ds.length-(i+1)/\i+1<=ds.length/\RVm X.K M σD2 σ' H'/\Fr' M σ H1 σ' H'/\RL.aO (RL.ag cl M b) tg (ds.drop (i+1)) σD2=some (r,σD'),fun σ' H' z=>z,fun x H3 y=>?_⟩;rw[List.drop_eq_getElem_cons hlt]at hl;obtain⟨him,σ3,o,σ4,h1,h2,h3⟩:=uS hl;obtain⟨s3,rp⟩:=ok.yld H2 i ds[i] x H3 off (by simp[hlt]) y;obtain⟨dv,vs,q1,q2,q3,q4,q5⟩:=v5 h1 (rp (.inl him));refine q5 _ _ ?_;obtain⟨rv3,as3⟩:=(rv2.same s3).bo hM q2 (q4 him) q3
  have fr3:Fr' M σ H1 (cU tg vs σ2) H3:=⟨fun b o e n=>⟨s3 _ _ (fr2.1 b o e n).1,by rw[as3];exact(fr2.1 b o e n).2⟩,fun j hj=>(qT hM hj).trans (fr2.2 j hj)⟩
  refine⟨σ3,o,σ4,by rw[q1];exact rv3,h2,?_⟩
  cases o with
  | nx=>exact fun σ' H' rv' fr'=>⟨_,by lia,σ4,rfl,hlt,rv',fr3.trans fr',h3⟩
  |rt d=>
   cases h3;exact fun σ' H' v H4 rv' fr' sm rp=>k1 σ' H' v H4 rv' (fr3.trans fr') sm rp
 ·have e:i=ds.length:=by lia
  subst e;rw[List.drop_length,RL.aO]at hl;cases hl;exact .inl ⟨ok.stop H2 off,k1 σ2 H2 rv2 fr2⟩
def zG{n:Nat}{k:Int}{j:Nat}(h:RL.oh n k=some j):ixN n k=some j:=h
def xx:∀ {ds:List RL.D} {d:RL.D} (j:Nat),RL.aq ds=true->d.imm=true->RL.aq (ds.set j d)=true
 | [],d,j,_,_=>by simp[RL.aq]
 | x::r,d,0,h,hd=>by rw[RL.aq,Bool.and_eq_true]at h;rw[List.set_cons_zero,RL.aq,hd,h.2];rfl
 | x::r,d,j+1,h,hd=>by rw[RL.aq,Bool.and_eq_true]at h;rw[List.set_cons_succ,RL.aq,h.1,xx j h.2 hd];rfl
def nS{H:Hp}{a:Addr}{ds:List RL.D}{xs ys:List V}{ds':List RL.D}(f2:H a=some (.lst xs))(im:RL.aq ds'=true)(rs:ae nP X.K H ds' ys):Own X.K (upd H a (.lst ys)) (.lst ds') (.ref a) :=
 ⟨rfl,im,by rw[Rep];exact⟨a,_,rfl,fun z=>z,bw,(ae.upd (P:=fun p=>p=a) f2 (.inl ⟨_,rfl⟩) rfl (rs.imm im)).imm im⟩⟩
def EL(h:PS X st (nE (tE X.K cl e') (yf (jM i) (tE X.K cl k') uA)))(hi:M.contains i=true)(hl:True):PS X st (tS X.K M fun σD=>(RL.ev cl σD e').bind fun d=>(RL.ev cl σD k').bind fun kk=>((σD[i]?).bind id).bind fun l=>match l with
  | .lst _=>if d.imm then(RL.da l kk d).map fun l'=>(.nx,σD.set i (some l'))else none
  | _=>none):=by
 refine PS.weak h fun D σ H h=>?_;obtain⟨σD,o,σD',rv,e,k⟩:=h;obtain⟨d,e1,e⟩:=bind_some e;obtain⟨kk,e2,e⟩:=bind_some e;obtain⟨l,e3,e⟩:=bind_some e
 cases l with
 |lst ds=>
  dsimp only at e;split at e
  ·rename_i him;obtain⟨l',e4,e5⟩:=map_some e;cases e5;obtain⟨v,h1,h2⟩:=rv.val i _ (slot_get e3);rw[if_pos hi]at h2;obtain⟨q1,q2,q3⟩:=h2;obtain⟨a,xs,rfl,_,f2,f3⟩:=aB q3
   cases kk with
   |int kk=>
    obtain⟨jx,e6,e7⟩:=map_some (show(RL.oh ds.length kk).map (fun j=>RL.D.lst (ds.set j d))=some l' from e4);subst e7;refine⟨σD,d,rv.rv0,e1,fun y H1 r1=>⟨.ref a,h1,σD,.int kk,rv.rv0.same r1.same,e2,fun z H2 r2=>?_⟩⟩;have sm:=r1.same.trans r2.same;refine⟨a,xs,kk,jx,rfl,ah r2.rep,sm _ _ f2,?_,?_⟩
    ·rw[<-f3.length];exact zG e6
    ·have im:=xx jx q2 him;obtain⟨g1,g2⟩:=(rv.same sm).jy (d':=.lst (ds.set jx d)) (o':=.lst (xs.set jx y)) hi h1 (sm _ _ f2) (.inl ⟨_,rfl⟩) (nS (ds:=ds) (sm _ _ f2) im (ae.set jx (f3.same sm) (r1.rep.same r2.same)));exact k _ _ g1 ((Fr'.same sm).trans g2)
   | _=>cases e4
  ·cases e
 | _=>cases e
def nV:∀ {ds:List RL.D},RL.aq ds=true->RL.aq ds.dropLast=true
 | [],_=>rfl
 | [x],_=>rfl
 | x::y::r,h=>by rw[RL.aq,Bool.and_eq_true]at h;rw[List.dropLast_cons_cons,RL.aq,h.1,nV h.2];rfl
def vK:∀ {ds:List RL.D} {i:Nat} {d:RL.D},RL.aq ds=true->ds[i]?=some d->d.imm=true
 | [],i,d,_,e=>by simp at e
 | x::r,0,d,h,e=>by rw[RL.aq,Bool.and_eq_true]at h;simp at e;subst e;exact h.1
 | x::r,i+1,d,h,e=>by rw[RL.aq,Bool.and_eq_true]at h;exact vK (i:=i) h.2 (by simpa using e)
def ae.dropLast{P:Addr->Prop}{K:PySem.W.Frag}{H:Hp}{ds:List RL.D}{xs:List V}(h:ae P K H ds xs):ae P K H ds.dropLast xs.dropLast:=by
 rw[List.dropLast_eq_take,List.dropLast_eq_take,<-h.length];exact h.take _
def DN(h:PS X st (nE (yQ X.K "list" Ad (jM i)) (mQ j)))(hi:M.contains i=true)(hj:M.contains j=false):SS X cl M st (.pop i j):=by
 refine PS.weak h fun D σ H h=>?_;obtain⟨σD,o,σD',rv,e,k⟩:=h;obtain⟨l,e3,e⟩:=bind_some e
 cases l with
 |lst ds=>
  obtain⟨d,e4,e5⟩:=map_some e;cases e5;obtain⟨v,h1,h2⟩:=rv.val i _ (slot_get e3);rw[if_pos hi]at h2;obtain⟨q1,q2,q3⟩:=h2;obtain⟨a,xs,rfl,_,f2,f3⟩:=aB q3;obtain⟨y,f4,f5⟩:=f3.get e4;refine⟨.ref a,h1,.inl ⟨rfl,xs,SqL.of f2⟩,a,xs,y,rfl,rfl,f2,by rw[<-f3.length];exact f4,?_⟩;have im:=nV q2;obtain⟨g1,g2⟩:=rv.jy (d':=.lst ds.dropLast) (o':=.lst xs.dropLast) hi h1 f2 (.inl ⟨_,rfl⟩) (nS (ds:=ds) f2 im f3.dropLast);have hdi:d.imm=true:=vK q2 e4;have rd:Rep (bC M σ) X.K (upd H a (.lst xs.dropLast)) d y:=Rep.imm hdi (Rep.upd (P:=fun p=>p=a) f2 (.inl ⟨_,rfl⟩) rfl (f5.imm hdi));exact k _ _ (g1.bind hj rd) (g2.trans (Fr'.bind hj (a6.refl _)))
 | _=>cases e
def Fy(h:PS X st (Fu i j (tEs X.K cl (.cons a' (.cons b' .nil)))))(hi:M.contains i=false)(hj:M.contains j=false):SS X cl M st (.par i j a' b'):=by
 refine PS.weak h fun D σ H h=>?_;obtain⟨σD,o,σD',rv,e,k⟩:=h;obtain⟨x,e1,e⟩:=bind_some e;obtain⟨y,e2,e⟩:=bind_some e;split at e
 ·rename_i him;cases e;rw[Bool.and_eq_true]at him;refine⟨σD,[x,y],rv.rv0,by rw[RL.evs,e1,RL.evs,e2];rfl,fun vs H1 s1 r1=>?_⟩;rw[ae]at r1;obtain⟨v,t,rfl,r2,r3⟩:=r1;rw[ae]at r3;obtain⟨u,t,rfl,r4,r5⟩:=r3;rw[ae]at r5;subst r5;refine⟨v,u,rfl,k _ _ ?_ ?_⟩
  ·refine((rv.same s1).bind hi (r2.imm him.1)).bind hj (r4.imm him.2)
  ·exact(Fr'.bind hi s1).trans (Fr'.bind hj (a6.refl _))
 ·cases e
def DO(h:PS X st (pU (tE X.K cl e'))):SS X cl M st (.exc e'):=by
 refine PS.weak h fun D σ H h=>?_;obtain⟨σD,o,σD',rv,e,k⟩:=h;obtain⟨d,e1,e2⟩:=map_some e;cases e2;exact⟨σD,d,rv.rv0,e1,fun v H1 r1=>k _ _ (rv.same r1.same) (Fr'.same r1.same)⟩
end rules
section rules
variable{X:Cx}{cl:RL.Cl}{M:List Nat}{st:Stmt}{e':RL.E}
def C6{is:List Nat}(h:PS X st (nE (tE X.K cl e') (fun v σ H Q=>nJ X.K is.length (gs is) v σ H Q\/nZ X.K is.length (gs is) v σ H Q)))(hM:∀ i∈is,M.contains i=false):SS X cl M st (.unp is e'):=by
 refine PS.weak h fun D σ H h=>?_;obtain⟨σD,o,σD',rv,e,k⟩:=h;obtain⟨d,e1,e⟩:=bind_some e;obtain⟨ds,e2,e⟩:=bind_some e;split at e
 ·rename_i him;obtain⟨σ1,e3,e4⟩:=map_some e;cases e4;obtain⟨q1,q2⟩:=gw e3;refine⟨σD,d,rv.rv0,e1,fun v H1 r1=>?_⟩;obtain⟨p,xs,rfl,hp,rs⟩:=jU e2 r1.rep;obtain⟨g1,g2⟩:=(rv.same r1.same).bo (vs:=xs) hM q1 him rs;have fin:D.nx (cU is xs σ) H1:=k _ _ (by rw[q2];exact g1) ⟨fun b o e n=>⟨r1.same _ _ e,by rw[g2];exact n⟩,fun j hj=>qT hM hj⟩
  have hl:xs.length=is.length:=by rw[<-rs.length,q1]
  rcases hp with⟨hp,_⟩ | ⟨hp,_⟩
  ·exact .inr ⟨p,xs,rfl,SqL.of hp,hl,jP hl.symm fin⟩
  ·exact .inl ⟨p,xs,rfl,SqT.of hp,hl,jP hl.symm fin⟩
 ·cases e
def mB{α:Type}(xs:List α)(k:Int):(xs.drop (HT.sIx xs.length 0 none)).take (HT.sIx xs.length xs.length (some k)-HT.sIx xs.length 0 none)=xs.take (RL.cutAt xs.length k):=by
 rw[HT.yX,List.drop_zero,Nat.sub_zero];congr 1;have h:=HT.lr k xs.length xs.length;unfold RL.cutAt;split at h
 ·rename_i h0;rw[if_neg (by lia)];lia
 ·rename_i h0;rw[if_pos (by lia)];lia
end rules
section rules
variable{X:Cx}{cl:RL.Cl}{a b:Expr}{a' b':RL.E}{pos p p2:Pos}{x:Str}
def one{σ:L2.St}{H:Hp}{R:List V->Hp->Prop}{σD:RL.St}{d:RL.D}(rv:RV0 X.K σD σ H)(ea:RL.ev cl σD a'=some d)(k:∀ v H1,a6 H H1->Rep nP X.K H1 d v->R [v] H1):tEs X.K cl (.cons a' .nil) σ H R :=
 ⟨σD,[d],rv,by rw[RL.evs,ea];rfl,fun vs H1 s1 r1=>by
  rw[ae]at r1;obtain⟨v,t,rfl,r2,r3⟩:=r1;rw[ae]at r3;subst r3
  exact k v H1 s1 r2⟩
def pair{σ:L2.St}{H:Hp}{R:List V->Hp->Prop}{σD:RL.St}{d d':RL.D}(rv:RV0 X.K σD σ H)(ea:RL.ev cl σD a'=some d)(eb:RL.ev cl σD b'=some d')(k:∀ v u H1,a6 H H1->Rep nP X.K H1 d v->Rep nP X.K H1 d' u->R [v,u] H1):tEs X.K cl (.cons a' (.cons b' .nil)) σ H R :=
 ⟨σD,[d,d'],rv,by rw[RL.evs,ea,RL.evs,eb];rfl,fun vs H1 s1 r1=>by
  rw[ae]at r1;obtain⟨v,t,rfl,r2,r3⟩:=r1;rw[ae]at r3;obtain⟨u,t,rfl,r4,r5⟩:=r3;rw[ae]at r5;subst r5
  exact k v u H1 s1 r2 r4⟩
def iJ{id:String}{r:List V->Hp->VK->Prop}{b:RL.Bi}(hc:bD X (.builtin id) r)(hg:Gl X x)(hm:X.mg x=none)(hv:bootBuiltins x=some (.builtin id))(ha:SE X cl a a')(hn:noStar a=true)(h1:x ≠ "__name__")(h2:(x == ("__debug__" : Str))=false)
 (ok:∀ (σD:RL.St) (σ:L2.St) (H H1:Hp) (y d:RL.D) (v:V) (Q:VK),RL.biV b y=some d->a6 H H1->Rep nP X.K H1 y v->(∀ w H',Res X.K σD σ H (.bi b a') d w H'->Q w H')->r [v] H1 Q):SE X cl (.Call (.Name x p) [a] [] pos) (.bi b a'):=by
 refine PE.weak (ig hc hg hm hv (bz (cl:=cl) ha c6 hn) h1 h2 (aC [] hn) rfl) fun σ H Q h=>?_;obtain⟨σD,d,rv,e,k⟩:=h;obtain⟨y,ea,e⟩:=bind_some e;exact one rv ea fun v H1 s1 r1=>ok σD σ H H1 y d v Q e s1 r1 k
def kM{T:String}{r:List V->Hp->VK->Prop}{b:RL.Bi}(hc:bD X (.type T) r)(hg:Gl X x)(hm:X.mg x=none)(hv:bootBuiltins x=some (.type T))(ha:SE X cl a a')(hn:noStar a=true)(h1:x ≠ "__name__")(h2:(x == ("__debug__" : Str))=false)
 (ok:∀ (σD:RL.St) (σ:L2.St) (H H1:Hp) (y d:RL.D) (v:V) (Q:VK),RL.biV b y=some d->a6 H H1->Rep nP X.K H1 y v->(∀ w H',Res X.K σD σ H (.bi b a') d w H'->Q w H')->r [v] H1 Q):SE X cl (.Call (.Name x p) [a] [] pos) (.bi b a'):=by
 refine PE.weak (cO hc hg hm hv (bz (cl:=cl) ha c6 hn) h1 h2 (aC [] hn) rfl) fun σ H Q h=>?_;obtain⟨σD,d,rv,e,k⟩:=h;obtain⟨y,ea,e⟩:=bind_some e;exact one rv ea fun v H1 s1 r1=>ok σD σ H H1 y d v Q e s1 r1 k
def B7(hg:Gl X "list")(hm:X.mg "list" = none)(ha:SE X cl a a')(hn:noStar a=true):SE X cl (.Call (.Name "list" p) [a] [] pos) (.bi .list a'):=by
 refine kM qG hg hm (by decide +kernel) ha hn (by decide) (by decide) fun σD σ H H1 y d v Q e s1 r1 k=>?_;obtain⟨ds,e1,e2⟩:=map_some (show(RL.items y).map RL.D.lst=some d from e);subst e2;obtain⟨q,xs,rfl,hp,rs⟩:=jU e1 r1;refine⟨q,xs,rfl,?_,fun l hl=>k _ _ (dZ s1 hl rs fun _=>rfl)⟩
 rcases hp with⟨z,_⟩ | ⟨z,_⟩
 ·exact .inl (SqL.of z)
 ·exact .inr (SqT.of z)
def yc(hg:Gl X "tuple")(hm:X.mg "tuple" = none)(ha:SE X cl a a')(hn:noStar a=true):SE X cl (.Call (.Name "tuple" p) [a] [] pos) (.bi .tuple a'):=by
 refine kM pO hg hm (by decide +kernel) ha hn (by decide) (by decide) fun σD σ H H1 y d v Q e s1 r1 k=>?_;obtain⟨ds,e1,e2⟩:=map_some (show(RL.items y).map RL.D.tup=some d from e);subst e2;obtain⟨q,xs,rfl,hp,rs⟩:=jU e1 r1
 rcases hp with⟨z,_⟩ | ⟨z,_⟩
 ·exact⟨q,xs,rfl,.inl ⟨SqL.of z,fun l hl=>k _ _ (i4 s1 hl rs fun _=>rfl)⟩⟩
 ·refine⟨q,xs,rfl,.inr ⟨SqT.of z,k _ _ ⟨s1,?_,fun _ m=>(by cases m),fun M z=>nomatch (show false=true from z)⟩⟩⟩;rw[Rep];exact⟨q,xs,rfl,z,rs⟩
def EV(hg:Gl X "int")(hm:X.mg "int" = none)(ha:SE X cl a a')(hn:noStar a=true):SE X cl (.Call (.Name "int" p) [a] [] pos) (.bi .int a'):=by
 refine kM vJ hg hm (by decide +kernel) ha hn (by decide) (by decide) fun σD σ H H1 y d v Q e s1 r1 k=>?_
 cases y<;>simp only[RL.biV]at e<;>first | (cases e;done) | skip
 case bl t=>cases e;exact .inr ⟨t,by rw[bg r1],k _ _ (cJ s1 aQ rfl)⟩
 case int t=>cases e;exact .inl ⟨t,by rw[ah r1],k _ _ (cJ s1 aQ rfl)⟩
def uO{prog:Program}{w:World}{K:Type} [DecidableEq K]{knd:HeapKind prog w K}{d:Addr}(hd:(d == sysModules)=false) :
  MeetsIn prog w (Builtin.«dict.__len__» ⟨[.ref d],[]⟩) (fun _ R s=>∃ xs,s.heap.DictOfH knd d xs/\R (.ok (.ret (.int xs.length s.toks))) { s with toks:=s.toks+1 }) :=
 .of_wp fun A R s ⟨xs,hm,h⟩=>by
  obtain⟨o,es,ep,ho,hc,hdat,hk,_,_⟩:=hm;show wpAny _ _ (dictSize d >>= _) _ _ s;unfold dictSize;refine wpAny_bind (wpAny_bind (wpAny_dictEntries ho hdat (wpAny_pure ?_)));show wpAny _ _ (Builtin.Dict.pendingCount d >>= _) _ _ s;refine wpAny_bind (wpAny_pendingCount_other hd ?_);refine wpAny_ret_mkInt ?_;rw[Nat.add_zero,size_of_entries hk];exact h
def oE{prog:Program}{w:World}{K:Type} [DecidableEq K]{knd:HeapKind prog w K}{A:Around}{E:Value->Shared->Prop}{s:Shared}{d:Addr}{xs:List (K × Addr × Value)}{Q:Value->Shared->Prop}(hd:(d == sysModules)=false)(hm:s.heap.DictOfH knd d xs)(hfit:(xs.length:Int)<2 ^ 63)
 (h:Q (.int xs.length (s.toks+1)) { s with toks:=s.toks+1+1 }):wpAny (model prog w) A (call (.builtin "len") [.ref d]) Q E s:=by
 refine Calls.call_function_entry kind_len plain_len entry_len (args_len1 _) ?_;unfold Builtin.«len»;refine wpAny_bind (m:=oneArg "len" _) (wpAny_pure ?_)
 refine wpAny_bind (m:=callSpecial? (.ref d) (Str.ofString "__len__")) (wpAny_callSpecial?_slot (name:=Str.ofString "__len__") hm.typeIs F.slot_dict_len
  (call_meetsIn F.slot_dict_len hm.typeIs F.entry_dict_len (F.args_dict_len_1 _) (uO hd) ⟨xs,hm,?_⟩))
 show wpAny _ _ _ _ _ { s with toks:=s.toks+1 };refine wpAny_bind (wpAny_holding (wpAny_pure ?_));refine wpAny_bind (wpAny_letGo ?_);show wpAny _ _ (if((xs.length:Nat):Int)<0 then _ else _) _ _ _;rw[if_neg (by omega)];show wpAny _ _ (if((xs.length:Nat):Int)≥2 ^ 63 then _ else _) _ _ _;rw[if_neg (by omega)];exact wpAny_bind (wpAny_mkInt (wpAny_pure ⟨_,rfl,h⟩))
def vH:bD X (.builtin "len") (fun xs H Q=>∃ a kvs,xs=[V.ref a]/\H a=some (.dT kvs)/\Q (.int kvs.length) H):=by
 intro pins s σ H xs us Q I r h;obtain⟨a,kvs,rfl,ha,q⟩:=h;obtain⟨u,rfl,ru⟩:=vals1 r;cases ru;obtain⟨z,hd,xs,rel,dd⟩:=Ar I.hok ha;have hl:kvs.length=xs.length:=Paired.length rel;refine oE hd dd (by rw[<-hl];rw[sizeLine_eq]at z;omega) ?_;rw[<-hl];exact⟨.int kvs.length,H,I.tok _,⟨_,rfl⟩,q⟩
def xt:bD X (.builtin "len") (fun xs H Q=>(∃ y n,xs=[y]/\DE X.K y H n/\Q (.int n) H)\/(∃ q kvs,xs=[V.ref q]/\H q=some (.dK kvs)/\Q (.int kvs.length) H)\/∃ q kvs,xs=[V.ref q]/\H q=some (.dT kvs)/\Q (.int kvs.length) H):=bD.or zY (bD.or xv vH)
def Ey(hg:Gl X "len")(hm:X.mg "len" = none)(ha:SE X cl a a')(hn:noStar a=true):SE X cl (.Call (.Name "len" p) [a] [] pos) (.bi .len a'):=by
 refine iJ xt hg hm PySem.boot_len ha hn (by decide) (by decide) fun σD σ H H1 y d v Q e s1 r1 k=>?_
 cases y<;>simp only[RL.biV,RL.items,Option.map_some,Option.map_none]at e<;>first | (cases e;done) | skip
 case str t =>
  split at e
  ·rename_i hz;cases e;rw[aY r1];exact .inl ⟨_,_,rfl,⟨Nat.le_trans hz cw,rfl⟩,k _ _ (cJ s1 aQ rfl)⟩
  ·cases e
 case tup t =>
  cases e;obtain⟨q,xs,rfl,f2,f3⟩:=b9 r1;rw[f3.length]at k;exact .inl ⟨_,_,rfl,.inr ⟨xs,SqT.of f2,rfl⟩,k _ _ (cJ s1 aQ rfl)⟩
 case lst t =>
  cases e;obtain⟨q,xs,rfl,_,f2,f3⟩:=aB r1;rw[f3.length]at k;exact .inl ⟨_,_,rfl,.inl ⟨xs,SqL.of f2,rfl⟩,k _ _ (cJ s1 aQ rfl)⟩
 case dK ks t =>
  cases e;rw[Rep]at r1;obtain⟨q,xs,rfl,_,f2,fl,f3⟩:=r1;refine .inr (.inl ⟨q,_,rfl,f2,?_⟩)
  have:(ks.zip xs).length=ks.length:=by rw[List.length_zip,<-f3.length,fl,Nat.min_self]
  rw[this];exact k _ _ (cJ s1 aQ rfl)
 case dT ks t =>
  cases e;rw[Rep]at r1;obtain⟨q,xs,rfl,_,f2,fl,f3⟩:=r1;refine .inr (.inr ⟨q,_,rfl,f2,?_⟩)
  have:(ks.zip xs).length=ks.length:=by rw[List.length_zip,<-f3.length,fl,Nat.min_self]
  rw[this];exact k _ _ (cJ s1 aQ rfl)
def Fq(hc:X.calm=true)(hg:Gl X "max")(hm:X.mg "max" = none)(ha:SE X cl a a')(hb:SE X cl b b')(hn:noStar a=true)(hn2:noStar b=true):SE X cl (.Call (.Name "max" p) [a,b] [] pos) (.max a' b'):=by
 refine PE.weak (ig (xG hc) hg hm (by decide +kernel) (bz (cl:=cl) ha (bz hb c6 hn2) hn) (by decide) (by decide) (aC _ hn) (dP (by simp[hn2]))) fun σ H Q h=>?_;obtain⟨σD,d,rv,e,k⟩:=h;obtain⟨u,ea,e⟩:=bind_some e;obtain⟨v,eb,e⟩:=bind_some e
 cases u with
 |int i=>
  cases v with
  |int j=>
   cases e
   exact pair rv ea eb fun v u H1 s1 r1 r2=>⟨i,j,by rw[ah r1,ah r2],k _ _ (cJ s1 aQ rfl)⟩
  | _=>cases e
 | _=>cases e
abbrev tyN:RL.Ty->String
 | .int => "int"
 | .bool => "bool"
 | .list => "list"
 | .tuple => "tuple"
 | .str => "str"
def zC:bD X (.builtin "isinstance") (fun xs H Q=>∃ y t T k,xs=[y,.ty T]/\eS X.K H y t/\PySem.W.kitOne X.K t (.type T)=some k/\Q (.bl k) H):=by
 intro pins s σ H xs us Q I r h;obtain⟨y,t,T,k,rfl,ty,e,q⟩:=h;obtain⟨u,w,rfl,r1,r2⟩:=vals2 r;cases r2
 exact x6 I r1 ty e fun tk=>⟨.bl k,H,I.tok tk,rfl,q⟩
def CK{t:RL.Ty}{d:RL.D}{k:Bool}{v:V}{H:Hp}(h:RL.yz t d=some k)(r:Rep nP X.K H d v):∃ ty,eS X.K H v ty/\PySem.W.kitOne X.K ty (.type (tyN t))=some k:=by
 cases d with
 | non=>rw[Rep]at r;subst r;refine⟨_,.non,?_⟩;cases t<;>(cases h;rfl)
 | bl i=>rw[bg r];refine⟨_,.bl i,?_⟩;cases t<;>(cases h;rfl)
 | int i=>rw[ah r];refine⟨_,.int i,?_⟩;cases t<;>(cases h;rfl)
 | str i=>rw[aY r];refine⟨_,.str i,?_⟩;cases t<;>(cases h;rfl)
 | tup i=>obtain⟨q,xs,rfl,f2,f3⟩:=b9 r;refine⟨_,.tup f2,?_⟩;cases t<;>(cases h;rfl)
 | lst i=>obtain⟨q,xs,rfl,_,f2,f3⟩:=aB r;refine⟨_,.lst f2,?_⟩;cases t<;>(cases h;rfl)
 | _=>cases t<;>cases h
def ED{t:RL.Ty}{y:Str}(hg:Gl X "isinstance")(hm:X.mg "isinstance" = none)(hgy:Gl X y)(hmy:X.mg y=none)(hy:bootBuiltins y=some (.type (tyN t)))(hy1:y ≠ "__name__")(hy2:(y == ("__debug__" : Str))=false)(ha:SE X cl a a')(hn:noStar a=true) :
  SE X cl (.Call (.Name "isinstance" p) [a,.Name y p2] [] pos) (.isi a' t):=by
 have hty:PE X (.Name y p2) (tC (.ty (tyN t))):=BO hgy hmy hy rfl hy1 hy2;refine PE.weak (ig zC hg hm (by decide +kernel) (cK ha (cK hty eZ) (aC _ hn)) (by decide) (by decide) (aC _ hn) rfl) fun σ H Q h=>?_;obtain⟨σD,d,rv,e,k⟩:=h;obtain⟨u,ea,e⟩:=bind_some e;obtain⟨t',e1,e2⟩:=map_some e;subst e2;refine⟨σD,u,rv,ea,fun v H1 r1=>?_⟩;obtain⟨ty,h1,h2⟩:=CK e1 r1.rep;exact⟨v,ty,_,t',rfl,h1,h2,k _ _ (fN r1.same)⟩
end rules
end RS
namespace L2
open PySem PySem.Spec PyProof.Rows
structure kW(prog:Program)(w:World):Prop where
 draws:∀ {A:Around},A.handled=none->∀ (ti tp:Addr),tp≠ti->∀ its:Array Value,Draws prog w A ti [ti,tp] its.size (fun i v=>its[i]?=some v) (fun i h=>h.IsTupleIter ti tp i/\h.IsTuple tp its)
 call:∀ {A:Around} {E:Value->Shared->Prop} {z:Shared} {tp:Addr} {its:Array Value} {Q:Value->Shared->Prop},z.heap.IsTuple tp its ->
  (∀ g,IsEnum g (z.heap.objs.size+1) z.heap.objs.size 0 .none->g.IsTupleIter z.heap.objs.size tp 0->(∀ b o,z.heap.get? b=some o->g.get? b=some o)->Q (.ref (z.heap.objs.size+1)) { z with heap:=g })->wpAny (model prog w) A (call (.type "enumerate") [.ref tp]) Q E z
section
variable{X:Cx}{pins:List (Addr × Obj)}{σ:St}{H:Hp}{s:Shared}
def Inv.Cr{h':Heap}{t':Nat}{fp:List Addr}(I:Inv X pins σ H s)(k:∀ b o,b∉fp->s.heap.get? b=some o->h'.get? b=some o)(hf:∀ b∈fp,H b=none/\(b∈X.ex\/X.s₀.heap.objs.size<=b)/\b≠X.env.locals/\(∀ x c,X.env.cells.lookup x=some c->c≠b)/\∀ p∈X.pn++pins,p.1≠b) :
  Inv X pins σ H { s with heap:=h',toks:=t' }:=by
 have nf:∀ b u,H b=some u->b∉fp:=fun b u e z=>by rw[(hf b z).1]at e;cases e
 refine I.AD (s':={ s with heap:=h',toks:=t' }) (ch:=fp) rfl ⟨fun b o e _ _ hx=>k b o hx e,fun b o e _ _ hx=>⟨o.slots,k b o hx e⟩,fun _ _ _ n _=>n,fun b o e hx=>⟨o,k b o hx e⟩,fun _ _ e=>e,fun _ _ _ e=>e,fun b ps e=>⟨#[],by rw[e];simp⟩⟩ (fun b u e=>?_) I.bare fun b hb=>(hf b hb).2;refine(I.hok b u e).oY (fun c v hc q=>k c v ?_ q) (fun _ q=>q) fun _ _ q=>q;rcases hc with z | z
 ·rw[z];exact nf b u e
 ·exact nf c _ z
end
abbrev Ite(cont:Hp->List V->Prop):It :=
 ⟨fun i H=>∃ xs x,cont H xs/\xs[i]?=some x,fun i H v H'=>∃ p x,H p=none/\v=.ref p/\H'=upd H p (.tup [.int i,x])/\∀ xs,cont H xs->xs[i]?=some x,fun i H=>∃ xs,cont H xs/\xs.length=i⟩
structure Src(P:Program)(w:World)(K:PySem.W.Frag)(e it:Addr)(cont:Hp->List V->Prop)(ia:Nat->Heap->Prop):Prop where
 obj:∀ i h,ia i h->∃ o,h.get? it=some o/\∀ v,o.data≠.cell v
 keep:∀ i h h',ia i h->(∀ o,h.get? it=some o->h'.get? it=some o)->ia i h'
 inj:∀ (H:Hp) xs ys,cont H xs->cont H ys->xs=ys
 dr:∀ (X:Cx),X.prog=P->X.w=w->X.K=K->X.calm=true->∀ (pins:List (Addr × Obj)) (s:Shared) (σ:St) (H:Hp) (xs:List V),Inv X pins σ H s->H e=none->H it=none->cont H xs ->
  ∃ (fp:List Addr) (Pv:Nat->Value->Prop) (St:Nat->Heap->Prop),Draws P w X.A.in1 it fp xs.length Pv St/\e∉fp/\(∀ i,ia i s.heap->St i s.heap)/\(∀ i h,St i h->ia i h)/\∀ i v,Pv i v->∃ x,xs[i]?=some x/\RelV x v
def vV{P:Program}{w:World}{K:PySem.W.Frag}{elts:List Expr}{kx:Nat}{tp:Pos}{e it:Addr}{cont:Hp->List V->Prop}{ia:Nat->Heap->Prop}(hei:e≠it)(S:Src P w K e it cont ia) :
  Turn P w K (.Tuple elts kx tp) (Ite cont) [e,it] e (fun i h=>(∃ old,IsEnum h e it i old)/\ia i h) where
 mem:=by simp
 obj:=fun i h st b hb=>by
  rcases List.mem_cons.mp hb with rfl | hb
  ·obtain⟨⟨old,he⟩,_⟩:=st;exact⟨_,he,fun v z=>by cases z⟩
  ·rw[List.mem_singleton.mp hb];exact S.obj i h st.2
 keep:=fun i h h' st k=>by
  obtain⟨⟨old,he⟩,hi⟩:=st;exact⟨⟨old,k e (by simp) _ he⟩,S.keep i h h' hi fun o q=>k it (by simp) o q⟩
 item:=by
  intro X hP hw hK hc i pins s σ H E I hf st hg;subst hP hw hK;obtain⟨⟨old,he⟩,hi⟩:=st;obtain⟨xs,x,hq,hx⟩:=hg;have fe:=hf e (by simp);have fi:=hf it (by simp);obtain⟨fp,Pv,St,D,hef,h1,h2,h3⟩:=S.dr X rfl rfl rfl hc pins s σ H xs I fe.1 fi.1 hq;have hlt:i<xs.length:=(List.getElem?_eq_some_iff.mp hx).1;refine wpAny_pyNext_enum_itemD D he (h1 i hi) hlt hei hef fun v h' tk hP ho hs' hT hsz hk=>?_;obtain⟨x',hx',rx⟩:=h3 i v hP;rw[hx]at hx';cases hx';refine⟨.ref s.heap.objs.size,rfl,wpAny_letOwnedTupleGo_enum ho fun h'' he' hs''=>?_⟩;have hn:H s.heap.objs.size=none:=I.hok.fresh (Nat.le_refl _)
  have I1:Inv X pins σ (upd H s.heap.objs.size (.tup [.int i,x])) { s with heap:=s.heap.push { cls:=.type "tuple",data:=.seq #[.int i tk,v] },toks:=tk+1 } :=
   I.laid (t':=tk+1) (fun b u q=>Heap.get?_push_of_some _ q) (Nat.le_refl _) ⟨by show 2<=sizeLine;decide,[.int i tk,v],.cons ⟨tk,rfl⟩ (.cons rx .nil),⟨_,Heap.get?_push_size _ rfl,rfl,_,rfl⟩⟩
  have hes:e<s.heap.objs.size:=Heap.lt_size he
  have hit:it<s.heap.objs.size:=by obtain⟨o,q,_⟩:=S.obj i _ hi;exact Heap.lt_size q
  have stat:∀ b∈[e,it],upd H s.heap.objs.size (.tup [.int i,x]) b=none/\(b∈X.ex\/X.s₀.heap.objs.size<=b)/\b≠X.env.locals/\(∀ x c,X.env.cells.lookup x=some c->c≠b)/\∀ p∈X.pn++pins,p.1≠b:=fun b hb=>by
   obtain⟨f0,f1,f2,f3,f4,f5⟩:=hf b hb
   have hb':b≠s.heap.objs.size:=by
    rcases List.mem_cons.mp hb with rfl | hb
    ·exact Nat.ne_of_lt hes
    ·rw[List.mem_singleton.mp hb];exact Nat.ne_of_lt hit
   exact⟨by rw[aV hb'];exact f0,f3,f1,f4,f5⟩
  have I2:Inv X pins σ (upd H s.heap.objs.size (.tup [.int i,x])) { s with heap:=h'',toks:=tk+1 }:=by
   refine Inv.Cr (s:={ s with heap:=s.heap.push { cls:=.type "tuple",data:=.seq #[.int i tk,v] },toks:=tk+1 }) (h':=h'') (t':=tk+1) (fp:=[e,it]) I1 (fun b o hb q=>?_) stat;have b1:b≠e:=fun z=>hb (by simp[z]);have b2:b≠it:=fun z=>hb (by simp[z]);refine hs''.extBut b o b1 ?_;by_cases hbT:b=s.heap.objs.size
   ·subst hbT;have q':(s.heap.push { cls:=.type "tuple",data:=.seq #[.int i tk,v] }).get? s.heap.objs.size=some o:=q;rw[Heap.get?_push_size _ rfl]at q';cases q';exact hT
   ·have q':s.heap.get? b=some o:=(Heap.get?_push_ne _ _ _ hbT).symm.trans q;exact hk b o b1 b2 q'
  refine⟨.ref s.heap.objs.size,_,I2,rfl,⟨s.heap.objs.size,x,hn,rfl,rfl,fun ys hy=>by rw[S.inj H ys xs hy hq];exact hx⟩,⟨⟨v,by simpa using he'⟩,S.keep _ h' h'' (h2 _ _ hs') fun o q=>hs''.extBut _ _ (Ne.symm hei) q⟩,fun b hb=>(stat b hb).1⟩
 done:=by
  intro X hP hw hK hc i pins s σ H E I hf st hg;subst hP hw hK;obtain⟨⟨old,he⟩,hi⟩:=st;obtain⟨xs,hq,hx⟩:=hg;have fe:=hf e (by simp);have fi:=hf it (by simp);obtain⟨fp,Pv,St,D,hef,h1,h2,h3⟩:=S.dr X rfl rfl rfl hc pins s σ H xs I fe.1 fi.1 hq;subst hx
  refine wpAny_pyNext_enum_endD D he (h1 _ hi) fun h' eb=>⟨rfl,?_⟩
  obtain⟨f0,f1,f2,f3,f4,f5⟩:=fi;exact I.turned (it:=it) (h':=h') (t':=s.toks) (fun b o hb q=>eb b o hb q) f0 f1 f3 f4 f5
 self:=fun A i s Q E st h=>by
  obtain⟨⟨old,he⟩,hi⟩:=st;exact wpAny_pyIter_enum he h
def src_list{P:Program}{w:World}{K:PySem.W.Frag}{e it l:Addr}(hei:e≠it):Src P w K e it (fun H xs=>H l=some (.lst xs)) (fun i h=>h.IsListIter it l i) where
 obj:=fun i h st=>let ⟨o,ho,_,hd⟩:=st;⟨o,ho,fun v q=>by rw[hd]at q;cases q⟩
 keep:=fun i h h' st k=>st.at fun o q=>k o q
 inj:=fun H xs ys h1 h2=>by rw[h1]at h2;cases h2;rfl
 dr:=by
  intro X hP hw hK hc pins s σ H xs I he hi hx;subst hP hw hK;obtain⟨its,rv,p,hz⟩:=I.list (SqL.of hx)
  have hl:its.toArray.size=xs.length:=by rw[List.size_toArray,rv.length]
  have hh:X.A.in1.handled=none:=I.ok.hd.1 hc;have D:=Draws.list (prog:=X.prog) (w:=X.w) (A:=X.A.in1) hh it l (bc hx hi) its.toArray;rw[hl]at D;refine⟨_,_,_,D,?_,fun i st=>⟨st,p.isList⟩,fun i h st=>st.1,fun i v hv=>?_⟩
  ·intro m;rcases List.mem_cons.mp m with q | m
   ·exact hei q
   ·exact(bc hx he).symm (List.mem_singleton.mp m)
  ·have hv:its[i]?=some v:=by simpa using hv
   have hlt:i<xs.length:=by rw[rv.length];exact(List.getElem?_eq_some_iff.mp hv).1
   obtain⟨u,h1,h2⟩:=rv.get (i:=i) (x:=xs[i]) (by simp[hlt]);rw[hv]at h1;cases h1;exact⟨xs[i],by simp[hlt],h2⟩
def BY{P:Program}{w:World}{K:PySem.W.Frag}{e it l:Addr}(TE:kW P w)(hei:e≠it):Src P w K e it (fun H xs=>H l=some (.tup xs)) (fun i h=>h.IsTupleIter it l i) where
 obj:=fun i h st=>let ⟨o,ho,_,hd⟩:=st;⟨o,ho,fun v q=>by rw[hd]at q;cases q⟩
 keep:=fun i h h' st k=>let ⟨o,ho,r⟩:=st;⟨o,k o ho,r⟩
 inj:=fun H xs ys h1 h2=>by rw[h1]at h2;cases h2;rfl
 dr:=by
  intro X hP hw hK hc pins s σ H xs I he hi hx;subst hP hw hK;obtain⟨its,rv,p,hz⟩:=I.tuple (SqT.of hx)
  have hl:its.toArray.size=xs.length:=by rw[List.size_toArray,rv.length]
  have hh:X.A.in1.handled=none:=I.ok.hd.1 hc;have D:=TE.draws (A:=X.A.in1) hh it l (bc hx hi) its.toArray;rw[hl]at D;refine⟨_,_,_,D,?_,fun i st=>⟨st,p⟩,fun i h st=>st.1,fun i v hv=>?_⟩
  ·intro m;rcases List.mem_cons.mp m with q | m
   ·exact hei q
   ·exact(bc hx he).symm (List.mem_singleton.mp m)
  ·have hv:its[i]?=some v:=by simpa using hv
   have hlt:i<xs.length:=by rw[rv.length];exact(List.getElem?_eq_some_iff.mp hv).1
   obtain⟨u,h1,h2⟩:=rv.get (i:=i) (x:=xs[i]) (by simp[hlt]);rw[hv]at h1;cases h1;exact⟨xs[i],by simp[hlt],h2⟩
abbrev jg(x:Str):List V:=x.cps.toList.map fun c=>.str ⟨#[c]⟩
def BE{P:Program}{w:World}{K:PySem.W.Frag}{e it:Addr}{x:Str}{t:Tok}(hei:e≠it):Src P w K e it (fun _ xs=>xs=jg x) (fun i h=>h.IsStrIter it (strIterType x) x t i) where
 obj:=fun i h st=>let ⟨o,ho,_,hd⟩:=st;⟨o,ho,fun v q=>by rw[hd]at q;cases q⟩
 keep:=fun i h h' st k=>let ⟨o,ho,r⟩:=st;⟨o,k o ho,r⟩
 inj:=fun H xs ys h1 h2=>by rw[h1,h2]
 dr:=by
  intro X hP hw hK hc pins s σ H xs I he hi hx;subst hP hw hK hx;have hh:X.A.in1.handled=none:=I.ok.hd.1 hc
  have hl:x.cps.size=(jg x).length:=by simp[jg]
  have pv:∀ (i:Nat) (v:Value),(∃ c u,x.cps[i]?=some c/\v=Value.str ⟨#[c]⟩ u)->∃ y,(jg x)[i]?=some y/\RelV y v:=fun i v hv=>by
   obtain⟨c,u,h1,h2⟩:=hv;exact⟨.str ⟨#[c]⟩,by simp[jg,h1],u,h2⟩
  have ni:e∉[it]:=fun m=>hei (List.mem_singleton.mp m)
  cases ha:x.cps.all (·<128)with
  |true=>
   have ht:strIterType x = "str_ascii_iterator" := by simp[strIterType,ha]
   have D:=Draws.strAscii (prog:=X.prog) (w:=X.w) (A:=X.A.in1) hh it x t;rw[hl]at D;exact⟨_,_,_,D,ni,fun i st=>by rw[ht]at st;exact st,fun i h st=>by rw[ht];exact st,pv⟩
  |false=>
   have ht:strIterType x = "str_iterator" := by simp[strIterType,ha]
   have D:=Draws.strWide (prog:=X.prog) (w:=X.w) (A:=X.A.in1) hh it x t;rw[hl]at D;exact⟨_,_,_,D,ni,fun i st=>by rw[ht]at st;exact st,fun i h st=>by rw[ht];exact st,pv⟩
section
variable{X:Cx}{elts:List Expr}{kx:Nat}{tp p pos:Pos}{a:Expr}{ta:TA}
abbrev FW(ta:TA):TI:=fun σ H R=>ta σ H fun vs H1=>(∃ l xs,vs=[.ref l]/\H1 l=some (.lst xs)/\R (Ite fun H xs=>H l=some (.lst xs)) H1)\/(∃ l xs,vs=[.ref l]/\H1 l=some (.tup xs)/\R (Ite fun H xs=>H l=some (.tup xs)) H1) \/
 (∃ x,vs=[.str x]/\R (Ite fun _ xs=>xs=jg x) H1)
def lR{pins:List (Addr × Obj)}{σ:St}{H:Hp}{s:Shared}{g:Heap}{R:It->Hp->Prop}{E:Value->Shared->Prop}{cont:Hp->List V->Prop}{ia:Nat->Heap->Prop}(I:Inv X pins σ H s)(S:Src X.prog X.w X.K (s.heap.objs.size+1) s.heap.objs.size cont ia)
 (he:IsEnum g (s.heap.objs.size+1) s.heap.objs.size 0 .none)(hi:ia 0 g)(hk:∀ b o,s.heap.get? b=some o->g.get? b=some o)(q:R (Ite cont) H) :
  wpAny (model X.prog X.w) X.A (pyIter (.ref (s.heap.objs.size+1))) (PIE X pins σ (.Tuple elts kx tp) R) E { s with heap:=g }:=by
 refine wpAny_pyIter_enum he ⟨s.heap.objs.size+1,[s.heap.objs.size+1,s.heap.objs.size],_,_,H,rfl,I.kept (t':=s.toks) hk,vV (Nat.succ_ne_self _) S,⟨⟨.none,he⟩,hi⟩,fun b hb=>?_,q⟩
 have hb':s.heap.objs.size<=b:=by
  rcases List.mem_cons.mp hb with z | z
  ·rw[z];exact Nat.le_succ _
  ·rw[List.mem_singleton.mp z];exact Nat.le_refl _
 exact I.rh hb' (I.hok.fresh hb')
def Cv(TE:kW X.prog X.w)(hg:Gl X "enumerate")(hm:X.mg "enumerate" = none)(ha:PA X [a] ta)(hs:starEach [a] X.env=[(false,eval a X.env)]):PI X (.Tuple elts kx tp) (.Call (.Name "enumerate" p) [a] [] pos) (FW ta):=by
 intro pins s σ H R I h;refine Call_ (j0 I hg hm boot_enumerate (PyProof.Rows.callWith_type1 (thn (ha pos pins s σ H _ I h) fun us s1 ⟨vs,H1,I1,r1,q1⟩=>?_) hs rfl))
 rcases q1 with⟨l,xs,rfl,hx,q⟩ | ⟨l,xs,rfl,hx,q⟩ | ⟨x,rfl,q⟩
 ·obtain⟨u,rfl,ru⟩:=vals1 r1;cases ru;obtain⟨its,rv,pl,hz⟩:=I1.list (SqL.of hx);exact call_enumerate_list pl.isList fun g he hi hsz hk=>lR I1 (src_list (Nat.succ_ne_self _)) he hi hk q
 ·obtain⟨u,rfl,ru⟩:=vals1 r1;cases ru;obtain⟨its,rv,pl,hz⟩:=I1.tuple (SqT.of hx);exact TE.call pl fun g he hi hk=>lR I1 (BY TE (Nat.succ_ne_self _)) he hi hk q
 ·obtain⟨u,rfl,ru⟩:=vals1 r1;obtain⟨t,rfl⟩:=ru;exact call_enumerate_str fun g he hi hsz hk=>lR I1 (BE (Nat.succ_ne_self _)) he hi hk q
end
end L2
namespace RS
open PySem PySem.Spec PyProof.Rows L2
def kg:∀ (ds:List RL.D) (k:Int),(RL.di k ds).length=ds.length
 | [],_=>rfl
 | d::r,k=>by rw[RL.di,List.length_cons,List.length_cons,kg r]
def pK:∀ (ds:List RL.D) (k:Int) (i:Nat) (d:RL.D),(RL.di k ds)[i]?=some d->∃ e,ds[i]?=some e/\d=.tup [.int (k+i),e]
 | [],k,i,d,h=>by simp[RL.di]at h
 | e::r,k,0,d,h=>by simp[RL.di]at h;exact⟨e,rfl,by simp[h]⟩
 | e::r,k,i+1,d,h=>by
  rw[RL.di,List.getElem?_cons_succ]at h;obtain⟨e',h1,h2⟩:=pK r (k+1) i d h;refine⟨e',by simpa using h1,?_⟩;rw[h2];congr 3;lia
def gO{K:PySem.W.Frag}{H:Hp}{ds:List RL.D}{xs:List V}{P:Addr->Prop}{cont:Hp->List V->Prop}(hc:∀ H',Off P H H'->cont H' xs)(hj:∀ H' ys,cont H' xs->cont H' ys->ys=xs)(r:ae nP K H ds xs)(hm:∀ b o,P b->H b=some o->cZ o):ke K (Ite cont) (RL.di 0 ds) P H where
 go:=fun H' i k hi=>by
  rw[kg]at hi;obtain⟨x,e,_⟩:=r.get (i:=i) (d:=ds[i]) (by simp[hi]);exact⟨xs,x,hc H' k,e⟩
 stop:=fun H' k=>⟨xs,hc H' k,by rw[kg,r.length]⟩
 yld:=fun H' i d v H2 k e y=>by
  obtain⟨p,x,hp,rfl,rfl,hx⟩:=y;obtain⟨e',h1,rfl⟩:=pK ds 0 i d e;obtain⟨x',h2,h3⟩:=r.get h1;rw[hx xs (hc H' k)]at h2;cases h2;refine⟨a6.c7 hp,fun q=>?_⟩
  have re:Rep nP K H' e' x:=by
   rcases q with q | q
   ·have q:(true&&(e'.imm&&true))=true:=q;simp only[Bool.true_and,Bool.and_true]at q;exact m5 hm k h3 q
   ·exact h3.same q
  rw[Rep];refine⟨p,[.int i,x],rfl,bw,ae.cons ?_ (ae.cons (re.same (a6.c7 hp)) ae.nil)⟩;simpa using(aQ (P:=nP) (K:=K) (H:=upd H' p (.tup [.int i,x])) (i:=(i:Int)))
def xy{P:Addr->Prop}{K:PySem.W.Frag}{H:Hp}{d:RL.D}{ds:List RL.D}{v:V}(h:RL.eW d=some ds)(r:Rep P K H d v):(∃ p xs,v=.ref p/\H p=some (.lst xs)/\d=.lst ds/\ae P K H ds xs)\/(∃ p xs,v=.ref p/\H p=some (.tup xs)/\d=.tup ds/\ae P K H ds xs) \/
  (∃ x,v=.str x/\d=.str x/\ds=x.cps.toList.map fun c=>.str ⟨#[c]⟩):=by
 cases d<;>simp only[RL.eW]at h<;>first | (cases h;done) | skip
 case lst ys=>cases h;obtain⟨p,xs,e1,_,e2,e3⟩:=aB r;exact .inl ⟨p,xs,e1,e2,rfl,e3⟩
 case tup ys=>cases h;obtain⟨p,xs,e1,e2,e3⟩:=b9 r;exact .inr (.inl ⟨p,xs,e1,e2,rfl,e3⟩)
 case str x=>cases h;exact .inr (.inr ⟨x,aY r,rfl,rfl⟩)
def jW{P:Addr->Prop}{K:PySem.W.Frag}{H:Hp}:∀ (cs:List Nat),ae P K H (cs.map fun c=>RL.D.str ⟨#[c]⟩) (cs.map fun c=>V.str ⟨#[c]⟩)
 | []=>ae.nil
 | c::r=>ae.cons iX (jW r)
section rules
variable{X:Cx}{cl:RL.Cl}{elts:List Expr}{kx:Nat}{tp p pos:Pos}{a:Expr}{a':RL.E}
def Ee(TE:kW X.prog X.w)(hg:Gl X "enumerate")(hm:X.mg "enumerate" = none)(ha:SE X cl a a')(hn:noStar a=true):SI X cl (.Tuple elts kx tp) (.Call (.Name "enumerate" p) [a] [] pos) (.enm a'):=by
 intro pins s σ H R I h;obtain⟨σD,ds,rv,e,k⟩:=h;obtain⟨d,e1,e2⟩:=bind_some e;obtain⟨es,e3,e4⟩:=map_some e2;subst e4;have hpa:PA X [a] (vp (tE X.K cl a') zu):=cK ha eZ (aC [] hn);refine Cv TE hg hm hpa (aC [] hn) pins s σ H R I ⟨σD,d,rv,e1,fun v H1 r1=>?_⟩
 rcases xy e3 r1.rep with⟨l,xs,rfl,hx,rfl,rs⟩ | ⟨l,xs,rfl,hx,rfl,rs⟩ | ⟨x,rfl,rfl,rfl⟩
 ·refine .inl ⟨l,xs,rfl,hx,k _ _ r1.same ⟨gO (fun H' o=>o _ _ (fun z=>z) hx) (fun H' ys h1 h2=>by rw[h1]at h2;cases h2;rfl) rs jk,fun M P z hP av=>?_⟩⟩;exact gO (fun H' o=>o _ _ (xh r1 z hP av _ _ rfl rfl) hx) (fun H' ys h1 h2=>by rw[h1]at h2;cases h2;rfl) rs (fL r1.same hP)
 ·have np:∀ P:Addr->Prop,(∀ b o,P b->H1 b=some o->cZ o)->¬ P l:=fun P hP q=>by rcases hP l _ q hx with⟨z,q⟩ | ⟨z,q⟩ | ⟨z,q⟩<;>cases q
  exact .inr (.inl ⟨l,xs,rfl,hx,k _ _ r1.same ⟨gO (fun H' o=>o _ _ (np _ jk) hx) (fun H' ys h1 h2=>by rw[h1]at h2;cases h2;rfl) rs jk,fun M P z hP av=>gO (fun H' o=>o _ _ (np P (fL r1.same hP)) hx) (fun H' ys h1 h2=>by rw[h1]at h2;cases h2;rfl) rs (fL r1.same hP)⟩⟩)
 ·exact .inr (.inr ⟨x,rfl,k _ _ r1.same ⟨gO (fun H' o=>rfl) (fun H' ys h1 h2=>h2) (jW _) jk,fun M P z hP av=>gO (fun H' o=>rfl) (fun H' ys h1 h2=>h2) (jW _) (fL r1.same hP)⟩⟩)
end rules
section rules
variable{X:Cx}{cl:RL.Cl}{a b:Expr}{a' b':RL.E}{pos p p2:Pos}{M:List Nat}{st:Stmt}{i:Nat}{e' k':RL.E}
def Ba{P:Addr->Prop}{K:PySem.W.Frag}{H:Hp}{ds:List RL.D}{v:V}(h:Rep P K H (.scr ds) v):∃ a xs,v=.ref a/\ku K H a xs/\ae P K H ds xs:=by rw[Rep]at h;exact h
def xO(n:Nat)(k:Int):HT.sIx n n (some k)=RL.cutAt n k:=by
 have h:=HT.lr k n n;unfold RL.cutAt;split at h
 ·rw[if_neg (by lia)];lia
 ·rw[if_pos (by lia)];lia
def Dl(ha:SE X cl a a')(hb:SE X cl b b'):SE X cl (.Subscript a (.Slice none (some b) none p2) pos) (.slT a' b'):=by
 refine PE.weak (zf (SlR.or Bo DS) ha BI (AL hb)) fun σ H Q h=>?_;obtain⟨σD,d,rv,e,k⟩:=h;obtain⟨x,ea,e⟩:=bind_some e;obtain⟨y,eb,e⟩:=bind_some e;refine⟨σD,x,rv,ea,fun v H1 r1=>⟨σD,y,rv.same r1.same,eb,fun u H2 r2=>?_⟩⟩;have rx:=r1.rep.same r2.same;have sm:=r1.same.trans r2.same
 cases y with
 |int n=>
  refine⟨n,ah r2.rep,?_⟩
  cases x with
  |lst xs=>
   cases e;obtain⟨q,ys,rfl,_,f2,f3⟩:=aB rx;refine .inl ⟨q,ys,rfl,SqL.of f2,fun l hl=>?_⟩;unfold j9;rw[mB,<-f3.length];exact k _ _ (dZ sm hl (f3.take _) fun _=>rfl)
  |scr xs=>
   cases e;obtain⟨q,ys,rfl,f2,f3⟩:=Ba rx;refine .inl ⟨q,ys,rfl,f2.seq,fun l hl=>?_⟩;unfold j9;rw[mB,<-f3.length];exact k _ _ (dZ sm hl (f3.take _) fun _=>rfl)
  |tup xs=>
   simp only[RL.ox]at e;split at e
   ·rename_i hz;cases e;obtain⟨q,ys,rfl,f2,f3⟩:=b9 rx;refine .inr ⟨q,ys,rfl,SqT.of f2,fun z=>?_,fun l hl=>?_⟩
    ·rw[xO,<-f3.length]at z;lia
    ·unfold j9;rw[mB,<-f3.length];exact k _ _ (i4 sm hl (f3.take _) fun _=>rfl)
   ·cases e
  | _=>cases e
 | _=>cases x<;>cases e
abbrev zL:RL.D->RL.D->Option (Option RL.D)
 | .dK ks vs,k=>(RL.keyOf k).map (RL.aF ks vs)
 | .dT ks vs,.tup k=>(RL.keysOf k).map (RL.aF ks vs)
 | _,_=>none
abbrev Ans(P:Addr->Prop)(K:PySem.W.Frag)(H:Hp):Option RL.D->Option V->Prop
 | some d,r=>∃ w,r=some w/\Rep P K H d w
 | none,r=>r=none
def nQ{κ:Type} [DecidableEq κ]{P:Addr->Prop}{K:PySem.W.Frag}{H:Hp}{x:κ}:∀ {ks:List κ} {ds:List RL.D} {xs:List V},ks.length=ds.length->ae P K H ds xs ->
  Ans P K H (RL.aF ks ds x) (fE (ks.zip xs) x)
 | [],ds,xs,hl,r=>by simp[RL.aF,fE,Ans]
 | k::ks,[],xs,hl,r=>by simp at hl
 | k::ks,d::ds,xs,hl,r=>by
  rw[ae]at r;obtain⟨v,t,rfl,r1,r2⟩:=r;by_cases hk:k=x
  ·have h1:RL.aF (k::ks) (d::ds) x=some d:=by rw[RL.aF,if_pos hk]
   rw[h1];exact⟨v,by rw[List.zip_cons_cons];exact jI hk,r1⟩
  ·have ih:=nQ (x:=x) (ks:=ks) (ds:=ds) (xs:=t) (by simpa using hl) r2
   have h1:RL.aF (k::ks) (d::ds) x=RL.aF ks ds x:=by rw[RL.aF,if_neg hk]
   rw[h1,List.zip_cons_cons,jO hk];exact ih
def mE{P:Addr->Prop}{K:PySem.W.Frag}{H:Hp}{d:RL.D}{k:RL.Ky}{v:V}(h:RL.keyOf d=some k)(r:Rep P K H d v):v=kV k:=by
 cases d<;>simp only[RL.keyOf]at h<;>first | (cases h;done) | skip
 case int i=>cases h;exact ah r
 case str i=>cases h;exact aY r
def ko{P:Addr->Prop}{K:PySem.W.Frag}{H:Hp}:∀ {ds:List RL.D} {k:List RL.Ky} {xs:List V},RL.keysOf ds=some k->ae P K H ds xs->xs=k.map kV
 | [],k,xs,h,r=>by cases h;rw[ae]at r;exact r
 | d::ds,k,xs,h,r=>by
  rw[RL.keysOf]at h;obtain⟨k1,h1,h⟩:=bind_some h;obtain⟨k2,h2,h3⟩:=map_some h;subst h3;rw[ae]at r;obtain⟨v,t,rfl,r1,r2⟩:=r;rw[mE h1 r1,ko h2 r2];rfl
def oO{H:Hp}{y kx:RL.D}{v u:V}{o:Option RL.D}(ry:Rep nP X.K H y v)(rk:Rep nP X.K H kx u)(h:zL y kx=some o) :
  ∃ q r,v=.ref q/\eX H q u r/\Ans nP X.K H o r:=by
 cases y with
 |dK ks vs=>
  obtain⟨k,h1,h2⟩:=map_some h;rw[Rep]at ry;obtain⟨q,xs,rfl,_,f2,fl,f3⟩:=ry;have lk:=nQ (x:=k) fl f3;rw[h2]at lk;refine⟨q,_,rfl,by rw[mE h1 rk];exact eX.k f2,lk⟩
 |dT ks vs=>
  cases kx with
  |tup kk=>
   obtain⟨k,h1,h2⟩:=map_some h;rw[Rep]at ry;obtain⟨q,xs,rfl,_,f2,fl,f3⟩:=ry;obtain⟨q',ys,rfl,g2,g3⟩:=b9 rk;rw[ko h1 g3]at g2;have lk:=nQ (x:=k) fl f3;rw[h2]at lk;exact⟨q,_,rfl,eX.t f2 g2,lk⟩
  | _=>cases h
 | _=>cases kx<;>cases h
def F2{y kx d:RL.D}(h:RL.nO y kx=some d):zL y kx=some (some d):=by
 cases y with
 | dK ks vs=>obtain⟨k,h1,h2⟩:=bind_some (show(RL.keyOf kx).bind (RL.aF ks vs)=some d from h);show(RL.keyOf kx).map (RL.aF ks vs)=_;rw[h1,Option.map_some,h2]
 |dT ks vs=>
  cases kx with
  | tup kk=>obtain⟨k,h1,h2⟩:=bind_some (show(RL.keysOf kk).bind (RL.aF ks vs)=some d from h);show(RL.keysOf kk).map (RL.aF ks vs)=_;rw[h1,Option.map_some,h2]
  | _=>cases h
 | _=>cases kx<;>cases h
def E2(hu:X.A.units+100<cLine)(ha:SE X cl a a')(hb:SE X cl b b')(hs:vn b):SE X cl (.Subscript a b pos) (.ixD a' b'):=by
 refine PE.weak (C4 (by lia) ha hb hs) fun σ H Q h=>?_;obtain⟨σD,d,rv,e,k⟩:=h;obtain⟨x,ea,e⟩:=bind_some e;obtain⟨y,eb,e⟩:=bind_some e;refine⟨σD,x,rv,ea,fun v H1 r1=>⟨σD,y,rv.same r1.same,eb,fun u H2 r2=>?_⟩⟩;obtain⟨q,r,rfl,g,w,rfl,rw'⟩:=oO (r1.rep.same r2.same) r2.rep (F2 e);exact⟨q,w,rfl,g,k _ _ ⟨r1.same.trans r2.same,rw',fun z=>(by cases z),fun M z=>nomatch (show false=true from z)⟩⟩
def Dq:SE X cl (.Dict [] [] pos) .dk0:=by
 refine PE.weak zt fun σ H Q h=>?_;obtain⟨σD,d,rv,e,k⟩:=h;cases e;intro q hq;refine k _ _ ⟨a6.c7 hq,?_,fun _ _ a z=>(by cases z;exact hq),fun M z=>nomatch (show false=true from z)⟩;rw[Rep];exact⟨q,[],rfl,fun z=>z,bw,rfl,ae.nil⟩
def F7:SE X cl (.Dict [] [] pos) .dt0:=by
 refine PE.weak zX fun σ H Q h=>?_;obtain⟨σD,d,rv,e,k⟩:=h;cases e;intro q hq;refine k _ _ ⟨a6.c7 hq,?_,fun _ _ a z=>(by cases z;exact hq),fun M z=>nomatch (show false=true from z)⟩;rw[Rep];exact⟨q,[],rfl,fun z=>z,bw,rfl,ae.nil⟩
end rules
section rules
variable{X:Cx}{cl:RL.Cl}{a b:Expr}{a' b':RL.E}{pos p p2:Pos}{M:List Nat}{st:Stmt}{i:Nat}{e' k':RL.E}
def D4{y kx:RL.D}{k:Bool}(h:RL.zM y kx=some k):∃ o,zL y kx=some o/\k=o.isSome:=by
 cases y with
 | dK ks vs=>obtain⟨q,h1,h2⟩:=map_some (show(RL.keyOf kx).map _=some k from h);exact⟨RL.aF ks vs q,by show(RL.keyOf kx).map _=_;rw[h1];rfl,h2.symm⟩
 |dT ks vs=>
  cases kx with
  | tup kk=>obtain⟨q,h1,h2⟩:=map_some (show(RL.keysOf kk).map _=some k from h);exact⟨RL.aF ks vs q,by show(RL.keysOf kk).map _=_;rw[h1];rfl,h2.symm⟩
  | _=>cases h
 | _=>cases kx<;>cases h
def Ans.isSome{P:Addr->Prop}{K:PySem.W.Frag}{H:Hp}{o:Option RL.D}{r:Option V}(h:Ans P K H o r):r.isSome=o.isSome:=by
 cases o with
 | none=>rw[show r=none from h];rfl
 | some d=>obtain⟨w,hw,_⟩:=h;rw[hw];rfl
abbrev A0(neg:Bool)(ty td:TE):TE:=if neg then uv ty td else CU ty td
def tM{neg:Bool}(hu:X.A.units+100<cLine)(ha:SE X cl a a')(hb:SE X cl b b'):PC X (if neg then .NotIn else .In) a b (A0 neg (tE X.K cl a') (tE X.K cl b')):=by
 cases neg with
 | true=>exact xN (by lia) ha hb
 | false=>exact Fo (by lia) ha hb
def xQ{neg:Bool}{σ:L2.St}{H:Hp}{Q:VK}{σD:RL.St}{d:RL.D}(rv:RV0 X.K σD σ H)(e:RL.ev cl σD (.inD neg a' b')=some d)(k:∀ t H',d=.bl t->a6 H H'->Q (.bl t) H'):A0 neg (tE X.K cl a') (tE X.K cl b') σ H Q:=by
 obtain⟨x,ea,e⟩:=bind_some e;obtain⟨y,eb,e⟩:=bind_some e;obtain⟨t,e1,e2⟩:=map_some e;obtain⟨o,h1,h2⟩:=D4 e1
 cases neg with
 |true=>
  refine two rv ea eb fun v u H1 H2 s1 s2 rx ry _ _=>?_;obtain⟨q,r,rfl,g,an⟩:=oO ry rx h1;refine⟨q,r,rfl,g,k _ _ ?_ (s1.trans s2)⟩;rw[an.isSome,<-e2,h2];rfl
 |false=>
  refine two rv ea eb fun v u H1 H2 s1 s2 rx ry _ _=>?_;obtain⟨q,r,rfl,g,an⟩:=oO ry rx h1;refine⟨q,r,rfl,g,k _ _ ?_ (s1.trans s2)⟩;rw[an.isSome,<-e2,h2];rfl
def Dh{neg:Bool}(hu:X.A.units+100<cLine)(ha:SE X cl a a')(hb:SE X cl b b')(hm:vt b=true):SE X cl (.Compare a [if neg then .NotIn else .In] [b] pos) (.inD neg a' b'):=by
 refine PE.weak (EW (tM hu ha hb) (pG hm)) fun σ H Q h=>?_;obtain⟨σD,d,rv,e,q⟩:=h
 exact xQ rv e fun t H' hd sm=>by subst hd;exact q _ _ (fN sm)
def F0{neg:Bool}(hu:X.A.units+100<cLine)(ha:SE X cl a a')(hb:SE X cl b b')(hm:vt b=true):ST X cl (.Compare a [if neg then .NotIn else .In] [b] pos) (.inD neg a' b'):=by
 refine PT.weak (Df (tM hu ha hb) (pG hm)) fun σ H Q h=>?_;obtain⟨σD,k,rv,e,q⟩:=h;obtain⟨d,e1,e2⟩:=bind_some e;refine xQ rv e1 fun t H' hd sm=>?_;subst hd;cases e2;exact⟨_,rfl,q _ sm⟩
def ur{κ:Type} [DecidableEq κ]{x:κ}{d:RL.D}{v:V}{P:Addr->Prop}{K:PySem.W.Frag}{H:Hp}{ks:List κ}{ds:List RL.D}{xs:List V}(hl:ks.length=ds.length)(r:ae P K H ds xs)(rv:Rep P K H d v) :
  ∃ ys,putK (ks.zip xs) x v=(RL.putD ks ds x d).1.zip ys/\(RL.putD ks ds x d).1.length=(RL.putD ks ds x d).2.length/\ae P K H (RL.putD ks ds x d).2 ys:=by
 have hx:ks.length=xs.length:=hl.trans r.length
 have any:∀ (ks:List κ) (xs:List V),ks.length=xs.length->((ks.zip xs).any fun kv=>decide (kv.1=x))=decide (x∈ks):=by
  intro ks
  induction ks with
  | nil=>intro xs _;simp
  |cons k r ih=>
   intro xs h
   cases xs with
   | nil=>simp at h
   |cons y t=>
    rw[List.zip_cons_cons,List.any_cons,ih t (by simpa using h)];by_cases hk:k=x
    ·simp[hk]
    ·simp[hk,Ne.symm hk]
 unfold putK RL.putD;rw[any ks xs hx];by_cases hm:x∈ks
 ·rw[if_pos (by simpa using hm),if_pos hm];refine⟨List.zipWith (fun k w=>if k=x then v else w) ks xs,?_,?_,?_⟩
  ·clear any hm hl r
   induction ks generalizing xs with
   | nil=>simp
   |cons k t ih=>
    cases xs with
    | nil=>simp at hx
    |cons y t'=>
     rw[List.zip_cons_cons,List.map_cons,List.zipWith_cons_cons,List.zip_cons_cons,ih (by simpa using hx)];by_cases hk:k=x<;>simp[hk]
  ·rw[List.length_zipWith,hl,Nat.min_self]
  ·clear any hm hx
   induction ks generalizing ds xs with
   | nil=>simpa using ae.nil
   |cons k t ih=>
    cases ds with
    | nil=>simp at hl
    |cons d0 ds=>
     rw[ae]at r;obtain⟨y,t',rfl,r1,r2⟩:=r;rw[List.zipWith_cons_cons,List.zipWith_cons_cons];refine ae.cons ?_ (ih (by simpa using hl) r2);by_cases hk:k=x
     ·rw[if_pos hk,if_pos hk];exact rv
     ·rw[if_neg hk,if_neg hk];exact r1
 ·rw[if_neg (by simpa using hm),if_neg hm];refine⟨xs++[v],?_,by simp[hl],ae.append r (ae.cons rv ae.nil)⟩;rw[List.zip_append hx];rfl
def xu{κ:Type} [DecidableEq κ]{x:κ}{d:RL.D}(hd:d.imm=true):∀ {ks:List κ} {ds:List RL.D},RL.aq ds=true->RL.aq (RL.putD ks ds x d).2=true:=by
 have app:∀ l:List RL.D,RL.aq l=true->RL.aq (l++[d])=true:=fun l=>by
  induction l with
  | nil=>intro _;simp[RL.aq,hd]
  | cons z r ih=>intro h;rw[RL.aq,Bool.and_eq_true]at h;rw[List.cons_append,RL.aq,h.1,ih h.2];rfl
 have zw:∀ (ks:List κ) (ds:List RL.D),RL.aq ds=true->RL.aq (List.zipWith (fun k w=>if k=x then d else w) ks ds)=true:=fun ks=>by
  induction ks with
  | nil=>intro ds _;simp[RL.aq]
  |cons k r ih=>
   intro ds h
   cases ds with
   | nil=>simp[RL.aq]
   |cons y t=>
    rw[RL.aq,Bool.and_eq_true]at h;rw[List.zipWith_cons_cons,RL.aq,ih t h.2,Bool.and_true];by_cases hk:k=x
    ·rw[if_pos hk];exact hd
    ·rw[if_neg hk];exact h.1
 intro ks ds h;unfold RL.putD;split
 ·exact zw ks ds h
 ·exact app ds h
def BB(h:PS X st (u3 (jM i) (tE X.K cl k') (tE X.K cl e')))(hi:M.contains i=true):PS X st (tS X.K M fun σD=>(RL.ev cl σD e').bind fun d=>(RL.ev cl σD k').bind fun kk=>((σD[i]?).bind id).bind fun l=>match l with
  | .lst _=>none
  | _=>if d.imm then(RL.da l kk d).map fun l'=>(.nx,σD.set i (some l'))else none):=by
 refine PS.weak h fun D σ H h=>?_;obtain⟨σD,o,σD',rv,e,k⟩:=h;obtain⟨d,e1,e⟩:=bind_some e;obtain⟨kk,e2,e⟩:=bind_some e;obtain⟨l,e3,e⟩:=bind_some e;obtain⟨v,h1,h2⟩:=rv.val i _ (slot_get e3);rw[if_pos hi]at h2;obtain⟨q1,q2,q3⟩:=h2
 cases l with
 |dK ks ds=>
  dsimp only at e;split at e
  ·rename_i him;obtain⟨l',e4,e5⟩:=map_some e;cases e5;obtain⟨kx,e6,e7⟩:=bind_some (show(RL.keyOf kk).bind _=some l' from e4);split at e7
   ·rename_i hz;cases e7;rw[Rep]at q3;obtain⟨q,xs,rfl,_,f2,fl,f3⟩:=q3;refine⟨σD,d,rv.rv0,e1,fun y H1 r1=>⟨.ref q,h1,σD,kk,rv.rv0.same r1.same,e2,fun u H2 r2=>?_⟩⟩;have sm:=r1.same.trans r2.same;obtain⟨ys,p1,p2,p3⟩:=ur (x:=kx) fl (f3.same sm) (r1.rep.same r2.same)
    have hlen:(ks.zip xs).length<sizeLine:=by
     rw[List.length_zip,<-f3.length,fl,Nat.min_self,<-fl];exact Nat.lt_of_lt_of_le hz cw
    refine⟨q,_,rfl,by rw[mE e6 r2.rep];exact k9.k (sm _ _ f2) hlen,?_⟩;have im:=xu (x:=kx) him (ks:=ks) q2
    obtain⟨g1,g2⟩:=(rv.same sm).jy (d':=.dK (RL.putD ks ds kx d).1 (RL.putD ks ds kx d).2) (o':=.dK (putK (ks.zip xs) kx y)) hi h1 (sm _ _ f2) (.inr (.inl ⟨_,rfl⟩)) ⟨rfl,im,by
     rw[Rep]
     exact⟨q,ys,rfl,fun z=>z,by rw[bw,p1],p2,(ae.upd (P:=fun p=>p=q) (sm _ _ f2) (.inr (.inl ⟨_,rfl⟩)) rfl (p3.imm im)).imm im⟩⟩
    exact k _ _ g1 ((Fr'.same sm).trans g2)
   ·cases e7
  ·cases e
 |dT ks ds=>
  dsimp only at e;split at e
  ·rename_i him;obtain⟨l',e4,e5⟩:=map_some e;cases e5
   cases kk with
   |tup kt=>
    obtain⟨kx,e6,e7⟩:=bind_some (show(RL.keysOf kt).bind _=some l' from e4);split at e7
    ·rename_i hz;cases e7;rw[Rep]at q3;obtain⟨q,xs,rfl,_,f2,fl,f3⟩:=q3;refine⟨σD,d,rv.rv0,e1,fun y H1 r1=>⟨.ref q,h1,σD,.tup kt,rv.rv0.same r1.same,e2,fun u H2 r2=>?_⟩⟩;have sm:=r1.same.trans r2.same;obtain⟨ys,p1,p2,p3⟩:=ur (x:=kx) fl (f3.same sm) (r1.rep.same r2.same)
     have hlen:(ks.zip xs).length<sizeLine:=by
      rw[List.length_zip,<-f3.length,fl,Nat.min_self,<-fl];exact Nat.lt_of_lt_of_le hz cw
     obtain⟨b,ws,rfl,g2,g3⟩:=b9 r2.rep;rw[ko e6 g3]at g2;refine⟨q,_,rfl,k9.t (sm _ _ f2) g2 hlen,?_⟩;have im:=xu (x:=kx) him (ks:=ks) q2
     obtain⟨g1,g2⟩:=(rv.same sm).jy (d':=.dT (RL.putD ks ds kx d).1 (RL.putD ks ds kx d).2) (o':=.dT (putK (ks.zip xs) kx y)) hi h1 (sm _ _ f2) (.inr (.inr ⟨_,rfl⟩)) ⟨rfl,im,by
      rw[Rep]
      exact⟨q,ys,rfl,fun z=>z,by rw[bw,p1],p2,(ae.upd (P:=fun p=>p=q) (sm _ _ f2) (.inr (.inr ⟨_,rfl⟩)) rfl (p3.imm im)).imm im⟩⟩
     exact k _ _ g1 ((Fr'.same sm).trans g2)
    ·cases e7
   | _=>cases e4
  ·cases e
 | lst _=>cases e
 | _=>cases q1
end rules
end RS
namespace L2
open PySem PySem.Spec PyProof.Rows
abbrev Its(c lo:Int)(n:Nat):It:=⟨fun i _=>i<n,fun i H x H'=>H'=H/\x=.int (lo+i*c),fun i _=>n<=i⟩
def x3{P:Program}{w:World}{K:PySem.W.Frag}{tg:Expr}(it:Addr)(c lo:Int)(n:Nat):Turn P w K tg (Its c lo n) [it] it (fun i h=>IsRangeIter h it (lo+(i:Nat)*c) ((n:Int)-(i:Nat)) c) where
 mem:=by simp
 obj:=fun i h st b hb=>by
  rw[show b=it by simpa using hb];exact⟨_,st,fun v z=>by cases(show Data.fields _=Data.cell v from z)⟩
 keep:=fun i h h' st k=>k it (by simp) _ st
 item:=by
  intro X hP hw hK hc i pins s σ H E I hf st hg;subst hP hw hK;obtain⟨f0,f1,f2,f3,f4,f5⟩:=hf it (by simp);have W:=Walks.range (prog:=X.prog) (w:=X.w) (I.ok.hd.1 hc) it lo c n;refine W.item i s _ _ hg st fun v h' tk hv st' kk=>?_;obtain⟨t,rfl⟩:=hv;have I1:Inv X pins σ H { s with heap:=h',toks:=tk }:=I.turned (fun b o hb e=>kk b o (by simpa using hb) e) f0 f1 f3 f4 f5;exact⟨_,rfl,qa (s:={ s with heap:=h',toks:=tk }) (n := "range_iterator") st' rfl rfl (by decide) ⟨.int (lo+i*c),H,I1,⟨t,rfl⟩,⟨rfl,rfl⟩,st',fun b hb=>(hf b hb).1⟩⟩
 done:=by
  intro X hP hw hK hc i pins s σ H E I hf st hg;subst hP hw hK;obtain⟨f0,f1,f2,f3,f4,f5⟩:=hf it (by simp)
  exact wpAny_pyNext_range_end (I.ok.hd.1 hc) st (by have:n<=i:=hg;lia) fun h' eb=>⟨rfl,I.turned (t':=s.toks) (fun b o hb e=>eb b o hb e) f0 f1 f3 f4 f5⟩
 self:=fun _ _ _ _ _ st h=>wpAny_pyIter_rangeiter st h
end L2
namespace RS
open PySem PySem.Spec PyProof.Rows L2
def nc(c:Int):∀ (n:Nat) (lo:Int) (i:Nat) (d:RL.D),(RL.bP c lo n)[i]?=some d->d=.int (lo+i*c)
 | 0,lo,i,d,h=>by simp[RL.bP]at h
 | n+1,lo,0,d,h=>by simp[RL.bP]at h;simp[h]
 | n+1,lo,i+1,d,h=>by
  rw[RL.bP,List.getElem?_cons_succ]at h;rw[nc c n (lo+c) i d h];congr 1;rw[show((i+1:Nat):Int)=(i:Int)+1 by lia,Int.add_mul];lia
def jK(c:Int):∀ (n:Nat) (lo:Int),(RL.bP c lo n).length=n
 | 0,_=>rfl
 | n+1,lo=>by rw[RL.bP,List.length_cons,jK c n]
def tP{K:PySem.W.Frag}{H:Hp}{c lo:Int}{n:Nat}{P:Addr->Prop}:ke K (Its c lo n) (RL.bP c lo n) P H where
 go:=fun H' i k hi=>by rw[jK]at hi;exact hi
 stop:=fun H' k=>by rw[jK];exact Nat.le_refl _
 yld:=fun H' i d x H2 k e y=>by
  obtain⟨z,y⟩:=y;subst z;refine⟨a6.refl _,fun _=>?_⟩;rw[nc c n lo i d e,y];exact aQ
section rules
variable{X:Cx}{cl:RL.Cl}{M:List Nat}{st:Stmt}{i:Nat}{e':RL.E}
end rules
abbrev nW(p:Addr)(a b c:Int):HO:=.ext fun h=>∃ t u v,IsRange h p a b c t u v
def rQ(a b c:Int):0<=Builtin.Range.rangeSize a b c:=by
 unfold Builtin.Range.rangeSize;split
 ·split
  ·have:=Int.ediv_nonneg (a:=b-a-1) (b:=c) (by lia) (by lia);omega
  ·lia
 ·split
  ·by_cases h0:c=0
   ·subst h0;simp
   ·have:=Int.ediv_nonneg (a:=a-b-1) (b:=-c) (by lia) (by lia);omega
  ·lia
def zI(a b c:Int):Builtin.Range.rangeSize a b c<=(if a<b then b-a else a-b)+1:=by
 unfold Builtin.Range.rangeSize;split
 ·split
  ·have:=Int.ediv_le_self (a:=b-a-1) c (by lia);lia
  ·lia
 ·split
  ·have:=Int.ediv_le_self (a:=a-b-1) (-c) (by lia);split<;>omega
  ·split<;>lia
def kE(a b c:Int):(RL.aG c a b:Int)=Builtin.Range.rangeSize a b c:=Int.toNat_of_nonneg (rQ a b c)
def kD{a b c:Int}(ha:-(2 ^ 60)<=a)(ha':a<2 ^ 60)(hb:-(2 ^ 60)<=b)(hb':b<2 ^ 60)(hc:-(2 ^ 60)<=c)(hc':c<2 ^ 60):Builtin.Range.small a b c=true:=by
 have h1:=rQ a b c;have h2:=zI a b c;unfold Builtin.Range.small;simp only[Builtin.Range.rangeFitsLong,Bool.and_eq_true,Bool.or_eq_true,decide_eq_true_eq,beq_iff_eq];refine⟨⟨⟨⟨?_,?_⟩,?_⟩,?_⟩,.inr ?_⟩
 ·lia
 ·lia
 ·lia
 ·split at h2<;>lia
 ·split<;>(rw[Bool.and_eq_true,decide_eq_true_eq,decide_eq_true_eq];lia)
section
variable{X:Cx}{cl:RL.Cl}{tg a b l:Expr}{a' b' e':RL.E}{pos p q:Pos}
abbrev sj(xs:List V)(a b c:Int):Prop:=(xs=[.int b]/\a=0/\c=1)\/(xs=[.int a,.int b]/\c=1)\/(xs=[.int a,.int b,.int c]/\c≠0/\c.natAbs<2 ^ 60)
def mw{pins:List (Addr × Obj)}{σ:L2.St}{H:Hp}{s:Shared}{a b c:Int}{t u v:Tok}{tk:Nat}(I:Inv X pins σ H s):Inv X pins σ (upd H s.heap.objs.size (nW s.heap.objs.size a b c)) { s with heap:=s.heap.push { cls:=.type "range",data:=.fields #[.int a t,.int b u,.int c v] },toks:=tk } :=
 I.laid (fun b u e=>Heap.get?_push_of_some _ e) (Nat.le_refl _) ⟨⟨t,u,v,IsRange.new _ a b c t u v⟩,⟨_,Heap.get?_push_size _ rfl⟩,fun h1 h2 ⟨t,u,v,e⟩ k=>⟨t,u,v,k _ e⟩⟩
def jV:bD X (.type "range") (fun xs H Q=>∃ a b c,sj xs a b c/\∀ p,H p=none->Q (.ref p) (upd H p (nW p a b c))):=by
 intro pins s σ H xs us Q I r h;obtain⟨a,b,c,ha,q⟩:=h;have hf:H s.heap.objs.size=none:=I.hok.fresh (Nat.le_refl _)
 rcases ha with⟨rfl,rfl,rfl⟩ | ⟨rfl,rfl⟩ | ⟨rfl,hc,hc2⟩
 ·cases r with
  |cons r rr=>
   cases rr;obtain⟨t,rfl⟩:=r;exact call_range_1 ⟨.ref _,_,mw I,rfl,q _ hf⟩
 ·cases r with
  |cons r rr=>
   cases rr with
   |cons r2 rr=>
    cases rr;obtain⟨t,rfl⟩:=r;obtain⟨t2,rfl⟩:=r2;exact call_range_2 ⟨.ref _,_,mw I,rfl,q _ hf⟩
 ·cases r with
  |cons r rr=>
   cases rr with
   |cons r2 rr=>
    cases rr with
    |cons r3 rr=>
     cases rr;obtain⟨t,rfl⟩:=r;obtain⟨t2,rfl⟩:=r2;obtain⟨t3,rfl⟩:=r3;refine call_range_3 hc ⟨.ref _,_,mw I,rfl,q _ hf⟩ (.inl (PyProof.noPylong_of_log2 ?_));have:c.natAbs.log2<60:=(Nat.log2_lt (by lia)).mpr hc2;lia
abbrev dW(a c:Int)(n:Nat):List V:=(List.range n).map fun(i:Nat)=>V.int (a+(i:Int)*c)
def gD(hc:X.calm=true):bD X (.type "list") (fun xs H Q=>∃ p a b c,xs=[.ref p]/\H p=some (nW p a b c)/\Builtin.Range.small a b c=true/\RL.aG c a b<=RL.most /\
  ∀ l,H l=none->Q (.ref l) (upd H l (.lst (dW a c (RL.aG c a b))))):=by
 intro pins s σ H xs us Q I r h;obtain⟨p,a,b,c,rfl,hp,hs,hn,q⟩:=h
 cases r with
 |cons r rr=>
  cases rr;cases r;obtain⟨⟨t,u,v,hR⟩,_,_⟩:=I.hok p _ hp;refine call_list_range (I.ok.hd.1 hc) hR hs (kE a b c).symm (Nat.le_trans hn (by decide)) fun h' tk acc c' hk hS hI=>?_;have hf:H s.heap.objs.size=none:=I.hok.fresh (Nat.le_refl _);refine⟨.ref s.heap.objs.size,upd H s.heap.objs.size (.lst (dW a c (RL.aG c a b))),I.laid hk (Nat.le_refl _) (show _/\_ from⟨?_,acc.toList,c',?_,?_⟩),rfl,q _ hf⟩
  ·simp only[dW,List.length_map,List.length_range];exact Nat.le_trans hn cw
  ·have len:(dW a c (RL.aG c a b)).length=acc.toList.length:=by
    simp only[dW,List.length_map,List.length_range,Array.length_toList,hI.1]
   have gen:∀ (xs:List V) (us:List Value),xs.length=us.length->(∀ (i:Nat) u,us[i]?=some u->∃ x,xs[i]?=some x/\RelV x u)->Vals xs us:=by
    intro xs
    induction xs with
    | nil=>intro us h _;cases us with
     | nil=>exact .nil
     | cons _ _=>cases h
    | cons x r ih=>intro us h g;cases us with
     | nil=>cases h
     |cons u us=>
      obtain⟨x',e1,e2⟩:=g 0 u rfl;cases e1
      exact .cons e2 (ih us (by simpa using h) fun i u hu=>by
       obtain⟨y,e3,e4⟩:=g (i+1) u (by simpa using hu)
       exact⟨y,by simpa using e3,e4⟩)
   refine gen _ _ len fun i u hu=>?_
   have hu':acc[i]?=some u:=by simpa using hu
   obtain⟨tk,rfl⟩:=hI.2 i u hu'
   have hi:i<RL.aG c a b:=by
    have:=(Array.getElem?_eq_some_iff.mp hu').1;rw[hI.1]at this;exact this
   exact⟨.int (a+(i:Int)*c),by simp[dW,hi],tk,rfl⟩
  ·rw[Array.toArray_toList];exact hS
def pL{P:Addr->Prop}{K:PySem.W.Frag}{H:Hp}:∀ (n:Nat) (a c:Int),ae P K H (RL.bP c a n) (dW a c n)
 | 0,a,c=>ae.nil
 | n+1,a,c=>by
  have e:dW a c (n+1)=V.int a::dW (a+c) c n:=by
   simp only[dW,List.range_succ_eq_map,List.map_cons,List.map_map];congr 1
   ·simp
   ·apply List.map_congr_left;intro i _;show V.int (a+((i+1:Nat):Int)*c)=V.int (a+c+(i:Int)*c);congr 1;rw[show((i+1:Nat):Int)=(i:Int)+1 by lia,Int.add_mul];lia
  rw[RL.bP,e];exact ae.cons aQ (pL n (a+c) c)
def lU:∀ (n:Nat) (a:Int),RL.cM a n=RL.bP 1 a n
 | 0,_=>rfl
 | n+1,a=>by rw[RL.cM,RL.bP,lU n]
def gM(a b:Int):RL.aG 1 a b=(b-a).toNat:=by
 have h:=kE a b 1;rw[rangeSize_one]at h;split at h<;>lia
def qM{σD:RL.St}{σ:L2.St}{H H1:Hp}{e:RL.E}{Q:VK}{vs:List V}{a b c:Int}{ds:List RL.D}(hv:sj vs a b c)(hd:ds=RL.bP c a (RL.aG c a b))(hn:RL.aG c a b<=RL.most)(hs:Builtin.Range.small a b c=true)(sm:a6 H H1)
 (hav:∀ M,RL.avE M e=false)(k:∀ v H',Res X.K σD σ H e (.lst ds) v H'->Q v H') :
  ∃ a b c,sj vs a b c/\∀ p,H1 p=none->(fun xs H Q=>∃ p a b c,xs=[V.ref p]/\H p=some (nW p a b c)/\Builtin.Range.small a b c=true/\RL.aG c a b<=RL.most/\∀ l,H l=none->Q (.ref l) (upd H l (.lst (dW a c (RL.aG c a b))))) [.ref p] (upd H1 p (nW p a b c)) Q:=by
 refine⟨a,b,c,hv,fun p hp=>⟨p,a,b,c,rfl,bw,hs,hn,fun l hl=>k _ _ ?_⟩⟩;subst hd;exact dZ (sm.trans (a6.c7 hp)) hl (pL _ _ _) hav
def B6(hc:X.calm=true)(hgl:Gl X "list")(hml:X.mg "list" = none)(hg:Gl X "range")(hm:X.mg "range" = none)(ha:SE X cl a a')(hn:noStar a=true){p2 pos2:Pos}:SE X cl (.Call (.Name "list" p2) [.Call (.Name "range" p) [a] [] pos] [] pos2) (.rng1 a'):=by
 refine PE.weak (cO (gD hc) hgl hml (by decide +kernel) (cK (cO jV hg hm boot_range (bz (cl:=cl) ha c6 hn) (by decide) (by decide) (aC [] hn) rfl) eZ) (by decide) (by decide) rfl rfl) fun σ H Q h=>?_;obtain⟨σD,d,rv,e,k⟩:=h;obtain⟨x,ea,e⟩:=bind_some e;obtain⟨ds,e1,e2⟩:=map_some e;subst e2;obtain⟨i,j,e3,rfl,hb,hm2,rfl⟩:=mZ e1;cases e3
 have hb2:-(2 ^ 60)<=j/\j<2 ^ 60:=by
  simp only[RL.cH]at e1;split at e1
  ·lia
  ·cases e1
 refine one rv ea fun v H1 s1 r1=>?_;exact qM (a:=0) (b:=j) (c:=1) (.inl ⟨by rw[ah r1],rfl,rfl⟩) (by rw[lU,gM]) (by rw[gM];exact hm2) (kD (by decide) (by decide) hb2.1 hb2.2 (by decide) (by decide)) s1 (fun _=>rfl) k
def B4(hc:X.calm=true)(hgl:Gl X "list")(hml:X.mg "list" = none)(hg:Gl X "range")(hm:X.mg "range" = none)(ha:SE X cl a a')(hb:SE X cl b b')(hn:noStar a=true)(hn2:noStar b=true){p2 pos2:Pos}:SE X cl (.Call (.Name "list" p2) [.Call (.Name "range" p) [a,b] [] pos] [] pos2) (.rng2 a' b'):=by
 refine PE.weak (cO (gD hc) hgl hml (by decide +kernel) (cK (cO jV hg hm boot_range (bz (cl:=cl) ha (bz hb c6 hn2) hn) (by decide) (by decide) (aC _ hn) (dP (by simp[hn2]))) eZ) (by decide) (by decide) rfl rfl) fun σ H Q h=>?_;obtain⟨σD,d,rv,e,k⟩:=h;obtain⟨x,ea,e⟩:=bind_some e;obtain⟨y,eb,e⟩:=bind_some e;obtain⟨ds,e1,e2⟩:=map_some e;subst e2;obtain⟨i,j,rfl,rfl,hb,hm2,rfl⟩:=mZ e1
 have hb2:(-(2 ^ 60)<=i/\i<2 ^ 60)/\-(2 ^ 60)<=j/\j<2 ^ 60:=by
  simp only[RL.cH]at e1;split at e1
  ·lia
  ·cases e1
 refine pair rv ea eb fun v u H1 s1 r1 r2=>?_;exact qM (a:=i) (b:=j) (c:=1) (.inr (.inl ⟨by rw[ah r1,ah r2],rfl⟩)) (by rw[lU,gM]) (by rw[gM];exact hm2) (kD hb2.1.1 hb2.1.2 hb2.2.1 hb2.2.2 (by decide) (by decide)) s1 (fun _=>rfl) k
abbrev fy(c:Int):Expr->Bool
 | .Constant (.int i) _ _=>i == c
 | .UnaryOp .USub (.Constant (.int i) _ _) _=>-i == c
 | _=>false
def jw{c:Int}{e:Expr}(h:fy c e=true):PE X e (tC (.int c))/\noStar e=true:=by
 unfold fy at h;split at h
 ·rw[beq_iff_eq]at h;subst h;exact⟨qC,rfl⟩
 ·rw[beq_iff_eq]at h;subst h;exact⟨PE.weak (A2 wa qC) fun σ H Q q=>⟨_,rfl,q⟩,rfl⟩
 ·cases h
def ug{c:Int}{x y:RL.D}{ds:List RL.D}(h:RL.dG c x y=some ds):∃ i j:Int,x=.int i/\y=.int j/\c≠0/\c.natAbs<2 ^ 60/\Builtin.Range.small i j c=true/\RL.aG c i j<=RL.most/\ds=RL.bP c i (RL.aG c i j):=by
 cases x<;>cases y<;>simp only[RL.dG]at h<;>first
  | (cases h;done)
  | (split at h
     ·rename_i i j hc;cases h;exact⟨i,j,rfl,rfl,hc.1,by omega,kD hc.2.2.2.2.1 hc.2.2.2.2.2.1 hc.2.2.2.2.2.2.1 hc.2.2.2.2.2.2.2 (by omega) hc.2.2.1,hc.2.2.2.1,rfl⟩
     ·cases h)
def uz{c:Int}{e3:Expr}(ha:SE X cl a a')(hb:SE X cl b b')(hn:noStar a=true)(hn2:noStar b=true)(h3:fy c e3=true):PA X [a,b,e3] (fun σ H R=>tE X.K cl a' σ H fun v H1=>tE X.K cl b' σ H1 fun u H2=>R [v,u,.int c] H2) :=
 cK ha (cK hb (cK (jw h3).1 eZ (aC [] (jw (X:=X) h3).2)) (aC _ hn2)) (aC _ hn)
def Cu{c:Int}{e3:Expr}(hc:X.calm=true)(hgl:Gl X "list")(hml:X.mg "list" = none)(hg:Gl X "range")(hm:X.mg "range" = none)(ha:SE X cl a a')(hb:SE X cl b b')(hn:noStar a=true)(hn2:noStar b=true)(h3:fy c e3=true){p2 pos2:Pos} :
  SE X cl (.Call (.Name "list" p2) [.Call (.Name "range" p) [a,b,e3] [] pos] [] pos2) (.rng3 c a' b'):=by
 refine PE.weak (cO (gD hc) hgl hml (by decide +kernel) (cK (cO jV hg hm boot_range (uz (cl:=cl) ha hb hn hn2 h3) (by decide) (by decide) (aC _ hn) (dP (by simp[hn2,(jw (X:=X) h3).2]))) eZ) (by decide) (by decide) rfl rfl) fun σ H Q h=>?_;obtain⟨σD,d,rv,e,k⟩:=h;obtain⟨x,ea,e⟩:=bind_some e;obtain⟨y,eb,e⟩:=bind_some e;obtain⟨ds,e1,e2⟩:=map_some e;subst e2;obtain⟨i,j,rfl,rfl,h0,h1,h2,h3,rfl⟩:=ug e1;refine two rv ea eb fun v u H1 H2 s1 s2 rx ry _ _=>?_;exact qM (a:=i) (b:=j) (c:=c) (.inr (.inr ⟨by rw[ah rx,ah ry],h0,h1⟩)) rfl h3 h2 (s1.trans s2) (fun _=>rfl) k
def Bz{c:Int}{e3:Expr}(hg:Gl X "range")(hm:X.mg "range" = none)(ha:SE X cl a a')(hb:SE X cl b b')(hn:noStar a=true)(hn2:noStar b=true)(h3:fy c e3=true) :
  SI X cl tg (.Call (.Name "range" p) [a,b,e3] [] pos) (.rng3 c a' b'):=by
 intro pins s σ H R I h;obtain⟨σD,ds,rv,e,k⟩:=h;obtain⟨x,ea,e⟩:=bind_some e;obtain⟨y,eb,e⟩:=bind_some e;obtain⟨i,j,rfl,rfl,h0,h1,hs,hl,rfl⟩:=ug e;refine thn (cO jV hg hm boot_range (uz (cl:=cl) ha hb hn hn2 h3) (by decide) (by decide) (aC _ hn) (dP (by simp[hn2,(jw (X:=X) h3).2])) pins s σ H (fun x H2=>∃ p,x=.ref p/\H2 p=some (nW p i j c)/\a6 H H2) I ?_) ?_
 ·exact two rv ea eb fun v u H1 H2 s1 s2 rx ry _ _=>⟨i,j,c,.inr (.inr ⟨by rw[ah rx,ah ry],h0,h1⟩),fun p hp=>⟨p,rfl,bw,(s1.trans s2).trans (a6.c7 hp)⟩⟩
 ·rintro v s1 ⟨x,H1,I1,r1,q,rfl,hq,sm⟩;cases r1;obtain⟨⟨t,u,v,hR⟩,_,_⟩:=I1.hok q _ hq;refine wpAny_pyIter_range hR hs ⟨s1.heap.objs.size,[s1.heap.objs.size],_,Its c i (RL.aG c i j),H1,rfl,I1.kept (t':=s1.toks) fun b o e=>Heap.get?_push_of_some _ e,x3 _ c i _,?_,fun b hb=>?_,k _ _ sm ⟨tP,fun _ _ _ _ _=>tP⟩⟩
  ·have e1:i+((0:Nat):Int)*c=i:=by simp
   have e2:((RL.aG c i j:Nat):Int)-((0:Nat):Int)=Builtin.Range.rangeSize i j c:=by rw[kE];simp
   show IsRangeIter _ _ (i+((0:Nat):Int)*c) (((RL.aG c i j:Nat):Int)-((0:Nat):Int)) c;rw[e1,e2];exact Heap.get?_push_size _ rfl
  ·rw[show b=s1.heap.objs.size by simpa using hb];exact I1.rh (Nat.le_refl _) (I1.hok.fresh (Nat.le_refl _))
def C1(hl:SE X cl l e'):SI X cl tg l (.seq e'):=by
 refine PI.weak (Et (cl:=cl) hl trivial) fun σ H R h=>?_;obtain⟨σD,ds,rv,e,k⟩:=h;obtain⟨d,e1,e2⟩:=bind_some e;exact⟨σD,d,ds,rv,e1,e2,k⟩
def Dv(ha:SE X cl a a'):SE X cl (.UnaryOp .USub a pos) (.neg a'):=by
 refine PE.weak (A2 wa ha) fun σ H Q h=>?_;obtain⟨σD,d,rv,e,k⟩:=h;obtain⟨x,ea,e⟩:=bind_some e
 cases x with
 | int i=>cases e;exact⟨σD,_,rv,ea,fun v H1 r1=>⟨i,ah r1.rep,k _ _ (cJ r1.same aQ rfl)⟩⟩
 | _=>cases e
def FA(hc:X.calm=true)(hg:Gl X "min")(hm:X.mg "min" = none)(ha:SE X cl a a')(hb:SE X cl b b')(hn:noStar a=true)(hn2:noStar b=true):SE X cl (.Call (.Name "min" p) [a,b] [] pos) (.min a' b'):=by
 refine PE.weak (ig (vX hc) hg hm (by decide +kernel) (bz (cl:=cl) ha (bz hb c6 hn2) hn) (by decide) (by decide) (aC _ hn) (dP (by simp[hn2]))) fun σ H Q h=>?_;obtain⟨σD,d,rv,e,k⟩:=h;obtain⟨u,ea,e⟩:=bind_some e;obtain⟨v,eb,e⟩:=bind_some e
 cases u with
 |int i=>
  cases v with
  |int j=>
   cases e
   exact pair rv ea eb fun v u H1 s1 r1 r2=>⟨i,j,by rw[ah r1,ah r2],k _ _ (cJ s1 aQ rfl)⟩
  | _=>cases e
 | _=>cases e
end
abbrev mAt(mp:List Nat)(vs:List V):Addr->Prop:=fun a=>∃ p,p∈mp/\vs[p]?=some (.ref a)
structure E1(K:PySem.W.Frag)(mp:List Nat)(ds:List RL.D)(vs:List V)(H:Hp):Prop where
 kB:ae nP K H ds vs
 own:∀ p∈mp,∃ d a,ds[p]?=some d/\vs[p]?=some (.ref a)/\Own K H d (.ref a)
 sep:∀ p∈mp,∀ q∈mp,∀ a,vs[p]?=some (.ref a)->vs[q]?=some (.ref a)->p=q
 oth:∀ (q:Nat) d v,q∉mp->ds[q]?=some d->vs[q]?=some v->Rep (mAt mp vs) K H d v
structure Ht(K:PySem.W.Frag)(mp:List Nat)(outs:List RL.D)(vs:List V)(H:Hp):Prop where
 len:outs.length=mp.length
 own:∀ (k p:Nat) o,mp[k]?=some p->outs[k]?=some o->∃ a,vs[p]?=some (.ref a)/\Own K H o (.ref a)
abbrev spM(K:PySem.W.Frag)(cl:RL.Cl)(mp:List Nat)(f:Nat):Sp:=fun vs H Q _=>∃ ds d outs,cl f ds=some (.tup (d::outs))/\E1 K mp ds vs H/\∀ v H',Off (mAt mp vs) H H'->Rep nP K H' d v->d.imm=true->Ht K mp outs vs H'->Q v H'
abbrev rC(K:PySem.W.Frag)(cl:RL.Cl):RL.E->TE
 | .var j=>jM j
 | e=>tE K cl e
abbrev iF(K:PySem.W.Frag)(cl:RL.Cl):RL.Es->TA
 | .nil=>zu
 | .cons e es=>vp (rC K cl e) (iF K cl es)
abbrev cR(K:PySem.W.Frag)(M:List Nat)(σ:L2.St)(ps:List Nat)(H:Hp):Nat->RL.Es->List RL.D->List V->Prop
 | _,.nil,[],[]=>True
 | q,.cons e es,d::ds,v::vs=>Rep nP K H d v/\(if ps.contains q=true then ∃ j,e=.var j/\σ[j]?=some (some v)else Rep (bC M σ) K H d v)/\cR K M σ ps H (q+1) es ds vs
 | _,_,_,_=>False
section
variable{K:PySem.W.Frag}{M:List Nat}{cl:RL.Cl}{σD:RL.St}{σ:L2.St}{H H1:Hp}
def wq{j:Nat}{d:RL.D}(e:RL.ev cl σD (.var j)=some d):σD[j]?=some (some d):=by
 exact slot_get e
def Dp{e':RL.E}{d:RL.D}{v:V}(rv:RVm K M σD σ H)(r1:Res K σD σ H e' d v H1)(ok:RL.aP M e' d=true):Rep (bC M σ) K H1 d v:=by
 unfold RL.aP at ok;rw[Bool.or_eq_true,Bool.or_eq_true,Bool.and_eq_true]at ok;rcases ok with(q | ⟨q1,q2⟩) | q
 ·exact r1.rep.imm q
 ·have rp:=r1.rep;have fr:kz d=true->∀ a,v=.ref a->¬ bC M σ a:=fun m a z p=>rv.sL a p (r1.fresh q2 m a z)
  cases d with
  | lst ds=>obtain⟨a,xs,e1,e0,e2,e3⟩:=aB rp;rw[Rep];exact⟨a,xs,e1,fr rfl a e1,e2,e3.imm q1⟩
  | dK ks ds=>rw[Rep]at rp ⊢;obtain⟨a,xs,e1,e0,e2,el,e3⟩:=rp;exact⟨a,xs,e1,fr rfl a e1,e2,el,e3.imm q1⟩
  | dT ks ds=>rw[Rep]at rp ⊢;obtain⟨a,xs,e1,e0,e2,el,e3⟩:=rp;exact⟨a,xs,e1,fr rfl a e1,e2,el,e3.imm q1⟩
  | _=>cases q1
 ·refine r1.av M q _ rv.sL fun j dj vj hj h1 h2=>?_;obtain⟨v',h3,h4⟩:=rv.val j dj h1;rw[h2]at h3;cases h3;rw[if_neg (by rw[hj];decide)]at h4;exact h4
def C2{e:RL.E}{d:RL.D}{ps:List Nat}{q:Nat}{R:V->Hp->Prop}(rv:RVm K M σD σ H)(he:RL.ev cl σD e=some d)(ok:(if ps.contains q=true then RL.isVar e else RL.aP M e d)=true)
 (k:∀ v H1,a6 H H1->Rep nP K H1 d v->(if ps.contains q=true then ∃ j,e=.var j/\σ[j]?=some (some v)else Rep (bC M σ) K H1 d v)->R v H1):rC K cl e σ H R:=by
 have other:rC K cl e=tE K cl e->ps.contains q=false->rC K cl e σ H R:=fun z hq=>by
  rw[z];rw[if_neg (by rw[hq];decide)]at ok;refine⟨σD,d,rv.rv0,he,fun v H1 r1=>k v H1 r1.same r1.rep ?_⟩;rw[if_neg (by rw[hq];decide)];exact Dp rv r1 ok
 cases e with
 |var j=>
  have hj:=wq he;obtain⟨v,h1,h2⟩:=rv.val j d hj;refine⟨v,h1,k v H (a6.refl H) ?_ ?_⟩
  ·obtain⟨v',h3,h4⟩:=rv.rv0.2 j d hj;rw[h1]at h3;cases h3;exact h4
  ·by_cases hq:ps.contains q=true
   ·rw[if_pos hq];exact⟨j,rfl,h1⟩
   ·rw[if_neg hq]at ok ⊢;by_cases hm:M.contains j=true
    ·rw[if_pos hm]at h2
     have im:d.imm=true:=by
      unfold RL.aP at ok;rw[Bool.or_eq_true,Bool.or_eq_true,Bool.and_eq_true]at ok;rcases ok with(z | ⟨_,z⟩) | z
      ·exact z
      ·cases z
      ·rw[RL.avE,hm]at z;cases z
     exact h2.2.2.imm im
    ·rw[if_neg hm]at h2;exact h2
 |_=>
  refine other rfl ?_
  cases hq:ps.contains q with
  | false=>rfl
  |true=>
   rw[if_pos hq]at ok;cases ok
def qD{ps:List Nat}:∀ {es:RL.Es} {q:Nat} {ds:List RL.D} {H:Hp} {R:List V->Hp->Prop},RVm K M σD σ H->RL.evs cl σD es=some ds->RL.fw M ps q es ds=true ->
  (∀ vs H1,a6 H H1->cR K M σ ps H1 q es ds vs->R vs H1)->iF K cl es σ H R
 | .nil,q,ds,H,R,rv,he,ok,k=>by
  cases he;exact k [] H (a6.refl H) (by rw[cR];trivial)
 | .cons e es,q,ds,H,R,rv,he,ok,k=>by
  obtain⟨d,e1,he⟩:=bind_some he;obtain⟨ds',e2,e3⟩:=map_some he;subst e3;rw[RL.fw,Bool.and_eq_true]at ok;refine C2 rv e1 ok.1 fun v H1 s1 r1 x1=>?_;refine qD (rv.same s1) e2 ok.2 fun vs H2 s2 r2=>k (v::vs) H2 (s1.trans s2) ?_;rw[cR];refine⟨r1.same s2,?_,r2⟩;by_cases hq:ps.contains q=true
  ·rw[if_pos hq]at x1 ⊢;exact x1
  ·rw[if_neg hq]at x1 ⊢;exact x1.same s2
abbrev lg:RL.Es->Nat->Option RL.E
 | .nil,_=>none
 | .cons e _,0=>some e
 | .cons _ es,n+1=>lg es n
def cR.kB{ps:List Nat}:∀ {q:Nat} {es:RL.Es} {ds:List RL.D} {vs:List V},cR K M σ ps H q es ds vs->ae nP K H ds vs
 | _,.nil,[],[],h=>ae.nil
 | q,.cons e es,d::ds,v::vs,h=>by
  rw[cR]at h;exact ae.cons h.1 (cR.kB h.2.2)
 | _,.nil,_::_,_,h=>by simp[cR]at h
 | _,.nil,[],_::_,h=>by simp[cR]at h
 | _,.cons _ _,[],_,h=>by simp[cR]at h
 | _,.cons _ _,_::_,[],h=>by simp[cR]at h
def cR.get{ps:List Nat}:∀ {q:Nat} {es:RL.Es} {ds:List RL.D} {vs:List V} (n:Nat) {d:RL.D} {v:V},cR K M σ ps H q es ds vs->ds[n]?=some d->vs[n]?=some v ->
  Rep nP K H d v/\(if ps.contains (q+n)=true then ∃ j,lg es n=some (.var j)/\σ[j]?=some (some v)else Rep (bC M σ) K H d v)
 | _,.nil,[],[],n,_,_,h,e,_=>by simp at e
 | q,.cons e es,d::ds,v::vs,0,_,_,h,e1,e2=>by
  simp at e1 e2;subst e1 e2;rw[cR]at h;refine⟨h.1,?_⟩;have h2:=h.2.1;rw[Nat.add_zero];by_cases hq:ps.contains q=true
  ·rw[if_pos hq]at h2 ⊢;obtain⟨j,z,y⟩:=h2;subst z;exact⟨j,rfl,y⟩
  ·rw[if_neg hq]at h2 ⊢;exact h2
 | q,.cons e es,d::ds,v::vs,n+1,_,_,h,e1,e2=>by
  rw[cR]at h;have:=cR.get n h.2.2 (by simpa using e1) (by simpa using e2);rw[show q+1+n=q+(n+1) by lia]at this;exact this
 | _,.nil,_::_,_,_,_,_,h,_,_=>by simp[cR]at h
 | _,.nil,[],_::_,_,_,_,h,_,_=>by simp[cR]at h
 | _,.cons _ _,[],_,_,_,_,h,_,_=>by simp[cR]at h
 | _,.cons _ _,_::_,[],_,_,_,h,_,_=>by simp[cR]at h
def Own.off{P:Addr->Prop}{d:RL.D}{a:Addr}(h:Own K H d (.ref a))(hm:∀ b o,P b->H b=some o->cZ o)(k:Off P H H1)(n:¬ P a):Own K H1 d (.ref a):=by
 obtain⟨q1,q2,q3⟩:=h;refine⟨q1,q2,?_⟩;have im:∀ {ds:List RL.D} {xs:List V},RL.aq ds=true->ae nP K H ds xs->ae nP K H1 ds xs:=fun hi r=>((r.imm hi).off hm k).imm hi
 cases d with
 | lst ds=>obtain⟨b',xs,e1,e0,e2,e3⟩:=aB q3;cases e1;rw[Rep];exact⟨a,xs,rfl,fun z=>z,k _ _ n e2,im q2 e3⟩
 | dK ks ds=>rw[Rep]at q3 ⊢;obtain⟨b',xs,e1,e0,e2,el,e3⟩:=q3;cases e1;exact⟨a,xs,rfl,fun z=>z,k _ _ n e2,el,im q2 e3⟩
 | dT ks ds=>rw[Rep]at q3 ⊢;obtain⟨b',xs,e1,e0,e2,el,e3⟩:=q3;cases e1;exact⟨a,xs,rfl,fun z=>z,k _ _ n e2,el,im q2 e3⟩
 | _=>cases q1
def oQ:∀ {ms:List Nat} {outs:List RL.D} {σD:RL.St} {k i:Nat} {o:RL.D},ms.Nodup->ms[k]?=some i->outs[k]?=some o->i<σD.length->(eK ms outs σD)[i]?=some (some o)
 | [],_,_,_,_,_,_,e,_,_=>by simp at e
 | m::ms,[],_,_,_,_,_,_,e,_=>by simp at e
 | m::ms,d::ds,σD,0,i,o,nd,e1,e2,hl=>by
  simp at e1 e2;subst e1 e2;rw[eK,lB _ _ _ _ (by simpa using(List.nodup_cons.mp nd).1),List.getElem?_set_self hl]
 | m::ms,d::ds,σD,k+1,i,o,nd,e1,e2,hl=>by
  rw[eK];exact oQ (List.nodup_cons.mp nd).2 (by simpa using e1) (by simpa using e2) (by simpa using hl)
def RVm.changed{ms:List Nat}{outs:List RL.D}(h:RVm K M σD σ H)(hms:∀ i∈ms,M.contains i=true)(nd:ms.Nodup)(len:ms.length=outs.length)(k:Off (fun a=>∃ i∈ms,σ[i]?=some (some (.ref a))) H H1)
 (ow:∀ (k i:Nat) o,ms[k]?=some i->outs[k]?=some o->∃ a,σ[i]?=some (some (.ref a))/\Own K H1 o (.ref a)):RVm K M (eK ms outs σD) σ H1/\Fr' M σ H σ H1:=by
 have sub:∀ a,(∃ i∈ms,σ[i]?=some (some (.ref a)))->bC M σ a:=fun a ⟨i,hi,e⟩=>⟨i,hms i hi,e⟩
 have offA:Off (bC M σ) H H1:=fun b o n e=>k b o (fun z=>n (sub b z)) e
 have hmA:∀ b o,bC M σ b->H b=some o->cZ o:=fun b o p e=>by
  obtain⟨o',e',m⟩:=h.zc b p;rw[e]at e';cases e';exact m
 have at_:∀ i,i∈ms->∃ (kk:Nat) (o:RL.D),ms[kk]?=some i/\outs[kk]?=some o:=fun i hi=>by
  obtain⟨kk,hk,e⟩:=List.getElem_of_mem hi;exact⟨kk,outs[kk]'(by lia),by simp[hk,e],by simp⟩
 refine⟨⟨by rw[lX];exact h.len,fun i d e=>?_,fun i v e=>?_,h.sep⟩,⟨fun b o e n=>⟨offA b o n e,n⟩,fun _ _=>rfl⟩⟩
 ·by_cases hi:i∈ms
  ·obtain⟨kk,o,e1,e2⟩:=at_ i hi
   have hl:i<σD.length:=by
    have:=(List.getElem?_eq_some_iff.mp e).1;rw[lX]at this;exact this
   rw[oQ nd e1 e2 hl]at e;cases e;obtain⟨a,q1,q2⟩:=ow kk i _ e1 e2;exact⟨.ref a,q1,by rw[if_pos (hms i hi)];exact q2⟩
  ·rw[lB _ _ _ _ (by simpa using hi)]at e;obtain⟨v,h1,h2⟩:=h.val i d e;refine⟨v,h1,?_⟩;by_cases hm:M.contains i=true
   ·rw[if_pos hm]at h2 ⊢;obtain⟨a,o,rfl,_,_⟩:=h2.ref;refine h2.off (fun b o p e=>hmA b o (sub b p) e) k fun⟨j,hj,ej⟩=>?_;exact hi (h.sep i j a hm (hms j hj) h1 ej▸hj)
   ·rw[if_neg hm]at h2 ⊢;exact h2.off hmA offA
 ·obtain⟨d,hd⟩:=h.non i v e;by_cases hi:i∈ms
  ·obtain⟨kk,o,e1,e2⟩:=at_ i hi;exact⟨o,oQ nd e1 e2 (List.getElem?_eq_some_iff.mp hd).1⟩
  ·exact⟨d,by rw[lB _ _ _ _ (by simpa using hi)];exact hd⟩
end
section rules
variable{X:Cx}{cl:RL.Cl}{M:List Nat}{st:Stmt}{i f:Nat}{es:RL.Es}{ps ms:List Nat}
abbrev cb(es:RL.Es):List Nat->List Nat->Bool
 | [],[]=>true
 | p::ps,m::ms=>(match lg es p with | some (.var j)=>j == m | _=>false)&&cb es ps ms
 | _,_=>false
def lN:∀ {ps ms:List Nat} {k p:Nat},cb es ps ms=true->ps[k]?=some p->∃ m,ms[k]?=some m/\lg es p=some (.var m)
 | [],_,_,_,_,e=>by simp at e
 | _::_,[],_,_,h,_=>by simp[cb]at h
 | p::ps,m::ms,0,q,h,e=>by
  rw[cb,Bool.and_eq_true]at h;simp at e;subst e;have h1:=h.1;split at h1
  ·rename_i j hj;rw[beq_iff_eq]at h1;subst h1;exact⟨j,rfl,hj⟩
  ·cases h1
 | p::ps,m::ms,k+1,q,h,e=>by
  rw[cb,Bool.and_eq_true]at h;obtain⟨m',h1,h2⟩:=lN (k:=k) h.2 (by simpa using e);exact⟨m',by simpa using h1,h2⟩
def iP:∀ {ps ms:List Nat},cb es ps ms=true->ps.length=ms.length
 | [],[],_=>rfl
 | [],_::_,h=>by simp[cb]at h
 | _::_,[],h=>by simp[cb]at h
 | p::ps,m::ms,h=>by
  rw[cb,Bool.and_eq_true]at h;rw[List.length_cons,List.length_cons,iP h.2]
def sI{σD:RL.St}{σ:L2.St}{H:Hp}{ds outs:List RL.D}{d:RL.D}{σ1:RL.St}{Q:VK}(rv:RVm X.K M σD σ H)(he:RL.evs cl σD es=some ds)(ok:RL.fw M ps 0 es ds=true)(hc:cl f ds=some (.tup (d::outs)))
 (hs:cb es ps ms=true)(hms:∀ i∈ms,M.contains i=true)(nd:ms.Nodup)(ndp:ps.Nodup)(hset:RL.bo ms outs σD=some σ1)
 (k:∀ v H',Rep nP X.K H' d v->d.imm=true->RVm X.K M σ1 σ H'->Fr' M σ H σ H'->Q v H'):ng (spM X.K cl ps f) [] E0 (iF X.K cl es) σ H Q:=by
 refine qD rv he ok fun vs H1 s1 ar=>?_;show spM X.K cl ps f (vs++[]) H1 Q E0;rw[List.append_nil];have rv1:=rv.same s1;have rps:=ar.kB;obtain⟨hlen,hσ1⟩:=gw hset;subst hσ1
 have adr:∀ (k p:Nat),ps[k]?=some p->∃ m a d',ms[k]?=some m/\σ[m]?=some (some (.ref a))/\vs[p]?=some (.ref a)/\ds[p]?=some d'/\Own X.K H1 d' (.ref a)/\lg es p=some (.var m):=by
  intro k p hk;obtain⟨m,h1,h2⟩:=lN hs hk
  have evg:∀ (es:RL.Es) (ds:List RL.D) (n:Nat) (e:RL.E),RL.evs cl σD es=some ds->lg es n=some e->∃ d',ds[n]?=some d'/\RL.ev cl σD e=some d':=by
   intro es
   induction es using RL.Es.rec (motive_1:=fun _=>True) (motive_3:=fun _=>True)with
   | nil=>intro ds n e _ z;cases z
   |cons e0 es0 _ ih=>
    intro ds n e h z;obtain⟨d0,y1,h⟩:=bind_some h;obtain⟨ds0,y2,y3⟩:=map_some h;subst y3
    cases n with
    | zero=>cases z;exact⟨d0,rfl,y1⟩
    | succ n=>exact ih ds0 n e y2 z
   | _=>trivial
  obtain⟨d',g1,g2⟩:=evg es ds p _ he h2;obtain⟨v,g3,g4⟩:=rps.get g1
  have hpc:ps.contains (0+p)=true:=by
   rw[Nat.zero_add];simpa using List.mem_of_getElem? hk
  have g5:=(ar.get p g1 g3).2;rw[if_pos hpc]at g5;obtain⟨j,z1,z2⟩:=g5;rw[h2]at z1;cases z1;have hm:M.contains m=true:=hms m (List.mem_of_getElem? h1);obtain⟨v',z3,z4⟩:=rv1.val m d' (wq g2);rw[z2]at z3;cases z3;rw[if_pos hm]at z4;obtain⟨a,o,rfl,_,_⟩:=z4.ref;exact⟨m,a,d',h1,z2,g3,g1,z4,h2⟩
 have adr':∀ a,mAt ps vs a->∃ i∈ms,σ[i]?=some (some (.ref a)):=fun a ⟨p,hp,e⟩=>by
  obtain⟨k,hk,z⟩:=List.getElem_of_mem hp;obtain⟨m,a',d',h1,h2,h3,_⟩:=adr k p (by simp[hk,z]);rw[e]at h3;cases h3;exact⟨m,List.mem_of_getElem? h1,h2⟩
 refine⟨ds,d,outs,hc,⟨rps,fun p hp=>?_,fun p hp q hq a e1 e2=>?_,fun q dq v hq e1 e2=>?_⟩,fun v H' off rp im mo=>?_⟩
 ·obtain⟨k,hk,z⟩:=List.getElem_of_mem hp;obtain⟨m,a',d',h1,h2,h3,h4,h5,_⟩:=adr k p (by simp[hk,z]);exact⟨d',a',h4,h3,h5⟩
 ·obtain⟨k,hk,z⟩:=List.getElem_of_mem hp;obtain⟨l,hl,y⟩:=List.getElem_of_mem hq
  have gk:ps[k]?=some p:=by simp[hk,z]
  have gl:ps[l]?=some q:=by simp[hl,y]
  obtain⟨m,a1,d1,h1,h2,h3,_⟩:=adr k p gk;obtain⟨m',a2,d2,h1',h2',h3',_⟩:=adr l q gl;rw[e1]at h3;cases h3;rw[e2]at h3';cases h3';have hmm:=rv1.sep m m' a (hms m (List.mem_of_getElem? h1)) (hms m' (List.mem_of_getElem? h1')) h2 h2';subst hmm;have hkl:k=l:=(List.getElem?_inj (by rw[<-iP hs];exact hk) nd).mp (by rw[h1,h1']);subst hkl;rw[gk]at gl;exact Option.some.inj gl
 ·have hpc:ps.contains (0+q)=false:=by
   rw[Nat.zero_add];simpa using hq
  have g5:=(ar.get q e1 e2).2;rw[if_neg (by rw[hpc];decide)]at g5
  exact g5.weak fun a ha=>by
   obtain⟨i,hi,e⟩:=adr' a ha;exact⟨i,hms i hi,e⟩
 ·obtain⟨g1,g2⟩:=rv1.changed (outs:=outs) (H1:=H') hms nd hlen (fun b o n e=>off b o (fun z=>n (adr' b z)) e) fun k i o hk ho=>by
   have hkl:k<ps.length:=by
    rw[iP hs];exact(List.getElem?_eq_some_iff.mp hk).1
   obtain⟨m,a1,d1,h1,h2,h3,_⟩:=adr k ps[k] (by simp[hkl]);rw[hk]at h1;cases h1;obtain⟨a,q1,q2⟩:=mo.own k ps[k] o (by simp[hkl]) ho;rw[q1]at h3;cases h3;exact⟨_,h2,q2⟩
  exact k v H' rp im g1 ((Fr'.same s1).trans g2)
def Ct(h:PS X st (pU (ng (spM X.K cl ps f) [] E0 (iF X.K cl es))))(hs:cb es ps ms=true)(hms:∀ i∈ms,M.contains i=true)(nd:ms.Nodup)(ndp:ps.Nodup):SS X cl M st (.mexc f es ps ms):=by
 refine PS.weak h fun D σ H h=>?_;obtain⟨σD,o,σD',rv,e,k⟩:=h;obtain⟨ds,e1,e⟩:=bind_some e;split at e
 ·rename_i ok;obtain⟨r,e2,e⟩:=bind_some e;split at e
  ·rename_i d outs;obtain⟨σ1,e3,e4⟩:=map_some e;cases e4;exact sI rv e1 ok e2 hs hms nd ndp e3 fun v H' _ _ rv' fr'=>k _ _ rv' fr'
  ·cases e
 ·cases e
def Cc(h:PS X st (DF i (ng (spM X.K cl ps f) [] E0 (iF X.K cl es)) (ipI fun a b=>a+b)))(hi:M.contains i=false)(hs:cb es ps ms=true)(hms:∀ i∈ms,M.contains i=true)(nd:ms.Nodup)(ndp:ps.Nodup):SS X cl M st (.maug i f es ps ms):=by
 refine PS.weak h fun D σ H h=>?_;obtain⟨σD,o,σD',rv,e,k⟩:=h;obtain⟨x,e0,e⟩:=bind_some e;obtain⟨ds,e1,e⟩:=bind_some e;split at e
 ·rename_i ok;obtain⟨r,e2,e⟩:=bind_some e;split at e
  ·rename_i y outs
   cases x with
   |int a=>
     cases y with
     |int b=>
    obtain⟨σ1,e3,e4⟩:=map_some e;cases e4;obtain⟨v,h1,h2⟩:=rv.val i _ (slot_get e0);rw[if_neg (by rw[hi];decide)]at h2;refine⟨v,h1,sI rv e1 ok e2 hs hms nd ndp e3 fun u H' rp _ rv' fr'=>⟨a,b,ah h2,ah rp,?_⟩⟩
    exact k _ _ (rv'.bind hi aQ) (fr'.trans (Fr'.bind hi (a6.refl _)))
     | _=>cases e
   | _=>cases e
  ·cases e
 ·cases e
end rules
end RS
namespace L2
open PySem PySem.Spec PyProof.Rows
abbrev nR(A:Around)(h:Heap):Prop:=A.handled=none\/∃ x o vs,A.handled=some (.ref x)/\h.get? x=some o/\o.data=.fields vs/\vs[2]?=some .none
def nR.keeps{A:Around}{h h':Heap}(x:nR A h)(k:∀ b o vs,h.get? b=some o->o.data=.fields vs->A.handled=some (.ref b)->h'.get? b=some o):nR A h':=by
 rcases x with z | ⟨y,o,vs,h1,h2,h3,h4⟩
 ·exact .inl z
 ·exact .inr ⟨y,o,vs,h1,k _ _ _ h2 h3 h1,h3,h4⟩
section
variable{prog:Program}{w:World}{A:Around}{E:Value->Shared->Prop}{s:Shared}
def pS:entryFor table "proto.unchain" = some Builtin.«proto.unchain»:=entryFor_of_tree (by kernel_rfl)
def zp{α:Type}{e:Addr}{oe:Obj}{vs:Array Value}{Q:α->Shared->Prop}(hd:nR A s.heap)(he:s.heap.get? e=some oe)(hf:oe.data=.fields vs)(hz:2<vs.size)(ne:A.handled≠some (.ref e))
 (k:∀ h',Heap.SameBut e s.heap h'->(∃ o,h'.get? e=some o/\o.cls=oe.cls)->E (.ref e) { s with heap:=h' }):wpAny (model prog w) A (raiseNew (.ref e):Sem α) Q E s:=by
 unfold raiseNew;refine wpAny_bind (wpAny_handled ?_)
 rcases hd with z | ⟨x,o,ws,h1,h2,h3,h4⟩
 ·rw[z];exact wpAny_bind (wpAny_pure (wpAny_throw (k s.heap (.refl ..) ⟨oe,he,rfl⟩)))
 ·rw[h1]
  have nx:(Value.ref x != Value.ref e)=true:=by
   rw[bne_iff_ne];intro q;exact ne (by rw[h1,q])
  dsimp only;rw[if_pos nx];refine wpAny_bind (wpAny_holding (wpAny_runValue (codeAny_builtin pS ?_)));unfold Builtin.«proto.unchain»;refine wpAny_bind (wpAny_field h2 h3 h4 ?_);rw[if_pos (by decide)];refine wpAny_bind (wpAny_pure (wpAny_pure ?_));show wpAny _ _ _ _ _ _;refine wpAny_bind ?_;show wpAny _ _ (setField (.ref e) 2 (.ref x)) _ _ _;refine wpAny_setField he hf hz (wpAny_throw (k _ (.update ..) ⟨_,Heap.get?_update_self _ he (Obj.isFreed_of_fields (Obj.data_mapFields hf _)),Obj.cls_mapFields ..⟩))
def AN{α:Type}{Q:α->Shared->Prop}(hd:nR A s.heap)(k:∀ h' e,(∀ b o,s.heap.get? b=some o->h'.get? b=some o)->(∃ o,h'.get? e=some o/\o.cls=.type "StopIteration")->E (.ref e) { s with heap:=h' }) :
  wpAny (model prog w) A (newExc (.type "StopIteration") []) (fun e s'=>wpAny (model prog w) A (raiseNew e:Sem α) Q E s') E s:=by
 simp only[newExc,newTuple];apply wpAny_bind;refine wpAny_newObj_type ?_ (by size_fits);apply wpAny_bind (m:=firstArgMember _ _);refine wpAny_of_eq (a:=Value.none) (by first | rfl | (simp only[firstArgMember];rfl)) ?_;refine wpAny_newObj_type ?_ (by size_fits);have hs:∀ b o,s.heap.get? b=some o->b≠(s.heap.push { cls:=.type "tuple",data:=.seq ([]:List Value).toArray }).objs.size:=fun b o e=>Nat.ne_of_lt (by rw[Heap.size_push];exact Nat.lt_succ_of_lt (Heap.lt_size e));refine zp (hd.keeps fun b o vs e _ _=>Heap.get?_push_of_some _ (Heap.get?_push_of_some _ e)) (Heap.get?_push_size _ rfl) rfl (Nat.lt_of_lt_of_le (by decide:2<6) (by simp)) (fun q=>?_) fun h' sb ho=>k h' _ (fun b o e=>(sb.2 b (hs b o e)).trans (Heap.get?_push_of_some _ (Heap.get?_push_of_some _ e))) ho
 rcases hd with z | ⟨x,o,ws,h1,h2,_,_⟩
 ·rw[z]at q;cases q
 ·rw[h1]at q;cases q;exact hs _ _ h2 rfl
end
section
variable{prog:Program}{w:World}{A:Around}{E:Value->Shared->Prop}
def yM{z:Shared}{ti tp:Addr}{i:Nat}{its:Array Value}{x:Value}{Q:Value->Shared->Prop}(hi:z.heap.IsTupleIter ti tp i)(ht:z.heap.IsTuple tp its)(hx:its[i]?=some x)
 (k:∀ g,g.IsTupleIter ti tp (i+1)->Heap.SameBut ti z.heap g->Q x { z with heap:=g }):wpAny (model prog w) A (Builtin.SmallTypes.nextOf (.ref ti)) Q E z:=by
 have hty:=hi.typeIs;obtain⟨⟨c1,d1,f1,s1⟩,g1,c1',f1'⟩:=hi;obtain⟨⟨c2,d2,f2,s2⟩,g2,c2',n2,f2'⟩:=ht;dsimp only at c1' f1' c2' f2';subst c1' f1' c2' f2';obtain⟨hp,g,d,tk,os⟩:=z;unfold Builtin.SmallTypes.nextOf;refine wpAny_bind (wpAny_callSpecial?_slot (name:=Str.ofString "__next__") hty F.slot_tuple_iterator_next (wpAny_call_entry F.slot_tuple_iterator_next hty F.entry_tuple_iterator_next ?_ (F.args_tuple_iterator_next_1 _)));unfold Builtin.«tuple_iterator.__next__»
 wp_walk using AutoSeq1.wpAny_loadPart' g1,AutoSeq1.wpAny_loadPart' g2
 have e:its[((i:Nat):Int).toNat]?=some x:=hx;rw[e];dsimp only;apply wpAny_bind;apply wpAny_setField g1 rfl (by simp);apply wpAny_pure;refine⟨x,rfl,?_⟩;apply wpAny_pure;apply k
 ·exact⟨_,Heap.get?_update_self _ g1 rfl,rfl,by simp[Obj.mapFields,rawInt]⟩
 ·exact Heap.SameBut.update ..
def Bg{z:Shared}{ti tp:Addr}{i:Nat}{its:Array Value}{Q:Value->Shared->Prop}(hd:nR A z.heap)(ni:A.handled≠some (.ref ti))(hi:z.heap.IsTupleIter ti tp i)(ht:z.heap.IsTuple tp its)(hx:its[i]?=none)
 (k:∀ g e,Heap.ExtBut ti z.heap g->(∃ o,g.get? e=some o/\o.cls=.type "StopIteration")->E (.ref e) { z with heap:=g }):wpAny (model prog w) A (Builtin.SmallTypes.nextOf (.ref ti)) Q E z:=by
 have hty:=hi.typeIs;obtain⟨⟨c1,d1,f1,s1⟩,g1,c1',f1'⟩:=hi;obtain⟨⟨c2,d2,f2,s2⟩,g2,c2',n2,f2'⟩:=ht;dsimp only at c1' f1' c2' f2';subst c1' f1' c2' f2';obtain⟨hp,g,d,tk,os⟩:=z;unfold Builtin.SmallTypes.nextOf;refine wpAny_bind (wpAny_callSpecial?_slot (name:=Str.ofString "__next__") hty F.slot_tuple_iterator_next (wpAny_call_entry F.slot_tuple_iterator_next hty F.entry_tuple_iterator_next ?_ (F.args_tuple_iterator_next_1 _)));unfold Builtin.«tuple_iterator.__next__»
 wp_walk using AutoSeq1.wpAny_loadPart' g1,AutoSeq1.wpAny_loadPart' g2
 have e:its[((i:Nat):Int).toNat]?=none:=hx;rw[e];dsimp only;apply wpAny_bind;apply wpAny_rule;apply wpAny_bind;apply wpAny_setField g1 rfl (by simp);unfold Builtin.SmallTypes.stopIteration;apply wpAny_bind;refine AN (hd.keeps fun b u vs e _ hb=>(Heap.SameBut.update ..).extBut b u (fun z=>ni (z▸hb)) e) fun g e kp hc=>k g e (fun b o hb q=>kp b o ?_) hc;exact(Heap.SameBut.update ..).extBut b o hb q
def Ag{α:Type}{m:Sem α}{S Q:α->Shared->Prop}{E:Value->Shared->Prop}{z:Shared}(h:wpAny (model prog w) A m S (fun _ _=>False) z)(k:∀ a z1,S a z1->Q a z1):wpAny (model prog w) A m Q E z:=wpAny_mono h k fun _ _ f=>f.elim
def x4{b:Bool}{Q:Bool->Shared->Prop}{E:Value->Shared->Prop}{z:Shared}(h:∀ b,Q b z):wpAny (model prog w) A (pure b) Q E z:=wpAny_pure (h b)
def yN{x:Value}{S:Addr->Shared->Prop}{z:Shared}{Q:Value->Shared->Prop}(hx:∀ A:Around,wpAny (model prog w) A (pyIter x) (fun v z1=>∃ it,v=.ref it/\S it z1) (fun _ _=>False) z)
 (k:∀ it z1,S it z1->Q (.ref z1.heap.objs.size) { z1 with heap:=z1.heap.push { cls:=.type "enumerate",data:=.fields #[.none,.bool false,.ref it,rawInt 0,.none,.none] } }):wpAny (model prog w) A (call (.type "enumerate") [x]) Q E z:=by
 have body:MeetsIn prog w (Builtin.«enumerate.__new__» ⟨[.type "enumerate",x],[]⟩) (fun A R s=>s=z/\∀ it z1,S it z1->R (.ok (.ret (.ref z1.heap.objs.size))) { z1 with heap:=z1.heap.push { cls:=.type "enumerate",data:=.fields #[.none,.bool false,.ref it,rawInt 0,.none,.none] } }):=by
  rintro A R s ⟨rfl,hR⟩;have hsub:=sub_enumerate;have iter:=hx A.in1;obtain⟨hp,g,d,tk,os⟩:=s
  wp_walk
  refine wpAny_stack_any fun st=>x4 fun b=>?_
  have done:∀ it z1,S it z1->wpAny (model prog w) A.in1 (do let r <- Builtin.SmallTypes.newRecord (.type "enumerate") (Builtin.SmallTypes.ownedTupleFields++[.ref it,rawInt 0,.none,.none]);ret r)
    (fun fin s'=>match fin with | .done f=>R (.ok f) s' | .again c'=>c'.quiet=true/\codeAny (model prog w) A c' R s') (fun e s'=>R (.error e) s') z1:=by
   intro it z1 h1;have:=hR it z1 h1;obtain⟨hp1,gg1,dd1,tk1,os1⟩:=z1
   wp_walk
   exact this
  cases b
  ·wp_walk using Ag iter
   rintro _ z1 ⟨it,rfl,h1⟩;exact done it z1 h1
  ·wp_walk using Ag iter
   rintro _ z1 ⟨it,rfl,h1⟩;exact done it z1 h1
 refine callType_newIn F.called_enumerate (by decide) (F.typeCall_enumerate_1 _) (F.newCall_enumerate_1 _) (fun obj=>F.args_object_init_2 obj _) F.entry_enumerate_new body ⟨rfl,fun it z1 h=>?_⟩;exact⟨⟨_,Heap.get?_push_size _ rfl,rfl⟩,k it z1 h⟩
def yw:kW prog w where
 draws:=fun hh ti tp hne its=>{
  live:=fun i h st=>let ⟨o,e,_⟩:=st.1;⟨o,e⟩
  frame:=fun i h h' st kp=>by
   obtain⟨⟨o1,e1,r1⟩,⟨o2,e2,r2⟩⟩:=st;exact⟨⟨o1,kp ti (by simp) _ e1,r1⟩,⟨o2,kp tp (by simp) _ e2,r2⟩⟩
  item:=fun i s Q E hi st k=>by
   refine yM st.1 st.2 (x:=its[i]) (by simp[hi]) fun g h1 h2=>k its[i] g s.toks (by simp[hi]) ⟨h1,st.2.extBut h2.extBut hne⟩ h2
  done:=fun s Q E st k=>Bg (.inl hh) (by rw[hh];exact fun z=>nomatch z) st.1 st.2 (by simp) fun g e h1 h2=>k g e h1 h2 }
 call:=fun {A E z tp its Q} ht k=>by
  refine yN (S:=fun it z1=>it=z.heap.objs.size/\z1={ z with heap:=z.heap.push { cls:=.type "tuple_iterator",data:=.fields #[.ref tp,rawInt 0] } }) (fun A=>wpAny_pyIter_tuple ht ⟨_,rfl,rfl,rfl⟩) ?_;rintro it z1 ⟨rfl,rfl⟩;have hz:(z.heap.push { cls:=.type "tuple_iterator",data:=.fields #[.ref tp,rawInt 0] }).objs.size=z.heap.objs.size+1:=Heap.size_push ..;dsimp only;rw[hz];refine k _ ?_ ⟨_,Heap.get?_push_of_some _ (Heap.get?_push_size _ rfl),rfl,rfl⟩ fun b o e=>Heap.get?_push_of_some _ (Heap.get?_push_of_some _ e);have:=Heap.get?_push_size (z.heap.push { cls:=.type "tuple_iterator",data:=.fields #[.ref tp,rawInt 0] }) (o:={ cls:=.type "enumerate",data:=.fields #[.none,.bool false,.ref z.heap.objs.size,rawInt 0,.none,.none] }) rfl;rw[hz]at this;exact this
end
end L2
namespace RS
open PySem PySem.Spec PyProof.Rows L2
section
variable{X:Cx}{cl:RL.Cl}{a b:Expr}{a' b':RL.E}{pos p p2 pos2:Pos}{M:List Nat}
def tD:∀ {bs:List Bool} {us:List Value},Vals (bs.map V.bl) us->us=bs.map Value.bool
 | [],_,h=>by cases h;rfl
 | b::bs,_,h=>by
  cases h with
  |cons r t=>
   cases r;rw[tD t];rfl
def yF{A:Around}{bs:List Bool}:TruthOf X.prog X.w A (fun i v=>(bs.map Value.bool).toArray[i]?=some v) (fun i=>bs.getD i false):=by
 intro i v s Q E hP q
 have hP':(bs.map Value.bool)[i]?=some v:=by simpa using hP
 rw[List.getElem?_map]at hP';obtain⟨b,h1,h2⟩:=map_some hP';subst h2
 have:bs.getD i false=b:=by rw[List.getD_eq_getElem?_getD,h1];rfl
 have q':Q b s:=this▸q;exact wpAny_truthy_bool q'
def range_all(bs:List Bool):(List.range bs.length).all (fun i=>bs.getD i false)=bs.all id:=by
 have:bs=(List.range bs.length).map fun i=>bs.getD i false:=by
  apply List.ext_getElem
  ·simp
  ·intro i h1 h2;simp[List.getD_eq_getElem?_getD,h1]
 conv=>rhs;rw[this]
 rw[List.all_map];rfl
abbrev DM(f:List Bool->Bool):List V->Hp->VK->Prop:=fun xs H Q=>∃ p bs,xs=[.ref p]/\H p=some (.lst (bs.map V.bl))/\Q (.bl (f bs)) H
def yI(hc:X.calm=true):bD X (.builtin "all") (DM fun bs=>bs.all id):=by
 intro pins s σ H xs us Q I r h;obtain⟨p,bs,rfl,hp,q⟩:=h
 cases r with
 |cons r rr=>
  cases rr;cases r;obtain⟨its,rv,hl,hz⟩:=I.list (SqL.of hp);have hits:=tD rv;subst hits
  have hlt:p<s.heap.objs.size:=by obtain⟨o,ho,_⟩:=hl.isList;exact Heap.lt_size ho
  refine call_all_walk (wpAny_pyIter_list hl.isList ?_);refine⟨s.heap.objs.size,_,[s.heap.objs.size],_,_,_,_,rfl,Walks.list (A:=X.A.in1) (I.ok.hd.1 hc) s.heap.objs.size p (Nat.ne_of_lt hlt) (bs.map Value.bool).toArray,⟨⟨_,Heap.get?_push_size _ rfl,rfl,rfl⟩,hl.isList.push _⟩,yF,fun h' tk hk=>?_⟩;refine⟨.bl (bs.all id),H,I.kept (t':=tk) (fun b o e=>hk b o (fun z=>?_) (Heap.get?_push_of_some _ e)),?_,q⟩
  ·rw[List.mem_singleton.mp z]at e;exact absurd (Heap.lt_size e) (Nat.lt_irrefl _)
  ·have:=range_all bs;show Value.bool _=Value.bool _;rw[<-this];simp
def qm{P:Addr->Prop}{K:PySem.W.Frag}{H:Hp}:∀ {ds:List RL.D} {bs:List Bool} {xs:List V},RL.fH ds=some bs->ae P K H ds xs->xs=bs.map V.bl
 | [],bs,xs,h,r=>by rw[RL.fH]at h;cases h;rw[ae]at r;exact r
 | d::ds,bs,xs,h,r=>by
  cases d<;>simp only[RL.fH]at h<;>first | (cases h;done) | skip
  rename_i b;obtain⟨bs',h1,h2⟩:=map_some h;subst h2;rw[ae]at r;obtain⟨x,t,rfl,r1,r2⟩:=r;rw[bg r1,qm h1 r2];rfl
def Dm(hc:X.calm=true)(hg:Gl X "all")(hm:X.mg "all" = none)(ha:SE X cl a a')(hn:noStar a=true):SE X cl (.Call (.Name "all" p) [a] [] pos) (.bi .all a'):=by
 refine iJ (yI hc) hg hm (by decide +kernel) ha hn (by decide) (by decide) fun σD σ H H1 y d v Q e s1 r1 k=>?_
 cases y<;>simp only[RL.biV]at e<;>first | (cases e;done) | skip
 case lst ds =>
  obtain⟨bs,e1,e2⟩:=map_some e;subst e2;obtain⟨q,xs,rfl,_,f2,f3⟩:=aB r1;rw[qm e1 f3]at f2;exact⟨q,bs,rfl,f2,k _ _ (cJ s1 rR rfl)⟩
def B5{elts:List Expr}{kx:Nat}{tp:Pos}(hg:Gl X "enumerate")(hm:X.mg "enumerate" = none)(ha:SE X cl a a')(hn:noStar a=true):SI X cl (.Tuple elts kx tp) (.Call (.Name "enumerate" p) [a] [] pos) (.enm a'):=Ee yw hg hm ha hn
def j5{P:Addr->Prop}{K:PySem.W.Frag}{H:Hp}:∀ {ds:List RL.D} {is:List Int} {xs:List V},RL.cG ds=some is->ae P K H ds xs->xs=is.map V.int
 | [],is,xs,h,r=>by rw[RL.cG]at h;cases h;rw[ae]at r;exact r
 | d::ds,is,xs,h,r=>by
  cases d<;>simp only[RL.cG]at h<;>first | (cases h;done) | skip
  rename_i b;obtain⟨bs',h1,h2⟩:=map_some h;subst h2;rw[ae]at r;obtain⟨x,t,rfl,r1,r2⟩:=r;rw[ah r1,j5 h1 r2];rfl
abbrev nY(ns:List Int):List Int:=firstMet (fun i=>ns.getD i 0) ns.length
def Bl(ns:List Int):nY ns=RL.gp ns:=by
 unfold nY firstMet RL.gp
 have:(List.range ns.length).map (fun i=>ns.getD i 0)=ns:=by
  apply List.ext_getElem
  ·simp
  ·intro i h1 h2;simp[List.getD_eq_getElem?_getD,h2]
 rw[this];rfl
def wX(hc:X.calm=true):bD X (.type "set") (fun xs H Q=>∃ p ns,xs=[.ref p]/\H p=some (.lst (ns.map V.int))/\ns.length<=1000/\∀ l,H l=none->Q (.ref l) (upd H l (.set (fun k=>(nY ns).any (· == k)) (nY ns).length))):=by
 intro pins s σ H xs us Q I r h;obtain⟨p,ns,rfl,hp,hn,q⟩:=h
 cases r with
 |cons r rr=>
  cases rr;cases r;obtain⟨its,rv,hl,hz⟩:=I.list (SqL.of hp)
  have hlen:its.length=ns.length:=by
   have:=rv.length;simp at this;exact this.symm
  have hf:H s.heap.objs.size=none:=I.hok.fresh (Nat.le_refl _);refine call_set_list (I.ok.hd.1 hc) hl.isList (ns:=ns) (by simpa using intsAre_of rv) (by rw[List.size_toArray,hlen];show ns.length+1<4096;lia) fun h' tk hS hk=>?_
  have hsz:its.toArray.size=ns.length:=by rw[List.size_toArray];exact hlen
  rw[hsz]at hS;exact⟨.ref s.heap.objs.size,_,I.laid (o:=.set (fun k=>(nY ns).any (· == k)) (nY ns).length) (t':=tk) (fun b u e=>hk b u (Heap.lt_size e) e) (Nat.le_refl _) hS,rfl,q _ hf⟩
def xb:bD X (.builtin "len") (fun xs H Q=>∃ p S n,xs=[.ref p]/\H p=some (.set S n)/\Q (.int (n:Nat)) H):=by
 intro pins s σ H xs us Q I r h;obtain⟨p,S,n,rfl,hp,q⟩:=h
 cases r with
 |cons r rr=>
  cases rr;cases r;obtain⟨o,es,ep,t,h1,h2,h3,h4,h5,h6,h7,h8⟩:=I.hok p _ hp;refine call_len_set h1 h2 h3 h7 (by have:scanBound=4096:=rfl;lia) ?_;rw[h8];exact⟨.int n,H,I.tok _,⟨_,rfl⟩,q⟩
def wK(hc:X.calm=true)(hgl:Gl X "len")(hml:X.mg "len" = none)(hg:Gl X "set")(hm:X.mg "set" = none)(ha:SE X cl a a')(hn:noStar a=true):SE X cl (.Call (.Name "len" p2) [.Call (.Name "set" p) [a] [] pos] [] pos2) (.bi .lenSet a'):=by
 refine PE.weak (ig xb hgl hml PySem.boot_len (cK (cO (wX hc) hg hm (by decide +kernel) (bz (cl:=cl) ha c6 hn) (by decide) (by decide) (aC [] hn) rfl) eZ) (by decide) (by decide) rfl rfl) fun σ H Q h=>?_;obtain⟨σD,d,rv,e,k⟩:=h;obtain⟨y,ea,e⟩:=bind_some e;refine one rv ea fun v H1 s1 r1=>?_
 cases y<;>simp only[RL.biV]at e<;>first | (cases e;done) | skip
 case lst ds =>
  split at e
  ·rename_i hl;obtain⟨is,e1,e2⟩:=map_some e;subst e2;obtain⟨q,xs,rfl,_,f2,f3⟩:=aB r1;have hx:=j5 e1 f3;rw[hx]at f2
   have hil:is.length<=1000:=by
    have:=f3.length;rw[hx]at this;simp at this;lia
   refine⟨q,is,rfl,f2,hil,fun l hl2=>⟨l,_,_,rfl,bw,?_⟩⟩;rw[Bl];exact k _ _ (cJ (s1.trans (a6.c7 hl2)) aQ rfl)
  ·cases e
def Fm{l e:Expr}{e':RL.E}{i:Nat}{A B:List Stmt}{A' B':RL.Ss}(hl:PE X l (yQ X.K "list" Ad (jM i)))(he:SE X cl e e')(ha:SSs X cl M A A')(hb:SSs X cl M B B')(hi:M.contains i=true):SS X cl M (.If (.Compare l [.NotEq] [e] pos) A B pos2) (.ifp i e' A' B'):=by
 refine PS.weak (Ah (tR G6 hl he (vN _)) ha hb) fun D σ H h=>?_;obtain⟨σD,o,σD',rv,ev,k⟩:=h;obtain⟨l,e3,ev⟩:=bind_some ev
 cases l with
 |lst ds=>
  obtain⟨d,e4,ev⟩:=bind_some ev;obtain⟨y,e5,ev⟩:=bind_some ev;obtain⟨v,h1,h2⟩:=rv.val i _ (slot_get e3);rw[if_pos hi]at h2;obtain⟨q1,q2,q3⟩:=h2;obtain⟨a,xs,rfl,_,f2,f3⟩:=aB q3;obtain⟨u,f4,f5⟩:=f3.get e4;have im:=nV q2;obtain⟨g1,g2⟩:=rv.jy (d':=.lst ds.dropLast) (o':=.lst xs.dropLast) hi h1 f2 (.inl ⟨_,rfl⟩) (nS (ds:=ds) f2 im f3.dropLast)
  cases d with
  |int m=>
   cases y with
   |int n=>
    refine⟨.ref a,h1,.inl ⟨rfl,xs,SqL.of f2⟩,a,xs,u,rfl,rfl,f2,by rw[<-f3.length];exact f4,?_⟩;refine⟨_,_,g1.rv0,e5,fun w H1 r1=>?_⟩;rw[ah f5,ah r1.rep];have k1:=k.from (g2.trans (Fr'.same (σ:=σ) r1.same));refine⟨rfl,_,rfl,?_⟩;dsimp only at ev;by_cases hmn:m=n
    ·rw[if_pos (by simpa using hmn)]at ev
     have hd:(!decide (V.int m=V.int n))=false:=by rw[hmn];simp
     rw[hd];exact gy ⟨_,o,σD',g1.same r1.same,ev,k1⟩
    ·rw[if_neg (by simpa using hmn)]at ev
     have hd:(!decide (V.int m=V.int n))=true:=by
      have:V.int m≠V.int n:=fun z=>hmn (by injection z);simp[this]
     rw[hd];exact f7 ⟨_,o,σD',g1.same r1.same,ev,k1⟩
   | _=>cases ev
  | _=>cases ev
 | _=>cases ev
end
end RS
namespace L2
open PySem PySem.Spec PyProof.Rows
section
variable{prog:Program}{w:World}{A:Around}{E:Value->Shared->Prop}
end
section
variable{prog:Program}{w:World}{A:Around}{E:Value->Shared->Prop}{z TI TO i1 i2:Addr}{fp1 fp2:List Addr}{n1 n2 k:Nat}{P1 P2:Nat->Value->Prop}{S1 S2:Nat->Heap->Prop}{a b:Value}{s:Shared}
end
section
variable{prog:Program}{w:World}{A:Around}{E:Value->Shared->Prop}{s:Shared}
end
section
variable{X:Cx}{pins:List (Addr × Obj)}{σ:St}{H:Hp}{s:Shared}{pos:Pos}
end
section
variable{X:Cx}{elts:List Expr}{kx:Nat}{tp p pos:Pos}{a b:Expr}{ta:TA}
end
end L2
namespace RS
open PySem PySem.Spec PyProof.Rows L2
section rules
variable{X:Cx}{cl:RL.Cl}{elts:List Expr}{kx:Nat}{tp p pos:Pos}{a b:Expr}{a' b':RL.E}
end rules
end RS
namespace L2
open PySem PySem.Spec PyProof.Rows
def pI{α:Type}(xs:List α):∀ k:Nat,k<=xs.length->((List.range k).map fun(j:Nat)=>(((xs.length:Int)-1)+(-1)*(j:Int)).toNat).filterMap (xs.toArray[·]?)=xs.reverse.take k:=by
 intro k
 induction k with
 | zero=>intro _;simp
 |succ k ih=>
  intro hk;rw[List.range_succ,List.map_append,List.filterMap_append,ih (by lia),List.take_succ];congr 1
  have e1:(((xs.length:Int)-1)+(-1)*(k:Int)).toNat=xs.length-1-k:=by lia
  simp only[List.map_cons,List.map_nil,List.filterMap_cons,List.filterMap_nil,e1];rw[List.getElem?_reverse (by lia)];simp only[List.getElem?_toArray];rw[List.getElem?_eq_getElem (by omega)];rfl
def yg(its:List Value):slicePick its.toArray none none (some (-1))=its.reverse.toArray:=by
 have h:=pI its its.length (Nat.le_refl _);rw[List.take_of_length_le (by simp)]at h;unfold slicePick
 have hb:sliceBounds none none (some (-1)) its.toArray.size=((its.length:Int)-1,-1,-1):=by
  simp[sliceBounds]
 rw[hb];dsimp only;unfold sliceRange
 have hc:(if(-1:Int) > 0 then(if(its.length:Int)-1 < -1 then(-1-((its.length:Int)-1)+-1-1) / -1 else 0)else(if(its.length:Int)-1 > -1 then((its.length:Int)-1 - -1 - -1-1) / (- -1)else 0)).toNat=its.length:=by
  rw[if_neg (by decide)];rw[show(- -1:Int)=1 from rfl];split
  ·rw[Int.ediv_one];lia
  ·lia
 dsimp only;rw[hc,h]
section
variable{X:Cx}{e:Expr}{te:TE}{pos p2 p3 p4:Pos}{j:Nat}
def vL(n:Nat):Builtin.Slice.sliceAdjust none none (-1) (n:Int)=((n:Int)-1,-1):=by
 unfold Builtin.Slice.sliceAdjust;rfl
def uF(n:Nat):Builtin.Slice.slicePlaces ((n:Int)-1) (-1) (-1)=n:=by
 unfold Builtin.Slice.slicePlaces;rw[if_neg (by decide)];rw[show(- -1:Int)=1 from rfl];split
 ·rw[Int.ediv_one];lia
 ·lia
def lH{prog:Program}{w:World}{A:Around}{E:Value->Shared->Prop}{s:Shared}{t sl:Addr}{its:List Value}{k:Tok}{Q:Value->Shared->Prop}(ht:IsTup s.heap t its.toArray)(hs:s.heap.IsSliceOf sl .none .none (.int (-1) k))
 (h:Q (.ref s.heap.objs.size) { s with heap:=s.heap.push { cls:=.type "tuple",data:=.seq its.reverse.toArray } })
 (hsz:its.length<=sizeLine):wpAny (model prog w) A (getItem (.ref t) (.ref sl)) Q E s:=by
 have htake:sizeOk (.seq its.reverse.toArray):=by
  show its.reverse.toArray.size<=sizeLine;rw[List.size_toArray,List.length_reverse];exact hsz
 obtain⟨os,hos,hcs,hds⟩:=id hs
 have hTs:s.TypeIs (.ref sl) "slice" := ⟨os,hos,hcs⟩
 unfold getItem
 try with_reducible refine wpAny_holding ?_
 first | refine wpAny_bind (wpAny_pure ?_) | skip
 refine wpAny_bind (wpAny_sequenceKey ht.typeIs (by decide) ?_)
 refine wpAny_bind (wpAny_callSpecial?_slot (name:=Str.ofString "__getitem__") ht.typeIs PyProof.Rows.slot_tuple_getitem
  (wpAny_call_entry PyProof.Rows.slot_tuple_getitem ht.typeIs entry_tuple_getitem ?_ (args_tuple_getitem _ _)))
 show wpAny _ _ (Builtin.Tuple.tupleItemsOf (.ref t) >>= _) _ _ s;refine wpAny_bind (tupleItemsOf_ ht ?_);refine wpAny_bind (wpAny_typeOf hTs ?_);rw[if_pos (by decide)];refine wpAny_bind ?_;unfold Builtin.Slice.sliceApplied Builtin.Slice.sliceFields;refine wpAny_bind (wpAny_bind (wpAny_field hos hds (x:=.none) rfl (wpAny_bind (wpAny_field hos hds (x:=.none) rfl (wpAny_bind (wpAny_field hos hds (x:=.int (-1) k) rfl (wpAny_pure ?_)))))));refine wpAny_bind (HT.fq (.int (-1) k) ?_);show wpAny _ _ (if((-1:Int) == 0)=true then _ else _) _ _ s;rw[if_neg (by decide)];refine wpAny_bind (HT.fq .none (wpAny_bind (HT.fq .none (wpAny_bind (wpAny_pure ?_)))));show wpAny _ _ (match Builtin.Slice.sliceAdjust none none (-1) (its.toArray.size:Int)with | (lo,hi)=>pure (lo,(-1:Int),Builtin.Slice.slicePlaces lo hi (-1))) _ _ s;rw[List.size_toArray,vL];show wpAny _ _ (pure ((its.length:Int)-1,(-1:Int),Builtin.Slice.slicePlaces ((its.length:Int)-1) (-1) (-1))) _ _ s;rw[uF];refine wpAny_pure ?_;show wpAny _ _ (if(((its.length:Int)-1 == 0)&&(-1:Int) == 1&&its.length == its.toArray.size)=true then _ else _) _ _ s;rw[if_neg (by rw[show((-1:Int) == 1)=false from rfl,Bool.and_false,Bool.false_and];exact Bool.false_ne_true)]
 have pk:((List.range its.length).filterMap fun(m:Nat)=>its.toArray[((its.length:Int)-1+(m:Int)*-1).toNat]?).toArray=its.reverse.toArray:=by
  have h:=pI its its.length (Nat.le_refl _);rw[List.take_of_length_le (by simp),List.filterMap_map]at h;rw[<-h];congr 2;funext m;simp only[Function.comp];congr 2;lia
 rw[pk]
 first
  | exact wpAny_bind (m:=Builtin.Tuple.tupleExact _) (wpAny_newObj_type (wpAny_pure ⟨_,rfl,wpAny_pure h⟩) htake)
  | exact wpAny_bind (m:=Builtin.Tuple.tupleExact _) (wpAny_newObj_type (wpAny_bind (wpAny_pure (wpAny_pure ⟨_,rfl,wpAny_pure h⟩))) htake)
  | exact wpAny_bind (wpAny_bind (m:=Builtin.Tuple.tupleExact _) (wpAny_newObj_type (wpAny_pure (wpAny_pure ⟨_,rfl,wpAny_pure h⟩)) htake))
  | exact wpAny_bind (wpAny_bind (m:=Builtin.Tuple.tupleExact _) (wpAny_newObj_type (wpAny_pure ⟨_,rfl,wpAny_pure h⟩) htake))
abbrev GJ(K:PySem.W.Frag)(te:TE):TE:=fun σ H Q=>te σ H fun x H1=>∃ a xs,x=.ref a/\((SqL K H1 a xs/\∀ p,H1 p=none->Q (.ref p) (upd H1 p (.lst xs.reverse)))\/(SqT K H1 a xs/\∀ p,H1 p=none->Q (.ref p) (upd H1 p (.tup xs.reverse))))
def F9{e3:Expr}(h3:PE X e3 (tC (.int (-1))))(he:PE X e te):PE X (.Subscript e (.Slice none none (some e3) p2) pos) (GJ X.K te):=by
 intro pins s σ H Q I h;refine Subscript_ (thn (he pins s σ H _ I h) fun v s1 ⟨x,H1,I1,r1,q1⟩=>?_);refine wpAny_Slice ?_;rw[evalPart_none];refine wpAny_pure (wpAny_pure ?_);rw[evalPart_some];refine thn (h3 pins s1 σ H1 (fun y H2=>y=.int (-1)/\H2=H1) I1 ⟨rfl,rfl⟩) fun vs s3 ⟨y,H3,I3,r3,q3⟩=>?_;obtain⟨rfl,rfl⟩:=q3;obtain⟨t,rfl⟩:=r3;obtain⟨a,xs,rfl,q⟩:=q1;cases r1;have I4:Inv X pins σ H3 { s3 with heap:=s3.heap.push { cls:=.type "slice",data:=.fields #[.none,.none,.int (-1) t] } }:=I3.kept (t':=s3.toks) fun b ob q=>Heap.get?_push_of_some _ q;show wpAny (model X.prog X.w) X.A (subscriptTail e (.Slice none none (some e3) p2) (.ref a) (.ref s3.heap.objs.size)) (EP X pins σ Q) X.xe { s3 with heap:=s3.heap.push { cls:=.type "slice",data:=.fields #[.none,.none,.int (-1) t] } }
 rcases q with⟨hx,q⟩ | ⟨hx,q⟩
 ·obtain⟨its,r,ht,hz⟩:=I4.list hx;have hlen:=r.length;refine tail_any (ops:=[.ref a,.ref s3.heap.objs.size]) ht.isList.typeIs slot_list_getitem.lookup ?_ (by with_unfolding_all rfl);refine wpAny_getItem_list_slice ht.isList (Heap.IsSliceOf.new ..) .none .none (.int (-1) t) (by simp) ?_ (by rw[List.size_toArray]<;>lia);rw[yg];refine⟨.ref _,_,I4.laid (t':=s3.toks) (o:=.lst xs.reverse) (fun b ob q=>Heap.get?_push_of_some _ q) (Nat.le_refl _) ?_,rfl,q _ (I4.hok.fresh (Nat.le_refl _))⟩;exact⟨by rw[List.length_reverse];exact hz,_,0,r.reverse,Heap.get?_push_size _ rfl⟩
 ·obtain⟨its,r,ht,hz⟩:=I4.tuple hx;have hlen:=r.length;refine tail_any (ops:=[.ref a,.ref s3.heap.objs.size]) ht.typeIs PyProof.Rows.slot_tuple_getitem.lookup ?_ (by with_unfolding_all rfl);refine lH ht (Heap.IsSliceOf.new ..) ?_ (by lia);refine⟨.ref _,_,I4.laid (t':=s3.toks) (o:=.tup xs.reverse) (fun b ob q=>Heap.get?_push_of_some _ q) (Nat.le_refl _) ?_,rfl,q _ (I4.hok.fresh (Nat.le_refl _))⟩;exact⟨by rw[List.length_reverse];exact hz,_,r.reverse,IsTup.new _ _⟩
end
end L2
namespace RS
open PySem PySem.Spec PyProof.Rows L2
section
variable{X:Cx}{cl:RL.Cl}{a b:Expr}{a' b' c':RL.E}{pos p p2:Pos}{M:List Nat}
def DD{e3:Expr}(ha:SE X cl a a')(h3:fy (-1) e3=true):SE X cl (.Subscript a (.Slice none none (some e3) p2) pos) (.rev a'):=by
 refine PE.weak (F9 (jw h3).1 ha) fun σ H Q h=>?_;obtain⟨σD,d,rv,e,k⟩:=h;obtain⟨x,ea,e⟩:=bind_some e;refine⟨σD,x,rv,ea,fun v H1 r1=>?_⟩
 cases x with
 |lst xs=>
  cases e;obtain⟨q,ys,rfl,_,f2,f3⟩:=aB r1.rep;exact⟨q,ys,rfl,.inl ⟨SqL.of f2,fun l hl=>k _ _ (dZ r1.same hl f3.rev fun _=>rfl)⟩⟩
 |tup xs=>
  cases e;obtain⟨q,ys,rfl,f2,f3⟩:=b9 r1.rep;exact⟨q,ys,rfl,.inr ⟨SqT.of f2,fun l hl=>k _ _ (i4 r1.same hl f3.rev fun _=>rfl)⟩⟩
 | _=>cases e
def zl{c:Expr}{body:List Stmt}{b:RL.Ss}(hx:X.xe=fun _ _=>False)(hc:ST X cl c c')(hb:SSs X cl M body b):SS X cl M (.While c body [] pos) (.whil c' b):=by
 refine PS.weak (zd (by rw[hx];exact PassesOwn.never) hc hb) fun D σ H h=>?_;obtain⟨σD,r,σD',rv,e,k⟩:=h;refine⟨fun m σ2 H2=>∃ σD2,RVm X.K M σD2 σ2 H2/\Fr' M σ H σ2 H2/\RL.whF (fun σ=>(RL.ev cl σ c').bind RL.truth) (RL.ag cl M b) m σD2=some (r,σD'),⟨_,σD,rv,Fr'.same (a6.refl _),e⟩,?_⟩;rintro m σ2 H2 ⟨σD2,rv2,fr2,hl⟩
 cases m with
 | zero=>rw[RL.whF]at hl;cases hl
 |succ m=>
  rw[RL.whF]at hl;obtain⟨t,e1,hl⟩:=bind_some hl;refine⟨σD2,t,rv2.rv0,e1,fun H3 s3=>?_⟩;have fr3:=fr2.trans (Fr'.same (M:=M) (σ:=σ2) s3)
  cases t with
  |true=>
   rw[if_pos rfl]at hl;dsimp only;rw[if_pos rfl];obtain⟨⟨o,σD3⟩,e2,hl⟩:=bind_some hl;refine⟨fun σ' H'=>∃ m',m'<m+1/\∃ σDx,RVm X.K M σDx σ' H'/\Fr' M σ H σ' H'/\RL.whF (fun σ=>(RL.ev cl σ c').bind RL.truth) (RL.ag cl M b) m' σDx=some (r,σD'),fun _ _ h=>h,σD2,o,σD3,rv2.same s3,e2,?_⟩
   cases o with
   | nx=>exact fun σ' H' rv' fr'=>⟨m,by lia,σD3,rv',fr3.trans fr',hl⟩
   |rt d=>
    cases hl;exact fun σ' H' v H4 rv' fr' sm rp=>k σ' H' v H4 rv' (fr3.trans fr') sm rp
  |false=>
   rw[if_neg (by decide)]at hl;dsimp only;rw[if_neg (by decide)];cases hl;exact k σ2 H3 (rv2.same s3) fr3
end
end RS
namespace L2
open PySem PySem.Spec PyProof.Rows
section
variable{X:Cx}
def i9:∀ {ns:List Int} {us:List Value},Vals (ns.map V.int) us->IntsAre us ns
 | [],_,.nil=>.nil
 | n::r,_,.cons ⟨t,e⟩ h=>by
  subst e;exact .cons _ _ (i9 h)
def zx(hc:X.calm=true):bD X (.builtin "sum") (fun xs H Q=>∃ (p:Addr) (ns:List Int),xs=[.ref p]/\H p=some (.lst (ns.map V.int))/\Q (.int ns.sum) H):=by
 intro pins s σ H xs us Q I r h;obtain⟨p,ns,rfl,hp,q⟩:=h
 cases r with
 |cons r rr=>
  cases rr;cases r;obtain⟨its,rv,hl,hz⟩:=I.list (SqL.of hp);have hi:=i9 rv;obtain⟨xs,hx⟩:=hi.allInts.items;have hn:=hi.numsOf
  have hx':its=(intItems xs).toList:=by rw[<-hx]
  have hl':s.heap.IsList p (intItems xs):=hx▸hl.isList;refine sum_intListG (I.ok.hd.1 hc) hl' fun h' tk t' hk=>?_;refine⟨.int ns.sum,H,I.kept (t':=tk) (fun b o e=>hk b o e),⟨t',?_⟩,q⟩;rw[<-hn,hx',nums_intItems,preSum_eq,List.take_of_length_le (by simp)]
def gX(a:Int):∀ l:List Int,(RL.fK a l).Perm (a::l)
 | []=>.refl _
 | b::r=>by
  unfold RL.fK;split
  ·exact .refl _
  ·exact((gX a r).cons b).trans (.swap ..)
def jq(a:Int):∀ l:List Int,l.Pairwise (·<=·)->(RL.fK a l).Pairwise (·<=·)
 | [],_=>by simp[RL.fK]
 | b::r,h=>by
  unfold RL.fK;rw[List.pairwise_cons]at h;split
  ·rename_i c;rw[List.pairwise_cons,List.pairwise_cons]
   exact⟨fun x hx=>by
    rcases List.mem_cons.mp hx with rfl | hx
    ·exact c
    ·exact Int.le_trans c (h.1 x hx),h⟩
  ·rename_i c;rw[List.pairwise_cons];refine⟨fun x hx=>?_,jq a r h.2⟩;rcases List.mem_cons.mp ((gX a r).mem_iff.mp hx)with rfl | hx
   ·lia
   ·exact h.1 x hx
def sortI_perm:∀ l:List Int,(RL.sortI l).Perm l
 | []=>.refl _
 | a::r=>(gX a _).trans ((sortI_perm r).cons a)
def kc:∀ l:List Int,(RL.sortI l).Pairwise (·<=·)
 | []=>.nil
 | a::r=>jq a _ (kc r)
def mU:∀ {a b:List Int},a.Perm b->a.Pairwise (·<=·)->b.Pairwise (·<=·)->a=b
 | [],b,h,_,_=>by simpa using h.symm.eq_nil
 | x::r,[],h,_,_=>by simpa using h.eq_nil
 | x::r,y::t,h,ha,hb=>by
  rw[List.pairwise_cons]at ha hb
  have e:x=y:=by
   have h1:=h.mem_iff.mp (List.mem_cons_self (a:=x) (l:=r));have h2:=h.mem_iff.mpr (List.mem_cons_self (a:=y) (l:=t));rcases List.mem_cons.mp h1 with h1 | h1
   ·exact h1
   ·rcases List.mem_cons.mp h2 with h2 | h2
    ·exact h2.symm
    ·exact Int.le_antisymm (ha.1 y h2) (hb.1 x h1)
  subst e;rw[mU (List.perm_cons x |>.mp h) ha.2 hb.2]
def sT:bD X (.builtin "sorted") (fun xs H Q=>∃ (p:Addr) (ns:List Int),xs=[.ref p]/\H p=some (.lst (ns.map V.int))/\ns.length<64/\∀ l,H l=none->Q (.ref l) (upd H l (.lst ((RL.sortI ns).map V.int)))):=by
 intro pins s σ H xs us Q I r h;obtain⟨p,ns,rfl,hp,hlen,q⟩:=h
 cases r with
 |cons r rr=>
  cases rr;cases r;obtain⟨its,rv,hl,hz⟩:=I.list (SqL.of hp);have hi:=i9 rv;refine sorted_ints hl.isList hi (by rw[hi.length];exact hlen) fun out ns' h1 h2 h3=>?_;have e:=mU (h2.trans (sortI_perm ns).symm) h3 (kc ns);subst e;obtain⟨en,he⟩:=sortedAll_at s.heap its out;refine⟨.ref (s.heap.objs.size+1),_,I.laid (t':=s.toks) (o:=.lst ((RL.sortI ns).map V.int)) (fun b ob q=>sortedAll_old q) (by lia) ?_,rfl,q _ (I.hok.fresh (by lia))⟩;exact⟨by simp only[List.length_map];rw[(sortI_perm ns).length_eq];simpa using hz,out.toList,en,kI h1,by rw[he]⟩
end
section
variable{X:Cx}{pos:Pos}{a b c g:Expr}{ta tb tc tg:TE}
end
end L2
namespace RS
open PySem PySem.Spec PyProof.Rows L2
section
variable{X:Cx}{cl:RL.Cl}{a b c g:Expr}{a' b' c' g':RL.E}{pos p p2:Pos}{M:List Nat}
def sN{P:Addr->Prop}{K:PySem.W.Frag}{H:Hp}:∀ is:List Int,ae P K H (is.map RL.D.int) (is.map V.int)
 | []=>ae.nil
 | i::r=>ae.cons aQ (sN r)
def rq:∀ {ds:List RL.D} {is:List Int},RL.cG ds=some is->is.length=ds.length
 | [],is,h=>by cases h;rfl
 | d::ds,is,h=>by
  cases d<;>simp only[RL.cG]at h<;>first | (cases h;done) | skip
  obtain⟨is',h1,h2⟩:=map_some h;subst h2;simp[rq h1]
def E5(hc:X.calm=true)(hg:Gl X "sum")(hm:X.mg "sum" = none)(ha:SE X cl a a')(hn:noStar a=true):SE X cl (.Call (.Name "sum" p) [a] [] pos) (.bi .sum a'):=by
 refine iJ (zx hc) hg hm (by decide +kernel) ha hn (by decide) (by decide) fun σD σ H H1 y d v Q e s1 r1 k=>?_
 cases y<;>simp only[RL.biV]at e<;>first | (cases e;done) | skip
 case lst ds =>
  obtain⟨is,e1,e2⟩:=map_some e;subst e2;obtain⟨q,xs,rfl,_,f2,f3⟩:=aB r1;rw[j5 e1 f3]at f2;exact⟨q,is,rfl,f2,k _ _ (cJ s1 aQ rfl)⟩
def wZ(hg:Gl X "sorted")(hm:X.mg "sorted" = none)(ha:SE X cl a a')(hn:noStar a=true):SE X cl (.Call (.Name "sorted" p) [a] [] pos) (.bi .sorted a'):=by
 refine iJ sT hg hm (by decide +kernel) ha hn (by decide) (by decide) fun σD σ H H1 y d v Q e s1 r1 k=>?_
 cases y<;>simp only[RL.biV]at e<;>first | (cases e;done) | skip
 case lst ds =>
  split at e
  ·rename_i h64;obtain⟨is,e1,e2⟩:=map_some e;subst e2;obtain⟨q,xs,rfl,_,f2,f3⟩:=aB r1;rw[j5 e1 f3]at f2;exact⟨q,is,rfl,f2,by rw[rq e1];exact h64,fun l hl=>k _ _ (dZ s1 hl (sN _) fun _=>rfl)⟩
  ·cases e
end
section
variable{X:Cx}{cl:RL.Cl}{M:List Nat}{st:Stmt}{i:Nat}{k' l' a' b':RL.E}
end
section
variable{X:Cx}{cl:RL.Cl}{a b c:Expr}{a' b' c':RL.E}{pos p:Pos}{M:List Nat}
end
end RS
namespace L2
open PySem PySem.Spec PyProof.Rows
abbrev D5:V->List V->Hp->VK->Prop:=fun x vs H Q=>∃ (l:Addr) (ns:List Int) (k:Int),x=.ref l/\vs=[.int k]/\H l=some (.lst (ns.map V.int))/\Q (.int (ns.count k:Nat)) H
def zB{X:Cx}:MtM X "list.count" D5:=by
 intro pins s σ H x vs v us Q I rx rv h;obtain⟨l,ns,k,rfl,rfl,hH,q⟩:=h;cases rx;obtain⟨u,rfl,t,rfl⟩:=rv.one;obtain⟨its,r,hl,hz⟩:=I.list (SqL.of hH);exact count_list_ints hl.isList (i9 r) ⟨.int (ns.count k:Nat),H,I.tok _,⟨_,rfl⟩,q⟩
end L2
namespace RS
open PySem PySem.Spec PyProof.Rows L2
def y9{X:Cx}{cl:RL.Cl}{b:Expr}{a' b':RL.E}{pos p:Pos}{x:Str}{apos:Pos}(ha:SE X cl (.Name x p) a')(hb:SE X cl b b')(hn:noStar b=true)(hl:(apos.endLine == pos.line)=true):SE X cl (.Call (.Attribute (.Name x p) "count" apos) [b] [] pos) (.count a' b'):=by
 refine PE.weak (AG PySem.F.plainAttrs_list PySem.F.slot_list_count PySem.F.type_list_count zB ha (bz (cl:=cl) hb c6 hn) rfl (by rw[aC [] hn];rfl) hl (aC [] hn) rfl) fun σ H Q h=>?_;obtain⟨σD,d,rv,e,k⟩:=h;obtain⟨x,ea,e⟩:=bind_some (show(RL.ev cl σD a').bind _=some d from e);obtain⟨y,eb,e⟩:=bind_some e;refine⟨σD,x,rv,ea,fun v H1 r1=>?_⟩
 cases x with
 |lst xs=>
  cases y with
  |int i=>
   obtain⟨is,e1,e⟩:=map_some (show(RL.cG xs).map _=some d from e);cases e;obtain⟨q,ys,rfl,_,f2,f3⟩:=aB r1.rep;refine⟨.inl ⟨rfl,_,SqL.of f2⟩,σD,[.int i],rv.same r1.same,by rw[RL.evs,eb];rfl,fun vs H2 s2 rr=>?_⟩;rw[j5 e1 f3]at f2;rw[ae]at rr;obtain⟨x,t,rfl,r2,r3⟩:=rr;rw[ae]at r3;subst r3;exact⟨q,is,i,rfl,by rw[ah r2],s2 _ _ f2,k _ _ (cJ (r1.same.trans s2) aQ rfl)⟩
  | _=>cases e
 | _=>cases e
def nos{α:Type}{P:Prop}{x:α}(h:(none:Option α)=some x):P:=by cases h
def au{α:Type}{o:Option α}{f:α->Bool}(h:o.any f=true):∃ x,o=some x/\f x=true:=by
 cases o with
 | none=>cases h
 | some x=>exact⟨x,rfl,h⟩
def af{a b:Bool}(h:(a&&b)=true):a=true/\b=true:=by rw[Bool.and_eq_true]at h;exact h
abbrev gd:Expr->Option Str
 | .Name x _=>some x
 | _=>none
def dS{e:Expr}{x:Str}(h:gd e=some x):∃ p,e=.Name x p:=by
 cases e
 case Name=>cases h;exact⟨_,rfl⟩
 all_goals exact nos h
abbrev CT:Expr->Option Const
 | .Constant k _ _=>some k
 | _=>none
def Bk{e:Expr}{k:Const}(h:CT e=some k):∃ j p,e=.Constant k j p:=by
 cases e
 case Constant=>cases h;exact⟨_,_,rfl⟩
 all_goals exact nos h
abbrev EX:Expr->Option (Expr × Operator × Expr)
 | .BinOp l o r _=>some (l,o,r)
 | _=>none
def AY{e:Expr}{l r:Expr}{o:Operator}(h:EX e=some (l,o,r)):∃ p,e=.BinOp l o r p:=by
 cases e
 case BinOp=>cases h;exact⟨_,rfl⟩
 all_goals exact nos h
abbrev vUn:Expr->Option (UnaryOp × Expr)
 | .UnaryOp o x _=>some (o,x)
 | _=>none
def rf{e x:Expr}{o:UnaryOp}(h:vUn e=some (o,x)):∃ p,e=.UnaryOp o x p:=by
 cases e
 case UnaryOp=>cases h;exact⟨_,rfl⟩
 all_goals exact nos h
abbrev sD:Expr->Option (Expr × List CmpOp × List Expr)
 | .Compare l o r _=>some (l,o,r)
 | _=>none
def l6{e l:Expr}{r:List Expr}{o:List CmpOp}(h:sD e=some (l,o,r)):∃ p,e=.Compare l o r p:=by
 cases e
 case Compare=>cases h;exact⟨_,rfl⟩
 all_goals exact nos h
abbrev vBool:Expr->Option (BoolOp × List Expr × Pos)
 | .BoolOp o es p=>some (o,es,p)
 | _=>none
def jC{e:Expr}{es:List Expr}{o:BoolOp}{p:Pos}(h:vBool e=some (o,es,p)):e=.BoolOp o es p:=by
 cases e
 case BoolOp=>cases h;exact rfl
 all_goals exact nos h
abbrev CW:Expr->Option (Expr × Expr × Expr)
 | .IfExp c a b _=>some (c,a,b)
 | _=>none
def Bd{e a b c:Expr}(h:CW e=some (c,a,b)):∃ p,e=.IfExp c a b p:=by
 cases e
 case IfExp=>cases h;exact⟨_,rfl⟩
 all_goals exact nos h
abbrev lP:Expr->Option (List Expr)
 | .Tuple es _ _=>some es
 | _=>none
def gW{e:Expr}{es:List Expr}(h:lP e=some es):∃ k p,e=.Tuple es k p:=by
 cases e
 case Tuple=>cases h;exact⟨_,_,rfl⟩
 all_goals exact nos h
abbrev Ek:Expr->Option (List Expr)
 | .List es _=>some es
 | _=>none
def BL{e:Expr}{es:List Expr}(h:Ek e=some es):∃ p,e=.List es p:=by
 cases e
 case List=>cases h;exact⟨_,rfl⟩
 all_goals exact nos h
abbrev nI:Expr->Option (Expr × Expr)
 | .Subscript a b _=>some (a,b)
 | _=>none
def jt{e a b:Expr}(h:nI e=some (a,b)):∃ p,e=.Subscript a b p:=by
 cases e
 case Subscript=>cases h;exact⟨_,rfl⟩
 all_goals exact nos h
abbrev vSl:Expr->Option (Option Expr × Option Expr × Option Expr)
 | .Slice a b c _=>some (a,b,c)
 | _=>none
def v7{e:Expr}{a b c:Option Expr}(h:vSl e=some (a,b,c)):∃ p,e=.Slice a b c p:=by
 cases e
 case Slice=>cases h;exact⟨_,rfl⟩
 all_goals exact nos h
abbrev lF:Expr->Option (Expr × List Expr × List Keyword × Pos)
 | .Call f as ks p=>some (f,as,ks,p)
 | _=>none
def iq{e f:Expr}{as:List Expr}{ks:List Keyword}{p:Pos}(h:lF e=some (f,as,ks,p)):e=.Call f as ks p:=by
 cases e
 case Call=>cases h;exact rfl
 all_goals exact nos h
abbrev uK:Expr->Option (Expr × Str × Pos)
 | .Attribute o x p=>some (o,x,p)
 | _=>none
def sy{e o:Expr}{x:Str}{p:Pos}(h:uK e=some (o,x,p)):e=.Attribute o x p:=by
 cases e
 case Attribute=>cases h;exact rfl
 all_goals exact nos h
abbrev pX:Expr->Option (Expr × List Comprehension × Scope × Pos)
 | .ListComp e gs sc p=>some (e,gs,sc,p)
 | _=>none
def lS{e x:Expr}{gs:List Comprehension}{sc:Scope}{p:Pos}(h:pX e=some (x,gs,sc,p)):e=.ListComp x gs sc p:=by
 cases e
 case ListComp=>cases h;exact rfl
 all_goals exact nos h
abbrev vi:Expr->Option (List (Option Expr) × List Expr)
 | .Dict ks vs _=>some (ks,vs)
 | _=>none
def sM{e:Expr}{ks:List (Option Expr)}{vs:List Expr}(h:vi e=some (ks,vs)):∃ p,e=.Dict ks vs p:=by
 cases e
 case Dict=>cases h;exact⟨_,rfl⟩
 all_goals exact nos h
abbrev of1{α:Type}(xs:List α)(f:α->Bool):Bool:=match xs with
 | [a]=>f a
 | _=>false
abbrev of2{α:Type}(xs:List α)(f:α->α->Bool):Bool:=match xs with
 | [a,b]=>f a b
 | _=>false
abbrev of3{α:Type}(xs:List α)(f:α->α->α->Bool):Bool:=match xs with
 | [a,b,c]=>f a b c
 | _=>false
def aS{α:Type}:∀ {xs:List α} {f:α->Bool},of1 xs f=true->∃ a,xs=[a]/\f a=true
 | [a],_,h=>⟨a,rfl,h⟩
def eY{α:Type}:∀ {xs:List α} {f:α->α->Bool},of2 xs f=true->∃ a b,xs=[a,b]/\f a b=true
 | [a,b],_,h=>⟨a,b,rfl,h⟩
def x5{α:Type}:∀ {xs:List α} {f:α->α->α->Bool},of3 xs f=true->∃ a b c,xs=[a,b,c]/\f a b c=true
 | [a,b,c],_,h=>⟨a,b,c,rfl,h⟩
abbrev ofM{α:Type}(xs:List α)(f:α->α->List α->Bool):Bool:=match xs with
 | a::b::r=>f a b r
 | _=>false
def n9{α:Type}:∀ {xs:List α} {f:α->α->List α->Bool},ofM xs f=true->∃ a b r,xs=a::b::r/\f a b r=true
 | a::b::r,_,h=>⟨a,b,r,rfl,h⟩
abbrev lV:Stmt->Option (List Expr × Expr)
 | .Assign ts e _=>some (ts,e)
 | _=>none
def gR{st:Stmt}{ts:List Expr}{e:Expr}(h:lV st=some (ts,e)):∃ p,st=.Assign ts e p:=by
 cases st
 case Assign=>cases h;exact⟨_,rfl⟩
 all_goals exact nos h
abbrev FG:Stmt->Option (Expr × Operator × Expr)
 | .AugAssign t o e _=>some (t,o,e)
 | _=>none
def Bn{st:Stmt}{t e:Expr}{o:Operator}(h:FG st=some (t,o,e)):∃ p,st=.AugAssign t o e p:=by
 cases st
 case AugAssign=>cases h;exact⟨_,rfl⟩
 all_goals exact nos h
abbrev uD:Stmt->Option Expr
 | .Expr e _=>some e
 | _=>none
def oX{st:Stmt}{e:Expr}(h:uD st=some e):∃ p,st=.Expr e p:=by
 cases st
 case Expr=>cases h;exact⟨_,rfl⟩
 all_goals exact nos h
abbrev wIf:Stmt->Option (Expr × List Stmt × List Stmt)
 | .If c a b _=>some (c,a,b)
 | _=>none
def vG{st:Stmt}{c:Expr}{a b:List Stmt}(h:wIf st=some (c,a,b)):∃ p,st=.If c a b p:=by
 cases st
 case If=>cases h;exact⟨_,rfl⟩
 all_goals exact nos h
abbrev Ei:Stmt->Option (Expr × Expr × List Stmt × List Stmt)
 | .For t i b o _=>some (t,i,b,o)
 | _=>none
def Cw{st:Stmt}{t i:Expr}{b o:List Stmt}(h:Ei st=some (t,i,b,o)):∃ p,st=.For t i b o p:=by
 cases st
 case For=>cases h;exact⟨_,rfl⟩
 all_goals exact nos h
abbrev Fc:Stmt->Option (Expr × List Stmt × List Stmt)
 | .While c b o _=>some (c,b,o)
 | _=>none
def BG{st:Stmt}{c:Expr}{b o:List Stmt}(h:Fc st=some (c,b,o)):∃ p,st=.While c b o p:=by
 cases st
 case While=>cases h;exact⟨_,rfl⟩
 all_goals exact nos h
abbrev Fh:Stmt->Option (Option Expr)
 | .Return e _=>some e
 | _=>none
def Bs{st:Stmt}{e:Option Expr}(h:Fh st=some e):∃ p,st=.Return e p:=by
 cases st
 case Return=>cases h;exact⟨_,rfl⟩
 all_goals exact nos h
structure CC where
 N:List Str
 sc:Scope
 B:List Str
 G:List (Str × Int)
 F:List (Str × List Nat)
abbrev F4(scope sc:Scope):Scope:={ scope with names:=scope.names.map fun(n,k)=>if(k == NameKind.free&&sc.kind == .function&&sc.names.lookup n == some .cell)then(n,NameKind.cell)else(n,k) }
abbrev CC.inner(C:CC)(scope:Scope):CC:={ C with sc:=F4 scope C.sc }
abbrev iW(x:Str):Bool:=!(x == ("__debug__" : Str)) && !(x == ("__classdict__" : Str))
abbrev yO(C:CC)(x:Str):Bool:=C.sc.names.lookup x == some .local || C.sc.names.lookup x == some .cell
abbrev yK(C:CC)(x:Str):Bool:=C.sc.names.lookup x == some .local || C.sc.names.lookup x == some .cell || C.sc.names.lookup x == some .free
abbrev glB(C:CC)(x:Str):Bool:=C.sc.names.lookup x == some .globalImplicit&&iW x
abbrev sA(C:CC)(x:Str):Bool:=glB C x&&C.B.contains x
abbrev nmB(C:CC)(i:Nat)(x:Str):Bool:=C.N[i]? == some x&&iW x
structure XOk(C:CC)(X:Cx)(cl:RL.Cl):Prop where
 scope:X.env.scope=C.sc
 names:X.N=C.N
 nd:C.N.Nodup
 calm:X.calm=true
 xe:X.xe=fun _ _=>False
 hu:X.A.units+100<cLine
 blt:∀ x∈C.B,X.mg x=none
 glb:∀ x i,C.G.lookup x=some i->∃ u,X.mg x=some u/\RelV (.int i) u
 fns:∀ (f:Nat) (x:Str) (mp:List Nat),C.F[f]?=some (x,mp)->∃ k fa fd ps,iQ X.prog X.w X.K X.mg X.base CX0 k fa fd ps (if mp=[]then spF X.K cl f else spM X.K cl mp f)/\eG k X.A/\X.mg x=some (.ref fa)/\PySem.W.keepIn X.K (.ref fa)=true/\Binds X.K fd ps []
section
variable{C:CC}{X:Cx}{cl:RL.Cl}{e:Expr}
def XOk.vis(h:XOk C X cl){x:Str}(v:yK C x=true):Vis X.env.scope x:=by
 unfold yK at v;rw[<-h.scope,Bool.or_eq_true,Bool.or_eq_true,beq_iff_eq,beq_iff_eq,beq_iff_eq]at v;rcases v with(v | v) | v
 ·exact .inl v
 ·exact .inr (.inl v)
 ·exact .inr (.inr v)
def XOk.loc(h:XOk C X cl){x:Str}(v:yO C x=true):Loc X.env.scope x:=by
 unfold yO at v;rw[<-h.scope,Bool.or_eq_true,beq_iff_eq,beq_iff_eq]at v;exact v
def fG{x:Str}(h:iW x=true):(x == ("__debug__" : Str))=false/\(x == ("__classdict__" : Str))=false:=by
 unfold iW at h;rw[Bool.and_eq_true,Bool.not_eq_true',Bool.not_eq_true']at h;exact h
def XOk.gl(h:XOk C X cl){x:Str}(v:glB C x=true):Gl X x/\iW x=true:=by
 unfold glB at v;rw[<-h.scope,Bool.and_eq_true,beq_iff_eq]at v;exact v
def XOk.bl(h:XOk C X cl){x:Str}(v:sA C x=true):Gl X x/\X.mg x=none:=by
 unfold sA at v;rw[Bool.and_eq_true]at v;exact⟨(h.gl v.1).1,h.blt x (by simpa using v.2)⟩
def XOk.nm(h:XOk C X cl){i:Nat}{x:Str}(v:nmB C i x=true):X.N[i]?=some x/\iW x=true:=by
 unfold nmB at v;rw[<-h.names,Bool.and_eq_true,beq_iff_eq]at v;exact v
def XOk.ndX(h:XOk C X cl):X.N.Nodup:=by rw[h.names];exact h.nd
def XOk.blk(h:XOk C X cl){scope:Scope}(cls:List (Str × Addr))(Ca:Addr)(fp:List Addr)(s:Shared)(H:Hp):XOk (C.inner scope) (L2.blk X scope cls Ca fp s H) cl where
 scope:=by
  show relabel scope X.env=F4 scope C.sc;rw[<-h.scope];rfl
 names:=h.names
 nd:=h.nd
 calm:=h.calm
 xe:=rfl
 hu:=h.hu
 blt:=h.blt
 glb:=h.glb
 fns:=h.fns
abbrev uC:RL.D->Const->Bool
 | .int i,.int j=>i == j
 | .bl i,.bool j=>i == j
 | .non,.none=>true
 | .str x,.str y=>x == y
 | _,_=>false
abbrev plainT:Expr->Bool
 | .UnaryOp .Not _ _=>false
 | .BoolOp _ _ _=>false
 | .IfExp _ _ _ _=>false
 | .Compare _ _ _ _=>false
 | _=>true
abbrev rM:Expr->Bool
 | .BoolOp _ _ _=>true
 | _=>false
abbrev kG:Expr->Bool
 | .Set _ _ _=>false
 | _=>true
abbrev uJ:RL.Bi->Option Str
 | .len=>some "len"
 | .list=>some "list"
 | .tuple=>some "tuple"
 | .int=>some "int"
 | .all=>some "all"
 | .sum=>some "sum"
 | .sorted=>some "sorted"
 | _=>none
abbrev rX:RL.Ty->Str
 | .int => "int"
 | .bool => "bool"
 | .list => "list"
 | .tuple => "tuple"
 | .str => "str"
abbrev Hz(neg:Bool):CmpOp:=if neg then .NotIn else .In
abbrev pY(C:CC)(i:Nat)(e:Expr):Bool:=(gd e).any fun x=>nmB C i x&&yK C x
abbrev iI(C:CC)(i:Nat)(e:Expr):Bool:=(gd e).any fun x=>nmB C i x&&yO C x
abbrev l9(C:CC):List Nat->List Expr->Bool
 | [],es=>es.isEmpty
 | i::is,es=>match es with
  | e::es=>iI C i e&&l9 C is es
  | []=>false
abbrev me(C:CC)(tg:List Nat)(e:Expr):Bool :=
 match tg with
 | [i]=>iI C i e
 | tg=>(lP e).any fun es=>l9 C tg es
abbrev kN(C:CC)(scope:Scope)(tg:List Nat):Bool:=tg.all fun i=>match C.N[i]? with
 | some x=>scope.names.lookup x == some .local || scope.names.lookup x == some .cell
 | none=>false
abbrev kA(C:CC)(scope:Scope)(tg:List Nat):Bool:=(List.range C.N.length).all fun i=>match C.N[i]? with
 | some x=>!(scope.names.lookup x == some .local || scope.names.lookup x == some .cell) || tg.contains i
 | none=>true
abbrev scB(scope sc:Scope):Bool:=scope.kind == .function&&scope.names.all (fun x=>(!(x.2 == .cell) || scope.names.lookup x.1 == some .cell)&&(!(x.2 == .local) || scope.names.lookup x.1 == some .local)&&(!(x.2 == .free) || sc.names.lookup x.1 == some .cell || sc.names.lookup x.1 == some .free))
abbrev bb(C:CC)(e:Expr)(nm:Str)(f:List Expr->Bool):Bool:=(lF e).any fun q=>(gd q.1).any (fun x=>x == nm&&sA C x)&&q.2.2.1.isEmpty&&q.2.1.all noStar&&f q.2.1
def bG{nm:Str}{f:List Expr->Bool}(h:XOk C X cl)(z:bb C e nm f=true):∃ p as pos,e=.Call (.Name nm p) as [] pos/\Gl X nm/\X.mg nm=none/\as.all noStar=true/\f as=true:=by
 unfold bb at z;obtain⟨⟨g,as,ks,pos⟩,z0,z⟩:=au z;have e0:=iq z0;subst e0;obtain⟨z,z4⟩:=af z;obtain⟨z,z3⟩:=af z;obtain⟨z1,z2⟩:=af z;obtain⟨x,y0,z1⟩:=au z1;obtain⟨p,rfl⟩:=dS y0;obtain⟨y1,y2⟩:=af z1;rw[beq_iff_eq]at y1;subst y1;obtain⟨b1,b2⟩:=h.bl y2;rw[List.isEmpty_iff]at z2;subst z2;exact⟨p,as,pos,rfl,b1,b2,z3,z4⟩
def all1{a:Expr}(h:[a].all noStar=true):noStar a=true:=by simpa using h
def all2{a b:Expr}(h:[a,b].all noStar=true):noStar a=true/\noStar b=true:=by simpa using h
def iO{a b c:Expr}(h:[a,b,c].all noStar=true):noStar a=true/\noStar b=true/\noStar c=true:=by simpa using h
end
mutual
noncomputable def chk(C:CC)(t:Bool):RL.E->Expr->Bool
 | .var i=>fun e=>pY C i e
 | .cst d=>fun e=>(CT e).any fun k=>uC d k
 | .glb y i=>fun e=>(gd e).any fun x=>x == y&&glB C x&&C.G.lookup x == some i
 | .bin o a b=>fun e=>(EX e).any fun q=>q.2.1 == qX o&&chk C false a q.1&&chk C false b q.2.2
 | .neg a=>fun e=>(vUn e).any fun q=>q.1 == .USub&&chk C false a q.2
 | .cmp c a b=>fun e=>(sD e).any fun q=>of1 q.2.1 fun op=>of1 q.2.2 fun r=>op == dH c&&chk C false a q.1&&chk C false b r
 | .chain c c' a b d=>fun e=>(sD e).any fun q=>of2 q.2.1 fun op op'=>of2 q.2.2 fun r s=>op == dH c&&op' == dH c'&&chk C false a q.1&&chk C false b r&&chk C false d s
 | .inD neg a b=>fun e=>(sD e).any fun q=>of1 q.2.1 fun op=>of1 q.2.2 fun r=>op == Hz neg&&vt r&&chk C false a q.1&&chk C false b r
 | .and a b=>fun e=>(vBool e).any fun q=>ofM q.2.1 fun l r rest=>q.1 == .And&&chk C t a l&&(if rest.isEmpty then chk C t b r else chk C t b (.BoolOp .And (r::rest) q.2.2))
 | .or a b=>fun e=>(vBool e).any fun q=>ofM q.2.1 fun l r rest=>q.1 == .Or&&chk C t a l&&(if rest.isEmpty then chk C t b r else chk C t b (.BoolOp .Or (r::rest) q.2.2))
 | .not a=>fun e=>(vUn e).any fun q=>q.1 == .Not&&chk C t a q.2
 | .ifx c a b=>fun e=>(CW e).any fun q=>!t&&chk C true c q.1&&chk C false a q.2.1&&chk C false b q.2.2
 | .tup es=>fun e=>(lP e).any fun xs=>nD C es xs&&decide (fA es<=1000)
 | .lst es=>fun e=>(Ek e).any fun xs=>nD C es xs&&decide (fA es<=1000)
 | .ix a b=>fun e=>(nI e).any fun q=>m6 q.2&&chk C false a q.1&&chk C false b q.2
 | .ixD a b=>fun e=>(nI e).any fun q=>m6 q.2&&chk C false a q.1&&chk C false b q.2
 | .slT a b=>fun e=>(nI e).any fun q=>chk C false a q.1&&(vSl q.2).any fun s=>s.1.isNone&&s.2.2.isNone&&s.2.1.any fun r=>chk C false b r
 | .rev a=>fun e=>(nI e).any fun q=>chk C false a q.1&&(vSl q.2).any fun s=>s.1.isNone&&s.2.1.isNone&&s.2.2.any fun r=>fy (-1) r
 | .call f es=>fun e=>(lF e).any fun q=>(gd q.1).any (fun x=>glB C x&&C.F[f]? == some (x,[]))&&q.2.2.1.isEmpty && !q.2.1.isEmpty&&nD C es q.2.1
 | .bi b a=>fun e=>match b with
  | .lenSet=>bb C e "len" fun ys=>of1 ys fun y=>bb C y "set" fun zs=>of1 zs fun z=>chk C false a z
  | b=>(uJ b).any fun x=>bb C e x fun ys=>of1 ys fun y=>chk C false a y
 | .max a b=>fun e=>bb C e "max" fun ys=>of2 ys fun y z=>chk C false a y&&chk C false b z
 | .min a b=>fun e=>bb C e "min" fun ys=>of2 ys fun y z=>chk C false a y&&chk C false b z
 | .isi a ty=>fun e=>bb C e "isinstance" fun ys=>of2 ys fun y z=>(gd z).any (fun x=>x == rX ty&&sA C x)&&chk C false a y
 | .rng1 a=>fun e=>bb C e "list" fun ys=>of1 ys fun y=>bb C y "range" fun zs=>of1 zs fun z=>chk C false a z
 | .rng2 a b=>fun e=>bb C e "list" fun ys=>of1 ys fun y=>bb C y "range" fun zs=>of2 zs fun z u=>chk C false a z&&chk C false b u
 | .rng3 c a b=>fun e=>bb C e "list" fun ys=>of1 ys fun y=>bb C y "range" fun zs=>of3 zs fun z u q=>fy c q&&chk C false a z&&chk C false b u
 | .comp d tg it c=>fun e=>(pX e).any fun q=>of1 q.2.1 fun g=>of1 g.ifs fun w=>g.is_async == 0&&scB q.2.2.1 C.sc&&kA C q.2.2.1 tg&&kG g.iter&&me (C.inner q.2.2.1) tg g.target&&kN C q.2.2.1 tg&&qE C it g.target g.iter&&chk (C.inner q.2.2.1) false d q.1&&chk (C.inner q.2.2.1) true c w
 | .compA d tg it=>fun e=>(pX e).any fun q=>of1 q.2.1 fun g=>g.ifs.isEmpty&&g.is_async == 0&&scB q.2.2.1 C.sc&&kA C q.2.2.1 tg&&kG g.iter&&me (C.inner q.2.2.1) tg g.target&&kN C q.2.2.1 tg&&qE C it g.target g.iter&&chk (C.inner q.2.2.1) false d q.1
 | .compL d tg it=>fun e=>(pX e).any fun q=>of1 q.2.1 fun g=>g.ifs.isEmpty&&g.is_async == 0&&scB q.2.2.1 C.sc&&kA C q.2.2.1 tg&&kG g.iter&&me (C.inner q.2.2.1) tg g.target&&kN C q.2.2.1 tg&&qE C it g.target g.iter&&chk (C.inner q.2.2.1) false d q.1
 | .dk0=>fun e=>(vi e).any fun q=>q.1.isEmpty&&q.2.isEmpty
 | .dt0=>fun e=>(vi e).any fun q=>q.1.isEmpty&&q.2.isEmpty
 | .count a b=>fun e=>(lF e).any fun q=>(uK q.1).any (fun u=>u.2.1 == ("count" : Str)&&u.2.2.endLine == q.2.2.2.line&&(gd u.1).isSome&&chk C false a u.1)&&q.2.2.1.isEmpty&&of1 q.2.1 fun y=>noStar y&&chk C false b y
noncomputable def nD(C:CC):RL.Es->List Expr->Bool
 | .nil=>fun xs=>xs.isEmpty
 | .cons e es=>fun xs=>match xs with
  | x::xs=>noStar x&&chk C false e x&&nD C es xs
  | []=>false
noncomputable def qE(C:CC):RL.It->Expr->Expr->Bool
 | .seq a=>fun _ e=>chk C false a e
 | .rng1 a=>fun _ e=>bb C e "range" fun ys=>of1 ys fun y=>chk C false a y
 | .rng2 a b=>fun _ e=>bb C e "range" fun ys=>of2 ys fun y z=>chk C false a y&&chk C false b z
 | .rng3 c a b=>fun _ e=>bb C e "range" fun ys=>of3 ys fun y z q=>fy c q&&chk C false a y&&chk C false b z
 | .enm a=>fun tg e=>(lP tg).isSome&&bb C e "enumerate" fun ys=>of1 ys fun y=>chk C false a y
end
abbrev sE(X:Cx)(cl:RL.Cl)(e:Expr)(e':RL.E)(b b':Bool):Prop:=(b=true->SE X cl e e')/\(b'=true->ST X cl e e'/\(rM e=true->SW X cl e e'))
section
variable{C:CC}{X:Cx}{cl:RL.Cl}{e:Expr}{e':RL.E}{b:Bool}
def u6{env:Env}(h:plainT e=true)(whole:Sem Value):isTrue e env whole=(do let v <- whole;standAt e.pos;holding [v] (truthy v)):=by
 cases e<;>first
  | rfl
  | (cases h;done)
  | (rename_i op _ _;cases op<;>first | rfl | (cases h;done))
def aD(h:b=true->SE X cl e e'/\plainT e=true):sE X cl e e' b b :=
 ⟨fun z=>(h z).1,fun z=>⟨yq (h z).1 (u6 (h z).2),fun q=>by
  have:=(h z).2
  cases e<;>first | (cases q;done) | (cases this;done)⟩⟩
def mf(h:b=true->SE X cl e e'/\ST X cl e e'/\rM e=false):sE X cl e e' b b :=
 ⟨fun z=>(h z).1,fun z=>⟨(h z).2.1,fun q=>by rw[(h z).2.2]at q;cases q⟩⟩
def HK(h:b=false){b':Bool}(h':b'=false):sE X cl e e' b b':=⟨fun z=>(by rw[h]at z;cases z),fun z=>(by rw[h']at z;cases z)⟩
def E8{d:RL.D}{k:Const}{j:Nat}{pos:Pos}(h:uC d k=true):SE X cl (.Constant k j pos) (.cst d):=by
 cases d<;>cases k<;>simp only[uC]at h<;>first | (cases h;done) | skip
 case non.none=>exact mR EM (fun P H=>by rw[Rep]) rfl
 case bl.bool i j=>rw[beq_iff_eq]at h;subst h;exact mR FR (fun P H=>rR) rfl
 case int.int i j=>rw[beq_iff_eq]at h;subst h;exact mR qC (fun P H=>aQ) rfl
 case str.str i j=>rw[beq_iff_eq]at h;subst h;exact mR F1 (fun P H=>iX) rfl
def wL(t:RL.Ty):bootBuiltins (rX t)=some (.type (tyN t))/\rX t ≠ "__name__" /\ (rX t == ("__debug__" : Str))=false:=by
 cases t<;>exact⟨by decide +kernel,by decide +kernel,by decide +kernel⟩
def dQ(h:kG e=true)(env:Env)(x:Value):foldedSetIterable e env x=pure x:=by
 cases e<;>first | rfl | (cases h;done)
def Gu(hcalm:X.calm=true){o:RL.Bi}{x:Str}{p pos:Pos}{y:Expr}{a':RL.E}(hx:uJ o=some x)(hb:Gl X x)(hb2:X.mg x=none)(ha:SE X cl y a')(hn:noStar y=true):SE X cl (.Call (.Name x p) [y] [] pos) (.bi o a'):=by
 cases o<;>simp only[uJ]at hx<;>first | (cases hx;done) | skip
 case len=>cases hx;exact Ey hb hb2 ha hn
 case list=>cases hx;exact B7 hb hb2 ha hn
 case tuple=>cases hx;exact yc hb hb2 ha hn
 case int=>cases hx;exact EV hb hb2 ha hn
 case all=>cases hx;exact Dm hcalm hb hb2 ha hn
 case sum=>cases hx;exact E5 hcalm hb hb2 ha hn
 case sorted=>cases hx;exact wZ hb hb2 ha hn
def wA{r:Expr}(h:m6 r=true):vn r:=by
 cases r<;>first | (cases h;done) | (intro a b;rfl) | skip
def jz{i:Nat}(h:XOk C X cl)(z:pY C i e=true):∃ x p,e=.Name x p/\X.N[i]?=some x/\Vis X.env.scope x/\(x == ("__debug__" : Str))=false/\(x == ("__classdict__" : Str))=false:=by
 obtain⟨x,z0,z⟩:=au z;obtain⟨p,rfl⟩:=dS z0;obtain⟨z1,z2⟩:=af z;obtain⟨g1,g2⟩:=h.nm z1;exact⟨x,p,rfl,g1,h.vis z2,(fG g2).1,(fG g2).2⟩
def hG{i:Nat}(h:XOk C X cl)(z:iI C i e=true):∃ x p,e=.Name x p/\X.N[i]?=some x/\Loc X.env.scope x:=by
 obtain⟨x,z0,z⟩:=au z;obtain⟨p,rfl⟩:=dS z0;obtain⟨z1,z2⟩:=af z;exact⟨x,p,rfl,(h.nm z1).1,h.loc z2⟩
def ou(h:XOk C X cl){T:List Nat}(hf:∀ i x,i∈T->X.N[i]?=some x->X.fn x=true\/X.env.scope.names.lookup x=some .local):∀ {is:List Nat} {es:List Expr},(∀ i∈is,i∈T)->l9 C is es=true->PGs X es (gs is)/\(assignEach es X.env).length=is.length/\(assignEach es X.env).findIdx? (·.1)=none
 | [],es,_,z=>by
  rw[l9,List.isEmpty_iff]at z;subst z;exact⟨BW,rfl,rfl⟩
 | i::is,[],_,z=>by cases z
 | i::is,e::es,hs,z=>by
  rw[l9]at z;obtain⟨z1,z2⟩:=af z;obtain⟨x,p,rfl,g1,g2⟩:=hG h z1;obtain⟨h1,h2,h3⟩:=ou h hf (fun j hj=>hs j (List.mem_cons_of_mem _ hj)) z2;refine⟨yU (ue h.ndX g1 g2 (hf i x (hs i List.mem_cons_self) g1)) h1,?_,?_⟩
  ·show(assignEach es X.env).length+1=is.length+1;rw[h2]
  ·show List.findIdx? (·.1) ((false,assign (.Name x p) X.env)::assignEach es X.env)=none;rw[List.findIdx?_cons];simp only[Bool.false_eq_true,if_false,h3,Option.map_none]
def wR{tg:List Nat}{tgE:Expr}(h:XOk C X cl)(hf:∀ i x,i∈tg->X.N[i]?=some x->X.fn x=true\/X.env.scope.names.lookup x=some .local)(hc:me C tg tgE=true):PG X tgE (gT X.K tg):=by
 unfold me at hc;split at hc
 ·obtain⟨x,p,rfl,g1,g2⟩:=hG h hc;exact ue h.ndX g1 g2 (hf _ x (by simp) g1)
 ·rename_i hne;obtain⟨es,z0,z⟩:=au hc;obtain⟨k,p,rfl⟩:=gW z0;obtain⟨h1,h2,h3⟩:=ou h hf (fun i hi=>hi) z
  have e:gT X.K tg=fun v σ H Q=>nJ X.K tg.length (gs tg) v σ H Q\/nZ X.K tg.length (gs tg) v σ H Q:=by
   unfold gT;split
   ·rename_i i;exact absurd rfl (hne i)
   ·rfl
  rw[e];exact xk (wy h.calm h1 h2 h3) (vO h.calm h1 h2 h3)
def CA{x:Str}{i:Int}{pos:Pos}(h:XOk C X cl)(hg:glB C x=true)(hl:C.G.lookup x=some i):SE X cl (.Name x pos) (.glb x i):=by
 obtain⟨u,h1,h2⟩:=h.glb x i hl;obtain⟨g1,g2⟩:=h.gl hg;exact Dz (u:=u) (BA g1 h1 h2 (fG g2).1)
def B9{x:Str}{f:Nat}{p pos:Pos}{y:Expr}{ys:List Expr}{es:RL.Es}(h:XOk C X cl)(hg:glB C x=true)(hf:C.F[f]?=some (x,[]))(he:SEs X cl (y::ys) es)(hl:fA es=ys.length+1)(hn:noStar y=true)(hns:ys.all noStar=true) :
  SE X cl (.Call (.Name x p) (y::ys) [] pos) (.call f es):=by
 obtain⟨k,fa,fd,ps,F,hr,hm,hk,hb⟩:=h.fns f x [] hf;obtain⟨g1,g2⟩:=h.gl hg;rw[if_pos rfl]at F
 cases es with
 | nil=>simp[fA]at hl
 | cons e' es'=>exact AM F hr g1 hm hk hb he (fG g2).1 hn hns
def kY{scope sc:Scope}(h:scB scope sc=true):km scope sc:=by
 unfold scB at h;obtain⟨h1,h2⟩:=af h;rw[List.all_eq_true]at h2;refine⟨by simpa using h1,fun x hx z=>?_,fun x hx z=>?_,fun x hx z=>?_⟩
 ·have:=h2 x hx;rw[z]at this;simpa using this
 ·have:=h2 x hx;rw[z]at this;simpa using this
 ·have:=h2 x hx;rw[z]at this;simpa using this
def fS{scope:Scope}{tg:List Nat}(h:kA C scope tg=true)(i:Nat)(x:Str)(hx:C.N[i]?=some x)(hl:scope.names.lookup x=some .local\/scope.names.lookup x=some .cell):tg.contains i=true:=by
 unfold kA at h;rw[List.all_eq_true]at h;have:=h i (List.mem_range.mpr (List.getElem?_eq_some_iff.mp hx).1);rw[hx]at this;rcases hl with hl | hl
 ·simp only[hl,beq_self_eq_true,Bool.true_or,Bool.not_true,Bool.false_or]at this;exact this
 ·simp only[hl,beq_self_eq_true,Bool.or_true,Bool.not_true,Bool.false_or]at this;exact this
def iG{X:Cx}{cls:List (Str × Addr)}{scope:Scope}{Ca:Addr}{fp:List Addr}{s:Shared}{H:Hp}{pins:List (Addr × Obj)}{s':Shared}{σ:L2.St}{H':Hp}{Q:Bool->Hp->Prop}(I:Inv (L2.blk X scope cls Ca fp s H) pins σ H' s')(q:hU σ H' Q) :
  wpAny (model X.prog X.w) X.A (hJ [] (compEnvC scope cls Ca X.env)) (TP (L2.blk X scope cls Ca fp s H) pins σ Q) (fun _ _=>False) s':=by
 unfold hJ;exact wpAny_pure ⟨H',I,q⟩
def pB{X:Cx}{cls:List (Str × Addr)}{scope:Scope}{Ca:Addr}{fp:List Addr}{s:Shared}{H:Hp}{pins:List (Addr × Obj)}{s':Shared}{σ:L2.St}{H':Hp}{Q:Bool->Hp->Prop}{c:Expr}{t:TT}(hc:PT (L2.blk X scope cls Ca fp s H) c t)(I:Inv (L2.blk X scope cls Ca fp s H) pins σ H' s')(q:t σ H' Q) :
  wpAny (model X.prog X.w) X.A (hJ [c] (compEnvC scope cls Ca X.env)) (TP (L2.blk X scope cls Ca fp s H) pins σ Q) (fun _ _=>False) s':=by
 have h:=hc pins s' σ H' Q I q;unfold hJ;simp only[List.forIn_cons,List.forIn_nil,if_true];refine wpAny_bind (wpAny_bind (thn h fun b s1 hb=>wpAny_pure ?_));exact wpAny_pure hb
def jr(h:XOk C X cl){scope:Scope}{cls:List (Str × Addr)}{Ca:Addr}{fp:List Addr}{s:Shared}{H:Hp}{tg:List Nat}(ha:kN C scope tg=true){tgE:Expr}(hc:me (C.inner scope) tg tgE=true):PG (L2.blk X scope cls Ca fp s H) tgE (gT X.K tg):=by
 have hb:=h.blk (scope:=scope) cls Ca fp s H;unfold kN at ha;rw[List.all_eq_true]at ha;refine wR hb (fun i x hi hx=>?_) hc;have:=ha i hi;have hx:X.N[i]?=some x:=hx;rw[h.names]at hx;rw[hx]at this;simp only[Bool.or_eq_true,beq_iff_eq]at this;rcases this with z | z
 ·exact .inr (lookup_relabel_local z)
 ·exact .inl (by show(scope.names.lookup x == some .cell)=true;rw[z];rfl)
def kX{α:Type}{o:Option α}(h:o.isNone=true):o=none:=by
 cases o with
 | none=>rfl
 | some _=>cases h
end
mutual
theorem ak{cl:RL.Cl}:∀ (e':RL.E) {C:CC} {X:Cx} (h:XOk C X cl) (e:Expr),sE X cl e e' (chk C false e' e) (chk C true e' e)
 | .var i,C,X,h,e=>aD (b:=chk C false (.var i) e) fun z=>by
  obtain⟨x,p,rfl,g1,g2,g3,g4⟩:=jz h z;exact⟨DP g1 g2 g3 g4,rfl⟩
 | .cst d,C,X,h,e=>aD (b:=chk C false (.cst d) e) fun z=>by
  obtain⟨k,z0,z⟩:=au z;obtain⟨j,p,rfl⟩:=Bk z0;exact⟨E8 z,rfl⟩
 | .glb y i,C,X,h,e=>aD (b:=chk C false (.glb y i) e) fun z=>by
  obtain⟨x,z0,z⟩:=au z;obtain⟨p,rfl⟩:=dS z0;obtain⟨z,z3⟩:=af z;obtain⟨z1,z2⟩:=af z;rw[beq_iff_eq]at z1 z3;subst z1;exact⟨CA h z2 z3,rfl⟩
 | .bin o a b,C,X,h,e=>aD (b:=chk C false (.bin o a b) e) fun z=>by
  obtain⟨⟨l,op,r⟩,z0,z⟩:=au z;obtain⟨p,rfl⟩:=AY z0;obtain⟨z,z3⟩:=af z;obtain⟨z1,z2⟩:=af z;rw[beq_iff_eq]at z1;have z1:op=qX o:=z1;subst z1;exact⟨EB ((ak a h l).1 z2) ((ak b h r).1 z3),rfl⟩
 | .neg a,C,X,h,e=>aD (b:=chk C false (.neg a) e) fun z=>by
  obtain⟨⟨op,x⟩,z0,z⟩:=au z;obtain⟨p,rfl⟩:=rf z0;obtain⟨z1,z2⟩:=af z;rw[beq_iff_eq]at z1;have z1:op=.USub:=z1;subst z1;exact⟨Dv ((ak a h x).1 z2),rfl⟩
 | .cmp c a b,C,X,h,e=>mf (b:=chk C false (.cmp c a b) e) fun z=>by
  obtain⟨⟨l,os,rs⟩,z0,z⟩:=au z;obtain⟨p,rfl⟩:=l6 z0;obtain⟨op,y1,z⟩:=aS z;obtain⟨r,y2,z⟩:=aS z;have y1:os=[op]:=y1;have y2:rs=[r]:=y2;subst y1 y2;obtain⟨z,z3⟩:=af z;obtain⟨z1,z2⟩:=af z;rw[beq_iff_eq]at z1;subst z1;exact⟨Fx h.hu ((ak a h l).1 z2) ((ak b h r).1 z3),EZ h.hu ((ak a h l).1 z2) ((ak b h r).1 z3),rfl⟩
 | .chain c c' a b d,C,X,h,e=>mf (b:=chk C false (.chain c c' a b d) e) fun z=>by
  obtain⟨⟨l,os,rs⟩,z0,z⟩:=au z;obtain⟨p,rfl⟩:=l6 z0;obtain⟨op,op',y1,z⟩:=eY z;obtain⟨r,s,y2,z⟩:=eY z;have y1:os=[op,op']:=y1;have y2:rs=[r,s]:=y2;subst y1 y2;obtain⟨z,z5⟩:=af z;obtain⟨z,z4⟩:=af z;obtain⟨z,z3⟩:=af z;obtain⟨z1,z2⟩:=af z;rw[beq_iff_eq]at z1 z2;subst z1 z2;exact⟨zh h.hu ((ak a h l).1 z3) ((ak b h r).1 z4) ((ak d h s).1 z5),yJ h.hu ((ak a h l).1 z3) ((ak b h r).1 z4) ((ak d h s).1 z5),rfl⟩
 | .inD neg a b,C,X,h,e=>mf (b:=chk C false (.inD neg a b) e) fun z=>by
  obtain⟨⟨l,os,rs⟩,z0,z⟩:=au z;obtain⟨p,rfl⟩:=l6 z0;obtain⟨op,y1,z⟩:=aS z;obtain⟨r,y2,z⟩:=aS z;have y1:os=[op]:=y1;have y2:rs=[r]:=y2;subst y1 y2;obtain⟨z,z4⟩:=af z;obtain⟨z,z3⟩:=af z;obtain⟨z1,z2⟩:=af z;rw[beq_iff_eq]at z1;subst z1;exact⟨Dh h.hu ((ak a h l).1 z3) ((ak b h r).1 z4) z2,F0 h.hu ((ak a h l).1 z3) ((ak b h r).1 z4) z2,rfl⟩
 | .and a b,C,X,h,e=>⟨(fun z=>by
   obtain⟨⟨op,es,p⟩,z0,z⟩:=au z;obtain⟨l,r,rest,y1,z⟩:=n9 z;have e0:=jC z0;have y1:es=l::r::rest:=y1;obtain⟨z,z3⟩:=af z;obtain⟨z1,z2⟩:=af z;rw[beq_iff_eq]at z1;have z1:op=.And:=z1;subst y1 z1 e0;refine DQ ((ak a h l).1 z2) ?_;split at z3
   ·rename_i hr;rw[List.isEmpty_iff]at hr;subst hr;exact xD ((ak b h r).1 z3)
   ·exact(ak b h _).1 z3),(fun z=>by
   obtain⟨⟨op,es,p⟩,z0,z⟩:=au z;obtain⟨l,r,rest,y1,z⟩:=n9 z;have e0:=jC z0;have y1:es=l::r::rest:=y1;obtain⟨z,z3⟩:=af z;obtain⟨z1,z2⟩:=af z;rw[beq_iff_eq]at z1;have z1:op=.And:=z1;subst y1 z1 e0
   have w:SW X cl (.BoolOp .And (l::r::rest) p) (.and a b):=by
    refine DA ((ak a h l).2 z2).1 ?_;split at z3
    ·rename_i hr;rw[List.isEmpty_iff]at hr;subst hr;exact wz ((ak b h r).2 z3).1
    ·exact((ak b h _).2 z3).2 rfl
   exact⟨w.pt,fun _=>w⟩)⟩
 | .or a b,C,X,h,e=>⟨(fun z=>by
   obtain⟨⟨op,es,p⟩,z0,z⟩:=au z;obtain⟨l,r,rest,y1,z⟩:=n9 z;have e0:=jC z0;have y1:es=l::r::rest:=y1;obtain⟨z,z3⟩:=af z;obtain⟨z1,z2⟩:=af z;rw[beq_iff_eq]at z1;have z1:op=.Or:=z1;subst y1 z1 e0;refine FT ((ak a h l).1 z2) ?_;split at z3
   ·rename_i hr;rw[List.isEmpty_iff]at hr;subst hr;exact xD ((ak b h r).1 z3)
   ·exact(ak b h _).1 z3),(fun z=>by
   obtain⟨⟨op,es,p⟩,z0,z⟩:=au z;obtain⟨l,r,rest,y1,z⟩:=n9 z;have e0:=jC z0;have y1:es=l::r::rest:=y1;obtain⟨z,z3⟩:=af z;obtain⟨z1,z2⟩:=af z;rw[beq_iff_eq]at z1;have z1:op=.Or:=z1;subst y1 z1 e0
   have w:SW X cl (.BoolOp .Or (l::r::rest) p) (.or a b):=by
    refine FH ((ak a h l).2 z2).1 ?_;split at z3
    ·rename_i hr;rw[List.isEmpty_iff]at hr;subst hr;exact wz ((ak b h r).2 z3).1
    ·exact((ak b h _).2 z3).2 rfl
   exact⟨w.pt,fun _=>w⟩)⟩
 | .not a,C,X,h,e=>⟨(fun z=>by
   obtain⟨⟨op,x⟩,z0,z⟩:=au z;obtain⟨p,rfl⟩:=rf z0;obtain⟨z1,z2⟩:=af z;rw[beq_iff_eq]at z1;have z1:op=.Not:=z1;subst z1
   exact Fe ((ak a h x).1 z2)),(fun z=>by
   obtain⟨⟨op,x⟩,z0,z⟩:=au z;obtain⟨p,rfl⟩:=rf z0;obtain⟨z1,z2⟩:=af z;rw[beq_iff_eq]at z1;have z1:op=.Not:=z1;subst z1
   exact⟨CV ((ak a h x).2 z2).1,fun q=>by cases q⟩)⟩
 | .ifx c a b,C,X,h,e=>⟨(fun z=>by
   obtain⟨⟨q,l,r⟩,z0,z⟩:=au z;obtain⟨p,rfl⟩:=Bd z0;obtain⟨z,z4⟩:=af z;obtain⟨z,z3⟩:=af z;obtain⟨z1,z2⟩:=af z
   exact DW ((ak c h q).2 z2).1 ((ak a h l).1 z3) ((ak b h r).1 z4)),(fun z=>by
   obtain⟨⟨q,l,r⟩,z0,z⟩:=au z;obtain⟨z,z4⟩:=af z;obtain⟨z,z3⟩:=af z;obtain⟨z1,z2⟩:=af z
   cases z1)⟩
 | .tup es,C,X,h,e=>aD (b:=chk C false (.tup es) e) fun z=>by
  obtain⟨xs,z0,z⟩:=au z;obtain⟨k,p,rfl⟩:=gW z0;obtain⟨z1,z2⟩:=af z;exact⟨DC (jJ es h _ z1).1 (by simpa using z2),rfl⟩
 | .lst es,C,X,h,e=>aD (b:=chk C false (.lst es) e) fun z=>by
  obtain⟨xs,z0,z⟩:=au z;obtain⟨p,rfl⟩:=BL z0;obtain⟨z1,z2⟩:=af z;exact⟨E4 (jJ es h _ z1).1 (by simpa using z2),rfl⟩
 | .ix a b,C,X,h,e=>aD (b:=chk C false (.ix a b) e) fun z=>by
  obtain⟨⟨l,r⟩,z0,z⟩:=au z;obtain⟨p,rfl⟩:=jt z0;obtain⟨z,z3⟩:=af z;obtain⟨z1,z2⟩:=af z;exact⟨Gs ((ak a h l).1 z2) ((ak b h r).1 z3) z1,rfl⟩
 | .ixD a b,C,X,h,e=>aD (b:=chk C false (.ixD a b) e) fun z=>by
  obtain⟨⟨l,r⟩,z0,z⟩:=au z;obtain⟨p,rfl⟩:=jt z0;obtain⟨z,z3⟩:=af z;obtain⟨z1,z2⟩:=af z;exact⟨E2 h.hu ((ak a h l).1 z2) ((ak b h r).1 z3) (wA z1),rfl⟩
 | .slT a b,C,X,h,e=>aD (b:=chk C false (.slT a b) e) fun z=>by
  obtain⟨⟨l,s⟩,z0,z⟩:=au z;obtain⟨p,rfl⟩:=jt z0;obtain⟨z1,z⟩:=af z;obtain⟨⟨s1,s2,s3⟩,z0,z⟩:=au z;obtain⟨q,e0⟩:=v7 z0;have e0:s=.Slice s1 s2 s3 q:=e0;obtain⟨z,z4⟩:=af z;obtain⟨z2,z3⟩:=af z;have w2:s1=none:=kX z2;have w3:s3=none:=kX z3;obtain⟨r,y0,z4⟩:=au z4;have y1:s2=some r:=y0;rw[w2,w3,y1]at e0;subst e0;exact⟨Dl ((ak a h l).1 z1) ((ak b h r).1 z4),rfl⟩
 | .rev a,C,X,h,e=>aD (b:=chk C false (.rev a) e) fun z=>by
  obtain⟨⟨l,s⟩,z0,z⟩:=au z;obtain⟨p,rfl⟩:=jt z0;obtain⟨z1,z⟩:=af z;obtain⟨⟨s1,s2,s3⟩,z0,z⟩:=au z;obtain⟨q,e0⟩:=v7 z0;have e0:s=.Slice s1 s2 s3 q:=e0;obtain⟨z,z4⟩:=af z;obtain⟨z2,z3⟩:=af z;have w2:s1=none:=kX z2;have w3:s2=none:=kX z3;obtain⟨r,y0,z4⟩:=au z4;have y1:s3=some r:=y0;rw[w2,w3,y1]at e0;subst e0;exact⟨DD ((ak a h l).1 z1) z4,rfl⟩
 | .call f es,C,X,h,e=>aD (b:=chk C false (.call f es) e) fun z=>by
  obtain⟨⟨g,as,ks,p⟩,z0,z⟩:=au z;have z0:=iq z0;subst z0;obtain⟨z,z4⟩:=af z;obtain⟨z,z3⟩:=af z;obtain⟨z1,z2⟩:=af z;obtain⟨x,y0,z1⟩:=au z1;obtain⟨q,e0⟩:=dS y0;have e0:g=.Name x q:=e0;obtain⟨y1,y2⟩:=af z1;rw[beq_iff_eq]at y2
  have w2:ks=[]:=by rw[List.isEmpty_iff]at z2;exact z2
  subst e0 w2;obtain⟨q1,q2,q3⟩:=jJ es h _ z4;dsimp only at z3 q1 q2 q3
  cases as with
  | nil=>cases z3
  |cons y ys=>
   rw[List.all_cons]at q3;exact⟨B9 h y1 y2 q1 q2 (af q3).1 (af q3).2,rfl⟩
 | .bi o a,C,X,h,e=>by
  have gen:(∀ t,chk C t (.bi o a) e=((uJ o).any fun x=>bb C e x fun ys=>of1 ys fun y=>chk C false a y))->sE X cl e (.bi o a) (chk C false (.bi o a) e) (chk C true (.bi o a) e):=fun heq=>by
   rw[heq,heq];refine aD fun z=>?_;obtain⟨x,y0,z⟩:=au z;obtain⟨p,as,pos,rfl,b1,b2,z3,z4⟩:=bG h z;obtain⟨y,rfl,z4⟩:=aS z4;exact⟨Gu h.calm y0 b1 b2 ((ak a h y).1 z4) (all1 z3),rfl⟩
  cases o
  case lenSet =>
   refine aD (b:=chk C false (.bi .lenSet a) e) fun z=>?_;have z:(bb C e "len" fun ys=>of1 ys fun y=>bb C y "set" fun zs=>of1 zs fun z=>chk C false a z)=true:=z;obtain⟨p,as,pos,rfl,b1,b2,z3,z4⟩:=bG h z;obtain⟨y,rfl,z5⟩:=aS z4;obtain⟨p',as',pos',rfl,b1',b2',z3',z6⟩:=bG h z5;obtain⟨y,rfl,z7⟩:=aS z6;exact⟨wK h.calm b1 b2 b1' b2' ((ak a h y).1 z7) (all1 z3'),rfl⟩
  all_goals exact gen fun t=>rfl
 | .max a b,C,X,h,e=>aD (b:=chk C false (.max a b) e) fun z=>by
  have z:(bb C e "max" fun ys=>of2 ys fun y z=>chk C false a y&&chk C false b z)=true:=z;obtain⟨p,as,pos,rfl,b1,b2,z3,z4⟩:=bG h z;obtain⟨y,u,rfl,z4⟩:=eY z4;exact⟨Fq h.calm b1 b2 ((ak a h y).1 (af z4).1) ((ak b h u).1 (af z4).2) (all2 z3).1 (all2 z3).2,rfl⟩
 | .min a b,C,X,h,e=>aD (b:=chk C false (.min a b) e) fun z=>by
  have z:(bb C e "min" fun ys=>of2 ys fun y z=>chk C false a y&&chk C false b z)=true:=z;obtain⟨p,as,pos,rfl,b1,b2,z3,z4⟩:=bG h z;obtain⟨y,u,rfl,z4⟩:=eY z4;exact⟨FA h.calm b1 b2 ((ak a h y).1 (af z4).1) ((ak b h u).1 (af z4).2) (all2 z3).1 (all2 z3).2,rfl⟩
 | .isi a ty,C,X,h,e=>aD (b:=chk C false (.isi a ty) e) fun z=>by
  have z:(bb C e "isinstance" fun ys=>of2 ys fun y z=>(gd z).any (fun x=>x == rX ty&&sA C x)&&chk C false a y)=true:=z;obtain⟨p,as,pos,rfl,b1,b2,z3,z4⟩:=bG h z;obtain⟨y,u,rfl,z4⟩:=eY z4;obtain⟨z5,z6⟩:=af z4;obtain⟨x,w0,w⟩:=au z5;obtain⟨q,rfl⟩:=dS w0;obtain⟨w1,w2⟩:=af w;rw[beq_iff_eq]at w1;subst w1;obtain⟨t1,t2,t3⟩:=wL ty;exact⟨ED b1 b2 (h.bl w2).1 (h.bl w2).2 t1 t2 t3 ((ak a h y).1 z6) (all2 z3).1,rfl⟩
 | .rng1 a,C,X,h,e=>aD (b:=chk C false (.rng1 a) e) fun z=>by
  have z:(bb C e "list" fun ys=>of1 ys fun y=>bb C y "range" fun zs=>of1 zs fun z=>chk C false a z)=true:=z;obtain⟨p,as,pos,rfl,b1,b2,z3,z4⟩:=bG h z;obtain⟨y,rfl,z5⟩:=aS z4;obtain⟨p',as',pos',rfl,b1',b2',z3',z6⟩:=bG h z5;obtain⟨y,rfl,z7⟩:=aS z6;exact⟨B6 h.calm b1 b2 b1' b2' ((ak a h y).1 z7) (all1 z3'),rfl⟩
 | .rng2 a b,C,X,h,e=>aD (b:=chk C false (.rng2 a b) e) fun z=>by
  have z:(bb C e "list" fun ys=>of1 ys fun y=>bb C y "range" fun zs=>of2 zs fun z u=>chk C false a z&&chk C false b u)=true:=z;obtain⟨p,as,pos,rfl,b1,b2,z3,z4⟩:=bG h z;obtain⟨y,rfl,z5⟩:=aS z4;obtain⟨p',as',pos',rfl,b1',b2',z3',z6⟩:=bG h z5;obtain⟨y,u,rfl,z7⟩:=eY z6;exact⟨B4 h.calm b1 b2 b1' b2' ((ak a h y).1 (af z7).1) ((ak b h u).1 (af z7).2) (all2 z3').1 (all2 z3').2,rfl⟩
 | .rng3 c a b,C,X,h,e=>aD (b:=chk C false (.rng3 c a b) e) fun z=>by
  have z:(bb C e "list" fun ys=>of1 ys fun y=>bb C y "range" fun zs=>of3 zs fun z u q=>fy c q&&chk C false a z&&chk C false b u)=true:=z;obtain⟨p,as,pos,rfl,b1,b2,z3,z4⟩:=bG h z;obtain⟨y,rfl,z5⟩:=aS z4;obtain⟨p',as',pos',rfl,b1',b2',z3',z6⟩:=bG h z5;obtain⟨y,u,q,rfl,z7⟩:=x5 z6;obtain⟨z7,z9⟩:=af z7;obtain⟨z7,z8⟩:=af z7;exact⟨Cu h.calm b1 b2 b1' b2' ((ak a h y).1 z8) ((ak b h u).1 z9) (iO z3').1 (iO z3').2.1 z7,rfl⟩
 | .comp d tg it c,C,X,h,e=>aD (b:=chk C false (.comp d tg it c) e) fun z=>by
  obtain⟨⟨elt,gens,scope,p⟩,z0,z⟩:=au z;have z0:=lS z0;subst z0;obtain⟨⟨tgE,iter,ifs,asy⟩,y1,z⟩:=aS z;have y1:gens=[⟨tgE,iter,ifs,asy⟩]:=y1;obtain⟨w,y2,z⟩:=aS z;have y2:ifs=[w]:=y2;obtain⟨z,z8⟩:=af z;obtain⟨z,z7⟩:=af z;obtain⟨z,z6⟩:=af z;obtain⟨z,z5⟩:=af z;obtain⟨z,z4⟩:=af z;obtain⟨z,z3⟩:=af z;obtain⟨z,z2⟩:=af z;obtain⟨z0,z1⟩:=af z;rw[beq_iff_eq]at z0;have w0:asy=0:=z0;subst y1 w0;subst y2;refine⟨yB (fun _ _ _ _=>h.calm) (by rw[h.scope];exact kY z1) (fU it h _ _ z6) ?_ (dQ z3 _),rfl⟩;exact⟨fun cls Ca fp s H=>jr h z5 z4,fun cls Ca fp s H pins s' σ H' Q I q=>pB ((ak c (h.blk cls Ca fp s H) _).2 z8).1 I q,fun cls Ca fp s H=>(ak d (h.blk cls Ca fp s H) _).1 z7,fun i x hx hl=>fS z2 i x (by rw[<-h.names];exact hx) hl⟩
 | .compA d tg it,C,X,h,e=>aD (b:=chk C false (.compA d tg it) e) fun z=>by
  obtain⟨⟨elt,gens,scope,p⟩,z0,z⟩:=au z;have z0:=lS z0;subst z0;obtain⟨⟨tgE,iter,ifs,asy⟩,y1,z⟩:=aS z;have y1:gens=[⟨tgE,iter,ifs,asy⟩]:=y1;obtain⟨z,z7⟩:=af z;obtain⟨z,z6⟩:=af z;obtain⟨z,z5⟩:=af z;obtain⟨z,z4⟩:=af z;obtain⟨z,z3⟩:=af z;obtain⟨z,z2⟩:=af z;obtain⟨z,z1⟩:=af z;obtain⟨y2,z0⟩:=af z;rw[beq_iff_eq]at z0;have w0:asy=0:=z0
  have w2:ifs=[]:=by rw[List.isEmpty_iff]at y2;exact y2
  subst y1 w0;subst w2;refine⟨yY h.calm (by rw[h.scope];exact kY z1) (fU it h _ _ z6) ?_ (dQ z3 _),rfl⟩;exact⟨fun cls Ca fp s H=>jr h z5 z4,fun cls Ca fp s H pins s' σ H' Q I q=>iG I q,fun cls Ca fp s H=>(ak d (h.blk cls Ca fp s H) _).1 z7,fun i x hx hl=>fS z2 i x (by rw[<-h.names];exact hx) hl⟩
 | .compL d tg it,C,X,h,e=>aD (b:=chk C false (.compL d tg it) e) fun z=>by
  obtain⟨⟨elt,gens,scope,p⟩,z0,z⟩:=au z;have z0:=lS z0;subst z0;obtain⟨⟨tgE,iter,ifs,asy⟩,y1,z⟩:=aS z;have y1:gens=[⟨tgE,iter,ifs,asy⟩]:=y1;obtain⟨z,z7⟩:=af z;obtain⟨z,z6⟩:=af z;obtain⟨z,z5⟩:=af z;obtain⟨z,z4⟩:=af z;obtain⟨z,z3⟩:=af z;obtain⟨z,z2⟩:=af z;obtain⟨z,z1⟩:=af z;obtain⟨y2,z0⟩:=af z;rw[beq_iff_eq]at z0;have w0:asy=0:=z0
  have w2:ifs=[]:=by rw[List.isEmpty_iff]at y2;exact y2
  subst y1 w0;subst w2;refine⟨xZ h.calm (by rw[h.scope];exact kY z1) (fU it h _ _ z6) ?_ (dQ z3 _),rfl⟩;exact⟨fun cls Ca fp s H=>jr h z5 z4,fun cls Ca fp s H pins s' σ H' Q I q=>iG I q,fun cls Ca fp s H=>(ak d (h.blk cls Ca fp s H) _).1 z7,fun i x hx hl=>fS z2 i x (by rw[<-h.names];exact hx) hl⟩
 | .dk0,C,X,h,e=>aD (b:=chk C false .dk0 e) fun z=>by
  obtain⟨⟨ks,vs⟩,z0,z⟩:=au z;obtain⟨p,rfl⟩:=sM z0;obtain⟨z1,z2⟩:=af z;rw[List.isEmpty_iff]at z1 z2;have z1:ks=[]:=z1;have z2:vs=[]:=z2;subst z1 z2;exact⟨Dq,rfl⟩
 | .dt0,C,X,h,e=>aD (b:=chk C false .dt0 e) fun z=>by
  obtain⟨⟨ks,vs⟩,z0,z⟩:=au z;obtain⟨p,rfl⟩:=sM z0;obtain⟨z1,z2⟩:=af z;rw[List.isEmpty_iff]at z1 z2;have z1:ks=[]:=z1;have z2:vs=[]:=z2;subst z1 z2;exact⟨F7,rfl⟩
 | .count a b,C,X,h,e=>aD (b:=chk C false (.count a b) e) fun z=>by
  obtain⟨⟨g,as,ks,p⟩,z0,z⟩:=au z;have z0:=iq z0;obtain⟨z,z3⟩:=af z;obtain⟨z1,z2⟩:=af z;obtain⟨⟨o,nm,apos⟩,y0,z1⟩:=au z1;have e1:=sy y0;have e1:g=.Attribute o nm apos:=e1;obtain⟨z1,y4⟩:=af z1;obtain⟨z1,y3⟩:=af z1;obtain⟨y1,y2⟩:=af z1;rw[beq_iff_eq]at y1;have y1:nm = "count" := y1;obtain⟨x,hx⟩:=Option.isSome_iff_exists.mp y3;obtain⟨xp,e2⟩:=dS hx;have e2:o=.Name x xp:=e2
  have w2:ks=[]:=by rw[List.isEmpty_iff]at z2;exact z2
  obtain⟨y,e3,z3⟩:=aS z3;have e3:as=[y]:=e3;obtain⟨z3,z5⟩:=af z3;rw[e1,y1,e2,w2,e3]at z0;subst z0;have y4:chk C false a o=true:=y4;rw[e2]at y4;exact⟨y9 ((ak a h _).1 y4) ((ak b h y).1 z5) z3 y2,rfl⟩
theorem jJ{cl:RL.Cl}:∀ (es':RL.Es) {C:CC} {X:Cx} (h:XOk C X cl) (es:List Expr),nD C es' es=true->SEs X cl es es'/\fA es'=es.length/\es.all noStar=true
 | .nil,C,X,h,es,z=>by
  have z:es=[]:=List.isEmpty_iff.mp z;subst z;exact⟨c6,rfl,rfl⟩
 | .cons e' es',C,X,h,es,z=>by
  cases es with
  | nil=>cases z
  |cons e es=>
   obtain⟨z,z3⟩:=af z;obtain⟨z1,z2⟩:=af z;obtain⟨q1,q2,q3⟩:=jJ es' h es z3;exact⟨bz ((ak e' h e).1 z2) q1 z1,by rw[fA,q2,List.length_cons],by rw[List.all_cons,z1,q3];rfl⟩
theorem fU{cl:RL.Cl}:∀ (it:RL.It) {C:CC} {X:Cx} (h:XOk C X cl) (tg e:Expr),qE C it tg e=true->SI X cl tg e it
 | .seq a,C,X,h,tg,e,z=>C1 ((ak a h e).1 z)
 | .rng1 a,C,X,h,tg,e,z=>by
  have z:(bb C e "range" fun ys=>of1 ys fun y=>chk C false a y)=true:=z;obtain⟨p,as,pos,rfl,b1,b2,z3,z4⟩:=bG h z;obtain⟨y,rfl,z4⟩:=aS z4;exact Cm b1 b2 ((ak a h y).1 z4) (all1 z3)
 | .rng2 a b,C,X,h,tg,e,z=>by
  have z:(bb C e "range" fun ys=>of2 ys fun y z=>chk C false a y&&chk C false b z)=true:=z;obtain⟨p,as,pos,rfl,b1,b2,z3,z4⟩:=bG h z;obtain⟨y,u,rfl,z4⟩:=eY z4;exact BR b1 b2 ((ak a h y).1 (af z4).1) ((ak b h u).1 (af z4).2) (all2 z3).1 (all2 z3).2
 | .rng3 c a b,C,X,h,tg,e,z=>by
  have z:(bb C e "range" fun ys=>of3 ys fun y z q=>fy c q&&chk C false a y&&chk C false b z)=true:=z;obtain⟨p,as,pos,rfl,b1,b2,z3,z4⟩:=bG h z;obtain⟨y,u,q,rfl,z4⟩:=x5 z4;obtain⟨z4,z6⟩:=af z4;obtain⟨z4,z5⟩:=af z4;exact Bz b1 b2 ((ak a h y).1 z5) ((ak b h u).1 z6) (iO z3).1 (iO z3).2.1 z4
 | .enm a,C,X,h,tg,e,z=>by
  obtain⟨z0,zz⟩:=af z;obtain⟨ts,z0⟩:=Option.isSome_iff_exists.mp z0;obtain⟨k,tp,rfl⟩:=gW z0;obtain⟨p,as,pos,rfl,b1,b2,z3,z4⟩:=bG h zz;obtain⟨y,rfl,z4⟩:=aS z4;exact B5 b1 b2 ((ak a h y).1 z4) (all1 z3)
end
abbrev js:Expr->Bool
 | .ListComp _ _ _ _=>false
 | .SetComp _ _ _ _=>false
 | .DictComp _ _ _ _ _=>false
 | _=>true
abbrev vF:Expr->Bool
 | .Tuple _ _ _=>false
 | _=>true
abbrev zU(e:Expr):Bool:=match e with
 | .SetComp _ _ _ _=>false
 | .DictComp _ _ _ _ _=>false
 | _=>true
abbrev yn(C:CC)(x y:Str)(px py:Pos)(a b:Expr):Bool :=
 C.sc.kind == .function&&C.sc.names.lookup x == some .local&&C.sc.names.lookup y == some .local&&px.line == py.line && !(x == y)&&noStar a&&noStar b && !(foldedForSure 8 a&&foldedForSure 8 b) && !(constantsAlone 8 a&&constantsAlone 8 b)
abbrev t8(M:List Nat):RL.E->Bool
 | .var i=>M.contains i
 | _=>false
abbrev u4(C:CC):RL.Es->List Expr->Bool
 | .nil=>fun xs=>xs.isEmpty
 | .cons e es=>fun xs=>match xs with
  | x::xs=>noStar x&&chk C false e x&&u4 C es xs
  | []=>false
abbrev sH:Expr->Option (Str × Pos)
 | .Name x p=>some (x,p)
 | _=>none
def p8{e:Expr}{x:Str}{p:Pos}(h:sH e=some (x,p)):e=.Name x p:=by
 cases e
 case Name=>cases h;rfl
 all_goals exact nos h
abbrev n8(C:CC)(i:Nat)(nm:Str)(e:Expr)(f:List Expr->Bool):Bool:=(lF e).any fun q=>(uK q.1).any (fun a=>pY C i a.1&&a.2.1 == nm&&a.2.2.endLine == q.2.2.2.line)&&q.2.2.1.isEmpty&&f q.2.1
abbrev mJ(C:CC)(M:List Nat)(f:Nat)(es:RL.Es)(ps ms:List Nat)(e:Expr):Bool:=(lF e).any fun q=>(gd q.1).any (fun x=>glB C x&&C.F[f]? == some (x,ps))&&q.2.2.1.isEmpty && !q.2.1.isEmpty && !ps.isEmpty&&u4 C es q.2.1&&cb es ps ms&&ms.all (fun i=>M.contains i)&&decide ms.Nodup&&decide ps.Nodup
mutual
noncomputable def Fs(C:CC)(M:List Nat):RL.S->Stmt->Bool
 | .asg i e'=>fun st=>(lV st).any fun q=>of1 q.1 fun t=>iI C i t && !M.contains i&&zU q.2&&chk C false e' q.2
 | .own i e'=>fun st=>(lV st).any fun q=>of1 q.1 fun t=>iI C i t&&M.contains i&&decide (M.count i<2)&&zU q.2&&chk C false e' q.2
 | .unp is e'=>fun st=>(lV st).any fun q=>of1 q.1 fun t=>(lP t).any fun ts=>l9 C is ts&&is.all (fun i=>!M.contains i)&&vF q.2&&chk C false e' q.2
 | .par i j a' b'=>fun st=>(lV st).any fun q=>of1 q.1 fun t=>(lP t).any fun ts=>of2 ts fun s u=>(sH s).any fun x=>(sH u).any fun y=>(lP q.2).any fun vs=>of2 vs fun a b=>nmB C i x.1&&nmB C j y.1 && !(i == j) && !M.contains i && !M.contains j&&yn C x.1 y.1 x.2 y.2 a b&&chk C false a' a&&chk C false b' b
 | .app i e'=>fun st=>(uD st).any fun e=>n8 C i "append" e fun as=>of1 as fun y=>M.contains i&&noStar y&&chk C false e' y
 | .put i k' e'=>fun st=>(lV st).any fun q=>of1 q.1 fun t=>(nI t).any fun u=>pY C i u.1&&M.contains i&&m6 u.2&&js q.2&&chk C false k' u.2&&chk C false e' q.2
 | .pop i j=>fun st=>(lV st).any fun q=>of1 q.1 fun t=>iI C j t&&M.contains i && !M.contains j&&n8 C i "pop" q.2 fun as=>as.isEmpty
 | .ife c' a' b'=>fun st=>(wIf st).any fun q=>chk C true c' q.1&&gL C M a' q.2.1&&gL C M b' q.2.2
 | .forr tg it b'=>fun st=>(Ei st).any fun q=>q.2.2.2.isEmpty&&qE C it q.1 q.2.1&&me C tg q.1&&kG q.2.1&&RL.yp M it&&tg.all (fun i=>!M.contains i)&&gL C M b' q.2.2.1
 | .mexc f es ps ms=>fun st=>(uD st).any fun e=>mJ C M f es ps ms e
 | .maug i f es ps ms=>fun st=>(FG st).any fun q=>iI C i q.1 && !M.contains i&&q.2.1 == .Add&&mJ C M f es ps ms q.2.2
 | .ret e'=>fun st=>(Fh st).any fun o=>o.any fun e=>chk C false e' e
 | .exc e'=>fun st=>(uD st).any fun e=>js e&&chk C false e' e
 | .ifp i e' a' b'=>fun st=>(wIf st).any fun q=>(sD q.1).any fun u=>of1 u.2.1 fun op=>of1 u.2.2 fun e=>op == .NotEq&&M.contains i&&chk C false e' e&&gL C M a' q.2.1&&gL C M b' q.2.2&&n8 C i "pop" u.1 fun as=>as.isEmpty
 | .whil c' b'=>fun st=>(Fc st).any fun q=>q.2.2.isEmpty&&chk C true c' q.1&&gL C M b' q.2.1
 | .rais _ _=>fun _=>true
noncomputable def gL(C:CC)(M:List Nat):RL.Ss->List Stmt->Bool
 | .nil=>fun xs=>xs.isEmpty
 | .cons s r=>fun xs=>match xs with
  | x::xs=>Fs C M s x&&gL C M r xs
  | []=>false
end
structure YOk(C:CC)(X:Cx)(cl:RL.Cl):Prop extends XOk C X cl where
 fn:∀ x,X.fn x=true
section
variable{C:CC}{X:Cx}{cl:RL.Cl}{M:List Nat}{st:Stmt}{e:Expr}{e' k':RL.E}{i:Nat}
def i7{t:Option Expr}{l:Nat}{env:Env}(h:js e=true):swapsWith e t l env=pure false:=by
 cases e<;>first | rfl | (cases h;done)
def A9{t:Expr}{spos:Pos}(h:YOk C X cl)(hn:iI C i t=true)(ha:zU e=true)(hc:chk C false e' e=true):SA X cl (.Assign [t] e spos) i e':=by
 obtain⟨y,py,rfl,hN,hl⟩:=hG h.toXOk hn
 have plain:swapsWith e (some (.Name y py)) spos.line X.env=pure false->SA X cl (.Assign [.Name y py] e spos) i e':=fun z =>
  yT h.ndX hN hl ((ak e' h.toXOk e).1 hc) (.inl (h.fn y)) z trivial
 by_cases hcomp:js e=true
 ·exact plain (i7 hcomp)
 ·have:∃ elt gens scope p,e=.ListComp elt gens scope p:=by
   cases e<;>first | exact absurd rfl hcomp | exact Bool.noConfusion ha | exact⟨_,_,_,_,rfl⟩
  obtain⟨elt,gens,scope,p,rfl⟩:=this;have hsw:swapsWith (.ListComp elt gens scope p) (some (.Name y py)) spos.line X.env=pure (X.env.blockKind == .function&&X.env.kindOf y == some .local&&py.line == p.line && !(scope.names.any fun(n,k)=>n == y&&(k == .local || k == .cell))):=rfl;by_cases hb:(X.env.blockKind == .function&&X.env.kindOf y == some .local&&py.line == p.line && !(scope.names.any fun(n,k)=>n == y&&(k == .local || k == .cell)))=true
  ·have hy:X.env.scope.names.lookup y=some .local:=by
    obtain⟨q,_⟩:=af (af hb).1;have q2:=(af q).2;rw[beq_iff_eq]at q2;exact q2
   rw[hb]at hsw;by_cases hk:∃ d tg it c,e'=.comp d tg it c
   ·obtain⟨d,tg,it,c,rfl⟩:=hk;obtain⟨⟨tgE,iter,ifs,asy⟩,y1,z⟩:=aS hc;have y1:gens=[⟨tgE,iter,ifs,asy⟩]:=y1;obtain⟨w,y2,z⟩:=aS z;have y2:ifs=[w]:=y2;obtain⟨z,z8⟩:=af z;obtain⟨z,z7⟩:=af z;obtain⟨z,z6⟩:=af z;obtain⟨z,z5⟩:=af z;obtain⟨z,z4⟩:=af z;obtain⟨z,z3⟩:=af z;obtain⟨z,z2⟩:=af z;obtain⟨z0,z1⟩:=af z;rw[beq_iff_eq]at z0;have w0:asy=0:=z0;subst y1 w0;subst y2;refine yr h.calm h.ndX hN hy (by rw[h.scope];exact kY z1) (fU it h.toXOk _ _ z6) ?_ (dQ z3 _) hsw;exact⟨fun cls Ca fp s H=>jr h.toXOk z5 z4,fun cls Ca fp s H pins s' σ H' Q I q=>pB ((ak c (h.toXOk.blk cls Ca fp s H) _).2 z8).1 I q,fun cls Ca fp s H=>(ak d (h.toXOk.blk cls Ca fp s H) _).1 z7,fun i x hx hl=>fS z2 i x (by rw[<-h.names];exact hx) hl⟩
   ·by_cases hk2:∃ d tg it,e'=.compA d tg it
    ·obtain⟨d,tg,it,rfl⟩:=hk2;obtain⟨⟨tgE,iter,ifs,asy⟩,y1,z⟩:=aS hc;have y1:gens=[⟨tgE,iter,ifs,asy⟩]:=y1;obtain⟨z,z7⟩:=af z;obtain⟨z,z6⟩:=af z;obtain⟨z,z5⟩:=af z;obtain⟨z,z4⟩:=af z;obtain⟨z,z3⟩:=af z;obtain⟨z,z2⟩:=af z;obtain⟨z,z1⟩:=af z;obtain⟨y2,z0⟩:=af z;rw[beq_iff_eq]at z0;have w0:asy=0:=z0
     have w2:ifs=[]:=by rw[List.isEmpty_iff]at y2;exact y2
     subst y1 w0;subst w2;refine ym h.calm h.ndX hN hy (by rw[h.scope];exact kY z1) (fU it h.toXOk _ _ z6) ?_ (dQ z3 _) hsw;exact⟨fun cls Ca fp s H=>jr h.toXOk z5 z4,fun cls Ca fp s H pins s' σ H' Q I q=>iG I q,fun cls Ca fp s H=>(ak d (h.toXOk.blk cls Ca fp s H) _).1 z7,fun i x hx hl=>fS z2 i x (by rw[<-h.names];exact hx) hl⟩
    ·by_cases hk3:∃ d tg it,e'=.compL d tg it
     ·obtain⟨d,tg,it,rfl⟩:=hk3;obtain⟨⟨tgE,iter,ifs,asy⟩,y1,z⟩:=aS hc;have y1:gens=[⟨tgE,iter,ifs,asy⟩]:=y1;obtain⟨z,z7⟩:=af z;obtain⟨z,z6⟩:=af z;obtain⟨z,z5⟩:=af z;obtain⟨z,z4⟩:=af z;obtain⟨z,z3⟩:=af z;obtain⟨z,z2⟩:=af z;obtain⟨z,z1⟩:=af z;obtain⟨y2,z0⟩:=af z;rw[beq_iff_eq]at z0;have w0:asy=0:=z0
      have w2:ifs=[]:=by rw[List.isEmpty_iff]at y2;exact y2
      subst y1 w0;subst w2;refine yW h.calm h.ndX hN hy (by rw[h.scope];exact kY z1) (fU it h.toXOk _ _ z6) ?_ (dQ z3 _) hsw;exact⟨fun cls Ca fp s H=>jr h.toXOk z5 z4,fun cls Ca fp s H pins s' σ H' Q I q=>iG I q,fun cls Ca fp s H=>(ak d (h.toXOk.blk cls Ca fp s H) _).1 z7,fun i x hx hl=>fS z2 i x (by rw[<-h.names];exact hx) hl⟩
     ·cases e'<;>first | exact Bool.noConfusion hc | exact absurd ⟨_,_,_,_,rfl⟩ hk | exact absurd ⟨_,_,_,rfl⟩ hk2 | exact absurd ⟨_,_,_,rfl⟩ hk3 | (rename_i b a;cases b<;>exact Bool.noConfusion hc)
  ·have hb':=Bool.not_eq_true _▸hb;rw[hb']at hsw;exact plain hsw
def qY(h:XOk C X cl):∀ {es':RL.Es} {es:List Expr},u4 C es' es=true->PA X es (iF X.K cl es')/\es.all noStar=true
 | .nil,es,z=>by
  have z:es=[]:=List.isEmpty_iff.mp z;subst z;exact⟨eZ,rfl⟩
 | .cons _ _,[],z=>by cases z
 | .cons e' es',e::es,z=>by
  obtain⟨z,z3⟩:=af z;obtain⟨z1,z2⟩:=af z;obtain⟨q1,q2⟩:=qY h z3;refine⟨?_,by rw[List.all_cons,z1,q2];rfl⟩;rw[iF];refine cK ?_ q1 (aC es z1);by_cases hv:∃ j,e'=.var j
  ·obtain⟨j,rfl⟩:=hv;obtain⟨x,p,rfl,g1,g2,g3,g4⟩:=jz h z2;exact iw g1 g2 g3 g4
  ·have ht:rC X.K cl e'=tE X.K cl e':=by
    cases e'<;>first | rfl | exact absurd ⟨_,rfl⟩ hv
   rw[ht];exact(ak _ h e).1 z2
def ux{is:List Nat}(h:is.all (fun i=>!M.contains i)=true):∀ i∈is,M.contains i=false:=fun i hi=>by
 rw[List.all_eq_true]at h;simpa using h i hi
def CP{is:List Nat}(h:is.all (fun i=>M.contains i)=true):∀ i∈is,M.contains i=true:=fun i hi=>by
 rw[List.all_eq_true]at h;exact h i hi
def kQ{b:Bool}(h:(!b)=true):b=false:=by simpa using h
def qh{f:Nat}{ps ms:List Nat}{es:RL.Es}(h:XOk C X cl)(z:mJ C M f es ps ms e=true):PE X e (ng (spM X.K cl ps f) [] E0 (iF X.K cl es))/\cb es ps ms=true/\(∀ i∈ms,M.contains i=true)/\ms.Nodup/\ps.Nodup/\js e=true:=by
 unfold mJ at z;obtain⟨⟨g,as,ks,pos⟩,z0,z⟩:=au z;have e0:=iq z0;obtain⟨z,z9⟩:=af z;obtain⟨z,z8⟩:=af z;obtain⟨z,z7⟩:=af z;obtain⟨z,z6⟩:=af z;obtain⟨z,z5⟩:=af z;obtain⟨z,z4⟩:=af z;obtain⟨z,z3⟩:=af z;obtain⟨z1,z2⟩:=af z;obtain⟨x,y0,z1⟩:=au z1;obtain⟨p,e1⟩:=dS y0;have e1:g=.Name x p:=e1;obtain⟨y1,y2⟩:=af z1;rw[beq_iff_eq]at y2
 have w2:ks=[]:=by rw[List.isEmpty_iff]at z2;exact z2
 rw[e1,w2]at e0;subst e0;refine⟨?_,z6,CP z7,by simpa using z8,by simpa using z9,rfl⟩;obtain⟨k,fa,fd,pn,F,hr,hm,hk,hb⟩:=h.fns f x ps y2;rw[if_neg (fun z=>by subst z;cases z4)]at F;obtain⟨q1,q2⟩:=qY h z5;obtain⟨g1,g2⟩:=h.gl y1
 cases as with
 | nil=>cases z3
 |cons y ys=>
  rw[List.all_cons]at q2;exact tW F hr g1 hm hk hb .nil Ae q1 (fG g2).1 (aC ys (af q2).1) (dP (af q2).2)
def oA{nm:Str}{f:List Expr->Bool}(h:XOk C X cl)(z:n8 C i nm e f=true):∃ x p apos as pos,e=.Call (.Attribute (.Name x p) nm apos) as [] pos/\X.N[i]?=some x/\Vis X.env.scope x/\(x == ("__debug__" : Str))=false/\(x == ("__classdict__" : Str))=false/\(apos.endLine == pos.line)=true/\f as=true:=by
 unfold n8 at z;obtain⟨⟨g,as,ks,pos⟩,z0,z⟩:=au z;have e0:=iq z0;obtain⟨z,z3⟩:=af z;obtain⟨z1,z2⟩:=af z;obtain⟨⟨o,a,apos⟩,y0,z1⟩:=au z1;have e1:=sy y0;have e1:g=.Attribute o a apos:=e1;obtain⟨z1,y3⟩:=af z1;obtain⟨y1,y2⟩:=af z1;rw[beq_iff_eq]at y2;have y2:a=nm:=y2
 have w2:ks=[]:=by rw[List.isEmpty_iff]at z2;exact z2
 obtain⟨x,p,e2,g1,g2,g3,g4⟩:=jz h y1;have e2:o=.Name x p:=e2;rw[e1,w2,y2,e2]at e0;exact⟨x,p,apos,as,pos,e0,g1,g2,g3,g4,y3,z3⟩
def Cd(h1:PS X st (nE (tE X.K cl e') (yf (jM i) (tE X.K cl k') uA)))(h2:PS X st (u3 (jM i) (tE X.K cl k') (tE X.K cl e')))(hi:M.contains i=true):SS X cl M st (.put i k' e'):=by
 have a1:=EL h1 hi trivial;have a2:=BB h2 hi;intro pins s σ H D I h;obtain⟨σD,o,σD',rv,e,k⟩:=h;rw[RL.evS]at e;obtain⟨d,e1,e⟩:=bind_some e;obtain⟨kk,e2,e⟩:=bind_some e;obtain⟨l,e3,e⟩:=bind_some e
 cases l with
 | lst ds=>exact a1 pins s σ H D I ⟨σD,o,σD',rv,by dsimp only;rw[e1];dsimp only[Option.bind_some];rw[e2];dsimp only[Option.bind_some];rw[e3];exact e,k⟩
 | _=>exact a2 pins s σ H D I ⟨σD,o,σD',rv,by dsimp only;rw[e1];dsimp only[Option.bind_some];rw[e2];dsimp only[Option.bind_some];rw[e3];exact e,k⟩
def u9{o k:Expr}{pos:Pos}{env:Env}(h:m6 k=true)(v:Value):assign (.Subscript o k pos) env v=(do
   let ov <- holding [v] (eval o env)
   let iv <- holding [v,ov] (eval k env)
   standAt pos
   holding [v,ov,iv] (setItem ov iv v)
   release [v,ov,iv] []):=by
 cases k<;>first | rfl | (cases h;done)
def xK{us:List Expr}{kk:Nat}{tp:Pos}{env:Env}(h:vF e=true):swappedStores [.Tuple us kk tp] e env=pure none:=by
 cases e<;>first | rfl | (cases h;done)
def CI{x y:Str}{px py pt pt2:Pos}{kt k2:Nat}{a b:Expr}(h:XOk C X cl)(hp:yn C x y px py a b=true):swappedStores [.Tuple [.Name x px,.Name y py] kt pt] (.Tuple [a,b] k2 pt2) X.env=pure (some [x,y]) /\
  X.env.scope.names.lookup x=some .local/\X.env.scope.names.lookup y=some .local/\noStar a=true/\noStar b=true:=by
 unfold yn at hp;obtain⟨hp,h9⟩:=af hp;obtain⟨hp,h8⟩:=af hp;obtain⟨hp,h7⟩:=af hp;obtain⟨hp,h6⟩:=af hp;obtain⟨hp,h5⟩:=af hp;obtain⟨hp,h4⟩:=af hp;obtain⟨hp,h3⟩:=af hp;obtain⟨h1,h2⟩:=af hp;rw[beq_iff_eq]at h1 h2 h3 h4;rw[<-h.scope]at h1 h2 h3;refine⟨?_,h2,h3,h6,h7⟩
 have bk:X.env.blockKind=.function:=by
  unfold Env.blockKind;rw[h1];rfl
 have k1:X.env.kindOf x=some .local:=h2;have k2:X.env.kindOf y=some .local:=h3
 have hxy:x≠y:=by simpa using h5
 have fs':foldedForSure 8 a=true->foldedForSure 8 b=false:=fun z=>by simpa[z]using h8
 have ca':constantsAlone 8 a=true->constantsAlone 8 b=false:=fun z=>by simpa[z]using h9
 have ed:[x,y].eraseDups=[x,y]:=by
  rw[List.eraseDups_cons];simp[Ne.symm hxy];rfl
 unfold swappedStores;simp only[bk];simp[show ∀ (x:Str) (p:Pos),(Expr.Name x p).pos=p from fun _ _=>rfl,k1,k2,h4,ed];refine(if_neg ?_).trans ((if_neg ?_).trans (if_neg ?_))
 ·intro hh;rcases hh with hh | hh
  ·cases a<;>first | exact Bool.noConfusion (show false=true from hh) | exact Bool.noConfusion (show false=true from h6)
  ·cases b<;>first | exact Bool.noConfusion (show false=true from hh) | exact Bool.noConfusion (show false=true from h7)
 ·intro hh;have:=fs' hh.1;rw[hh.2]at this;cases this
 ·intro hh;have:=ca' hh.1;rw[hh.2]at this;cases this
end
section
variable{X:Cx}{cl:RL.Cl}
mutual
theorem Bf:∀ (s:RL.S) {C:CC} {M:List Nat} (h:YOk C X cl) (st:Stmt),Fs C M s st=true->SS X cl M st s
 | .asg i e',C,M,h,st,z=>by
  obtain⟨⟨ts,e⟩,z0,z⟩:=au z;obtain⟨p,rfl⟩:=gR z0;obtain⟨t,y1,z⟩:=aS z;have y1:ts=[t]:=y1;obtain⟨z,z4⟩:=af z;obtain⟨z,z3⟩:=af z;obtain⟨z1,z2⟩:=af z;subst y1;exact Ft (A9 h z1 z3 z4) (kQ z2)
 | .own i e',C,M,h,st,z=>by
  obtain⟨⟨ts,e⟩,z0,z⟩:=au z;obtain⟨p,rfl⟩:=gR z0;obtain⟨t,y1,z⟩:=aS z;have y1:ts=[t]:=y1;obtain⟨z,z5⟩:=af z;obtain⟨z,z4⟩:=af z;obtain⟨z,z3⟩:=af z;obtain⟨z1,z2⟩:=af z;subst y1;exact Fj (A9 h z1 z4 z5) z2 (by simpa using z3)
 | .unp is e',C,M,h,st,z=>by
  obtain⟨⟨ts,e⟩,z0,z⟩:=au z;obtain⟨p,rfl⟩:=gR z0;obtain⟨t,y1,z⟩:=aS z;have y1:ts=[t]:=y1;obtain⟨us,y2,z⟩:=au z;obtain⟨k,tp,rfl⟩:=gW y2;obtain⟨z,z4⟩:=af z;obtain⟨z,z3⟩:=af z;obtain⟨z1,z2⟩:=af z;subst y1;obtain⟨g1,g2,g3⟩:=ou h.toXOk (T:=is) (fun i x _ _=>.inl (h.fn x)) (fun _ h=>h) z1;refine C6 (xV ((ak e' h.toXOk e).1 z4) (xk (wy h.calm g1 g2 g3) (vO h.calm g1 g2 g3)) ?_ (xK z3)) (ux z2);cases e<;>rfl
 | .par i j a' b',C,M,h,st,z=>by
  obtain⟨⟨ts,e⟩,z0,z⟩:=au z;obtain⟨p,rfl⟩:=gR z0;obtain⟨t,y1,z⟩:=aS z;have y1:ts=[t]:=y1;obtain⟨us,y2,z⟩:=au z;obtain⟨k,tp,e2⟩:=gW y2;obtain⟨s1,s2,y3,z⟩:=eY z;obtain⟨⟨x,px⟩,y4,z⟩:=au z;obtain⟨⟨y,py⟩,y5,z⟩:=au z;obtain⟨vs,y6,z⟩:=au z;obtain⟨k',tp',e6⟩:=gW y6;have e6:e=.Tuple vs k' tp':=e6;obtain⟨a,b,y7,w⟩:=eY z;rw[p8 y4,p8 y5]at y3;rw[y3]at e2
  have e7:e=.Tuple [a,b] k' tp':=by rw[<-y7];exact e6
  rw[e2]at y1;subst y1 e7;obtain⟨w,z8⟩:=af w;obtain⟨w,z7⟩:=af w;obtain⟨w,z6⟩:=af w;obtain⟨w,z5⟩:=af w;obtain⟨w,z4⟩:=af w;obtain⟨w,z3⟩:=af w;obtain⟨z1,z2⟩:=af w;obtain⟨g1,g2,g3,g4,g5⟩:=CI h.toXOk z6;exact Fy (CY h.calm h.ndX (h.nm z1).1 (h.nm z2).1 (by simpa using z3) g2 g3 (bz (cl:=cl) ((ak a' h.toXOk a).1 z7) (bz ((ak b' h.toXOk b).1 z8) c6 g5) g4) g1) (kQ z4) (kQ z5)
 | .app i e',C,M,h,st,z=>by
  obtain⟨e,z0,z8⟩:=au z;obtain⟨p0,rfl⟩:=oX z0;obtain⟨x,p,apos,as,pos,rfl,g1,g2,g3,g4,z6,z7⟩:=oA h.toXOk z8;obtain⟨y,rfl,z9⟩:=aS z7;obtain⟨z9,z7⟩:=af z9;obtain⟨z4,z5⟩:=af z9;refine Fd (oR (AG PySem.F.plainAttrs_list PySem.F.slot_list_append PySem.F.type_list_append pD (iw g1 g2 g3 g4) (bz (cl:=cl) ((ak e' h.toXOk y).1 z7) c6 z5) rfl ?_ z6 (aC [] z5) rfl)) z4;rw[aC [] z5];rfl
 | .put i k' e',C,M,h,st,z=>by
  obtain⟨⟨ts,e⟩,z0,z⟩:=au z;obtain⟨p,rfl⟩:=gR z0;obtain⟨t,y1,z⟩:=aS z;have y1:ts=[t]:=y1;obtain⟨⟨o,k⟩,y2,z⟩:=au z;obtain⟨sp,e2⟩:=jt y2;obtain⟨z,z7⟩:=af z;obtain⟨z,z6⟩:=af z;obtain⟨z,z5⟩:=af z;obtain⟨z,z4⟩:=af z;obtain⟨z1,z3⟩:=af z;obtain⟨x,px,e3,g1,g2,g3,g4⟩:=jz h.toXOk z1;have e3:o=.Name x px:=e3;rw[e3]at e2;rw[e2]at y1;subst y1;have pv:=fun pos=>iw (X:=X) (pos:=pos) g1 g2 g3 g4;refine Cd (xV ((ak e' h.toXOk e).1 z7) (DG (pv _) ((ak k' h.toXOk k).1 z6) set_list (u9 z4)) ?_ ?_) (Bc (Nat.lt_of_le_of_lt (by lia) h.hu) (pv _) ((ak k' h.toXOk k).1 z6) ((ak e' h.toXOk e).1 z7) (i7 z5)) z3
  ·unfold swapsWithSole;exact i7 z5
  ·rfl
 | .pop i j,C,M,h,st,z=>by
  obtain⟨⟨ts,e⟩,z0,z⟩:=au z;obtain⟨p,rfl⟩:=gR z0;obtain⟨t,y1,z⟩:=aS z;have y1:ts=[t]:=y1;obtain⟨z,z4⟩:=af z;obtain⟨z,z3⟩:=af z;obtain⟨z1,z2⟩:=af z;obtain⟨y,py,rfl,l1,l2⟩:=hG h.toXOk z1;obtain⟨x,px,apos,as,pos,e2,g1,g2,g3,g4,z6,z5⟩:=oA h.toXOk z4;have e2:e=.Call (.Attribute (.Name x px) "pop" apos) as [] pos:=e2;have z5:as=[]:=List.isEmpty_iff.mp z5;subst y1 z5 e2;exact DN (wO h.ndX l1 l2 (xj PySem.F.plainAttrs_list PySem.F.slot_list_pop PySem.F.type_list_pop xc (iw g1 g2 g3 g4) rfl z6) rfl (.inl (h.fn _))) z2 (kQ z3)
 | .ife c' a' b',C,M,h,st,z=>by
  obtain⟨⟨c,a,b⟩,z0,z⟩:=au z;obtain⟨p,rfl⟩:=vG z0;obtain⟨z,z3⟩:=af z;obtain⟨z1,z2⟩:=af z;exact Gg ((ak c' h.toXOk c).2 z1).1 (dN a' h a z2) (dN b' h b z3)
 | .forr tg it b',C,M,h,st,z=>by
  obtain⟨⟨t,it',b,o⟩,z0,z⟩:=au z;obtain⟨p,rfl⟩:=Cw z0;obtain⟨z,z7⟩:=af z;obtain⟨z,z6⟩:=af z;obtain⟨z,z5⟩:=af z;obtain⟨z,z4⟩:=af z;obtain⟨z,z3⟩:=af z;obtain⟨z1,z2⟩:=af z;have z1:o=[]:=List.isEmpty_iff.mp z1;subst z1;exact Eh h.xe h.calm (fU it h.toXOk t it' z2) (wR h.toXOk (fun i x _ _=>.inl (h.fn x)) z3) (dN b' h b z7) (dQ z4 _) z5 (ux z6)
 | .mexc f es ps ms,C,M,h,st,z=>by
  obtain⟨e,z0,z⟩:=au z;obtain⟨p0,rfl⟩:=oX z0;obtain⟨g1,g2,g3,g4,g5,g6⟩:=qh h.toXOk z;exact Ct (oR g1 (i7 g6)) g2 g3 g4 g5
 | .maug i f es ps ms,C,M,h,st,z=>by
  obtain⟨⟨t,op,e⟩,z0,z⟩:=au z;obtain⟨p,rfl⟩:=Bn z0;obtain⟨z,z4⟩:=af z;obtain⟨z,z3⟩:=af z;obtain⟨z1,z2⟩:=af z;obtain⟨x,px,e1,l1,l2⟩:=hG h.toXOk z1;have e1:t=.Name x px:=e1;rw[beq_iff_eq]at z3;have z3:op=.Add:=z3;subst e1 z3;obtain⟨g1,g2,g3,g4,g5,g6⟩:=qh h.toXOk z4;exact Cc (D6 h.ndX l1 l2 g1 EH (.inl (h.fn _))) (kQ z2) g2 g3 g4 g5
 | .ret e',C,M,h,st,z=>by
  obtain⟨o,z0,z⟩:=au z;obtain⟨p,rfl⟩:=Bs z0;obtain⟨e,rfl,zz⟩:=au z;by_cases hv:t8 M e'=true
  ·have:∃ i,e'=.var i:=by
    cases e'<;>first | exact⟨_,rfl⟩ | exact Bool.noConfusion hv
   obtain⟨i,rfl⟩:=this;obtain⟨x,q,rfl,g1,g2,g3,g4⟩:=jz h.toXOk zz;exact BS g1 g2 g3 g4 hv
  ·exact Dk ((ak e' h.toXOk e).1 zz) fun i hi=>by
    subst hi;simpa[t8]using hv
 | .exc e',C,M,h,st,z=>by
  obtain⟨e,z0,z⟩:=au z;obtain⟨p0,rfl⟩:=oX z0;obtain⟨z1,z2⟩:=af z;exact DO (oR ((ak e' h.toXOk e).1 z2) (i7 z1))
 | .ifp i e' a' b',C,M,h,st,z=>by
  obtain⟨⟨c,a,b⟩,z0,z⟩:=au z;obtain⟨p,rfl⟩:=vG z0;obtain⟨⟨l,os,rs⟩,z0,z⟩:=au z;obtain⟨cp,ec⟩:=l6 z0;have ec:c=.Compare l os rs cp:=ec;obtain⟨op,y1,z⟩:=aS z;obtain⟨e,y2,z⟩:=aS z;have y1:os=[op]:=y1;have y2:rs=[e]:=y2;obtain⟨z,z6⟩:=af z;obtain⟨z,z5⟩:=af z;obtain⟨z,z4⟩:=af z;obtain⟨z,z3⟩:=af z;obtain⟨z1,z2⟩:=af z;rw[beq_iff_eq]at z1;obtain⟨x,px,apos,as,pos,e2,g1,g2,g3,g4,z7,z8⟩:=oA h.toXOk z6;have e2:l=.Call (.Attribute (.Name x px) "pop" apos) as [] pos:=e2;have z8:as=[]:=List.isEmpty_iff.mp z8;rw[z8]at e2;rw[y1,y2,z1,e2]at ec;subst ec;exact Fm (xj PySem.F.plainAttrs_list PySem.F.slot_list_pop PySem.F.type_list_pop xc (iw g1 g2 g3 g4) rfl z7) ((ak e' h.toXOk e).1 z3) (dN a' h a z4) (dN b' h b z5) z2
 | .whil c' b',C,M,h,st,z=>by
  obtain⟨⟨c,b,o⟩,z0,z⟩:=au z;obtain⟨p,rfl⟩:=BG z0;obtain⟨z,z3⟩:=af z;obtain⟨z1,z2⟩:=af z;have z1:o=[]:=List.isEmpty_iff.mp z1;subst z1;exact zl h.xe ((ak c' h.toXOk c).2 z2).1 (dN b' h b z3)
 | .rais _ _,C,M,h,st,z=>fun pins s σ H D I ⟨σD,r,σD',_,e,_⟩=>by
  rw[RL.evS]at e;cases e
theorem dN:∀ (s:RL.Ss) {C:CC} {M:List Nat} (h:YOk C X cl) (st:List Stmt),gL C M s st=true->SSs X cl M st s
 | .nil,C,M,h,st,z=>by
  have z:st=[]:=List.isEmpty_iff.mp z;subst z;exact Bq
 | .cons s r,C,M,h,st,z=>by
  cases st with
  | nil=>cases z
  |cons x xs=>
   obtain⟨z1,z2⟩:=af z;exact yA (Bf s h x z1) (dN r h xs z2)
end
end
structure oK where
 name:Str
 st:Stmt
 ps:List Str
 N:List Str
structure PT' where
 B:List Str
 G:List (Str × Int)
 Ds:List oK
 T:List RL.Fn
abbrev PT'.F(p:PT'):List (Str × List Nat):=(p.Ds.zip p.T).map fun q=>(q.1.name,q.2.mp)
abbrev PT'.cc(p:PT')(d:oK):CC:=⟨d.N,c8 d.st,p.B,p.G,p.F⟩
abbrev qF(N ps:List Str)(sc:Scope):Bool :=
 sc.kind == .function && !sc.isCoroutine && !sc.isGenerator&&decide N.Nodup&&N.take ps.length == ps&&ps.all (fun x=>sc.names.lookup x == some .local || sc.names.lookup x == some .cell)&&sc.names.all (fun y=>!(y.2 == .free))
abbrev fnB(p:PT')(d:oK)(fn:RL.Fn):Bool :=
 qF d.N d.ps (c8 d.st)&&fn.ps == d.ps.length&&fn.nn == d.N.length&&decide (d.ps.length<=d.N.length)&&(List.range fn.ps).all (fun i=>!fn.M.contains i || fn.mp.contains i)&&fn.mp.all (fun i=>decide (i<fn.ps)&&decide (2<=fn.M.count i))&&gL (p.cc d) fn.M fn.body (fO d.st)
abbrev PT'.ok(p:PT'):Bool:=p.Ds.length == p.T.length&&(p.Ds.zip p.T).all fun q=>fnB p q.1 q.2
def yv{N ps:List Str}{sc:Scope}(h:qF N ps sc=true):l3 N ps sc:=by
 unfold qF at h;obtain⟨h,h7⟩:=af h;obtain⟨h,h6⟩:=af h;obtain⟨h,h5⟩:=af h;obtain⟨h,h4⟩:=af h;obtain⟨h,h3⟩:=af h;obtain⟨h1,h2⟩:=af h;refine⟨by simpa using h1,by simpa using h2,by simpa using h3,by simpa using h4,by simpa using h5,fun x hx=>?_,fun y hy=>?_⟩
 ·rw[List.all_eq_true]at h6;have:=h6 x hx;rw[Bool.or_eq_true,beq_iff_eq,beq_iff_eq]at this;exact this
 ·rw[List.all_eq_true]at h7;have:=h7 y hy;intro z;rw[z]at this;simp at this
structure Aj(p:PT')(K:PySem.W.Frag)(mg:Str->Option Value):Prop where
 defs:∀ (f:Nat) (d:oK),p.Ds[f]?=some d->∃ fa fd,mg d.name=some (.ref fa)/\Fun K d.name d.name d.st fa fd/\PySem.W.keepIn K (.ref fa)=true/\Binds K fd d.ps []
 blt:∀ x∈p.B,mg x=none
 glb:∀ x i,p.G.lookup x=some i->∃ u,mg x=some u/\RelV (.int i) u
section
variable{p:PT'}{K:PySem.W.Frag}{mg:Str->Option Value}{base:Heap}{P:Program}{w:World}
abbrev rF(K:PySem.W.Frag)(cl:RL.Cl)(mp:List Nat)(f:Nat):Sp:=if mp=[]then spF K cl f else spM K cl mp f
def bu{α:Type}(vs:List α)(k:Nat)(i:Nat)(v:α):(vs.map some++List.replicate k none)[i]?=some (some v)↔vs[i]?=some v:=by
 by_cases h:i<vs.length
 ·rw[List.getElem?_append_left (by simpa using h)];simp[h]
 ·rw[List.getElem?_append_right (by simpa using h)];constructor
  ·intro e;rw[List.getElem?_replicate]at e;split at e<;>cases e
  ·intro e;have:=(List.getElem?_eq_some_iff.mp e).1;lia
def BD{ds:List RL.D}{vs:List V}{H:Hp}{M:List Nat}{k n:Nat}(r:ae nP K H ds vs)(hM:∀ i,i<n->M.contains i=false)(hn:ds.length=n):RVm K M (ds.map some++List.replicate k none) (vs.map some++List.replicate k none) H:=by
 have nA:∀ a,¬ bC M (vs.map some++List.replicate k none) a:=fun a ⟨i,hi,e⟩=>by
  rw[bu]at e;have:=(List.getElem?_eq_some_iff.mp e).1;rw[hM i (by rw[<-hn,r.length];exact this)]at hi;cases hi
 refine⟨by simp[r.length],fun i d e=>?_,fun i v e=>?_,fun i j a hi hj e1 e2=>(nA a ⟨i,hi,e1⟩).elim⟩
 ·rw[bu]at e;obtain⟨v,h1,h2⟩:=r.get e;have hl:=(List.getElem?_eq_some_iff.mp e).1;refine⟨v,(bu _ _ _ _).mpr h1,?_⟩;rw[if_neg (by rw[hM i (by lia)];decide)];exact h2.weak fun a ha=>nA a ha
 ·rw[bu]at e;have hl:=(List.getElem?_eq_some_iff.mp e).1;exact⟨ds[i]'(by rw[r.length];exact hl),(bu _ _ _ _).mpr (by simp)⟩
def BX{ds:List RL.D}{vs:List V}{H:Hp}{M mp:List Nat}{k n:Nat}(a:E1 K mp ds vs H)(hM:∀ i,i<n->M.contains i=true->i∈mp)(hp:∀ i∈mp,M.contains i=true)(hn:ds.length=n):RVm K M (ds.map some++List.replicate k none) (vs.map some++List.replicate k none) H:=by
 have r:=a.kB
 have inM:∀ i v,(vs.map some++List.replicate k none)[i]?=some (some v)->M.contains i=true->i∈mp/\vs[i]?=some v:=fun i v e hi=>by
  rw[bu]at e;have:=(List.getElem?_eq_some_iff.mp e).1;exact⟨hM i (by rw[<-hn,r.length];exact this) hi,e⟩
 refine⟨by simp[r.length],fun i d e=>?_,fun i v e=>?_,fun i j b hi hj e1 e2=>?_⟩
 ·rw[bu]at e;obtain⟨v,h1,h2⟩:=r.get e;have hl:=(List.getElem?_eq_some_iff.mp e).1;refine⟨v,(bu _ _ _ _).mpr h1,?_⟩;by_cases hm:M.contains i=true
  ·rw[if_pos hm];obtain⟨d',b,g1,g2,g3⟩:=a.own i (hM i (by lia) hm);rw[e]at g1;cases g1;rw[h1]at g2;cases g2;exact g3
  ·rw[if_neg hm];refine(a.oth i d v (fun z=>hm (hp i z)) e h1).weak fun b ⟨j,hj,ej⟩=>?_;obtain⟨q1,q2⟩:=inM j _ ej hj;exact⟨j,q1,q2⟩
 ·rw[bu]at e;have hl:=(List.getElem?_eq_some_iff.mp e).1;exact⟨ds[i]'(by rw[r.length];exact hl),(bu _ _ _ _).mpr (by simp)⟩
 ·obtain⟨q1,q2⟩:=inM i _ e1 hi;obtain⟨q3,q4⟩:=inM j _ e2 hj;exact a.sep i q1 j q3 b q2 q4
def rG{σ:RL.St}:∀ {mp:List Nat} {outs:List RL.D},RL.dU σ mp=some outs->outs.length=mp.length/\∀ (k i:Nat) o,mp[k]?=some i->outs[k]?=some o->σ[i]?=some (some o)
 | [],outs,h=>by
  rw[RL.dU]at h;cases h;exact⟨rfl,fun k i o e=>by simp at e⟩
 | m::mp,outs,h=>by
  rw[RL.dU]at h;obtain⟨d,h1,h⟩:=bind_some h;obtain⟨os,h2,h3⟩:=map_some h;subst h3;obtain⟨g1,g2⟩:=rG h2;refine⟨by simp[g1],fun k i o e1 e2=>?_⟩
  cases k with
  |zero=>
   simp at e1 e2;subst e1 e2;exact slot_get h1
  | succ k=>exact g2 k i o (by simpa using e1) (by simpa using e2)
def vE{fn:RL.Fn}{d r:RL.D}{σ:RL.St}(h:RL.aN fn d σ=some r)(hm:fn.mp=[]):r=d:=by
 unfold RL.aN at h;rw[hm]at h;simpa using h.symm
def Ep{fn:RL.Fn}{d r:RL.D}{σ:RL.St}(h:RL.aN fn d σ=some r)(hm:fn.mp≠[]):d.imm=true/\∃ outs,RL.dU σ fn.mp=some outs/\r=.tup (d::outs):=by
 unfold RL.aN at h;rw[if_neg (by simpa using hm)]at h;split at h
 ·rename_i im;obtain⟨os,h1,h2⟩:=map_some h;exact⟨im,os,h1,h2.symm⟩
 ·cases h
def wg(hok:p.ok=true)(tp:Aj p K mg):∀ (n f:Nat) (d:oK) (fn:RL.Fn),p.Ds[f]?=some d->p.T[f]?=some fn->∀ fa fd,Fun K d.name d.name d.st fa fd->iQ P w K mg base CX0 n fa fd d.ps (rF K (RL.a5 p.T n) fn.mp f)
 | 0,f,d,fn,hd,hf,fa,fd,F=>by
  have no:∀ vs H Q E,¬ rF K (RL.a5 p.T 0) fn.mp f vs H Q E:=fun vs H Q E h=>by
   unfold rF at h;split at h
   ·obtain⟨ds,r,_,e,_⟩:=h;cases e
   ·obtain⟨ds,r,o,e,_⟩:=h;cases e
  exact⟨fun vs H Q E h=>(no vs H Q E h).elim,fun A outer s H args us vs Q E _ _ _ _ h=>(no vs H Q E h).elim⟩
 | n+1,f,d,fn,hd,hf,fa,fd,F=>by
  have hok':=hok;unfold PT'.ok at hok';obtain⟨hl,hall⟩:=af hok';rw[beq_iff_eq]at hl;rw[List.all_eq_true]at hall
  have hz:(p.Ds.zip p.T)[f]?=some (d,fn):=by
   rw[List.getElem?_zip_eq_some];exact⟨hd,hf⟩
  have hB:=hall (d,fn) (List.mem_of_getElem? hz);unfold fnB at hB;dsimp only at hB;obtain⟨hB,b7⟩:=af hB;obtain⟨hB,b6⟩:=af hB;obtain⟨hB,b5⟩:=af hB;obtain⟨hB,b4⟩:=af hB;obtain⟨hB,b3⟩:=af hB;obtain⟨b1,b2⟩:=af hB;rw[beq_iff_eq]at b2 b3;rw[decide_eq_true_eq]at b4;rw[List.all_eq_true]at b5 b6;have S:=yv b1
  have hM:∀ i,i<fn.ps->fn.M.contains i=true->i∈fn.mp:=fun i hi hm=>by
   have:=b5 i (List.mem_range.mpr hi);rw[hm]at this;simpa using this
  have hp2:∀ i∈fn.mp,i<fn.ps/\2<=fn.M.count i:=fun i hi=>by simpa using b6 i hi
  have unf:∀ ds r,RL.a5 p.T (n+1) f ds=some r->ds.length=fn.ps/\∃ o σ',RL.ag (RL.a5 p.T n) fn.M fn.body (ds.map some++List.replicate (fn.nn-fn.ps) none)=some (o,σ')/\(match o with | .nx=>RL.aN fn .non σ' | .rt d=>RL.aN fn d σ')=some r:=by
   intro ds r h;rw[RL.a5,hf]at h;dsimp only[Option.bind_some]at h;split at h
   ·rename_i hlen;obtain⟨⟨o,σ'⟩,h1,h2⟩:=bind_some h;exact⟨hlen,o,σ',h1,h2⟩
   ·cases h
  refine Fun.ok F S (fun vs H Q E h=>?_) fun cdv A outer s H vs Q E hr h=>?_
  ·unfold rF at h;split at h
   ·obtain⟨ds,r,r1,e,_⟩:=h;rw[<-r1.length,(unf ds r e).1,b2]
   ·obtain⟨ds,r,o,e,a,_⟩:=h;rw[<-a.kB.length,(unf ds _ e).1,b2]
  ·-- the body's context
   have Y:YOk (p.cc d) (m9 CX0 P w K mg base d.N d.name (c8 d.st) fa cdv A outer s H E).nox (RL.a5 p.T n):={
    scope:=rfl
    names:=rfl
    nd:=S.nd
    calm:=rfl
    xe:=rfl
    hu:=by
     have:=hr.un;show(A.deeper _).units+100<cLine;lia
    blt:=tp.blt
    glb:=tp.glb
    fns:=fun g x mp hg=>by
     have hg':p.F[g]?=some (x,mp):=hg;unfold PT'.F at hg';rw[List.getElem?_map]at hg';obtain⟨⟨d',fn'⟩,q1,q2⟩:=map_some hg';cases q2;rw[List.getElem?_zip_eq_some]at q1;obtain⟨fa',fd',t1,t2,t3,t4⟩:=tp.defs g d' q1.1;exact⟨n,fa',fd',d'.ps,wg hok tp n g d' fn' q1.1 q1.2 fa' fd' t2,hr,t1,t3,t4⟩
    fn:=fun _=>rfl }
   have body:=dN fn.body Y (M:=fn.M) _ b7;refine⟨_,body,?_⟩;have hst:start d.N vs=vs.map some++List.replicate (d.N.length-vs.length) none:=rfl;unfold rF at h;split at h
   ·rename_i hmp;obtain⟨ds,r,r1,e,k⟩:=h;obtain⟨hlen,o,σ',e1,e2⟩:=unf ds r e
    have hvl:vs.length=fn.ps:=by rw[<-r1.length];exact hlen
    refine⟨_,o,σ',?_,e1,?_⟩
    ·rw[hst,hvl,<-b3]
     exact BD r1 (fun i hi=>by
      cases hc:fn.M.contains i with
      | false=>rfl
      |true=>
       have:=hM i hi hc;rw[hmp]at this
       cases this) hlen
    ·have noA:∀ a,¬ bC fn.M (start d.N vs) a:=fun a ⟨i,hi,ei⟩=>by
      rw[hst,bu]at ei;have h3:=(List.getElem?_eq_some_iff.mp ei).1;have:=hM i (by lia) hi;rw[hmp]at this;cases this
     cases o with
     |nx=>
      have hr':=vE (d:=.non) e2 hmp;subst hr';intro σ1 H1 rv1 fr1;refine k .non H1 (fun b u eb=>(fr1.1 b u eb (noA b)).1) (by rw[Rep])
     |rt d0=>
      have hr':=vE (d:=d0) e2 hmp;subst hr';intro σ1 H1 v H' rv1 fr1 sm rp;refine k v H' (fun b u eb=>sm _ _ (fr1.1 b u eb (noA b)).1) (rp _ fun q hq=>?_);obtain⟨u,hu⟩:=Option.ne_none_iff_exists'.mp hq;have:=fr1.1 q u hu (noA q);exact⟨(by rw[this.1];exact fun z=>nomatch z),this.2⟩
   ·rename_i hmp;obtain⟨ds,r,outs,e,a,k⟩:=h;obtain⟨hlen,o,σ',e1,e2⟩:=unf ds _ e
    have hvl:vs.length=fn.ps:=by rw[<-a.kB.length];exact hlen
    refine⟨_,o,σ',?_,e1,?_⟩
    ·rw[hst,hvl,<-b3];exact BX a hM (fun i hi=>lE (hp2 i hi).2) hlen
    ·-- the lists behind it
     have fin:∀ (d0:RL.D) (σ1:L2.St) (H1 H':Hp) (v:V),RL.aN fn d0 σ'=some (.tup (r::outs))->RVm K fn.M σ' σ1 H1->Fr' fn.M (start d.N vs) H σ1 H1->a6 H1 H'->(d0.imm=true->Rep nP K H' d0 v)->Q v H':=by
      intro d0 σ1 H1 H' v ht rv1 fr1 sm rp;obtain⟨im,os,g1,g2⟩:=Ep ht hmp;cases g2;obtain⟨l1,l2⟩:=rG g1;refine k v H' (fun b u nb eb=>sm _ _ (fr1.1 b u eb fun⟨i,hi,ei⟩=>?_).1) (rp im) im ⟨l1,fun kk pp oo hk ho=>?_⟩
      ·rw[hst,bu]at ei;have h3:=(List.getElem?_eq_some_iff.mp ei).1;exact nb ⟨i,hM i (by lia) hi,ei⟩
      ·have hpm:=List.mem_of_getElem? hk;obtain⟨dp,ap,g3,g4,g5⟩:=a.own pp hpm;have g6:=fr1.2 pp (hp2 pp hpm).2
       have g7:(start d.N vs)[pp]?=some (some (.ref ap)):=by rw[hst,bu];exact g4
       rw[g7]at g6;obtain⟨v',g8,g9⟩:=rv1.val pp oo (l2 kk pp oo hk ho);rw[g6]at g8;cases g8;rw[if_pos (lE (hp2 pp hpm).2)]at g9;exact⟨ap,g4,g9.same sm⟩
     cases o with
     |nx=>
      intro σ1 H1 rv1 fr1
      exact fin .non σ1 H1 H1 .non e2 rv1 fr1 (a6.refl _) fun _=>by rw[Rep]
     |rt d0=>
      intro σ1 H1 v H' rv1 fr1 sm rp;exact fin d0 σ1 H1 H' v e2 rv1 fr1 sm fun im=>rp nP fun _ z=>z.elim
end
abbrev spL(n:Nat)(p:PT')(f:Nat)(K:PySem.W.Frag):Sp:=spF K (RL.a5 p.T n) f
def EN{n:Nat}{p:PT'}{f:Nat}{K:PySem.W.Frag}{H:Hp}{a:Addr}{ns:List Int}(hO:qO H)(hS:SqL K H a (ns.map V.int))(h:RL.a5 p.T n f [.scr (ns.map RL.D.int)]=some (.bl true)):spL n p f K [.ref a] H (fun v _=>v=.bl true) fun _ _ _=>False:=by
 refine⟨_,_,?_,h,fun v H' _ r=>bg r⟩;refine ae.cons ?_ ae.nil;rw[Rep];refine⟨a,ns.map V.int,rfl,?_,?_⟩
 ·rcases hS with(z | ⟨o,z⟩) | z
  ·rcases hO a with q | ⟨o,xs,q⟩
   ·rw[q]at z;cases z
   ·rw[q]at z;cases z
  ·exact .inl ⟨o,z⟩
  ·exact .inr (.inr z)
 ·clear hS h
  induction ns with
  | nil=>exact ae.nil
  | cons i r ih=>exact ae.cons aQ ih
end RS
namespace K27
open PySem PySem.Spec PyProof.Rows L2
abbrev top(i:Nat):Stmt:=PySem.Challenge.pw_ribbonloft_k27_whole_rows_of_great_frame.main.body.getD i (.Pass ⟨0,0,0,0⟩)
abbrev Ds:List RS.oK:=[
 ⟨"is_number",top 7,["value"],["value"]⟩,
 ⟨"is_peg_count",top 8,["value"],["value"]⟩,
 ⟨"check_pegs",top 9,["pegs"],["pegs"]⟩,
 ⟨"is_pairing",top 11,["row"],["row", "place"]⟩,
 ⟨"names_back",top 12,["row", "place"],["row", "place", "other"]⟩,
 ⟨"is_uncrossed",top 13,["row"],["row", "waiting", "place", "other"]⟩,
 ⟨"tie",top 14,["row", "one", "other"],["row", "one", "other"]⟩,
 ⟨"is_frame",top 16,["frame"],["frame", "pegs", "alone", "peg", "other"]⟩,
 ⟨"check_frame",top 17,["frame"],["frame"]⟩,
 ⟨"pegs_of",top 18,["frame"],["frame"]⟩,
 ⟨"plain",top 19,["pegs"],["pegs"]⟩,
 ⟨"ties",top 20,["frame"],["frame", "peg", "other"]⟩,
 ⟨"round_place",top 21,["pegs", "peg"],["pegs", "peg"]⟩,
 ⟨"in_round",top 22,["frame"],["frame", "pegs", "peg"]⟩,
 ⟨"moved",top 23,["frame", "to"],["frame", "to", "ends", "peg", "other"]⟩,
 ⟨"seams",top 25,["frame"],["frame", "pegs", "spans", "seam", "peg", "other", "left", "right"]⟩,
 ⟨"length",top 26,["frame"],["frame"]⟩,
 ⟨"shortest_row",top 27,["frame"],["frame", "rest", "row", "beginnings"]⟩,
 ⟨"neighbours_tied",top 28,["frame", "start"],["frame", "start", "number"]⟩,
 ⟨"take_off",top 29,["frame", "number"],["frame", "number", "left", "right"]⟩,
 ⟨"next_across",top 30,["frame", "seam"],["frame", "seam", "pegs", "around", "peg"]⟩,
 ⟨"made",top 32,["pegs", "row"],["pegs", "row", "frame", "rings", "number"]⟩,
 ⟨"hang_hook",top 33,["frame", "number"],["frame", "number", "left", "right"]⟩,
 ⟨"is_hook",top 34,["pegs", "number"],["pegs", "number"]⟩,
 ⟨"check_row",top 35,["pegs", "row"],["pegs", "row", "number"]⟩,
 ⟨"_law_seams",top 37,["_law_frame_here"],["_law_frame_here", "_law_pegs", "_law_found", "_law_peg", "_law_other", "_law_seam"]⟩,
 ⟨"_law_mix",top 38,["_law_seed"],["_law_seed", "_law_one", "_law_two"]⟩,
 ⟨"_law_raw",top 39,["_law_script", "_law_k"],["_law_script", "_law_k", "_law_cell", "_law_found", "_law_turn"]⟩,
 ⟨"_law_digits",top 40,["_law_script", "_law_k", "_law_sizes"],["_law_script", "_law_k", "_law_sizes", "_law_rest", "_law_found", "_law_size"]⟩,
 ⟨"_law_plain",top 41,["_law_pegs"],["_law_pegs", "_law_peg"]⟩,
 ⟨"_law_hook",top 42,["_law_pegs", "_law_number"],["_law_pegs", "_law_number", "_law_found", "_law_start"]⟩,
 ⟨"_law_circle",top 43,["_law_pegs"],["_law_pegs"]⟩,
 ⟨"_law_from_text",top 44,["_law_text_here"],["_law_text_here", "_law_pegs", "_law_circle_here", "_law_found", "_law_line", "_law_place", "_law_sign", "_law_peg", "_law_other"]⟩,
 ⟨"_law_text",top 45,["_law_raw_here", "_law_pegs"],["_law_raw_here", "_law_pegs", "_law_text_here", "_law_deep", "_law_left", "_law_up", "_law_step"]⟩,
 ⟨"_law_rings_by",top 46,["_law_high", "_law_low", "_law_inner"],["_law_high", "_law_low", "_law_inner", "_law_pegs", "_law_head", "_law_peg", "_law_other", "_law_one", "_law_keep", "_law_go"]⟩,
 ⟨"_law_hung",top 47,["_law_high", "_law_low"],["_law_high", "_law_low", "_law_pegs", "_law_near", "_law_peg", "_law_found", "_law_gone", "_law_here", "_law_turn"]⟩,
 ⟨"_law_over",top 48,["_law_frame_here"],["_law_frame_here", "_law_pegs", "_law_peg"]⟩,
 ⟨"_law_frame",top 49,["_law_script", "_law_k", "_law_pegs"],["_law_script", "_law_k", "_law_pegs", "_law_found", "_law_way", "_law_raw_here", "_law_number"]⟩,
 ⟨"_law_hooks",top 50,["_law_script", "_law_k", "_law_pegs", "_law_size"],["_law_script", "_law_k", "_law_pegs", "_law_size", "_law_found", "_law_start", "_law_steps", "_law_step", "_law_number"]⟩,
 ⟨"_law_stacked",top 51,["_law_pegs", "_law_frames"],["_law_pegs", "_law_frames", "_law_frame_here", "_law_found", "_law_rings", "_law_more"]⟩,
 ⟨"_law_made",top 52,["_law_pegs", "_law_line"],["_law_pegs", "_law_line", "_law_number"]⟩,
 ⟨"_law_right",top 53,["_law_pegs", "_law_frame_here", "_law_told"],["_law_pegs", "_law_frame_here", "_law_told", "_law_due", "_law_at", "_law_seam"]⟩,
 ⟨"law",top 54,["_law_script"],["_law_script", "_law_k", "_law_pegs", "_law_frame_here", "_law_line", "_law_told", "_law_size", "_law_number"]⟩]
abbrev p:RS.PT':=⟨["all", "bool", "enumerate", "int", "isinstance", "len", "list", "max", "min", "range", "set", "sorted", "sum", "tuple"],[("MOST_PEGS",10)],Ds,T⟩
def Hn:p.ok=true:=by decide +kernel
def all1{P:List Value->Prop}(h:∀ a0,P [a0]):∀ us:List Value,us.length=1->P us
 | [a0],_=>h a0
def all2{P:List Value->Prop}(h:∀ a0 a1,P [a0,a1]):∀ us:List Value,us.length=2->P us
 | [a0,a1],_=>h a0 a1
def iO{P:List Value->Prop}(h:∀ a0 a1 a2,P [a0,a1,a2]):∀ us:List Value,us.length=3->P us
 | [a0,a1,a2],_=>h a0 a1 a2
def GY{P:List Value->Prop}(h:∀ a0 a1 a2 a3,P [a0,a1,a2,a3]):∀ us:List Value,us.length=4->P us
 | [a0,a1,a2,a3],_=>h a0 a1 a2 a3
structure aJ(K:PySem.W.Frag)(mg:Str->Option Value)(x:Str)(st:Stmt):Prop where
 ex:∃ f fd,mg x=some (.ref f)/\Fun K x x st f fd/\PySem.W.keepIn K (.ref f)=true
def EJ{K:PySem.W.Frag}{h:Heap}{mg:Str->Option Value}{x:Str}{st:Stmt}{f:Addr}{oc kV dc pm cd ct:Value}{od an:Option Addr}{sl:Array (Option Value)}(X:K.In h)(G:h.Ns mainGlobals mg)(a:PySem.W.nsIn K mainGlobals x=some (some (.ref f)))
 (l:K.lookup f=some ⟨oc,od,.func (PySem.W.fnOf x x (jv st) (fO st) (c8 st) .none kV dc pm an cd ct),sl⟩)(c:PySem.W.codeIn K cd x=true)(k:PySem.W.keepIn K (.ref f)=true):aJ K mg x st :=
 ⟨f,_,PySem.W.mg_of X G a,Di (st:=st) l c k,k⟩
structure tU(K:PySem.W.Frag)(mg:Str->Option Value):Prop where
 d7:aJ K mg "is_number" (top 7)
 d8:aJ K mg "is_peg_count" (top 8)
 d9:aJ K mg "check_pegs" (top 9)
 d11:aJ K mg "is_pairing" (top 11)
 d12:aJ K mg "names_back" (top 12)
 d13:aJ K mg "is_uncrossed" (top 13)
 d14:aJ K mg "tie" (top 14)
 d16:aJ K mg "is_frame" (top 16)
 d17:aJ K mg "check_frame" (top 17)
 d18:aJ K mg "pegs_of" (top 18)
 d19:aJ K mg "plain" (top 19)
 d20:aJ K mg "ties" (top 20)
 d21:aJ K mg "round_place" (top 21)
 d22:aJ K mg "in_round" (top 22)
 d23:aJ K mg "moved" (top 23)
 d25:aJ K mg "seams" (top 25)
 d26:aJ K mg "length" (top 26)
 d27:aJ K mg "shortest_row" (top 27)
 d28:aJ K mg "neighbours_tied" (top 28)
 d29:aJ K mg "take_off" (top 29)
 d30:aJ K mg "next_across" (top 30)
 d32:aJ K mg "made" (top 32)
 d33:aJ K mg "hang_hook" (top 33)
 d34:aJ K mg "is_hook" (top 34)
 d35:aJ K mg "check_row" (top 35)
 d37:aJ K mg "_law_seams" (top 37)
 d38:aJ K mg "_law_mix" (top 38)
 d39:aJ K mg "_law_raw" (top 39)
 d40:aJ K mg "_law_digits" (top 40)
 d41:aJ K mg "_law_plain" (top 41)
 d42:aJ K mg "_law_hook" (top 42)
 d43:aJ K mg "_law_circle" (top 43)
 d44:aJ K mg "_law_from_text" (top 44)
 d45:aJ K mg "_law_text" (top 45)
 d46:aJ K mg "_law_rings_by" (top 46)
 d47:aJ K mg "_law_hung" (top 47)
 d48:aJ K mg "_law_over" (top 48)
 d49:aJ K mg "_law_frame" (top 49)
 d50:aJ K mg "_law_hooks" (top 50)
 d51:aJ K mg "_law_stacked" (top 51)
 d52:aJ K mg "_law_made" (top 52)
 d53:aJ K mg "_law_right" (top 53)
 d54:aJ K mg "law" (top 54)
 FQ:PySem.W.nsIn K mainGlobals "all" = some none
 CQ:PySem.W.nsIn K mainGlobals "bool" = some none
 sW:PySem.W.nsIn K mainGlobals "enumerate" = some none
 GA:PySem.W.nsIn K mainGlobals "int" = some none
 qN:PySem.W.nsIn K mainGlobals "isinstance" = some none
 Gd:PySem.W.nsIn K mainGlobals "len" = some none
 CZ:PySem.W.nsIn K mainGlobals "list" = some none
 Gx:PySem.W.nsIn K mainGlobals "max" = some none
 Gi:PySem.W.nsIn K mainGlobals "min" = some none
 B2:PySem.W.nsIn K mainGlobals "range" = some none
 Gm:PySem.W.nsIn K mainGlobals "set" = some none
 zD:PySem.W.nsIn K mainGlobals "sorted" = some none
 Gv:PySem.W.nsIn K mainGlobals "sum" = some none
 AV:PySem.W.nsIn K mainGlobals "tuple" = some none
 sU:∃ t,PySem.W.nsIn K mainGlobals "MOST_PEGS" = some (some (.int 10 t))
def FE{K:PySem.W.Frag}{h:Heap}{mg:Str->Option Value}(X:K.In h)(G:h.Ns mainGlobals mg)(A:tU K mg):RS.Aj p K mg where
 defs:=by
  intro f d hf
  match f,hf with
  | 0,hf=>cases hf;obtain⟨fa,fd,h1,h2,h3⟩:=A.d7.ex;exact⟨fa,fd,h1,h2,h3,h2.binds (ps:=["value"]) (fun _ _ _ _ _ _=>all1 (fun _=>rfl))⟩
  | 1,hf=>cases hf;obtain⟨fa,fd,h1,h2,h3⟩:=A.d8.ex;exact⟨fa,fd,h1,h2,h3,h2.binds (ps:=["value"]) (fun _ _ _ _ _ _=>all1 (fun _=>rfl))⟩
  | 2,hf=>cases hf;obtain⟨fa,fd,h1,h2,h3⟩:=A.d9.ex;exact⟨fa,fd,h1,h2,h3,h2.binds (ps:=["pegs"]) (fun _ _ _ _ _ _=>all1 (fun _=>rfl))⟩
  | 3,hf=>cases hf;obtain⟨fa,fd,h1,h2,h3⟩:=A.d11.ex;exact⟨fa,fd,h1,h2,h3,h2.binds (ps:=["row"]) (fun _ _ _ _ _ _=>all1 (fun _=>rfl))⟩
  | 4,hf=>cases hf;obtain⟨fa,fd,h1,h2,h3⟩:=A.d12.ex;exact⟨fa,fd,h1,h2,h3,h2.binds (ps:=["row", "place"]) (fun _ _ _ _ _ _=>all2 (fun _ _=>rfl))⟩
  | 5,hf=>cases hf;obtain⟨fa,fd,h1,h2,h3⟩:=A.d13.ex;exact⟨fa,fd,h1,h2,h3,h2.binds (ps:=["row"]) (fun _ _ _ _ _ _=>all1 (fun _=>rfl))⟩
  | 6,hf=>cases hf;obtain⟨fa,fd,h1,h2,h3⟩:=A.d14.ex;exact⟨fa,fd,h1,h2,h3,h2.binds (ps:=["row", "one", "other"]) (fun _ _ _ _ _ _=>iO (fun _ _ _=>rfl))⟩
  | 7,hf=>cases hf;obtain⟨fa,fd,h1,h2,h3⟩:=A.d16.ex;exact⟨fa,fd,h1,h2,h3,h2.binds (ps:=["frame"]) (fun _ _ _ _ _ _=>all1 (fun _=>rfl))⟩
  | 8,hf=>cases hf;obtain⟨fa,fd,h1,h2,h3⟩:=A.d17.ex;exact⟨fa,fd,h1,h2,h3,h2.binds (ps:=["frame"]) (fun _ _ _ _ _ _=>all1 (fun _=>rfl))⟩
  | 9,hf=>cases hf;obtain⟨fa,fd,h1,h2,h3⟩:=A.d18.ex;exact⟨fa,fd,h1,h2,h3,h2.binds (ps:=["frame"]) (fun _ _ _ _ _ _=>all1 (fun _=>rfl))⟩
  | 10,hf=>cases hf;obtain⟨fa,fd,h1,h2,h3⟩:=A.d19.ex;exact⟨fa,fd,h1,h2,h3,h2.binds (ps:=["pegs"]) (fun _ _ _ _ _ _=>all1 (fun _=>rfl))⟩
  | 11,hf=>cases hf;obtain⟨fa,fd,h1,h2,h3⟩:=A.d20.ex;exact⟨fa,fd,h1,h2,h3,h2.binds (ps:=["frame"]) (fun _ _ _ _ _ _=>all1 (fun _=>rfl))⟩
  | 12,hf=>cases hf;obtain⟨fa,fd,h1,h2,h3⟩:=A.d21.ex;exact⟨fa,fd,h1,h2,h3,h2.binds (ps:=["pegs", "peg"]) (fun _ _ _ _ _ _=>all2 (fun _ _=>rfl))⟩
  | 13,hf=>cases hf;obtain⟨fa,fd,h1,h2,h3⟩:=A.d22.ex;exact⟨fa,fd,h1,h2,h3,h2.binds (ps:=["frame"]) (fun _ _ _ _ _ _=>all1 (fun _=>rfl))⟩
  | 14,hf=>cases hf;obtain⟨fa,fd,h1,h2,h3⟩:=A.d23.ex;exact⟨fa,fd,h1,h2,h3,h2.binds (ps:=["frame", "to"]) (fun _ _ _ _ _ _=>all2 (fun _ _=>rfl))⟩
  | 15,hf=>cases hf;obtain⟨fa,fd,h1,h2,h3⟩:=A.d25.ex;exact⟨fa,fd,h1,h2,h3,h2.binds (ps:=["frame"]) (fun _ _ _ _ _ _=>all1 (fun _=>rfl))⟩
  | 16,hf=>cases hf;obtain⟨fa,fd,h1,h2,h3⟩:=A.d26.ex;exact⟨fa,fd,h1,h2,h3,h2.binds (ps:=["frame"]) (fun _ _ _ _ _ _=>all1 (fun _=>rfl))⟩
  | 17,hf=>cases hf;obtain⟨fa,fd,h1,h2,h3⟩:=A.d27.ex;exact⟨fa,fd,h1,h2,h3,h2.binds (ps:=["frame"]) (fun _ _ _ _ _ _=>all1 (fun _=>rfl))⟩
  | 18,hf=>cases hf;obtain⟨fa,fd,h1,h2,h3⟩:=A.d28.ex;exact⟨fa,fd,h1,h2,h3,h2.binds (ps:=["frame", "start"]) (fun _ _ _ _ _ _=>all2 (fun _ _=>rfl))⟩
  | 19,hf=>cases hf;obtain⟨fa,fd,h1,h2,h3⟩:=A.d29.ex;exact⟨fa,fd,h1,h2,h3,h2.binds (ps:=["frame", "number"]) (fun _ _ _ _ _ _=>all2 (fun _ _=>rfl))⟩
  | 20,hf=>cases hf;obtain⟨fa,fd,h1,h2,h3⟩:=A.d30.ex;exact⟨fa,fd,h1,h2,h3,h2.binds (ps:=["frame", "seam"]) (fun _ _ _ _ _ _=>all2 (fun _ _=>rfl))⟩
  | 21,hf=>cases hf;obtain⟨fa,fd,h1,h2,h3⟩:=A.d32.ex;exact⟨fa,fd,h1,h2,h3,h2.binds (ps:=["pegs", "row"]) (fun _ _ _ _ _ _=>all2 (fun _ _=>rfl))⟩
  | 22,hf=>cases hf;obtain⟨fa,fd,h1,h2,h3⟩:=A.d33.ex;exact⟨fa,fd,h1,h2,h3,h2.binds (ps:=["frame", "number"]) (fun _ _ _ _ _ _=>all2 (fun _ _=>rfl))⟩
  | 23,hf=>cases hf;obtain⟨fa,fd,h1,h2,h3⟩:=A.d34.ex;exact⟨fa,fd,h1,h2,h3,h2.binds (ps:=["pegs", "number"]) (fun _ _ _ _ _ _=>all2 (fun _ _=>rfl))⟩
  | 24,hf=>cases hf;obtain⟨fa,fd,h1,h2,h3⟩:=A.d35.ex;exact⟨fa,fd,h1,h2,h3,h2.binds (ps:=["pegs", "row"]) (fun _ _ _ _ _ _=>all2 (fun _ _=>rfl))⟩
  | 25,hf=>cases hf;obtain⟨fa,fd,h1,h2,h3⟩:=A.d37.ex;exact⟨fa,fd,h1,h2,h3,h2.binds (ps:=["_law_frame_here"]) (fun _ _ _ _ _ _=>all1 (fun _=>rfl))⟩
  | 26,hf=>cases hf;obtain⟨fa,fd,h1,h2,h3⟩:=A.d38.ex;exact⟨fa,fd,h1,h2,h3,h2.binds (ps:=["_law_seed"]) (fun _ _ _ _ _ _=>all1 (fun _=>rfl))⟩
  | 27,hf=>cases hf;obtain⟨fa,fd,h1,h2,h3⟩:=A.d39.ex;exact⟨fa,fd,h1,h2,h3,h2.binds (ps:=["_law_script", "_law_k"]) (fun _ _ _ _ _ _=>all2 (fun _ _=>rfl))⟩
  | 28,hf=>cases hf;obtain⟨fa,fd,h1,h2,h3⟩:=A.d40.ex;exact⟨fa,fd,h1,h2,h3,h2.binds (ps:=["_law_script", "_law_k", "_law_sizes"]) (fun _ _ _ _ _ _=>iO (fun _ _ _=>rfl))⟩
  | 29,hf=>cases hf;obtain⟨fa,fd,h1,h2,h3⟩:=A.d41.ex;exact⟨fa,fd,h1,h2,h3,h2.binds (ps:=["_law_pegs"]) (fun _ _ _ _ _ _=>all1 (fun _=>rfl))⟩
  | 30,hf=>cases hf;obtain⟨fa,fd,h1,h2,h3⟩:=A.d42.ex;exact⟨fa,fd,h1,h2,h3,h2.binds (ps:=["_law_pegs", "_law_number"]) (fun _ _ _ _ _ _=>all2 (fun _ _=>rfl))⟩
  | 31,hf=>cases hf;obtain⟨fa,fd,h1,h2,h3⟩:=A.d43.ex;exact⟨fa,fd,h1,h2,h3,h2.binds (ps:=["_law_pegs"]) (fun _ _ _ _ _ _=>all1 (fun _=>rfl))⟩
  | 32,hf=>cases hf;obtain⟨fa,fd,h1,h2,h3⟩:=A.d44.ex;exact⟨fa,fd,h1,h2,h3,h2.binds (ps:=["_law_text_here"]) (fun _ _ _ _ _ _=>all1 (fun _=>rfl))⟩
  | 33,hf=>cases hf;obtain⟨fa,fd,h1,h2,h3⟩:=A.d45.ex;exact⟨fa,fd,h1,h2,h3,h2.binds (ps:=["_law_raw_here", "_law_pegs"]) (fun _ _ _ _ _ _=>all2 (fun _ _=>rfl))⟩
  | 34,hf=>cases hf;obtain⟨fa,fd,h1,h2,h3⟩:=A.d46.ex;exact⟨fa,fd,h1,h2,h3,h2.binds (ps:=["_law_high", "_law_low", "_law_inner"]) (fun _ _ _ _ _ _=>iO (fun _ _ _=>rfl))⟩
  | 35,hf=>cases hf;obtain⟨fa,fd,h1,h2,h3⟩:=A.d47.ex;exact⟨fa,fd,h1,h2,h3,h2.binds (ps:=["_law_high", "_law_low"]) (fun _ _ _ _ _ _=>all2 (fun _ _=>rfl))⟩
  | 36,hf=>cases hf;obtain⟨fa,fd,h1,h2,h3⟩:=A.d48.ex;exact⟨fa,fd,h1,h2,h3,h2.binds (ps:=["_law_frame_here"]) (fun _ _ _ _ _ _=>all1 (fun _=>rfl))⟩
  | 37,hf=>cases hf;obtain⟨fa,fd,h1,h2,h3⟩:=A.d49.ex;exact⟨fa,fd,h1,h2,h3,h2.binds (ps:=["_law_script", "_law_k", "_law_pegs"]) (fun _ _ _ _ _ _=>iO (fun _ _ _=>rfl))⟩
  | 38,hf=>cases hf;obtain⟨fa,fd,h1,h2,h3⟩:=A.d50.ex;exact⟨fa,fd,h1,h2,h3,h2.binds (ps:=["_law_script", "_law_k", "_law_pegs", "_law_size"]) (fun _ _ _ _ _ _=>GY (fun _ _ _ _=>rfl))⟩
  | 39,hf=>cases hf;obtain⟨fa,fd,h1,h2,h3⟩:=A.d51.ex;exact⟨fa,fd,h1,h2,h3,h2.binds (ps:=["_law_pegs", "_law_frames"]) (fun _ _ _ _ _ _=>all2 (fun _ _=>rfl))⟩
  | 40,hf=>cases hf;obtain⟨fa,fd,h1,h2,h3⟩:=A.d52.ex;exact⟨fa,fd,h1,h2,h3,h2.binds (ps:=["_law_pegs", "_law_line"]) (fun _ _ _ _ _ _=>all2 (fun _ _=>rfl))⟩
  | 41,hf=>cases hf;obtain⟨fa,fd,h1,h2,h3⟩:=A.d53.ex;exact⟨fa,fd,h1,h2,h3,h2.binds (ps:=["_law_pegs", "_law_frame_here", "_law_told"]) (fun _ _ _ _ _ _=>iO (fun _ _ _=>rfl))⟩
  | 42,hf=>cases hf;obtain⟨fa,fd,h1,h2,h3⟩:=A.d54.ex;exact⟨fa,fd,h1,h2,h3,h2.binds (ps:=["_law_script"]) (fun _ _ _ _ _ _=>all1 (fun _=>rfl))⟩
  | f+43,hf=>cases hf
 blt:=by
  intro x hx;simp only[p,List.mem_cons,List.mem_nil_iff,or_false]at hx;rcases hx with rfl | rfl | rfl | rfl | rfl | rfl | rfl | rfl | rfl | rfl | rfl | rfl | rfl | rfl
  ·exact PySem.W.mg_none_of X G A.FQ
  ·exact PySem.W.mg_none_of X G A.CQ
  ·exact PySem.W.mg_none_of X G A.sW
  ·exact PySem.W.mg_none_of X G A.GA
  ·exact PySem.W.mg_none_of X G A.qN
  ·exact PySem.W.mg_none_of X G A.Gd
  ·exact PySem.W.mg_none_of X G A.CZ
  ·exact PySem.W.mg_none_of X G A.Gx
  ·exact PySem.W.mg_none_of X G A.Gi
  ·exact PySem.W.mg_none_of X G A.B2
  ·exact PySem.W.mg_none_of X G A.Gm
  ·exact PySem.W.mg_none_of X G A.zD
  ·exact PySem.W.mg_none_of X G A.Gv
  ·exact PySem.W.mg_none_of X G A.AV
 glb:=by
  intro x i hx;obtain⟨t,ht⟩:=A.sU
  have e:x = "MOST_PEGS" /\ i=10:=by
   simp only[p,List.lookup]at hx;split at hx
   ·rename_i he;cases hx;exact⟨by simpa using he,rfl⟩
   ·cases hx
  obtain⟨rfl,rfl⟩:=e;exact⟨_,PySem.W.mg_of X G ht,t,rfl⟩
end K27
end
namespace PySem.W.Fast
local macro_rules|`(universe $x*)=>do pure (Lean.mkNullNode (<-x.mapM fun x=>`(theorem $(Lean.mkIdent (.mkSimple s!"tw{x.getId.toString.foldl (fun a c=>52*a+c.toNat-if c.toNat<97 then 65 else 71) 0}")) :True:=trivial)))
universe BEvkkNtNWcSY CMwSluAiFVyI BlRqdUXVukuo CEKRWlZLgqJs knycIgAcHmY TcQWAUwLHZc BzraZaEksgAg ByzZgdChhQwg CRFFwjAPoAog wStuFPFFHqI BAtGvjxEeekw RntlCpsnCpM CVQmrgrohGIA CNhXaAHJeayY CQwLNkLlonU mDZtILZMaHV MnahiRjgGcR mvWoxHaewcR CAChoIHfjwMx GGUrnkXmomJ CCGJYGSHkByJ HkqYoleFcYB HkybOhVZAYh BdrrDteeCkCZ oVxpThSBetd bqSXMnioIER vyGGpBrPzEh BJTJhCVHbCmJ HJyHOGaIYDF YavfiKJQEiZ QVpIbwmugXV MTqRjpScjnF CFRseyATZUsx BUmIgfHTntTV BFEWOuHVtKpt BxgDvMonAieK bOmrAIPSKte QqYvEjqfDnm CPDFzxzEGOGq BUHwWzIFpfsi wYAFEBHowrm dQqRLGzDYrm BXWmDXrXGoBO GWCEQDNTFUC yjtcwgWvNCK sAssUKxvzBe BSlFqgRePTHm bpXbxyOCyMS BxuAWdjAMRXG BEmZPzqARjCK BkUpOfzCrGCa BxUpQzidMfXH KhxoXPzFEZv pZBhTlqSKgj jcwuACAgKPX BSBqudkOcfVv BzybCjsMPngz CWbZKwoBkHub hMScQxXgQIj BdkcvjJIfFNP BNDtSHhsMiDn tipITDyPtQz BeBBLFTqSbgU lRTEfxXeEus BAQXjcqUYSVA BZrkHFqqndQ CPTGCIpxYSRw CScbCHXgbMFg vvBZWvBnIlg NdiJFeVpMic ffIeNVAZMnY BBBzjHHwTcgk nafcXlmEBrY CMEXmNrAlCQk mfhvCFctSQl jgEiithJziN BSObFPxpxSKd puUuuQQdjaN CWSQBFtrEGrK CCXUraofGGfa BRoTnWdTobiO BnJBaByvRUdi BvgyniAaMkWO BmfHJoBafFty BgwHoHopTHVS BCQJopVeWHnK BmeGBNgodvhC BVMrgRrFhCoG rmoOjifdCRz BRDbvGlErkev kmbfVMQXUCf BsNCqIHLlUVj CRgnRlEcBlYX BEEisZuoOoZz BUaZvVUDNWwH BfFnIJQOwcmP CABwJfMpcvZj CUeDaXIrNevb OlqKHNtsYCf BuWCrnVFctiP BiCPnWfcIkUX yDZcLTYwGQn FLcPvlPeTLb hVfMWligqJT xwnyWDsHUSf gutYMWyknYX BxYePIJfTzPM BIuCTBsCtNZk CHniNEIoVpHs NDYiWtbgYEY mKjDUbnKIuw SGkcdCzwyzM xWoWwUpCUlE BSrSfHVNATEI klSJmCOhHIY BHQVjqQGdFnM CCqNYXDjDEKg CCScPwTDFTco thkHZCOhWrN LUVePdHYaYp BSeqCJjnbzvt EXwJJmtVMQJ BLKBHkTofZNV BwAPXIYQVwWx BHPTHGDMmEUZ eusrXuDxtMJ JhMgMMhfvKR dzSxYvqmGIp BTWJMArwCXzd wfJDQLdmCNG PmiIEeClrKS BcNoEUXUbnPu BuRwmKGPeeSC IooyQmCdQfe CEeKXCfyjHga BmgVscFcMisa CWFGJmrpNPHP CWlfWOSbaGgr BHRjwjovcOz FegbkVajNPv BzwFwcfIltrf BywdlBbCRRmj CSGUMInSFVXv XOheOuwdgwM BJHYoWEObwwM BBczDskozfvw bvlModSfCQM xsNOhyrAXRI bXRYBNIcAgs iKNlJnsuTSU CJyVbVxnIFBo BbwAxQobMtIc BqAUBHHekGrQ BuBKklVUNnjA BEkjVGzNhsDQ BXelhVvCFiqE CXLZRETKOkDR IjyqSYHbQNp cuAOJFaacLx BnvBXJbxlOvB BogIcDAMlLel BcREwmejiEbR RDFhKJRDnrh BPIcdoFgjGzx CHzIenzDnEUd BaTPlhIBSpbh GbCzJgwqpDh BcdUsrXpSCdp BqqdlwkShfDB FkxtIAVmdWF hsuuUkmrSbx znvwSxPcQXB wGubcUTUvRJ BumVEsLQqlqV BgSHKrdRBoRa BWFlAAvNnoni BdVIhmBaaHpK DLAonBiARBq jmhLmnvyvGm CVDBMhNvvZxq DYwMpLumznT BigpDwRMggv scmlWpXtRMv CDmrsxCvNkgP CRYOJfxQaeZb dQwiZRlirun CQoRvuKYqbdb BrFBmPSJYiyI jntMsQKFVLk CGDYzxrhBbZM CHCIbsRpgBsw BmewoUcweeyo BHnbEgACOjSY bjhEiKTNbDk BZZeimECNEYw fJOsnkcrYfk BgUjWqnJhFOI BzhvNBcGQynE BFtuMUQZLVIA CIwzwICfPGIw BLWkaxWMowfE pDhOehrNoww BRPAWnhqSoEg arWLXFzDyaJ txPmBcUWnER BMuuinHcqHwh BGNlFZYhVewR kkAqvBcTgWZ BWRKxMmXZDqZ CKhUdaOoKFIB BvutfZeCOiEB yHjUunHOSEh BRTjWTnbRoC vJGzyqcJIYy mReKLlJArwC BoIufustwWlu CXMbRsIqjyCq vuHbNtXUYwy BVixeBnEMzde PrKLfhdkfLm ByVimVhmxTDH SxxTINQChbn CBEMhKMKvRXX BfxzTSLxjJtf CQvBwmEYSooT MpnGXxvsRTH PYXMOYeFVRv BySZyunCNztf BjaeieuwUjRP BnNmsQotoJWL kWxFIDpaLab BPfkrfPzaxLH BnzARXEojCfn CIPVuEVsQoHH BEpBikwHeWQU wYwPXQsxxvY CQtdnpdNbLbo BfTPYfMstXwE BCsKHcuiIsCM eRnFrndoSVw wfdnGKuLoXI CFPVhmNuArAF yFXgpQcfbpx BDbPjmuHvUmd BQEsbUFEItGt BUSGhLRqOIOd NUSPzKUUrSd CAhvQzdlPStx BbVVWNcbveqN CCYWAnujCmVx BEkYNypmnOue BDSUCUTebunK CSgjZNAXoDIm COugPlXJJsHq BVtuRsGoTNIG BjZdeDmouFXa CAgroRBJfvlC rGvlrRndIpD EjTvLlWosVz rQPWljHTVsX BVbkPAMwBZEX CQDAhsLXBOfL CRGCIokfFfcX oaeDeQWPsZD BsrfvrtzDhlj CVtjzlOONKlT CQXjntIHkvkX CLoCflLsTYiQ BjdNuqbZGmgY lTfncIiJUpE ZrdwMdrEUHs CSUgvPsodWqw BZDadFaXhmmg BphaIYIihTvc BKLcDKUKhUkI ZQzjViAIMGA YqXvUCJQYmA rHKZUOCKXrM ByRubZcdoNNE BVRTmmhvjnCg BhgbtJndQyeg BhxERgslggsI BYsOcMJhfiso BYfDimHKdVop zhBImLjiWkJ BKGFSkZgrJDt BckhxFfHFJah kMBgKebEJjN HtyKyFMHtex jDBDFQEuJKh BGvpiMAlocoZ CTiJCcQJxDtF BjSitbaaDOuh CUhRjtDRRlNl BXLUWPraRVNl iREduGbGJNG lkxANFDJikK CEPIBatmBIYa COgVeQOTUmi BCkbbRWlsjDu BjSYIPkmgZCi ByRGwBkcRRxW CNYbzoRkWxJW CFDwsDExjoK hZJEFRLdcpG CARcTZXvFllG zBDKwXnXLSC BgBzxfivgkXO BIBlnZphTrGz BdMIwJZoREEL CMxvIarMENzv BRCJFSEiCWpH CSbJnnNIRTAr nFmkqcEOaz FjPXGWzTltH BfWPGJcbtEaz dQDIiBRUIZn BuSQBaFbpxoL CJtJqWchlwfw xoJrxVJEBVI BPIyGnFPmCGk BvQnUhsSgloM wfztBTHhfHA CAHWSBdSgCxo OruXydFVkJI BZbxSqxjtKsM CJGsrCapuruU CVKDKBqIqewc BPvHXLYwsDCk CCCPYdsKmGLg ICfbntcFUxI CPnvEHJwMTrx VXLoVurVGCV BqixjCnvvGCV BnDFAZZPYXbx BnGvhEtNWXlJ BuEqtxROjGyV cPBPllIEUUu CEHarpQUGVTS tzfXZwlxsLC BrRCzhPMwEPS BDnwuQcRnvTy KcoEjDhQbBa BypWVIBKhMpq CTrQSjDszEDi BetaWXLQqfQO rIeWGemAxTy BVbiYWgffFbT CPStvXKVhTz CHBjYiMbyStb BGueEBtPSZQv BwxqAkhrRkZL CAOrQwdtEEJL BefFChLFsoRr BXgLWIMKOgsP CODlgPquPsGn CCRtJkUHMJdL BkRdtUAaUfFr MgbAjkCVbgP CFsWxJLGVeAr
end PySem.W.Fast
open PySem PySem.W PyProof.Rows
set_option maxRecDepth 100000 in
set_option maxHeartbeats 0 in
theorem PySem.Challenge.cw_ribbonloft_k27_whole_rows_of_great_frame_holds : PySem.Challenge.rw_ribbonloft_k27_whole_rows_of_great_frame.Holds := by
 w_on;o_law;k_head;(case hw=>w_witness2)
 k_fill
 refine L2.Ab (l:=PySem.Challenge.rw_ribbonloft_k27_whole_rows_of_great_frame) (n:=63) (k:=30) (x := "_law_script") (CX:=L2.CX0) (sp:=RS.spL 30 K27.p 42) rfl (by decide) rfl ⟨rfl,by decide,by decide⟩ (fun w h Y=>PySem.W.kIn_of Y) ?F ?S ?C
 case F =>
  intro w mg fa h KX G hmg
  have T:K27.tU (L2.KOf KX) mg:=by
   dsimp only[L2.KOf];constructor
   iterate 43 (refine' K27.EJ KX G ?a ?l ?c ?k;(case a=>k_is);(case l=>k_is);(case c=>k_is);(case k=>k_is))
   iterate 14 k_is
   exact⟨_,by k_is⟩
  have tp:=K27.FE KX G T;obtain⟨fa',fd,h1,h2,h3,h4⟩:=tp.defs 42 _ rfl;have e0:=hmg.symm.trans h1;cases e0;refine⟨fd,fun s u=>?_,fun base kb nb=>RS.wg K27.Hn tp 30 42 _ _ rfl rfl _ _ h2⟩;obtain⟨oc,od,kV,doc,pm,an,cdv,ct,osl,e9,_,_⟩:=h2.ex;subst e9;exact .of_eq rfl
 case S=>exact fun K H a ns hl hO hS=>RS.EN hO hS (K27.main ns hl)
 case C=>exact fun _ _ _ _ h=>h
