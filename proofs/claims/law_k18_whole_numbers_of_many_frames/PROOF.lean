import PyProof.Rows.All
import Wide.All
import OpenK.AllK
import Wide.FinOn
import PyProof.EqAt
import PyProof.EqKinds
import PyProof.TupleCall
import PySem.Str
import PyProof.NeKinds
import PyProof.CompMap
import PyProof.CompFree
import PyProof.EnumMake
import PyProof.Draws
import PyProof.ListRange
import PyProof.ConsumeWalk
import PyProof.Rows.SetFrom
import PyProof.SetRoads
import PyProof.ZipIter
import PyProof.Rows.SumAny
import PyProof.Rows.SortWalk
import PyProof.Rows.SeqMore2
import PyProof.Rows.SeqMore
import PyProof.StrWalks
import PyProof.SliceStr2
import PyProof.StrBlockI
import PyProof.StrOps2
import PySem.SetOps
import PyProof.SetScanFacts
import KE.KDictSum
import PyProof.DictWalks
import PyProof.DictRoadsH
import PyProof.ExcAttrAll.ValueError
import PyProof.ExcBaseAll.ValueError
import PyProof.Rows.FStr
import PyProof.Rows.StrJoin2
import PyProof.TableCode
import PySem.Challenge.RW_ribbonloft_k18_whole_numbers_of_many_fra
set_option Elab.async false
set_option linter.all false
set_option maxRecDepth 100000
set_option maxHeartbeats 4000000
set_option autoImplicit true
set_option relaxedAutoImplicit true
set_option genSizeOf false
set_option genSizeOfSpec false
set_option genInjectivity false
section
local macro_rules
|`(def $d $s:optDeclSig $v:declVal)=>`(theorem $d $(Lean.TSyntax.mk (Lean.mkNode ``Lean.Parser.Command.declSig #[s.raw[0],s.raw[1][0]])):declSig $v:declVal)
|`(abbrev $d $s:optDeclSig $v:declVal)=>`(noncomputable def $d $s:optDeclSig $v:declVal)
namespace RL
open PySem (Str)
@[reducible]noncomputable def Ky:=Sum Int Str
set_option genInjectivity true in
inductive D where
 | non
 | bl (b:Bool)
 | int (i:Int)
 | str (x:Str)
 | tup (xs:List D)
 | lst (xs:List D)
 | dK (ks:List Ky) (vs:List D)
 | dT (ks:List (List Ky)) (vs:List D)
 | scr (xs:List D)
 | exc (c:Str)
 | fT (ks:List (List Ky))
 deriving Inhabited
mutual
noncomputable def D.imm:D->Bool
 | .tup xs=>ao xs
 | .lst _=>false
 | .dK _ _=>false
 | .dT _ _=>false
 | .scr xs=>ao xs
 | _=>true
noncomputable def ao:List D->Bool
 | []=>true
 | d::r=>d.imm&&ao r
end
inductive Bop where | add | sub | mul | fdiv | mod | pow
 deriving DecidableEq
inductive Cop where | lt | le | gt | ge | eq | ne
 deriving DecidableEq
inductive Bi where | len | list | tuple | int | all | any | lenSet | sorted | sortedSet | abs | sum | sortedS
 deriving DecidableEq
inductive Ty where | int | bool | list | tuple | str
 deriving DecidableEq
mutual
inductive E where
 | var (i:Nat)
 | cst (d:D)
 | glb (x:Str) (i:Int)
 | bin (o:Bop) (a b:E)
 | cmp (c:Cop) (a b:E)
 | chain (c c':Cop) (a b e:E)
 | isN (neg:Bool) (a:E)
 | inn (neg:Bool) (a b:E)
 | inD (neg:Bool) (a b:E)
 | and (a b:E)
 | or (a b:E)
 | not (a:E)
 | ifx (t a b:E)
 | tup (es:Es)
 | lst (es:Es)
 | ix (a b:E)
 | ixD (a b:E)
 | slT (a b:E)
 | call (f:Nat) (es:Es)
 | bi (b:Bi) (a:E)
 | max (a b:E)
 | min (a b:E)
 | isi (a:E) (t:Ty)
 | rng1 (a:E)
 | rng2 (a b:E)
 | rng3 (c:Int) (a b:E)
 | neg (a:E)
 | comp (e:E) (tg:List Nat) (it:It) (c:E)
 | compA (e:E) (tg:List Nat) (it:It)
 | index (a b:E)
 | chain3 (c c' c'':Cop) (a b e g:E)
 | join (a:E)
 | dk0
 | dt0
inductive Es where
 | nil
 | cons (e:E) (es:Es)
inductive It where
 | seq (e:E)
 | rng1 (a:E)
 | rng2 (a b:E)
 | rng3 (c:Int) (a b:E)
 | chr (e:E)
 | enm (e:E)
 | zip (a b:E)
end
mutual
inductive S where
 | asg (i:Nat) (e:E)
 | own (i:Nat) (e:E)
 | unp (is:List Nat) (e:E)
 | par (i j:Nat) (a b:E)
 | app (i:Nat) (e:E)
 | put (i:Nat) (k e:E)
 | pop (i j:Nat)
 | aug (i:Nat) (o:Bop) (e:E)
 | augs (i:Nat) (e:E)
 | ife (t:E) (a b:Ss)
 | ifp (i:Nat) (e:E) (a b:Ss)
 | forr (tg:List Nat) (it:It) (b:Ss)
 | tie3 (f r p w:Nat)
 | ret (e:E)
 | exc (e:E)
 | rais (c:Str) (ps:Es)
inductive Ss where
 | nil
 | cons (s:S) (r:Ss)
 | opn (j:Nat) (e:E) (r:Sq)
inductive Sq where
 | cls (r:Ss)
 | cons (s:S) (r:Sq)
 | opn (j:Nat) (e:E) (r:Sq)
 | frz (j:Nat) (r:Ss)
end
@[reducible]noncomputable def St:=List (Option D)
@[reducible]noncomputable def Cl:=Nat->List D->Option D
abbrev most:Nat:=100000
abbrev cW{α:Type}(xs:List α)(i:Int):Option α :=
 if 0<=i then xs[i.toNat]? else if -(xs.length:Int)<=i then xs[(i+xs.length).toNat]? else none
abbrev kU(n:Nat)(i:Int):Option Nat :=
 if 0<=i then(if i<n then some i.toNat else none)else if -(n:Int)<=i then some (i+n).toNat else none
abbrev cutAt(n:Nat)(i:Int):Nat:=if 0<=i then min i.toNat n else(i+n).toNat
abbrev a5:Bop->D->D->Option D
 | .add,.int a,.int b=>some (.int (a+b))
 | .add,.str a,.str b=>if a.length+b.length<=most then some (.str (a++b))else none
 | .add,.lst a,.lst b=>if a.length+b.length<=most then some (.lst (a++b))else none
 | .add,.tup a,.tup b=>if a.length+b.length<=most/\0<a.length then some (.tup (a++b))else none
 | .sub,.int a,.int b=>some (.int (a-b))
 | .mul,.int a,.int b=>if(-(2 ^ 64)<a/\a<2 ^ 64)\/(-(2 ^ 64)<b/\b<2 ^ 64)then some (.int (a*b))else none
 | .mul,.lst a,.int b=>if 0<=b/\b<=most/\a.length*b.toNat<=most then some (.lst (List.replicate b.toNat a).flatten)else none
 | .fdiv,.int a,.int b=>if 0<b/\b<2 ^ 200 then some (.int (a / b))else none
 | .mod,.int a,.int b=>if 0<b then some (.int (a%b))else none
 | .pow,.int a,.int b=>if 0<=b/\b<=1000/\a.natAbs<2 ^ 64 then some (.int (a ^ b.toNat))else none
 | _,_,_=>none
abbrev eqs(f:D->D->Option Bool):List D->List D->Option Bool
 | a::r,b::s=>(f a b).bind fun e=>(eqs f r s).map fun k=>e&&k
 | _,_=>some true
abbrev eqD:Nat->D->D->Option Bool
 | _,.int a,.int b=>some (a == b)
 | _,.str a,.str b=>some (a == b)
 | _,.bl a,.bl b=>some (a == b)
 | n+1,.tup a,.tup b=>(eqs (eqD n) a b).map fun k=>k&&a.length == b.length
 | n+1,.lst a,.lst b=>(eqs (eqD n) a b).map fun k=>k&&a.length == b.length
 | _,_,_=>none
abbrev aO:Cop->D->D->Option Bool
 | .lt,.int a,.int b=>some (decide (a<b))
 | .le,.int a,.int b=>some (decide (a<=b))
 | .gt,.int a,.int b=>some (decide (b<a))
 | .ge,.int a,.int b=>some (decide (b<=a))
 | .eq,a,b=>eqD 8 a b
 | .ne,a,b=>(eqD 8 a b).map not
 | _,_,_=>none
abbrev truth:D->Option Bool
 | .bl b=>some b
 | .lst xs=>some (!xs.isEmpty)
 | .tup xs=>some (!xs.isEmpty)
 | .int i=>some (i != 0)
 | _=>none
abbrev bJ:List D->Option (List Int)
 | []=>some []
 | .int i::r=>(bJ r).map (i :: ·)
 | _=>none
abbrev bX:List D->Option (List Bool)
 | []=>some []
 | .bl i::r=>(bX r).map (i :: ·)
 | _=>none
abbrev strs?:List D->Option (List Str)
 | []=>some []
 | .str i::r=>(strs? r).map (i :: ·)
 | _=>none
abbrev cD(a:Int):List Int->List Int
 | []=>[a]
 | b::r=>if a<=b then a::b::r else b::cD a r
abbrev sortI:List Int->List Int
 | []=>[]
 | a::r=>cD a (sortI r)
abbrev eR(xs:List Int):List Int:=xs.foldl (fun m k=>if m.any (· == k)then m else m++[k]) []
abbrev items:D->Option (List D)
 | .lst xs=>some xs
 | .tup xs=>some xs
 | _=>none
abbrev cA:D->Option (List D)
 | .lst xs=>some xs
 | .tup xs=>some xs
 | .str x=>some (x.cps.toList.map fun c=>.str ⟨#[c]⟩)
 | _=>none
abbrev lD:List Str->Bool
 | a::b::r=>!decide (b.cps.toList<a.cps.toList)&&lD (b::r)
 | _=>true
abbrev biV:Bi->D->Option D
 | .len,.str x=>if x.length<=most then some (.int x.length)else none
 | .len,.dK ks _=>some (.int ks.length)
 | .len,.dT ks _=>some (.int ks.length)
 | .len,d=>(items d).map fun xs=>.int xs.length
 | .list,d=>(items d).map .lst
 | .tuple,d=>(items d).map .tup
 | .int,.bl b=>some (.int (if b then 1 else 0))
 | .int,.int i=>some (.int i)
 | .int,_=>none
 | .all,.lst xs=>(bX xs).map fun bs=>.bl (bs.all id)
 | .any,.lst xs=>(bX xs).map fun bs=>.bl (bs.any id)
 | .all,_=>none
 | .any,_=>none
 | .lenSet,.lst xs=>if xs.length<=1000 then(bJ xs).map fun is=>.int (eR is).length else none
 | .lenSet,_=>none
 | .sorted,.lst xs=>if xs.length<64 then(bJ xs).map fun is=>.lst ((sortI is).map .int)else none
 | .sorted,_=>none
 | .sortedSet,.lst xs=>if xs.length<=5 then(bJ xs).map fun is=>.lst ((sortI (eR is)).map .int)else none
 | .sortedSet,_=>none
 | .abs,.int i=>some (.int (if i<0 then -i else i))
 | .abs,_=>none
 | .sortedS,.lst xs=>(strs? xs).bind fun ss=>if lD ss then some (.lst xs)else none
 | .sortedS,_=>none
 | .sum,.lst xs=>(bJ xs).map fun is=>.int is.sum
 | .sum,_=>none
abbrev fh:Ty->D->Option Bool
 | .int,.int _=>some true
 | .int,.bl _=>some true
 | .bool,.bl _=>some true
 | .list,.lst _=>some true
 | .tuple,.tup _=>some true
 | .str,.str _=>some true
 | _,.non=>some false
 | _,.bl _=>some false
 | _,.int _=>some false
 | _,.str _=>some false
 | _,.tup _=>some false
 | _,.lst _=>some false
 | _,_=>none
abbrev keyOf:D->Option Ky
 | .int i=>some (.inl i)
 | .str x=>some (.inr x)
 | _=>none
abbrev keysOf:List D->Option (List Ky)
 | []=>some []
 | d::r=>(keyOf d).bind fun k=>(keysOf r).map (k :: ·)
abbrev aB{κ:Type} [DecidableEq κ]:List κ->List D->κ->Option D
 | k::ks,v::vs,x=>if k=x then some v else aB ks vs x
 | _,_,_=>none
abbrev putD{κ:Type} [DecidableEq κ](ks:List κ)(vs:List D)(x:κ)(d:D):List κ × List D :=
 if x∈ks then(ks,List.zipWith (fun k v=>if k=x then d else v) ks vs)else(ks++[x],vs++[d])
abbrev ixV:D->D->Option D
 | .lst xs,.int i=>cW xs i
 | .tup xs,.int i=>cW xs i
 | .str x,.int i=>if x.length<=most then(cW x.cps.toList i).map fun c=>.str ⟨#[c]⟩else none
 | _,_=>none
abbrev mP:D->D->Option D
 | .dK ks vs,k=>(keyOf k).bind (aB ks vs)
 | .dT ks vs,.tup k=>(keysOf k).bind (aB ks vs)
 | _,_=>none
abbrev Io:D->D->D->Option D
 | .dK ks vs,k,z=>(keyOf k).map fun q=>(aB ks vs q).getD z
 | .dT ks vs,.tup k,z=>(keysOf k).map fun q=>(aB ks vs q).getD z
 | _,_,_=>none
abbrev qW:D->D->Option Bool
 | .dK ks vs,k=>(keyOf k).map fun k=>(aB ks vs k).isSome
 | .dT ks vs,.tup k=>(keysOf k).map fun k=>(aB ks vs k).isSome
 | .fT ks,.tup k=>(keysOf k).map fun k=>ks.any fun x=>decide (x=k)
 | _,_=>none
abbrev flat:D->Bool
 | .int _=>true
 | .str _=>true
 | _=>false
abbrev eqF:D->D->Bool
 | .int a,.int b=>a == b
 | .str a,.str b=>a == b
 | _,_=>false
abbrev inV(a b:D):Option Bool :=
 (items b).bind fun xs=>if flat a&&xs.all flat then some (xs.any fun x=>eqF x a)else none
abbrev qb:D->D->Option D
 | .scr xs,.int k=>some (.lst (xs.take (cutAt xs.length k)))
 | .lst xs,.int k=>some (.lst (xs.take (cutAt xs.length k)))
 | .tup xs,.int k=>if cutAt xs.length k<xs.length then some (.tup (xs.take (cutAt xs.length k)))else none
 | _,_=>none
abbrev cu(lo:Int):Nat->List D
 | 0=>[]
 | n+1=>.int lo::cu (lo+1) n
abbrev b8(c lo:Int):Nat->List D
 | 0=>[]
 | n+1=>.int lo::b8 c (lo+c) n
abbrev bp(c a b:Int):Nat:=(if c > 0 then(if a<b then(b-a-1) / c+1 else 0)else(if a > b then(a-b-1) / (-c)+1 else 0)).toNat
abbrev dm:D->D->Option (List D)
 | .int a,.int b=>if(b-a).toNat<=most/\-(2 ^ 60)<=a/\a<2 ^ 60/\-(2 ^ 60)<=b/\b<2 ^ 60 then some (cu a (b-a).toNat)else none
 | _,_=>none
abbrev dS(c:Int):D->D->Option (List D)
 | .int a,.int b=>if c≠0/\-(2 ^ 60)<c/\c<2 ^ 60/\bp c a b<=most/\-(2 ^ 60)<=a/\a<2 ^ 60/\-(2 ^ 60)<=b/\b<2 ^ 60 then some (b8 c a (bp c a b))else none
 | _,_=>none
abbrev c8(i:Int):List D->List D
 | []=>[]
 | d::r=>.tup [.int i,d]::c8 (i+1) r
abbrev eh:List D->List D->List D
 | a::r,b::s=>.tup [a,b]::eh r s
 | _,_=>[]
abbrev bG:List Nat->List D->St->Option St
 | [],[],σ=>some σ
 | i::is,d::ds,σ=>bG is ds (σ.set i (some d))
 | _,_,_=>none
abbrev aP(tg:List Nat)(d:D)(σ:St):Option St :=
 match tg with
 | [i]=>some (σ.set i (some d))
 | tg=>match d with
  | .tup ds=>bG tg ds σ
  | .lst ds=>bG tg ds σ
  | _=>none
abbrev jS(y:Option D)(ys:List D):Option (List D) :=
 match y with
 | some e=>if e.imm then some (e::ys)else none
 | none=>some ys
abbrev cj(f:St->Option (Option D))(tg:List Nat)(σ:St):List D->Option (List D)
 | []=>some []
 | d::r=>(aP tg d σ).bind fun σ1=>(f σ1).bind fun y=>(cj f tg σ r).bind (jS y)
abbrev aA:D->Bool
 | .lst xs=>ao xs
 | .dK _ vs=>ao vs
 | .dT _ vs=>ao vs
 | _=>false
abbrev GR(f:St->Option D)(fr:Bool)(tg:List Nat)(σ:St):List D->Option (List D)
 | []=>some []
 | d::r=>(aP tg d σ).bind fun σ1=>(f σ1).bind fun y=>if aA y&&fr then(GR f fr tg σ r).map (y :: ·)else none
abbrev fits(xs:List D):Option (List D):=if xs.length<=most then some xs else none
abbrev aD:E->Bool
 | .lst _=>true
 | .tup _=>true
 | .comp _ _ _ _=>true
 | .compA _ _ _=>true
 | .bin _ _ _=>true
 | .slT _ _=>true
 | .call _ _=>true
 | .bi _ _=>true
 | .rng1 _=>true
 | .rng2 _ _=>true
 | .rng3 _ _ _=>true
 | .dk0=>true
 | .dt0=>true
 | _=>false
abbrev zV(n c:Str):Bool:=n == c || c == "RibbonError" || c == "ValueError"
abbrev D6(neg:Bool):D->Option D
 | .non=>some (.bl (!neg))
 | .dK _ _=>none
 | .dT _ _=>none
 | .fT _=>none
 | _=>some (.bl neg)
abbrev uz(y:Option D):D->Option D
 | .bl true=>y
 | .bl false=>some (.bl false)
 | _=>none
abbrev orV(y:Option D):D->Option D
 | .bl false=>y
 | .bl true=>some (.bl true)
 | _=>none
abbrev y9:D->Option D
 | .int i=>some (.int (-i))
 | _=>none
abbrev zt:D->D->Option D
 | .int i,.int j=>some (.int (if j > i then j else i))
 | _,_=>none
abbrev yA:D->D->Option D
 | .int i,.int j=>some (.int (if j<i then j else i))
 | _,_=>none
abbrev vg:D->D->Option D
 | .lst xs,.int i=>(bJ xs).bind fun is=>if i∈is then some (.int (is.idxOf i))else none
 | _,_=>none
abbrev Ii:D->D->Option D
 | .str x,.str y=>match y.cps.toList with
  | [c]=>some (.int (x.cps.toList.count c:Nat))
  | _=>none
 | _,_=>none
abbrev Ip:D->D->Option D
 | .str x,.int k=>if 0<=k/\x.length<=most then some (.str ⟨(x.cps.toList.take k.toNat).toArray⟩)else none
 | _,_=>none
abbrev Iq:D->D->Option D
 | .str x,.int k=>if 0<=k/\x.length<=most then some (.str ⟨(x.cps.toList.drop k.toNat).toArray⟩)else none
 | _,_=>none
abbrev Ir:D->D->D->D->Option D
 | .str x,y,.str z,w=>if x≠z/\y.imm=true/\w.imm=true then some (.dK [.inr x,.inr z] [y,w])else none
 | _,_,_,_=>none
abbrev Ik:D->D->Option D
 | .str x,.int n=>if 1<n/\n<=1000/\0<x.length/\x.length<=100 then some (.str ⟨(List.replicate n.toNat x.cps.toList).flatten.toArray⟩)else none
 | _,_=>none
abbrev oR:D->Option D
 | .lst xs=>(strs? xs).bind fun ss=>if ss.length<=most/\ss.all (fun s=>s.length<=100)then some (.str ⟨(ss.flatMap fun s=>s.cps.toList).toArray⟩)else none
 | _=>none
abbrev kyD:Ky->D
 | .inl i=>.int i
 | .inr x=>.str x
abbrev Il:D->Option (List D)
 | .fT ks=>some (ks.map fun k=>.tup (k.map kyD))
 | _=>none
abbrev HJ:D->Option D
 | .dT ks _=>some (.fT ks)
 | _=>none
abbrev Fo:D->Option (List D)
 | .str x=>cA (.str x)
 | _=>none
@[simp] theorem sv_andt {y:Option D}:uz y (.bl true)=y:=rfl
@[simp] theorem sv_andf {y:Option D}:uz y (.bl false)=some (.bl false):=rfl
@[simp] theorem sv_ort {y:Option D}:orV y (.bl true)=some (.bl true):=rfl
@[simp] theorem sv_orf {y:Option D}:orV y (.bl false)=y:=rfl
@[simp] theorem sv_max {i j:Int}:zt (.int i) (.int j)=some (.int (if j > i then j else i)):=rfl
@[simp] theorem sv_min {i j:Int}:yA (.int i) (.int j)=some (.int (if j<i then j else i)):=rfl
@[simp] theorem sv_neg {i:Int}:y9 (.int i)=some (.int (-i)):=rfl
mutual
noncomputable def ev(cl:Cl)(σ:St):E->Option D
 | .var i=>(σ[i]?).bind id
 | .cst d=>some d
 | .glb _ i=>some (.int i)
 | .bin o a b=>(ev cl σ a).bind fun x=>(ev cl σ b).bind fun y=>a5 o x y
 | .cmp c a b=>(ev cl σ a).bind fun x=>(ev cl σ b).bind fun y=>(aO c x y).map .bl
 | .chain c c' a b e=>(ev cl σ a).bind fun x=>(ev cl σ b).bind fun y=>(aO c x y).bind fun k=>if k then(ev cl σ e).bind fun z=>(aO c' y z).map .bl else some (.bl false)
 | .isN neg a=>(ev cl σ a).bind (D6 neg)
 | .inn neg a b=>(ev cl σ a).bind fun x=>(ev cl σ b).bind fun y=>(inV x y).map fun k=>.bl (if neg then !k else k)
 | .inD neg a b=>(ev cl σ a).bind fun x=>(ev cl σ b).bind fun y=>(qW y x).map fun k=>.bl (if neg then !k else k)
 | .and a b=>(ev cl σ a).bind (uz (ev cl σ b))
 | .or a b=>(ev cl σ a).bind (orV (ev cl σ b))
 | .not a=>((ev cl σ a).bind truth).map fun k=>.bl (!k)
 | .ifx t a b=>((ev cl σ t).bind truth).bind fun k=>if k then ev cl σ a else ev cl σ b
 | .tup es=>(evs cl σ es).map .tup
 | .lst es=>(evs cl σ es).map .lst
 | .ix a b=>(ev cl σ a).bind fun x=>(ev cl σ b).bind fun y=>ixV x y
 | .ixD a b=>(ev cl σ a).bind fun x=>(ev cl σ b).bind fun y=>mP x y
 | .slT a b=>(ev cl σ a).bind fun x=>(ev cl σ b).bind fun y=>qb x y
 | .call f es=>(evs cl σ es).bind fun ds=>cl f ds
 | .bi b a=>(ev cl σ a).bind fun x=>biV b x
 | .max a b=>(ev cl σ a).bind fun x=>(ev cl σ b).bind fun y=>zt x y
 | .min a b=>(ev cl σ a).bind fun x=>(ev cl σ b).bind fun y=>yA x y
 | .isi a t=>(ev cl σ a).bind fun x=>(fh t x).map .bl
 | .rng1 a=>(ev cl σ a).bind fun x=>(dm (.int 0) x).map .lst
 | .rng2 a b=>(ev cl σ a).bind fun x=>(ev cl σ b).bind fun y=>(dm x y).map .lst
 | .rng3 c a b=>(ev cl σ a).bind fun x=>(ev cl σ b).bind fun y=>(dS c x y).map .lst
 | .neg a=>(ev cl σ a).bind y9
 | .comp e tg it c=>(aU cl σ it).bind fun ds=>(fits ds).bind fun ds=>(cj (fun σ1=>((ev cl σ1 c).bind truth).bind fun k=>if k then(ev cl σ1 e).map some else some none) tg σ ds).map .lst
 | .compA e tg it=>(aU cl σ it).bind fun ds=>(fits ds).bind fun ds=>(cj (fun σ1=>(ev cl σ1 e).map some) tg σ ds).map .lst
 | .index a b=>(ev cl σ a).bind fun x=>(ev cl σ b).bind fun y=>vg x y
 | .join a=>(ev cl σ a).bind oR
 | .chain3 c c' c'' a b e g=>(ev cl σ a).bind fun x=>(ev cl σ b).bind fun y=>(aO c x y).bind fun k=>if k then(ev cl σ e).bind fun z=>(aO c' y z).bind fun k'=>if k' then(ev cl σ g).bind fun w=>(aO c'' z w).map .bl else some (.bl false)else some (.bl false)
 | .dk0=>some (.dK [] [])
 | .dt0=>some (.dT [] [])
noncomputable def evs(cl:Cl)(σ:St):Es->Option (List D)
 | .nil=>some []
 | .cons e es=>(ev cl σ e).bind fun d=>(evs cl σ es).map (d :: ·)
noncomputable def aU(cl:Cl)(σ:St):It->Option (List D)
 | .seq e=>(ev cl σ e).bind items
 | .rng1 a=>(ev cl σ a).bind fun x=>dm (.int 0) x
 | .rng2 a b=>(ev cl σ a).bind fun x=>(ev cl σ b).bind fun y=>dm x y
 | .rng3 c a b=>(ev cl σ a).bind fun x=>(ev cl σ b).bind fun y=>dS c x y
 | .chr e=>(ev cl σ e).bind Fo
 | .enm e=>(ev cl σ e).bind fun x=>(cA x).map (c8 0)
 | .zip a b=>(ev cl σ a).bind fun x=>(ev cl σ b).bind fun y=>(items x).bind fun xs=>(items y).bind fun ys=>if xs.length=ys.length then some (eh xs ys)else none
end
abbrev clX(cl:Cl)(f:Nat)(ds:List D):Option Str:=(cl (f+1000) ds).bind fun d=>match d with
 | .str x=>some x
 | _=>none
mutual
noncomputable def evX(cl:Cl)(σ:St):E->Option Str
 | .call f es=>match evs cl σ es with
  | some ds=>clX cl f ds
  | none=>CG cl σ es
 | .ix a _=>evX cl σ a
 | _=>none
noncomputable def CG(cl:Cl)(σ:St):Es->Option Str
 | .nil=>none
 | .cons e es=>match ev cl σ e with
  | some _=>CG cl σ es
  | none=>evX cl σ e
end
abbrev written:D->Bool
 | .int i=>decide (i.natAbs<2 ^ 1900)
 | _=>false
inductive Out where
 | nx
 | rt (d:D)
abbrev avE(M:List Nat):E->Bool
 | .var j=>!M.contains j
 | .ix a _=>avE M a
 | .call _ _=>true
 | .ifx _ a b=>avE M a&&avE M b
 | _=>false
abbrev uL(M:List Nat):It->Bool
 | .seq e=>avE M e || aD e
 | .enm e=>avE M e || aD e
 | .zip a b=>(avE M a || aD a)&&(avE M b || aD b)
 | _=>true
abbrev bo(M:List Nat)(e:E)(d:D):Bool :=
 d.imm || (aA d&&(aD e || match e with | .var i=>M.contains i | _=>false))
abbrev bu(M:List Nat)(e:E)(d:D):Bool:=d.imm || (aA d&&aD e) || avE M e
abbrev isVar:E->Bool
 | .var _=>true
 | _=>false
abbrev Ee(M ps:List Nat):Nat->Es->List D->Bool
 | _,.nil,[]=>true
 | q,.cons e es,d::ds=>(if ps.contains q then isVar e else bu M e d)&&Ee M ps (q+1) es ds
 | _,_,_=>false
abbrev eN:D->D->D->Option D
 | .lst xs,.int k,d=>(kU xs.length k).map fun j=>.lst (xs.set j d)
 | .dK ks vs,k,d=>(keyOf k).bind fun k=>if ks.length<most then some (.dK (putD ks vs k d).1 (putD ks vs k d).2)else none
 | .dT ks vs,.tup k,d=>(keysOf k).bind fun k=>if ks.length<most then some (.dT (putD ks vs k d).1 (putD ks vs k d).2)else none
 | _,_,_=>none
abbrev bb(f:St->Option (Out × St))(tg:List Nat):List D->St->Option (Out × St)
 | [],σ=>some (.nx,σ)
 | d::r,σ=>if d.imm then(aP tg d σ).bind fun σ1=>(f σ1).bind fun p=>match p.1 with
   | .nx=>bb f tg r p.2
   | .rt d=>some (.rt d,p.2)
  else none
abbrev whF(t:St->Option Bool)(f:St->Option (Out × St)):Nat->St->Option (Out × St)
 | 0,_=>none
 | n+1,σ=>(t σ).bind fun k=>if k then(f σ).bind fun p=>match p.1 with
   | .nx=>whF t f n p.2
   | .rt d=>some (.rt d,p.2)
  else some (.nx,σ)
abbrev Al(f:St->Option (Out × St))(fx:St->Option (Str × St))(tg:List Nat):List D->St->Option (Str × St)
 | [],_=>none
 | d::r,σ=>if d.imm then(aP tg d σ).bind fun σ1=>match f σ1 with
   | some p=>match p.1 with
    | .nx=>Al f fx tg r p.2
    | .rt _=>none
   | none=>fx σ1
  else none
abbrev x8:D->Option (D × D)
 | .lst xs=>(xs[xs.length-1]?).map fun d=>(d,.lst xs.dropLast)
 | _=>none
abbrev Iu:D->Option D
 | .lst xs=>some (.lst xs.reverse)
 | _=>none
abbrev Gi(σ:St)(r w:Nat)(l:D):D->Option (Out × St)
 | .tup [_,R]=>some (.nx,(σ.set w (some l)).set r (some R))
 | _=>none
abbrev zE:D->D->Option D
 | .str a,.str b=>if a.length+b.length<=most then some (.str (a++b))else none
 | _,_=>none
mutual
noncomputable def evS(cl:Cl)(M:List Nat):S->St->Option (Out × St)
 | .asg i e,σ=>(ev cl σ e).bind fun d=>if bu M e d then some (.nx,σ.set i (some d))else none
 | .own i e,σ=>(ev cl σ e).bind fun d=>if aA d&&aD e then some (.nx,σ.set i (some d))else none
 | .unp is e,σ=>(ev cl σ e).bind fun d=>(items d).bind fun ds=>if ao ds then(bG is ds σ).map fun σ1=>(.nx,σ1)else none
 | .par i j a b,σ=>(ev cl σ a).bind fun x=>(ev cl σ b).bind fun y=>if x.imm&&y.imm then some (.nx,(σ.set i (some x)).set j (some y))else none
 | .app i e,σ=>(ev cl σ e).bind fun d=>((σ[i]?).bind id).bind fun l=>match l with
  | .lst xs=>if d.imm&&decide (xs.length<most)then some (.nx,σ.set i (some (.lst (xs++[d]))))else none
  | _=>none
 | .put i k e,σ=>(ev cl σ e).bind fun d=>(ev cl σ k).bind fun kk=>((σ[i]?).bind id).bind fun l=>if d.imm then(eN l kk d).map fun l'=>(.nx,σ.set i (some l'))else none
 | .pop i j,σ=>((σ[i]?).bind id).bind fun l=>match l with
  | .lst xs=>(xs[xs.length-1]?).map fun d=>(.nx,(σ.set i (some (.lst xs.dropLast))).set j (some d))
  | _=>none
 | .aug i o e,σ=>((σ[i]?).bind id).bind fun x=>(ev cl σ e).bind fun y=>match x,y with
  | .int a,.int b=>(a5 o (.int a) (.int b)).map fun z=>(.nx,σ.set i (some z))
  | _,_=>none
 | .augs i e,σ=>((σ[i]?).bind id).bind fun x=>(ev cl σ e).bind fun y=>(zE x y).map fun z=>(.nx,σ.set i (some z))
 | .ife t a b,σ=>((ev cl σ t).bind truth).bind fun k=>if k then ah cl M a σ else ah cl M b σ
 | .ifp i e a b,σ=>((σ[i]?).bind id).bind fun l=>match l with
  | .lst xs=>(xs[xs.length-1]?).bind fun d=>(ev cl (σ.set i (some (.lst xs.dropLast))) e).bind fun y=>match d,y with
   | .int p,.int q=>if decide (p=q)then ah cl M b (σ.set i (some (.lst xs.dropLast)))else ah cl M a (σ.set i (some (.lst xs.dropLast)))
   | _,_=>none
  | _=>none
 | .forr tg it b,σ=>(aU cl σ it).bind fun ds=>bb (ah cl M b) tg ds σ
 | .tie3 f r p w,σ=>((σ[r]?).bind id).bind fun R=>((σ[p]?).bind id).bind fun x=>((σ[w]?).bind id).bind fun l=>(x8 l).bind fun q=>if x.imm then(cl f [R,x,q.1]).bind (Gi σ r w q.2)else none
 | .ret e,σ=>(ev cl σ e).bind fun d=>if bo M e d then some (.rt d,σ)else none
 | .exc e,σ=>(ev cl σ e).map fun _=>(.nx,σ)
 | .rais _ _,_=>none
noncomputable def ah(cl:Cl)(M:List Nat):Ss->St->Option (Out × St)
 | .nil,σ=>some (.nx,σ)
 | .cons s r,σ=>(evS cl M s σ).bind fun p=>match p.1 with
  | .nx=>ah cl M r p.2
  | .rt d=>some (.rt d,p.2)
 | .opn j e r,σ=>(ev cl σ e).bind fun d=>if aA d&&aD e then u5 cl M (j::M) r (σ.set j (some d))else none
noncomputable def u5(cl:Cl)(M:List Nat):List Nat->Sq->St->Option (Out × St)
 | _,.cls r,σ=>ah cl M r σ
 | M1,.cons s r,σ=>(evS cl M1 s σ).bind fun p=>match p.1 with
  | .nx=>u5 cl M M1 r p.2
  | .rt _=>none
 | M1,.opn j e r,σ=>(ev cl σ e).bind fun d=>if aA d&&aD e then u5 cl M (j::M1) r (σ.set j (some d))else none
 | _,.frz j r,σ=>(((σ[j]?).bind id).bind HJ).bind fun d=>ah cl M r (σ.set j (some d))
noncomputable def HK(cl:Cl)(M:List Nat):S->St->Option (Str × St)
 | .asg _ e,σ=>(evX cl σ e).map fun x=>(x,σ)
 | .own _ e,σ=>(evX cl σ e).map fun x=>(x,σ)
 | .unp _ e,σ=>(evX cl σ e).map fun x=>(x,σ)
 | .exc e,σ=>(evX cl σ e).map fun x=>(x,σ)
 | .ret e,σ=>(evX cl σ e).map fun x=>(x,σ)
 | .ife t a b,σ=>((ev cl σ t).bind truth).bind fun k=>if k then my cl M a σ else my cl M b σ
 | .forr tg it b,σ=>(aU cl σ it).bind fun ds=>Al (ah cl M b) (my cl M b) tg ds σ
 | .rais c ps,σ=>(evs cl σ ps).bind fun ds=>if ds.all written then some (c,σ)else none
 | _,_=>none
noncomputable def my(cl:Cl)(M:List Nat):Ss->St->Option (Str × St)
 | .nil,_=>none
 | .cons s r,σ=>match evS cl M s σ with
  | some p=>match p.1 with
   | .nx=>my cl M r p.2
   | .rt _=>none
  | none=>HK cl M s σ
 | .opn _ _ _,_=>none
end
def aJ:ev cl σ (.var i)=((σ[i]?).bind id):=rfl
def bZ:ev cl σ (.cst d)=(some d):=rfl
def FK:ev cl σ (.glb y1 i)=(some (.int i)):=rfl
def bR:ev cl σ (.bin o a b)=((ev cl σ a).bind fun x=>(ev cl σ b).bind fun y=>a5 o x y):=rfl
def dY:ev cl σ (.cmp c a b)=((ev cl σ a).bind fun x=>(ev cl σ b).bind fun y=>(aO c x y).map .bl):=rfl
def mL:ev cl σ (.chain c c' a b e)=((ev cl σ a).bind fun x=>(ev cl σ b).bind fun y=>(aO c x y).bind fun k=>if k then(ev cl σ e).bind fun z=>(aO c' y z).map .bl else some (.bl false)):=rfl
def FV:ev cl σ (.isN neg a)=((ev cl σ a).bind (D6 neg)):=rfl
def FO:ev cl σ (.inn neg a b)=((ev cl σ a).bind fun x=>(ev cl σ b).bind fun y=>(inV x y).map fun k=>.bl (if neg then !k else k)):=rfl
def tY:ev cl σ (.inD neg a b)=((ev cl σ a).bind fun x=>(ev cl σ b).bind fun y=>(qW y x).map fun k=>.bl (if neg then !k else k)):=rfl
def m8:ev cl σ (.and a b)=((ev cl σ a).bind (uz (ev cl σ b))):=rfl
def uE:ev cl σ (.or a b)=((ev cl σ a).bind (orV (ev cl σ b))):=rfl
def oJ:ev cl σ (.not a)=(((ev cl σ a).bind truth).map fun k=>.bl (!k)):=rfl
def uC:ev cl σ (.ifx t a b)=(((ev cl σ t).bind truth).bind fun k=>if k then ev cl σ a else ev cl σ b):=rfl
def j6:ev cl σ (.tup es)=((evs cl σ es).map .tup):=rfl
def ka:ev cl σ (.lst es)=((evs cl σ es).map .lst):=rfl
def i0:ev cl σ (.ix a b)=((ev cl σ a).bind fun x=>(ev cl σ b).bind fun y=>ixV x y):=rfl
def hW:ev cl σ (.ixD a b)=((ev cl σ a).bind fun x=>(ev cl σ b).bind fun y=>mP x y):=rfl
def Gv:ev cl σ (.slT a b)=((ev cl σ a).bind fun x=>(ev cl σ b).bind fun y=>qb x y):=rfl
def df:ev cl σ (.call f es)=((evs cl σ es).bind fun ds=>cl f ds):=rfl
def gH:ev cl σ (.bi b a)=((ev cl σ a).bind fun x=>biV b x):=rfl
def FU:ev cl σ (.max a b)=((ev cl σ a).bind fun x=>(ev cl σ b).bind fun y=>zt x y):=rfl
def G5:ev cl σ (.min a b)=((ev cl σ a).bind fun x=>(ev cl σ b).bind fun y=>yA x y):=rfl
def Gq:ev cl σ (.isi a t)=((ev cl σ a).bind fun x=>(fh t x).map .bl):=rfl
def vR:ev cl σ (.rng1 a)=((ev cl σ a).bind fun x=>(dm (.int 0) x).map .lst):=rfl
def Fs:ev cl σ (.rng3 c a b)=((ev cl σ a).bind fun x=>(ev cl σ b).bind fun y=>(dS c x y).map .lst):=rfl
def FW:ev cl σ (.neg a)=((ev cl σ a).bind y9):=rfl
def xm:ev cl σ (.comp e tg it c)=((aU cl σ it).bind fun ds=>(fits ds).bind fun ds=>(cj (fun σ1=>((ev cl σ1 c).bind truth).bind fun k=>if k then(ev cl σ1 e).map some else some none) tg σ ds).map .lst):=rfl
def iE:ev cl σ (.compA e tg it)=((aU cl σ it).bind fun ds=>(fits ds).bind fun ds=>(cj (fun σ1=>(ev cl σ1 e).map some) tg σ ds).map .lst):=rfl
def AU:ev cl σ (.index a b)=((ev cl σ a).bind fun x=>(ev cl σ b).bind fun y=>vg x y):=rfl
def zx:ev cl σ (.chain3 c c' c'' a b e g)=((ev cl σ a).bind fun x=>(ev cl σ b).bind fun y=>(aO c x y).bind fun k=>if k then(ev cl σ e).bind fun z=>(aO c' y z).bind fun k'=>if k' then(ev cl σ g).bind fun w=>(aO c'' z w).map .bl else some (.bl false)else some (.bl false)):=rfl
def zJ:ev cl σ (.dk0)=(some (.dK [] [])):=rfl
def G1:ev cl σ (.dt0)=(some (.dT [] [])):=rfl
def eP:evS cl M (.asg i e) σ=((ev cl σ e).bind fun d=>if bu M e d then some (.nx,σ.set i (some d))else none):=rfl
def kD:evS cl M (.own i e) σ=((ev cl σ e).bind fun d=>if aA d&&aD e then some (.nx,σ.set i (some d))else none):=rfl
def FN:evS cl M (.unp is e) σ=((ev cl σ e).bind fun d=>(items d).bind fun ds=>if ao ds then(bG is ds σ).map fun σ1=>(.nx,σ1)else none):=rfl
def zP:evS cl M (.par i j a b) σ=((ev cl σ a).bind fun x=>(ev cl σ b).bind fun y=>if x.imm&&y.imm then some (.nx,(σ.set i (some x)).set j (some y))else none):=rfl
def tU:evS cl M (.app i e) σ=((ev cl σ e).bind fun d=>((σ[i]?).bind id).bind fun l=>match l with
  | .lst xs=>if d.imm&&decide (xs.length<most)then some (.nx,σ.set i (some (.lst (xs++[d]))))else none
  | _=>none):=rfl
def fv:evS cl M (.put i k e) σ=((ev cl σ e).bind fun d=>(ev cl σ k).bind fun kk=>((σ[i]?).bind id).bind fun l=>if d.imm then(eN l kk d).map fun l'=>(.nx,σ.set i (some l'))else none):=rfl
def s_pop:evS cl M (.pop i j) σ=(((σ[i]?).bind id).bind fun l=>match l with
  | .lst xs=>(xs[xs.length-1]?).map fun d=>(.nx,(σ.set i (some (.lst xs.dropLast))).set j (some d))
  | _=>none):=rfl
def Gu:evS cl M (.aug i o e) σ=(((σ[i]?).bind id).bind fun x=>(ev cl σ e).bind fun y=>match x,y with
  | .int a,.int b=>(a5 o (.int a) (.int b)).map fun z=>(.nx,σ.set i (some z))
  | _,_=>none):=rfl
def F4:evS cl M (.augs i e) σ=(((σ[i]?).bind id).bind fun x=>(ev cl σ e).bind fun y=>(zE x y).map fun z=>(.nx,σ.set i (some z))):=rfl
def dB:evS cl M (.ife t a b) σ=(((ev cl σ t).bind truth).bind fun k=>if k then ah cl M a σ else ah cl M b σ):=rfl
def Gh:evS cl M (.ifp i e a b) σ=(((σ[i]?).bind id).bind fun l=>match l with
  | .lst xs=>(xs[xs.length-1]?).bind fun d=>(ev cl (σ.set i (some (.lst xs.dropLast))) e).bind fun y=>match d,y with
   | .int p,.int q=>if decide (p=q)then ah cl M b (σ.set i (some (.lst xs.dropLast)))else ah cl M a (σ.set i (some (.lst xs.dropLast)))
   | _,_=>none
  | _=>none):=rfl
def d6:evS cl M (.forr tg it b) σ=((aU cl σ it).bind fun ds=>bb (ah cl M b) tg ds σ):=rfl
def cY:evS cl M (.ret e) σ=((ev cl σ e).bind fun d=>if bo M e d then some (.rt d,σ)else none):=rfl
def GJ:evS cl M (.exc e) σ=((ev cl σ e).map fun _=>(.nx,σ)):=rfl
def xj:evS cl M (.rais y1 y2) σ=(none):=rfl
def Hr:a5 .add (.str a) (.str b)=(if a.length+b.length<=most then some (.str (a++b))else none):=rfl
def Cm:a5 .add (.lst a) (.lst b)=(if a.length+b.length<=most then some (.lst (a++b))else none):=rfl
def D3:a5 .mul (.int a) (.int b)=(if(-(2 ^ 64)<a/\a<2 ^ 64)\/(-(2 ^ 64)<b/\b<2 ^ 64)then some (.int (a*b))else none):=rfl
def GN:a5 .mul (.lst a) (.int b)=(if 0<=b/\b<=most/\a.length*b.toNat<=most then some (.lst (List.replicate b.toNat a).flatten)else none):=rfl
def Hd:a5 .fdiv (.int a) (.int b)=(if 0<b/\b<2 ^ 200 then some (.int (a / b))else none):=rfl
def Hn:a5 .mod (.int a) (.int b)=(if 0<b then some (.int (a%b))else none):=rfl
def E6:aO .ge (.int a) (.int b)=(some (decide (b<=a))):=rfl
def E5:aO .eq a b=(eqD 8 a b):=rfl
def DI:eN (.lst xs) (.int k) d=((kU xs.length k).map fun j=>.lst (xs.set j d)):=rfl
def x9:eN (.dK ks vs) k d=((keyOf k).bind fun k=>if ks.length<most then some (.dK (putD ks vs k d).1 (putD ks vs k d).2)else none):=rfl
def C8:eN (.dT ks vs) (.tup k) d=((keysOf k).bind fun k=>if ks.length<most then some (.dT (putD ks vs k d).1 (putD ks vs k d).2)else none):=rfl
def du:aP [i] d σ=some (σ.set i (some d)):=rfl
def CZ:aP (a::b::t) (.tup ds) σ=bG (a::b::t) ds σ:=rfl
def BY:bG [] [] σ=some σ:=rfl
def Dp:bG (i::is) (d::ds) σ=bG is ds (σ.set i (some d)):=rfl
def uI:eqD n (.int a) (.int b)=some (a == b):=by cases n<;>rfl
def tK:eqD n (.str a) (.str b)=some (a == b):=by cases n<;>rfl
def tW:eqD n (.bl a) (.bl b)=some (a == b):=by cases n<;>rfl
def HC:eqD (n+1) (.tup a) (.tup b)=(eqs (eqD n) a b).map fun k=>k&&a.length == b.length:=rfl
def Hi:eqD (n+1) (.lst a) (.lst b)=(eqs (eqD n) a b).map fun k=>k&&a.length == b.length:=rfl
def Gw:biV .len (.lst xs)=some (.int xs.length):=rfl
def Ad:biV .len (.tup xs)=some (.int xs.length):=rfl
def GO:biV .list d=(items d).map .lst:=rfl
def qu:biV .tuple d=(items d).map .tup:=rfl
def DW:biV .int (.bl b)=some (.int (if b then 1 else 0)):=rfl
def HD:biV .all (.lst xs)=(bX xs).map fun bs=>.bl (bs.all id):=rfl
def zK:biV .lenSet (.lst xs)=if xs.length<=1000 then(bJ xs).map fun is=>.int (eR is).length else none:=rfl
def Aa:biV .len (.str x)=if x.length<=most then some (.int x.length)else none:=rfl
def FT:biV .sorted (.lst xs)=if xs.length<64 then(bJ xs).map fun is=>.lst ((sortI is).map .int)else none:=rfl
def F8:biV .sortedSet (.lst xs)=if xs.length<=5 then(bJ xs).map fun is=>.lst ((sortI (eR is)).map .int)else none:=rfl
def Af:biV .sortedS (.lst xs)=(strs? xs).bind fun ss=>if lD ss then some (.lst xs)else none:=rfl
def Hv:avE M (.call f es)=true:=rfl
def Ho:avE M (.var j)=!M.contains j:=rfl
set_option autoImplicit false
structure Fn where
 ps:Nat
 nn:Nat
 M:List Nat
 mp:List Nat
 body:Ss
abbrev gA(σ:St):List Nat->Option (List D)
 | []=>some []
 | i::is=>((σ[i]?).bind id).bind fun d=>(gA σ is).map (d :: ·)
abbrev aS(fn:Fn)(d:D)(σ:St):Option D :=
 if fn.mp.isEmpty then some d else if d.imm then(gA σ fn.mp).map fun os=>.tup (d::os)else none
abbrev au(T:List Fn):Nat->Cl
 | 0,_,_=>none
 | n+1,f,ds=>match T[f]? with
  | some fn=>if ds.length=fn.ps then(ah (au T n) fn.M fn.body (ds.map some++List.replicate (fn.nn-fn.ps) none)).bind fun p=>match p.1 with
   | .nx=>aS fn .non p.2
   | .rt d=>aS fn d p.2
   else none
  | none=>(T[f-1000]?).bind fun fn=>if ds.length=fn.ps/\fn.mp=[]then(my (au T n) fn.M fn.body (ds.map some++List.replicate (fn.nn-fn.ps) none)).map fun p=>.str p.1 else none
end RL
namespace RT
open RL
abbrev i8:Fn :=
 ⟨1,1,[],[],(.cons (.ret (.and (.isi (.var 0) .int) (.not (.isi (.var 0) .bool)))) .nil)⟩
abbrev di(f_is_number:Nat):Fn :=
 ⟨1,1,[],[],(.cons (.ret (.and (.call f_is_number (.cons (.var 0) .nil)) (.chain .le .le (.cst (.int 1)) (.var 0) (.glb "MOST_PEGS" 10)))) .nil)⟩
abbrev dZ(f_is_peg_count:Nat):Fn :=
 ⟨1,1,[],[],(.cons (.ife (.not (.call f_is_peg_count (.cons (.var 0) .nil))) (.cons (.rais "BadPegs" (.cons (.glb "MOST_PEGS" 10) .nil)) .nil) .nil) .nil)⟩
abbrev oU:Fn :=
 ⟨3,3,[0,0],[0],(.cons (.put 0 (.var 1) (.var 2)) (.cons (.put 0 (.var 2) (.var 1)) .nil))⟩
abbrev iw:Fn :=
 ⟨1,1,[],[],(.cons (.ret (.bin .fdiv (.bi .len (.var 0)) (.cst (.int 2)))) .nil)⟩
abbrev jM:Fn :=
 ⟨1,3,[],[],(.cons (.asg 1 (.bin .mod (.bin .add (.bin .mul (.var 0) (.cst (.int 48271))) (.cst (.int 11))) (.cst (.int 2147483647)))) (.cons (.asg 2 (.bin .mod (.bin .add (.bin .add (.bin .mul (.var 1) (.var 1)) (.bin .mul (.cst (.int 40692)) (.var 1))) (.var 0)) (.cst (.int 2147483399)))) (.cons (.ret (.bin .mod (.bin .add (.bin .add (.bin .mul (.var 2) (.var 2)) (.bin .mul (.cst (.int 69621)) (.var 2))) (.var 1)) (.cst (.int 2147483563)))) .nil)))⟩
abbrev je(f_law_mix:Nat):Ss :=
 (.cons (.asg 3 (.bin .add (.bin .mul (.var 3) (.cst (.int 2147483563))) (.call f_law_mix (.cons (.bin .add (.bin .add (.var 2) (.bin .mul (.cst (.int 1009)) (.var 1))) (.bin .mul (.cst (.int 7919)) (.var 4))) .nil)))) .nil)
abbrev jF(f_law_mix:Nat):Fn :=
 ⟨2,5,[],[],(.cons (.asg 2 (.bin .add (.bin .mul (.cst (.int 7)) (.var 1)) (.cst (.int 3)))) (.cons (.ife (.cmp .gt (.bi .len (.var 0)) (.cst (.int 0))) (.cons (.asg 2 (.bin .add (.ix (.var 0) (.bin .mod (.var 1) (.bi .len (.var 0)))) (.bin .mul (.cst (.int 9973)) (.bin .fdiv (.var 1) (.bi .len (.var 0)))))) .nil) .nil) (.cons (.ife (.and (.cmp .lt (.var 1) (.bi .len (.var 0))) (.cmp .ge (.var 2) (.bin .pow (.cst (.int 10)) (.cst (.int 18))))) (.cons (.ret (.bin .sub (.var 2) (.bin .pow (.cst (.int 10)) (.cst (.int 18))))) .nil) .nil) (.cons (.asg 3 (.cst (.int 0))) (.cons (.forr [4] (.rng1 (.cst (.int 40))) (je f_law_mix)) (.cons (.ret (.var 3)) .nil))))))⟩
abbrev fP(f_law_raw:Nat):Ss :=
 (.cons (.app 4 (.bin .mod (.var 3) (.var 5))) (.cons (.asg 3 (.bin .fdiv (.var 3) (.var 5))) .nil))
abbrev et(f_law_raw:Nat):Fn :=
 ⟨3,6,[4],[],(.cons (.asg 3 (.call f_law_raw (.cons (.var 0) (.cons (.var 1) .nil)))) (.cons (.own 4 (.lst .nil)) (.cons (.forr [5] (.seq (.var 2)) (fP f_law_raw)) (.cons (.ret (.var 4)) .nil))))⟩
abbrev gX(f_names_back:Nat):Fn :=
 ⟨1,2,[],[],(.cons (.ret (.and (.isi (.var 0) .tuple) (.bi .all (.compA (.call f_names_back (.cons (.var 0) (.cons (.var 1) .nil))) [1] (.rng1 (.bi .len (.var 0))))))) .nil)⟩
abbrev gS(f_is_number:Nat):Fn :=
 ⟨2,3,[],[],(.cons (.asg 2 (.ix (.var 0) (.var 1))) (.cons (.ret (.and (.call f_is_number (.cons (.var 2) .nil)) (.and (.chain .le .lt (.cst (.int 0)) (.var 2) (.bi .len (.var 0))) (.cmp .eq (.ix (.var 0) (.var 2)) (.var 1))))) .nil))⟩
abbrev bC:Ss :=
 (.cons (.ife (.cmp .gt (.var 3) (.var 2)) (.cons (.app 1 (.var 2)) .nil) (.cons (.ife (.cmp .eq (.var 3) (.var 2)) (.cons (.ife (.var 1) (.cons (.ret (.cst (.bl false))) .nil) .nil) .nil) (.cons (.ifp 1 (.var 3) (.cons (.ret (.cst (.bl false))) .nil) .nil) .nil)) .nil)) .nil)
abbrev eW:Fn :=
 ⟨1,4,[1],[],(.cons (.own 1 (.lst .nil)) (.cons (.forr [2,3] (.enm (.var 0)) (bC)) (.cons (.ret (.cst (.bl true))) .nil)))⟩
abbrev fX(f_is_uncrossed f_in_round f_is_pairing f_is_peg_count f_pegs_of:Nat):Fn :=
 ⟨1,5,[],[],(.cons (.asg 1 (.call f_pegs_of (.cons (.var 0) .nil))) (.cons (.ife (.or (.cmp .ne (.bi .len (.var 0)) (.bin .mul (.cst (.int 2)) (.var 1))) (.or (.not (.call f_is_peg_count (.cons (.var 1) .nil))) (.not (.call f_is_pairing (.cons (.var 0) .nil))))) (.cons (.ret (.cst (.bl false))) .nil) .nil) (.cons (.asg 2 (.comp (.var 3) [3,4] (.enm (.var 0)) (.cmp .eq (.var 3) (.var 4)))) (.cons (.ret (.and (.not (.var 2)) (.call f_is_uncrossed (.cons (.call f_in_round (.cons (.var 0) .nil)) .nil)))) .nil))))⟩
abbrev dC(f_is_frame:Nat):Fn :=
 ⟨1,1,[],[],(.cons (.ife (.not (.call f_is_frame (.cons (.var 0) .nil))) (.cons (.rais "BadFrame" .nil) .nil) .nil) .nil)⟩
abbrev cQ:Fn :=
 ⟨2,2,[],[],(.cons (.ret (.ifx (.cmp .lt (.var 1) (.var 0)) (.var 1) (.bin .sub (.bin .sub (.bin .mul (.cst (.int 3)) (.var 0)) (.cst (.int 1))) (.var 1)))) .nil)⟩
abbrev eu(f_moved f_round_place f_pegs_of:Nat):Fn :=
 ⟨1,3,[],[],(.cons (.asg 1 (.call f_pegs_of (.cons (.var 0) .nil))) (.cons (.ret (.call f_moved (.cons (.var 0) (.cons (.compA (.call f_round_place (.cons (.var 1) (.cons (.var 2) .nil))) [2] (.rng1 (.bin .mul (.cst (.int 2)) (.var 1)))) .nil)))) .nil))⟩
abbrev kX:Ss :=
 (.cons (.put 2 (.ix (.var 1) (.var 3)) (.ix (.var 1) (.var 4))) .nil)
abbrev iR:Fn :=
 ⟨2,5,[2],[],(.cons (.own 2 (.bin .mul (.lst (.cons (.cst (.int 0)) .nil)) (.bi .len (.var 0)))) (.cons (.forr [3,4] (.enm (.var 0)) (kX)) (.cons (.ret (.bi .tuple (.var 2))) .nil)))⟩
abbrev d9:Fn :=
 ⟨1,2,[],[],(.cons (.ret (.bi .tuple (.bin .add (.compA (.bin .add (.var 0) (.var 1)) [1] (.rng1 (.var 0))) (.rng1 (.var 0))))) .nil)⟩
abbrev kO(f_law_plain:Nat):Ss :=
 (.cons (.put 2 (.var 3) (.bin .add (.var 3) (.cst (.int 1)))) (.cons (.put 2 (.bin .add (.var 3) (.cst (.int 1))) (.var 3)) .nil))
abbrev gm(f_law_plain:Nat):Fn :=
 ⟨2,4,[2],[],(.cons (.own 2 (.bi .list (.call f_law_plain (.cons (.var 0) .nil)))) (.cons (.forr [3] (.seq (.tup (.cons (.var 1) (.cons (.bin .add (.var 0) (.var 1)) .nil)))) (kO f_law_plain)) (.cons (.ret (.bi .tuple (.var 2))) .nil)))⟩
abbrev eS:Fn :=
 ⟨1,1,[],[],(.cons (.ret (.bin .add (.rng1 (.var 0)) (.rng3 (-1) (.bin .sub (.bin .mul (.cst (.int 2)) (.var 0)) (.cst (.int 1))) (.bin .sub (.var 0) (.cst (.int 1)))))) .nil)⟩
abbrev cO(f_law_circle:Nat):Ss :=
 (.cons (.ife (.cmp .eq (.var 6) (.cst (.str "("))) (.cons (.app 4 (.ix (.var 2) (.var 5))) .nil) (.cons (.pop 4 8) (.cons (.put 3 (.var 8) (.ix (.var 2) (.var 5))) (.cons (.put 3 (.ix (.var 2) (.var 5)) (.var 8)) .nil)))) .nil)
abbrev cX(f_law_circle:Nat):Fn :=
 ⟨1,9,[3,4],[],(.cons (.asg 1 (.bin .fdiv (.bi .len (.var 0)) (.cst (.int 2)))) (.cons (.asg 2 (.call f_law_circle (.cons (.var 1) .nil))) (.cons (.own 3 (.compA (.cst (.int 0)) [7] (.seq (.var 2)))) (.cons (.own 4 (.lst .nil)) (.cons (.forr [5,6] (.enm (.var 0)) (cO f_law_circle)) (.cons (.ret (.bi .tuple (.var 3))) .nil))))))⟩
abbrev f9:Ss :=
 (.cons (.par 0 6 (.bin .fdiv (.var 0) (.cst (.int 2))) (.bin .mod (.var 0) (.cst (.int 2)))) (.cons (.asg 5 (.or (.cmp .eq (.var 3) (.cst (.int 0))) (.and (.cmp .lt (.var 3) (.var 4)) (.cmp .eq (.var 6) (.cst (.int 1)))))) (.cons (.asg 2 (.bin .add (.var 2) (.ix (.lst (.cons (.cst (.str ")")) (.cons (.cst (.str "(")) .nil))) (.bi .int (.var 5))))) (.cons (.asg 3 (.bin .add (.var 3) (.ix (.lst (.cons (.neg (.cst (.int 1))) (.cons (.cst (.int 1)) .nil))) (.bi .int (.var 5))))) .nil))))
abbrev iW:Fn :=
 ⟨2,7,[],[],(.cons (.asg 2 (.cst (.str ""))) (.cons (.asg 3 (.cst (.int 0))) (.cons (.forr [4] (.rng3 (-1) (.bin .mul (.cst (.int 2)) (.var 1)) (.cst (.int 0))) (f9)) (.cons (.ret (.var 2)) .nil))))⟩
abbrev cq:Ss :=
 (.cons (.ife (.cmp .eq (.ixD (.var 4) (.var 7)) (.var 9)) (.cons (.put 4 (.var 7) (.var 8)) .nil) .nil) .nil)
abbrev da:Ss :=
 (.cons (.par 8 9 (.ixD (.var 4) (.var 5)) (.ixD (.var 4) (.var 6))) (.cons (.forr [7] (.seq (.var 2)) (cq)) .nil))
abbrev eL:Ss :=
 (.cons (.forr [6] (.seq (.tup (.cons (.ix (.var 1) (.var 5)) (.cons (.bin .sub (.ix (.var 0) (.bin .add (.var 3) (.var 5))) (.var 3)) .nil)))) (da)) .nil)
abbrev eV:Ss :=
 (.cons (.put 4 (.var 5) (.var 5)) .nil)
abbrev dn:Fn :=
 ⟨3,10,[4],[],(.cons (.asg 3 (.bin .fdiv (.bi .len (.var 0)) (.cst (.int 2)))) (.cons (.own 4 .dk0) (.cons (.forr [5] (.seq (.var 2)) (eV)) (.cons (.forr [5] (.seq (.var 2)) (eL)) (.cons (.ret (.bi .lenSet (.compA (.ixD (.var 4) (.var 5)) [5] (.seq (.var 2))))) .nil)))))⟩
abbrev cU(f_law_rings_by:Nat):Ss :=
 (.cons (.ife (.cmp .eq (.cmp .eq (.ix (.var 7) (.cst (.int 0))) (.cst (.str "high"))) (.cmp .ge (.ix (.var 7) (.cst (.int 1))) (.var 2))) (.cons (.put 6 (.bin .mod (.ix (.var 7) (.cst (.int 1))) (.var 2)) (.cst (.bl true))) (.cons (.asg 7 (.ixD (.var 3) (.tup (.cons (.ix (.lst (.cons (.cst (.str "high")) (.cons (.cst (.str "low")) .nil))) (.bi .int (.cmp .eq (.ix (.var 7) (.cst (.int 0))) (.cst (.str "high"))))) (.cons (.bin .mod (.bin .add (.ix (.var 7) (.cst (.int 1))) (.var 2)) (.bin .mul (.cst (.int 2)) (.var 2))) .nil))))) .nil)) .nil) .nil)
abbrev fA(f_law_rings_by:Nat):Ss :=
 (.cons (.asg 7 (.ixD (.var 3) (.tup (.cons (.ix (.lst (.cons (.cst (.str "high")) (.cons (.cst (.str "low")) .nil))) (.bi .int (.cmp .ge (.var 4) (.var 2)))) (.cons (.var 4) .nil))))) (.cons (.forr [8] (.rng1 (.bin .mul (.cst (.int 4)) (.var 2))) (cU f_law_rings_by)) (.cons (.app 5 (.ix (.var 7) (.cst (.int 1)))) .nil)))
abbrev fD(f_law_rings_by:Nat):Ss :=
 (.cons (.put 3 (.tup (.cons (.cst (.str "high")) (.cons (.var 4) .nil))) (.tup (.cons (.cst (.str "high")) (.cons (.ix (.var 0) (.var 4)) .nil)))) (.cons (.put 3 (.tup (.cons (.cst (.str "low")) (.cons (.var 4) .nil))) (.tup (.cons (.cst (.str "low")) (.cons (.ix (.var 1) (.var 4)) .nil)))) .nil))
abbrev eT(f_law_rings_by:Nat):Fn :=
 ⟨2,9,[3,5,6],[],(.cons (.asg 2 (.bin .fdiv (.bi .len (.var 0)) (.cst (.int 2)))) (.cons (.own 3 .dt0) (.cons (.forr [4] (.rng1 (.bin .mul (.cst (.int 2)) (.var 2))) (fD f_law_rings_by)) (.cons (.own 5 (.lst .nil)) (.cons (.own 6 .dk0) (.cons (.forr [4] (.rng1 (.bin .mul (.cst (.int 2)) (.var 2))) (fA f_law_rings_by)) (.cons (.ret (.tup (.cons (.bi .tuple (.var 5)) (.cons (.call f_law_rings_by (.cons (.var 0) (.cons (.var 1) (.cons (.comp (.var 4) [4] (.rng1 (.var 2)) (.inD true (.var 4) (.var 6))) .nil)))) .nil)))) .nil)))))))⟩
abbrev gi:Fn :=
 ⟨1,3,[],[],(.cons (.asg 1 (.bin .fdiv (.bi .len (.var 0)) (.cst (.int 2)))) (.cons (.ret (.bi .tuple (.compA (.bin .mod (.bin .add (.ix (.var 0) (.bin .mod (.bin .add (.var 2) (.var 1)) (.bin .mul (.cst (.int 2)) (.var 1)))) (.var 1)) (.bin .mul (.cst (.int 2)) (.var 1))) [2] (.rng1 (.bin .mul (.cst (.int 2)) (.var 1)))))) .nil))⟩
abbrev i5(f_law_hung f_law_over f_law_from_text f_law_text f_law_hook f_law_plain f_law_digits:Nat):Fn :=
 ⟨3,7,[],[],(.cons (.unp [4,5,6] (.call f_law_digits (.cons (.var 0) (.cons (.var 1) (.cons (.lst (.cons (.cst (.int 8)) (.cons (.bin .pow (.cst (.int 10)) (.cst (.int 12))) (.cons (.max (.cst (.int 1)) (.bin .sub (.var 2) (.cst (.int 1)))) .nil)))) .nil))))) (.cons (.ife (.cmp .eq (.var 4) (.cst (.int 0))) (.cons (.ret (.call f_law_plain (.cons (.var 2) .nil))) .nil) .nil) (.cons (.ife (.and (.cmp .eq (.var 4) (.cst (.int 1))) (.cmp .gt (.var 2) (.cst (.int 1)))) (.cons (.ret (.call f_law_hook (.cons (.var 2) (.cons (.var 6) .nil)))) .nil) .nil) (.cons (.asg 3 (.call f_law_from_text (.cons (.call f_law_text (.cons (.var 5) (.cons (.var 2) .nil))) .nil))) (.cons (.ife (.cmp .eq (.var 4) (.cst (.int 2))) (.cons (.ret (.ix (.call f_law_hung (.cons (.var 3) (.cons (.call f_law_over (.cons (.var 3) .nil)) .nil))) (.cst (.int 0)))) .nil) .nil) (.cons (.ret (.var 3)) .nil))))))⟩
abbrev cN(f_law_same:Nat):Fn :=
 ⟨2,4,[],[],(.cons (.ife (.isN false (.var 1)) (.cons (.ret (.isN false (.var 0))) .nil) .nil) (.cons (.ife (.or (.cmp .ne (.isi (.var 0) .bool) (.isi (.var 1) .bool)) (.cmp .ne (.isi (.var 0) .int) (.isi (.var 1) .int))) (.cons (.ret (.cst (.bl false))) .nil) .nil) (.cons (.ife (.or (.cmp .ne (.isi (.var 0) .list) (.isi (.var 1) .list)) (.cmp .ne (.isi (.var 0) .tuple) (.isi (.var 1) .tuple))) (.cons (.ret (.cst (.bl false))) .nil) .nil) (.cons (.ife (.and (.not (.isi (.var 1) .list)) (.not (.isi (.var 1) .tuple))) (.cons (.ret (.and (.cmp .eq (.isi (.var 0) .str) (.isi (.var 1) .str)) (.cmp .eq (.var 0) (.var 1)))) .nil) .nil) (.cons (.ret (.and (.cmp .eq (.bi .len (.var 0)) (.bi .len (.var 1))) (.bi .all (.compA (.call f_law_same (.cons (.var 2) (.cons (.var 3) .nil))) [2,3] (.zip (.var 0) (.var 1)))))) .nil)))))⟩
end RT
namespace M
abbrev hg(l r:Nat)(g:Nat->Nat):Nat->Nat:=fun x=>if g l=r then g x else if x=r then l else if x=l then r else if x=g r then g l else if x=g l then g r else g x
section
def DV(e:g l=r):hg l r g=g:=by funext x;unfold hg;rw[if_pos e]
def DU(hlr:l≠r)(h:∀ x,g (g x)=x)(n1:g l≠l)(n2:g r≠r)(x:Nat):hg l r g (hg l r g x)=x:=by
 by_cases e:g l=r
 ·rw[DV e];exact h x
 ·have k:∀ y,hg l r g y=if y=r then l else if y=l then r else if y=g r then g l else if y=g l then g r else g y:=fun y=>by unfold hg;rw[if_neg e]
  rw[k x,k];grind
def yw(hlr:l≠r)(h:∀ x,g (g x)=x)(n1:g l≠l)(n2:g r≠r)(nx:g x≠x):hg l r g x≠x:=by
 unfold hg;grind
end
end M
namespace RL
abbrev evF(cl:Cl)(fn:Fn)(ds:List D):Option D:=if ds.length=fn.ps then(ah cl fn.M fn.body (ds.map some++List.replicate (fn.nn-fn.ps) none)).bind fun p=>match p.1 with
  | .nx=>aS fn .non p.2
  | .rt d=>aS fn d p.2
  else none
def ar(h:T[f]?=some fn):au T (n+1) f ds=evF (au T n) fn ds:=by
 rw[au,h];rfl
abbrev L(xs:List Nat):List D:=xs.map fun(i:Nat)=>.int (i:Int)
def rV(I:List D->St->Prop):∀ (ds done:List D) (σ:St),(∀ pre d post σ,done++ds=pre++d::post->I pre σ->d.imm=true/\∃ σ2,(aP tg d σ).bind f=some (.nx,σ2)/\I (pre++[d]) σ2)->I done σ->∃ σ',bb f tg ds σ=some (.nx,σ')/\I (done++ds) σ'
 | [],done,σ,_,h=>⟨σ,rfl,by simpa using h⟩
 | d::ds,done,σ,hs,h=>by
  obtain⟨im,σ2,h1,h3⟩:=hs done d ds σ rfl h;obtain⟨σ',h4,h5⟩:=rV I ds (done++[d]) σ2 (fun pre e post σ he=>hs pre e post σ (by simpa using he)) h3;refine⟨σ',?_,by simpa using h5⟩;rw[bb,if_pos im]
  cases hb:aP tg d σ with
  | none=>rw[hb]at h1;cases h1
  |some σ1=>
   rw[hb]at h1;simp only[Option.bind_some]at h1 ⊢;rw[h1];exact h4
def Bv(I:List D->St->Prop)(h0:I [] σ)(hs:∀ pre d post σ,ds=pre++d::post->I pre σ->d.imm=true/\∃ σ2,(aP tg d σ).bind f=some (.nx,σ2)/\I (pre++[d]) σ2):∃ σ',bb f tg ds σ=some (.nx,σ')/\I ds σ' :=
 rV I ds [] σ (by simpa using hs) h0
@[simp] theorem tf_lst:aD (.lst a)=true:=rfl
@[simp] theorem tf_tup:aD (.tup a)=true:=rfl
@[simp] theorem tf_comp:aD (.comp a b c d)=true:=rfl
@[simp] theorem tf_compA:aD (.compA a b c)=true:=rfl
@[simp] theorem tf_bin:aD (.bin a b c)=true:=rfl
@[simp] theorem tf_slT:aD (.slT a b)=true:=rfl
@[simp] theorem tf_call:aD (.call a b)=true:=rfl
@[simp] theorem tf_bi:aD (.bi a b)=true:=rfl
@[simp] theorem tf_rng1:aD (.rng1 a)=true:=rfl
@[simp] theorem tf_rng2:aD (.rng2 a b)=true:=rfl
@[simp] theorem tf_rng3:aD (.rng3 a b c)=true:=rfl
@[simp] theorem tf_dk0:aD .dk0=true:=rfl
@[simp] theorem tf_dt0:aD .dt0=true:=rfl
end RL
namespace RM
open RL RT
section basics
def cb:aO .lt (.int a) (.int b)=some (decide (a<b)):=rfl
def mF:aO .le (.int a) (.int b)=some (decide (a<=b)):=rfl
def jr:aO .gt (.int a) (.int b)=some (decide (b<a)):=rfl
def xM:aO .ge (.int a) (.int b)=some (decide (b<=a)):=rfl
def c9:aO .eq (.int a) (.int b)=some (a == b):=rfl
def D0:aO .ne (.int a) (.int b)=some (!(a == b)):=rfl
def bF:a5 .add (.int a) (.int b)=some (.int (a+b)):=rfl
def cy:a5 .sub (.int a) (.int b)=some (.int (a-b)):=rfl
def dh(h:0<b):a5 .mod (.int a) (.int b)=some (.int (a%b)):=Hn.trans (if_pos h)
def fW(h:0<b)(h':b<2 ^ 200):a5 .fdiv (.int a) (.int b)=some (.int (a / b)):=Hd.trans (if_pos ⟨h,h'⟩)
def bB(h1:-(2 ^ 64)<a)(h2:a<2 ^ 64):a5 .mul (.int a) (.int b)=some (.int (a*b)):=D3.trans (if_pos (.inl ⟨h1,h2⟩))
def pG(h1:-(2 ^ 64)<b)(h2:b<2 ^ 64):a5 .mul (.int a) (.int b)=some (.int (a*b)):=D3.trans (if_pos (.inr ⟨h1,h2⟩))
def Im(k:Bool):truth (.bl k)=some k:=rfl
end basics
def Ba(h:L xs=pre++d::post):∃ p x q,xs=p++x::q/\pre=L p/\d=.int (x:Nat)/\post=L q:=by
 unfold L at h;obtain⟨p,r,rfl,h1,h2⟩:=List.map_eq_append_iff.mp h;obtain⟨x,q,rfl,h3,h4⟩:=List.map_eq_cons_iff.mp h2;exact⟨p,x,q,rfl,h1.symm,h3.symm,h4.symm⟩
def tF:∀ {a b:List Nat},L a=L b->a=b
 | [],[],_=>rfl
 | [],_::_,h=>by simp[L]at h
 | _::_,[],h=>by simp[L]at h
 | x::a,y::b,h=>by
  unfold L at h;rw[List.map_cons,List.map_cons,List.cons.injEq]at h
  have h1:(x:Int)=y:=by injection h.1
  rw[tF (a:=a) (b:=b) h.2,Int.ofNat_inj.mp h1]
def cB(I:List Nat->St->Prop)(h0:I [] σ)(hs:∀ p x q σ,xs=p++x::q->I p σ->∃ σ2,(aP tg (.int (x:Nat)) σ).bind f=some (.nx,σ2)/\I (p++[x]) σ2):∃ σ',bb f tg (L xs) σ=some (.nx,σ')/\I xs σ':=by
 obtain⟨σ',e,p,hp,hi⟩:=Bv (f:=f) (tg:=tg) (ds:=L xs) (σ:=σ) (fun pre σ=>∃ p,pre=L p/\I p σ) ⟨[],rfl,h0⟩ (by
  rintro pre d post σ hd ⟨p',hp',hi⟩;obtain⟨p,x,q,rfl,rfl,rfl,rfl⟩:=Ba hd;have:=tF hp';subst this;obtain⟨σ2,h1,h2⟩:=hs p x q σ rfl hi
  exact⟨rfl,σ2,h1,p++[x],by simp[L],h2⟩)
 have:=tF hp;subst this;exact⟨σ',e,hi⟩
def bw(xs:List Nat):(L xs).length=xs.length:=by simp[L]
def zR(xs:List Nat)(i:Nat):(L xs)[i]?=(xs[i]?).map fun(i:Nat)=>.int (i:Int):=by simp[L]
def zC(xs:List Nat)(i j:Nat):(L xs).set i (.int j)=L (xs.set i j):=by simp[L,List.map_set]
def bD:∀ xs:List Nat,ao (L xs)=true
 | []=>rfl
 | x::xs=>by
  show((D.int x).imm&&ao (L xs))=true;rw[bD xs];rfl
def hG(xs ys:List Nat):L (xs++ys)=L xs++L ys:=by simp[L]
def jc(xs:List α)(i:Nat):cW xs (i:Int)=xs[i]?:=by
 unfold cW;rw[if_pos (Int.natCast_nonneg i)];rfl
def yT(h:i<n):kU n (i:Int)=some i:=by
 unfold kU;rw[if_pos (Int.natCast_nonneg i),if_pos (by lia)];rfl
def ly(a:Nat):∀ n:Nat,cu (a:Int) n=L (List.range' a n)
 | 0=>rfl
 | n+1=>by
  rw[cu,List.range'_succ];have:=ly (a+1) n;rw[show((a+1:Nat):Int)=(a:Int)+1 by lia]at this;rw[this];rfl
def nR{a b:Nat}(h1:a<=1000)(h2:b<=1000):dm (.int a) (.int b)=some (L (List.range' a (b-a))):=by
 dsimp only[dm]
 have:((b:Int)-a).toNat=b-a:=by lia
 rw[if_pos ⟨by unfold most;lia,by lia,by lia,by lia,by lia⟩,this,ly]
section
def oG(i:Int):evF cl i8 [.int i]=some (.bl true):=rfl
def lr(h:∀ i:Int,cl f [.int i]=some (.bl true))(i:Int):evF cl (di f) [.int i]=some (.bl (decide (1<=i/\i<=10))):=by
 simp[evF,di,ah,cY,m8,df,mL,bZ,FK,aJ,evs,h,mF,bo,D.imm,aS];by_cases h1:1<=i<;>simp[h1,bo,D.imm,aS]
def mQ(h:cl f [.int i]=some (.bl true)):evF cl (dZ f) [.int i]=some .non:=by
 simp[evF,dZ,ah,dB,xj,df,oJ,aJ,evs,h,truth,aS]
def BM(xs:List Nat)(hi:i<xs.length)(hj:j<xs.length):evF cl oU [.lst (L xs),.int i,.int j]=some (.tup [.non,.lst (L ((xs.set i j).set j i))]):=by
 simp[evF,oU,ah,fv,aJ,evs,DI,kU,hi,hj,D.imm,aS,gA,bw,zC]
def rF(xs:List D):evF cl iw [.lst xs]=some (.int (xs.length / 2)):=rfl
def pI(xs:List D):evF cl iw [.tup xs]=some (.int (xs.length / 2)):=rfl
abbrev bq(n:Nat):List Nat:=List.range' n n++List.range' 0 n
abbrev at'(f:List Nat)(x:Nat):Nat:=(f[x]?).getD x
abbrev js(f:List Nat)(l:Nat):List Nat:=if at' f l=l+1 then f else(((f.set (at' f l) (at' f (l+1))).set (at' f (l+1)) (at' f l)).set l (l+1)).set (l+1) l
structure Frm(n:Nat)(f:List Nat):Prop where
 len:f.length=2*n
 lt:∀ x,x<2*n->at' f x<2*n
 inv:∀ x,at' f (at' f x)=x
 no:∀ x,x<2*n->at' f x≠x
def iF(h:x<f.length):f[x]?=some (at' f x):=by simp[at',h]
def jL(h:f.length<=x):at' f x=x:=by simp[at',h]
def cC(h:i<f.length):at' (f.set i j) x=if x=i then j else at' f x:=by
 unfold at';rw[List.getElem?_set];by_cases e:i=x
 ·subst e;simp[h]
 ·simp[e,Ne.symm e]
def nF(F:Frm n f)(hl:l+1<2*n):at' (js f l)=M.hg l (l+1) (at' f):=by
 funext x;unfold js M.hg;have a1:=F.lt l (by lia);have a2:=F.lt (l+1) hl;have hlen:=F.len;by_cases e:at' f l=l+1
 ·rw[if_pos e,if_pos e]
 ·rw[if_neg e,if_neg e,cC (by simp;lia),cC (by simp;lia),cC (by simp;lia),cC (by lia)]
def zb:(js f l).length=f.length:=by
 unfold js;split
 ·rfl
 ·simp
def yh(F:Frm n f)(hl:l+1<2*n):Frm n (js f l):=by
 have n1:=F.no l (by lia);have n2:=F.no (l+1) hl;refine⟨by rw[zb];exact F.len,fun x hx=>?_,fun x=>?_,fun x hx=>?_⟩
 ·rw[nF F hl];unfold M.hg;have a1:=F.lt l (by lia);have a2:=F.lt (l+1) hl;have a3:=F.lt x hx
  repeat' split
  all_goals lia
 ·rw[nF F hl];exact M.DU (by lia) F.inv n1 n2 x
 ·rw[nF F hl];exact M.yw (by lia) F.inv n1 n2 (F.no x hx)
def BX(F:f.length=2*n)(G:g.length=2*n)(h:at' f=at' g):f=g:=by
 apply List.ext_getElem?;intro i;by_cases hi:i<2*n
 ·rw[iF (by lia),iF (by lia),h]
 ·rw[List.getElem?_eq_none (by lia),List.getElem?_eq_none (by lia)]
end
section
def plain_at(n x:Nat):at' (bq n) x=if x<n then n+x else if x<2*n then x-n else x:=by
 unfold at' bq;by_cases h1:x<n
 ·rw[List.getElem?_append_left (by simpa using h1),if_pos h1];simp[h1]
 ·rw[List.getElem?_append_right (by simpa using h1),if_neg h1];by_cases h2:x<2*n
  ·rw[if_pos h2];simp[show x-n<n by lia]
  ·rw[if_neg h2];simp[show ¬ x-n<n by lia]
def jE(n:Nat):Frm n (bq n):=by
 refine⟨by simp[bq];lia,fun x hx=>?_,fun x=>?_,fun x hx=>?_⟩
 ·rw[plain_at];repeat' split
  all_goals lia
 ·rw[plain_at,plain_at];repeat' split
  all_goals lia
 ·rw[plain_at];repeat' split
  all_goals lia
end
end RM
namespace RL
section
def aE:ah cl M .nil σ=some (.nx,σ):=by rw[ah]
def cZ(h:evS cl M s σ=some (.nx,σ'))(k:ah cl M r σ'=res):ah cl M (.cons s r) σ=res:=by
 rw[ah,h];exact k
def oQ(h:evS cl M s σ=some (.rt d,σ')):ah cl M (.cons s r) σ=some (.rt d,σ'):=by
 rw[ah,h];rfl
def a8(h:ev cl σ e=some d)(ok:bu M e d=true)(k:ah cl M r (σ.set i (some d))=res):ah cl M (.cons (.asg i e) r) σ=res :=
 cZ (by rw[eP,h];show(if bu M e d=true then _ else _)=_;rw[if_pos ok]) k
def gy(h:ev cl σ e=some d)(ok:(aA d&&aD e)=true)(k:ah cl M r (σ.set i (some d))=res):ah cl M (.cons (.own i e) r) σ=res :=
 cZ (by rw[kD,h];show(if(aA d&&aD e)=true then _ else _)=_;rw[if_pos ok]) k
def qh(h:ev cl σ e=some d)(k:ah cl M r σ=res):ah cl M (.cons (.exc e) r) σ=res :=
 cZ (by rw[GJ,h];rfl) k
def aG(h:ev cl σ e=some d)(ok:bo M e d=true):ah cl M (.cons (.ret e) r) σ=some (.rt d,σ) :=
 oQ (by rw[cY,h];show(if bo M e d=true then _ else _)=_;rw[if_pos ok])
def fJ(h:(ev cl σ t).bind truth=some true)(h1:ah cl M a σ=some (.nx,σ'))(k:ah cl M r σ'=res):ah cl M (.cons (.ife t a b) r) σ=res :=
 cZ (by rw[dB,h];exact h1) k
def bW(h:(ev cl σ t).bind truth=some true)(h1:ah cl M a σ=some (.rt d,σ')):ah cl M (.cons (.ife t a b) r) σ=some (.rt d,σ') :=
 oQ (by rw[dB,h];exact h1)
def fO(h:(ev cl σ t).bind truth=some false)(h1:ah cl M b σ=some (.nx,σ'))(k:ah cl M r σ'=res):ah cl M (.cons (.ife t a b) r) σ=res :=
 cZ (by rw[dB,h];exact h1) k
def kC(h:(ev cl σ t).bind truth=some false)(h1:ah cl M b σ=some (.rt d,σ')):ah cl M (.cons (.ife t a b) r) σ=some (.rt d,σ') :=
 oQ (by rw[dB,h];exact h1)
def aT(h:(ev cl σ t).bind truth=some false)(k:ah cl M r σ=res):ah cl M (.cons (.ife t a .nil) r) σ=res:=fO h aE k
def qS(h:ev cl σ e=some d)(hd:items d=some ds)(im:ao ds=true)(hs:bG is ds σ=some σ')(k:ah cl M r σ'=res):ah cl M (.cons (.unp is e) r) σ=res :=
 cZ (by rw[FN,h,Option.bind_some,hd];show(if ao ds=true then _ else _)=_;rw[if_pos im,hs];rfl) k
def wO(h:ev cl σ e=some x)(h':ev cl σ e'=some y)(im:(x.imm&&y.imm)=true)(k:ah cl M r ((σ.set i (some x)).set j (some y))=res):ah cl M (.cons (.par i j e e') r) σ=res :=
 cZ (by rw[zP,h,Option.bind_some,h'];show(if(x.imm&&y.imm)=true then _ else _)=_;rw[if_pos im]) k
def lV(h:ev cl σ e=some d)(hi:(σ[i]?).bind id=some (.lst xs))(im:d.imm=true)(hl:xs.length<most)(k:ah cl M r (σ.set i (some (.lst (xs++[d]))))=res):ah cl M (.cons (.app i e) r) σ=res :=
 cZ (by rw[tU,h,Option.bind_some,hi];show(if(d.imm&&decide (xs.length<most))=true then _ else _)=_;rw[if_pos (by rw[im,decide_eq_true hl];rfl)]) k
def xg(h:ev cl σ e'=some x)(h':ev cl σ e=some kk)(hi:(σ[i]?).bind id=some l)(im:x.imm=true)(hp:eN l kk x=some l')(k:ah cl M r (σ.set i (some l'))=res):ah cl M (.cons (.put i e e') r) σ=res :=
 cZ (by rw[fv,h,Option.bind_some,h',Option.bind_some,hi,Option.bind_some,if_pos im,hp];rfl) k
def fG(hi:(σ[i]?).bind id=some (.int x))(h:ev cl σ e=some (.int y))(hb:a5 o (.int x) (.int y)=some (.int z))(k:ah cl M r (σ.set i (some (.int z)))=res):ah cl M (.cons (.aug i o e) r) σ=res :=
 cZ (by rw[Gu,hi,Option.bind_some,h];show Option.map _ (a5 o (.int x) (.int y))=_;rw[hb];rfl) k
def Eb(hi:(σ[i]?).bind id=some (.lst (xs++[d])))(k:ah cl M r ((σ.set i (some (.lst xs))).set j (some d))=res):ah cl M (.cons (.pop i j) r) σ=res :=
 cZ (by rw[s_pop,hi];simp) k
def cR(h:aU cl σ it=some ds)(h1:bb (ah cl M b) tg ds σ=some (.nx,σ'))(k:ah cl M r σ'=res):ah cl M (.cons (.forr tg it b) r) σ=res :=
 cZ (by rw[d6,h];exact h1) k
def tq(h:aU cl σ it=some ds)(h1:bb (ah cl M b) tg ds σ=some (.rt d,σ')):ah cl M (.cons (.forr tg it b) r) σ=some (.rt d,σ') :=
 oQ (by rw[d6,h];exact h1)
def aa(h:(σ[i]?).bind id=some d):ev cl σ (.var i)=some d:=by rw[aJ];exact h
def af:ev cl σ (.cst d)=some d:=by rw[bZ]
def x_call(h:evs cl σ es=some ds)(hc:cl f ds=some d):ev cl σ (.call f es)=some d:=by rw[df,h];exact hc
def bS:evs cl σ .nil=some []:=by rw[evs]
def aL(h:ev cl σ e=some d)(hr:evs cl σ es=some ds):evs cl σ (.cons e es)=some (d::ds):=by rw[evs,h,Option.bind_some,hr];rfl
def bO(h:ev cl σ e=some d)(hc:cl f [d]=some x):ev cl σ (.call f (.cons e .nil))=some x:=x_call (aL h bS) hc
def cF(h:ev cl σ e=some d)(h':ev cl σ e'=some d')(hc:cl f [d,d']=some x):ev cl σ (.call f (.cons e (.cons e' .nil)))=some x:=x_call (aL h (aL h' bS)) hc
def zc(h:ev cl σ e=some d)(h':ev cl σ e'=some d')(h'':ev cl σ e''=some d'')(hc:cl f [d,d',d'']=some x):ev cl σ (.call f (.cons e (.cons e' (.cons e'' .nil))))=some x:=x_call (aL h (aL h' (aL h'' bS))) hc
def aq(h:ev cl σ e=some x)(h':ev cl σ e'=some y)(hb:a5 o x y=some d):ev cl σ (.bin o e e')=some d:=by rw[bR,h,Option.bind_some,h'];exact hb
def ay(h:ev cl σ e=some x)(h':ev cl σ e'=some y)(hb:aO o x y=some k):ev cl σ (.cmp o e e')=some (.bl k):=by rw[dY,h,Option.bind_some,h',Option.bind_some,hb];rfl
def eK(h:ev cl σ e=some x)(h':ev cl σ e'=some y)(hb:ixV x y=some d):ev cl σ (.ix e e')=some d:=by rw[i0,h,Option.bind_some,h'];exact hb
def bh(h:ev cl σ e=some x)(hb:biV o x=some d):ev cl σ (.bi o e)=some d:=by rw[gH,h];exact hb
def Gx(h:ev cl σ e=some x)(h':ev cl σ e'=some y)(hb:qb x y=some d):ev cl σ (.slT e e')=some d:=by rw[Gv,h,Option.bind_some,h'];exact hb
def uo(h:ev cl σ e=some x)(h':ev cl σ e'=some y)(hb:inV x y=some k):ev cl σ (.inn n e e')=some (.bl (if n then !k else k)):=by rw[FO,h,Option.bind_some,h',Option.bind_some,hb];rfl
def cz{t:Ty}(h:ev cl σ e=some x)(hb:fh t x=some k):ev cl σ (.isi e t)=some (.bl k):=by rw[Gq,h,Option.bind_some,hb];rfl
def oO(h:ev cl σ e=some (.int k)):ev cl σ (.neg e)=some (.int (-k)):=by rw[FW,h];rfl
def FI(h:ev cl σ e=some (.int x))(h':ev cl σ e'=some (.int y)):ev cl σ (.max e e')=some (.int (if y > x then y else x)):=by rw[FU,h,Option.bind_some,h'];rfl
def Gm(h:ev cl σ e=some (.int x))(h':ev cl σ e'=some (.int y)):ev cl σ (.min e e')=some (.int (if y<x then y else x)):=by rw[G5,h,Option.bind_some,h'];rfl
def k6(h:ev cl σ e=some x)(h':ev cl σ e'=some y)(h'':ev cl σ e''=some z)(b1:aO c x y=some true)(b2:aO c' y z=some k):ev cl σ (.chain c c' e e' e'')=some (.bl k):=by rw[mL,h,Option.bind_some,h',Option.bind_some,b1,Option.bind_some,if_pos rfl,h'',Option.bind_some,b2];rfl
def yf(h:ev cl σ e=some x)(h':ev cl σ e'=some y)(b1:aO c x y=some false):ev cl σ (.chain c c' e e' e'')=some (.bl false):=by rw[mL,h,Option.bind_some,h',Option.bind_some,b1];rfl
def Bs(h:ev cl σ e=some (.lst xs))(h':ev cl σ e'=some (.int k))(hi:bJ xs=some is)(hm:k∈is):ev cl σ (.index e e')=some (.int (is.idxOf k)):=by
 rw[AU,h,Option.bind_some,h',Option.bind_some];show(bJ xs).bind _=_;rw[hi,Option.bind_some,if_pos hm]
def cE(h:evs cl σ es=some ds):ev cl σ (.lst es)=some (.lst ds):=by rw[ka,h];rfl
def Ai(h:evs cl σ es=some ds):ev cl σ (.tup es)=some (.tup ds):=by rw[j6,h];rfl
def c7(h:ev cl σ e=some (.bl true))(h':ev cl σ e'=some d):ev cl σ (.and e e')=some d:=by rw[m8,h];exact h'
def gF(h:ev cl σ e=some (.bl false)):ev cl σ (.and e e')=some (.bl false):=by rw[m8,h];rfl
def dW(h:ev cl σ e=some (.bl false))(h':ev cl σ e'=some d):ev cl σ (.or e e')=some d:=by rw[uE,h];exact h'
def zM(h:ev cl σ e=some (.bl true)):ev cl σ (.or e e')=some (.bl true):=by rw[uE,h];rfl
def G9(h:(ev cl σ e).bind truth=some k):ev cl σ (.not e)=some (.bl (!k)):=by rw[oJ,h];rfl
def bN(h:ev cl σ e=some (.bl k)):ev cl σ (.not e)=some (.bl (!k)):=G9 (by rw[h];rfl)
def ui(h:(ev cl σ t).bind truth=some k)(h':ev cl σ (if k then e else e')=some d):ev cl σ (.ifx t e e')=some d:=by
 rw[uC,h];cases k<;>exact h'
def aC(h:ev cl σ e=some (.bl k)):(ev cl σ e).bind truth=some k:=by rw[h];rfl
def dt(h:aU cl σ it=some ds)(hf:ds.length<=most)(hm:cj (fun σ1=>(ev cl σ1 e).map some) tg σ ds=some ys):ev cl σ (.compA e tg it)=some (.lst ys):=by
 rw[iE,h,Option.bind_some,fits,if_pos hf,Option.bind_some,hm];rfl
def lT(h:ev cl σ e=some x)(hr:dm (.int 0) x=some ds):aU cl σ (.rng1 e)=some ds:=by rw[aU,h];exact hr
def vm(h:ev cl σ e=some x)(h':ev cl σ e'=some y)(hr:dS c x y=some ds):aU cl σ (.rng3 c e e')=some ds:=by rw[aU,h,Option.bind_some,h'];exact hr
def ko(h:ev cl σ e=some x)(hr:items x=some ds):aU cl σ (.seq e)=some ds:=by rw[aU,h];exact hr
def G3(h:ev cl σ e=some x)(h':ev cl σ e'=some y)(hx:items x=some xs)(hy:items y=some ys)(hl:xs.length=ys.length):aU cl σ (.zip e e')=some (eh xs ys):=by rw[aU,h,Option.bind_some,h',Option.bind_some,hx,Option.bind_some,hy,Option.bind_some,if_pos hl]
def FG(hk:(match x with | .non=>some (D.bl (!n)) | .dK _ _=>none | .dT _ _=>none | .fT _=>none | _=>some (.bl n))=some (D.bl k))(h:ev cl σ e=some x):ev cl σ (.isN n e)=some (.bl k):=by rw[FV,h];exact hk
def il(h:ev cl σ e=some x)(hr:cA x=some ds):aU cl σ (.enm e)=some (c8 0 ds):=by rw[aU,h,Option.bind_some,hr];rfl
end
def aK(hl:ds.length=fn.ps)(hm:fn.mp=[])(h:ah cl fn.M fn.body (ds.map some++List.replicate (fn.nn-fn.ps) none)=some (.rt d,σ')):evF cl fn ds=some d:=by
 unfold evF;rw[if_pos hl,h];show aS fn d σ'=_;unfold aS;rw[hm];rfl
def F6(hl:ds.length=fn.ps)(hm:fn.mp=[])(h:ah cl fn.M fn.body (ds.map some++List.replicate (fn.nn-fn.ps) none)=some (.nx,σ')):evF cl fn ds=some .non:=by
 unfold evF;rw[if_pos hl,h];show aS fn .non σ'=_;unfold aS;rw[hm];rfl
end RL
namespace RM
open RL RT
abbrev LI(xs:List Int):List D:=xs.map D.int
def xx(xs:List Int):(LI xs).length=xs.length:=by simp[LI]
def w4:∀ xs:List Int,ao (LI xs)=true
 | []=>rfl
 | x::xs=>by
  show((D.int x).imm&&ao (LI xs))=true;rw[w4 xs];rfl
section
def mod_lt{a b:Int}(h:0<b):0<=a%b/\a%b<b:=⟨Int.emod_nonneg _ (by lia),Int.emod_lt_of_pos _ h⟩
def AD(s:Int):∃ m:Int,evF cl jM [.int s]=some (.int m):=by
 have a1:=mod_lt (a:=s*48271+11) (b:=2147483647) (by decide);generalize h1:(s*48271+11)%2147483647=one at a1;have a2:=mod_lt (a:=one*one+40692*one+s) (b:=2147483399) (by decide);generalize h2:(one*one+40692*one+s)%2147483399=two at a2
 exact⟨_,aK rfl rfl (a8 (d:=.int one) (aq (aq (aq (aa rfl) af (pG (by decide) (by decide))) af bF) af (by rw[dh (by decide),h1])) rfl
  (a8 (d:=.int two) (aq (aq (aq (aq (aa rfl) (aa rfl) (bB (by lia) (by lia))) (aq af (aa rfl) (bB (by decide) (by decide))) bF) (aa rfl) bF) af (by rw[dh (by decide),h2])) rfl
  (aG (aq (aq (aq (aq (aa rfl) (aa rfl) (bB (by omega) (by omega))) (aq af (aa rfl) (bB (by decide) (by decide))) bF) (aa rfl) bF) af (dh (by decide))) rfl)))⟩
def B3{f:Nat}(h:∀ s:Int,∃ m:Int,cl f [.int s]=some (.int m)){ns:List Int}(hl:ns.length<=63){k:Nat}(hk:k<=1000):∃ r:Int,evF cl (jF f) [.lst (LI ns),.int k]=some (.int r):=by
 have pw:a5 .pow (.int 10) (.int 18)=some (.int 1000000000000000000):=rfl
 have rest:∀ c:Int,∃ r σ',ah cl [] (.cons (.asg 3 (.cst (.int 0))) (.cons (.forr [4] (.rng1 (.cst (.int 40))) (je f)) (.cons (.ret (.var 3)) .nil))) [some (.lst (LI ns)),some (.int k),some (.int c),none,none]=some (.rt (.int r),σ'):=by
  intro c;have hr:dm (.int 0) (.int 40)=some (L (List.range' 0 40)):=congrArg some (ly 0 40)
  obtain⟨σ',e,r,o,rfl⟩:=cB (f:=ah cl [] (je f)) (tg:=[4]) (xs:=List.range' 0 40) (σ:=[some (.lst (LI ns)),some (.int k),some (.int c),some (.int 0),none])
   (fun p σ=>∃ (r:Int) (o:Option D),σ=[some (.lst (LI ns)),some (.int k),some (.int c),some (.int r),o]) ⟨0,none,rfl⟩ (by
    rintro p x q σ hx ⟨r,o,rfl⟩;obtain⟨m,hm⟩:=h (c+1009*k+7919*x)
    exact⟨_,a8 (aq (aq (aa rfl) af (pG (by decide) (by decide))) (bO (aq (aq (aa rfl) (aq af (aa rfl) (bB (by decide) (by decide))) bF) (aq af (aa rfl) (bB (by decide) (by decide))) bF) hm) bF) rfl aE,_,_,rfl⟩)
  exact⟨r,_,a8 af rfl (cR (lT af hr) e (aG (aa rfl) rfl))⟩
 have len:biV .len (.lst (LI ns))=some (.int ns.length):=congrArg (fun n:Nat=>some (D.int n)) (xx ns)
 have first:ev cl [some (.lst (LI ns)),some (.int k),none,none,none] (.bin .add (.bin .mul (.cst (.int 7)) (.var 1)) (.cst (.int 3)))=some (.int (7*k+3)):=aq (aq af (aa rfl) (bB (by decide) (by decide))) af bF
 by_cases h0:0<ns.length
 ·have hmod:=mod_lt (a:=(k:Int)) (b:=(ns.length:Int)) (by lia);obtain⟨j,hj⟩:=Int.eq_ofNat_of_zero_le hmod.1
  have hjl:j<ns.length:=by lia
  have ix:ixV (.lst (LI ns)) (.int ((k:Int)%ns.length))=some (.int ns[j]):=by
   show cW (LI ns) _=_;rw[hj,jc];simp[LI,hjl]
  obtain⟨r,σ',hr⟩:=rest (ns[j]+9973*((k:Int) / ns.length));generalize hc:ns[j]+9973*((k:Int) / ns.length)=cell at hr
  have cel:∀ {r':Ss} {res:Option (Out × St)},ah cl [] r' [some (.lst (LI ns)),some (.int k),some (.int cell),none,none]=res->ah cl [] (.cons (.asg 2 (.bin .add (.bin .mul (.cst (.int 7)) (.var 1)) (.cst (.int 3)))) (.cons (.ife (.cmp .gt (.bi .len (.var 0)) (.cst (.int 0))) (.cons (.asg 2 (.bin .add (.ix (.var 0) (.bin .mod (.var 1) (.bi .len (.var 0)))) (.bin .mul (.cst (.int 9973)) (.bin .fdiv (.var 1) (.bi .len (.var 0)))))) .nil) .nil) r')) [some (.lst (LI ns)),some (.int k),none,none,none]=res:=fun z =>
   a8 first rfl (fJ (aC (ay (bh (aa rfl) len) af (by rw[jr,decide_eq_true (by lia)]))) (a8 (d:=.int cell) (aq (eK (aa rfl) (aq (aa rfl) (bh (aa rfl) len) (dh (by lia))) ix) (aq af (aq (aa rfl) (bh (aa rfl) len) (fW (by lia) (by lia))) (bB (by decide) (by decide))) (by rw[bF,hc])) rfl aE) z)
  by_cases h1:k<ns.length
  ·have c1:aO .lt (.int (k:Nat)) (.int (ns.length:Nat))=some true:=by rw[cb,decide_eq_true (by lia)]
   by_cases h2:(1000000000000000000:Int)<=cell
   ·exact⟨_,aK rfl rfl (cel (bW (aC (c7 (ay (aa rfl) (bh (aa rfl) len) c1) (ay (aa rfl) (aq af af pw) (by rw[xM,decide_eq_true h2])))) (aG (aq (aa rfl) (aq af af pw) cy) rfl)))⟩
   ·exact⟨r,aK rfl rfl (cel (aT (aC (c7 (ay (aa rfl) (bh (aa rfl) len) c1) (ay (aa rfl) (aq af af pw) (by rw[xM,decide_eq_false h2])))) hr))⟩
  ·exact⟨r,aK rfl rfl (cel (aT (aC (gF (ay (aa rfl) (bh (aa rfl) len) (by rw[cb,decide_eq_false (by lia)])))) hr))⟩
 ·obtain⟨r,σ',hr⟩:=rest (7*k+3);exact⟨r,aK rfl rfl (a8 first rfl (aT (aC (ay (bh (aa rfl) len) af (by rw[jr,decide_eq_false (by lia)]))) (aT (aC (gF (ay (aa rfl) (bh (aa rfl) len) (by rw[cb,decide_eq_false (by lia)])))) hr)))⟩
end
section
abbrev jH(ds sizes:List Nat):Prop:=ds.length=sizes.length/\∀ (i d s:Nat),ds[i]?=some d->sizes[i]?=some s->d<s
def jH.snoc(h:jH ds sizes)(hd:d<s):jH (ds++[d]) (sizes++[s]):=by
 refine⟨by simp[h.1],fun i x y h1 h2=>?_⟩;by_cases hi:i<ds.length
 ·rw[List.getElem?_append_left hi]at h1;rw[List.getElem?_append_left (by rw[<-h.1];exact hi)]at h2;exact h.2 i x y h1 h2
 ·rw[List.getElem?_append_right (by lia)]at h1;rw[List.getElem?_append_right (by rw[<-h.1];lia)]at h2;rw[h.1]at h1
  cases hk:i-sizes.length with
  | zero=>rw[hk]at h1 h2;simp at h1 h2;lia
  | succ k=>rw[hk]at h1;simp at h1
def uJ(h:cl f [scr,.int k]=some (.int r))(hp:∀ s∈sizes,0<s/\s<2 ^ 200)(hlen:sizes.length<=1000):∃ ds:List Nat,jH ds sizes/\evF cl (et f) [scr,.int k,.lst (L sizes)]=some (.lst (L ds)):=by
 obtain⟨σ',e,r',ds,o,hds,rfl⟩:=cB (f:=ah cl [4] (fP f)) (tg:=[5]) (xs:=sizes) (σ:=[some scr,some (.int k),some (.lst (L sizes)),some (.int r),some (.lst []),none])
  (fun p σ=>∃ (r:Int) (ds:List Nat) (o:Option D),jH ds p/\σ=[some scr,some (.int k),some (.lst (L sizes)),some (.int r),some (.lst (L ds)),o]) ⟨r,[],none,⟨rfl,by simp⟩,rfl⟩ (by
   rintro p x q σ hx ⟨r,ds,o,hds,rfl⟩;have hx0:=hp x (by rw[hx];simp)
   have hpl:p.length<1000:=by
    have:=congrArg List.length hx;simp at this;lia
   have hx1:(0:Int)<x:=by lia
   have hx2:(x:Int)<2 ^ 200:=by
    have:=hx0.2;lia
   obtain⟨d,hd⟩:=Int.eq_ofNat_of_zero_le (Int.emod_nonneg r (show(x:Int)≠0 by lia))
   have hdx:d<x:=by
    have:=Int.emod_lt_of_pos r hx1;lia
   refine⟨[some scr,some (.int k),some (.lst (L sizes)),some (.int (r / x)),some (.lst (L (ds++[d]))),some (.int x)],?_,_,_,_,hds.snoc hdx,rfl⟩
   have hl:(L ds).length<most:=by
    rw[bw,hds.1];unfold most;lia
   simp[du,fP,ah,tU,eP,bR,aJ,dh hx1,fW hx1 hx2,hd,D.imm,hl,bu,hG]
   rfl)
 refine⟨ds,hds,?_⟩;simp[evF,et,ah,eP,d6,kD,cY,ka,aJ,df,evs,aU,items,h,bu,D.imm,aA,ao];simp[e,bo,aA,bD,aS]
end
section
end
section
end
abbrev dpf:Nat->List Bool->Option Nat
 | d,[]=>some d
 | d,true::r=>dpf (d+1) r
 | 0,false::_=>none
 | d+1,false::r=>dpf d r
def bY(b:Bool):∀ (w:List Bool) (d:Nat),dpf d (w++[b])=(dpf d w).bind fun e=>dpf e [b]
 | [],d=>rfl
 | true::r,d=>by simpa[dpf]using bY b r (d+1)
 | false::r,0=>rfl
 | false::r,d+1=>by simpa[dpf]using bY b r d
abbrev sg(b:Bool):Nat:=if b then 40 else 41
abbrev tx(w:List Bool):PySem.Str:=⟨(w.map sg).toArray⟩
def eC(w:List Bool):(tx w).length=w.length:=by simp[tx,PySem.Str.length]
def rq(w v:List Bool):tx w++tx v=tx (w++v):=by
 show PySem.Str.mk _=_;simp[tx]
def q0:(PySem.Str.ofString "")=tx []:=by decide +kernel
def gc:(PySem.Str.ofString "(")=tx [true]:=by decide +kernel
def oP:(PySem.Str.ofString ")")=tx [false]:=by decide +kernel
def jX:∀ (k a:Nat),k<=a->b8 (-1) (a:Int) k=L ((List.range k).map fun i=>a-i)
 | 0,_,_=>rfl
 | k+1,a,h=>by
  rw[b8,List.range_succ_eq_map];have:=jX k (a-1) (by lia)
  have e:(a:Int)+-1=((a-1:Nat):Int):=by lia
  rw[e,this];simp[L];intro i hi;lia
def cv(h:(List.range k).map g=p++x::q):p.length<k/\x=g p.length:=by
 have l:((List.range k).map g).length=(p++x::q).length:=by rw[h]
 have e:((List.range k).map g)[p.length]?=(p++x::q)[p.length]?:=by rw[h]
 simp at l e;obtain⟨y,hy,e⟩:=e;refine⟨by lia,?_⟩;rw[List.getElem?_range (by lia)]at hy;cases hy;exact e.symm
def qP(h:w.length+v.length<=most):a5 .add (.str (tx w)) (.str (tx v))=some (.str (tx (w++v))):=by
 rw[Hr];rw[eC,eC,if_pos h,rq]
def yb(hn:n<=10):∃ w:List Bool,w.length=2*n/\dpf 0 w=some 0/\evF cl iW [.int r,.int n]=some (.str (tx w)):=by
 have e1:a5 .mul (.int 2) (.int n)=some (.int (2*n)):=bB (by decide) (by decide)
 have e2:dS (-1) (.int (2*(n:Int))) (.int 0)=some (L ((List.range (2*n)).map fun i=>2*n-i)):=by
  have hN:bp (-1) (2*(n:Int)) 0=2*n:=by
   unfold bp;rw[show(- -1:Int)=1 from rfl,Int.ediv_one,if_neg (by decide)];split<;>lia
  dsimp only[dS];rw[hN];rw[if_pos ⟨by decide,by decide,by decide,by unfold most;lia,by lia,by lia,by lia,by lia⟩];have:=jX (2*n) (2*n) (Nat.le_refl _);rw[<-this];rfl
 obtain⟨σ',e,I⟩:=cB (f:=ah cl [] f9) (tg:=[4]) (xs:=(List.range (2*n)).map fun i=>2*n-i) (σ:=[some (.int r),some (.int n),some (.str (tx [])),some (.int 0),none,none,none])
  (fun p σ=>∃ (r:Int) (w:List Bool) (d:Nat) (o4 o5 o6:Option D),σ=[some (.int r),some (.int n),some (.str (tx w)),some (.int d),o4,o5,o6]/\w.length=p.length/\dpf 0 w=some d/\d+p.length<=2*n/\(d+p.length)%2=0) ⟨r,[],0,none,none,none,rfl,rfl,rfl,by simp,rfl⟩ (by
   rintro p x q σ hx ⟨r,w,d,o4,o5,o6,rfl,hw,hd,hl,hp⟩;obtain⟨h1,h2⟩:=cv hx;have m1:a5 .fdiv (.int r) (.int 2)=some (.int (r / 2)):=fW (by decide) (by decide);have m2:a5 .mod (.int r) (.int 2)=some (.int (r%2)):=dh (by decide);generalize hr:r%2=st at m2
   have tx1:ixV (.lst [.str (PySem.Str.ofString ")"),.str (PySem.Str.ofString "(")]) (.int 1)=some (.str (tx [true])):=by rw[gc];rfl
   have tx0:ixV (.lst [.str (PySem.Str.ofString ")"),.str (PySem.Str.ofString "(")]) (.int 0)=some (.str (tx [false])):=by rw[oP];rfl
   by_cases up:d=0\/(d<x/\st=1)
   ·have ee:ev cl [some (.int (r / 2)),some (.int n),some (.str (tx w)),some (.int d),some (.int x),o5,some (.int st)] (.or (.cmp .eq (.var 3) (.cst (.int 0))) (.and (.cmp .lt (.var 3) (.var 4)) (.cmp .eq (.var 6) (.cst (.int 1)))))=some (.bl true):=by
     by_cases h0:d=0
     ·subst h0;exact zM (ay (aa rfl) af rfl)
     ·have g:d<x/\st=1:=by lia
      have hb:((d:Int) == 0)=false:=beq_eq_false_iff_ne.mpr (by lia);exact dW (ay (aa rfl) af (by rw[c9,hb])) (c7 (ay (aa rfl) (aa rfl) (by rw[cb,decide_eq_true (by lia)])) (ay (aa rfl) af (by rw[c9,g.2];rfl)))
    exact⟨_,show ah cl [] f9 [some (.int r),some (.int n),some (.str (tx w)),some (.int d),some (.int x),o5,o6]=some (.nx,_)from wO (aq (aa rfl) af m1) (aq (aa rfl) af m2) rfl (a8 ee rfl (a8 (aq (aa rfl) (eK (cE (aL af (aL af bS))) (bh (aa rfl) rfl) tx1) (qP (by simp[most];lia))) rfl (a8 (d:=.int ((d+1:Nat):Int)) (aq (aa rfl) (eK (cE (aL (oO af) (aL af bS))) (bh (aa rfl) rfl) rfl) rfl) rfl aE))),
     r / 2,w++[true],d+1,_,_,_,rfl,by simp[hw],by rw[bY,hd];rfl,by simp;omega,by simp;lia⟩
   ·have hd0:0<d:=by lia
    have ee:ev cl [some (.int (r / 2)),some (.int n),some (.str (tx w)),some (.int d),some (.int x),o5,some (.int st)] (.or (.cmp .eq (.var 3) (.cst (.int 0))) (.and (.cmp .lt (.var 3) (.var 4)) (.cmp .eq (.var 6) (.cst (.int 1)))))=some (.bl false):=by
     have hb:((d:Int) == 0)=false:=beq_eq_false_iff_ne.mpr (by lia);refine dW (ay (aa rfl) af (by rw[c9,hb])) ?_;by_cases hx:d<x
     ·have h1:(st == 1)=false:=beq_eq_false_iff_ne.mpr (by lia);exact c7 (ay (aa rfl) (aa rfl) (by rw[cb,decide_eq_true (by lia)])) (ay (aa rfl) af (by rw[c9,h1]))
     ·exact gF (ay (aa rfl) (aa rfl) (by rw[cb,decide_eq_false (by lia)]))
    have es:a5 .add (.int (d:Nat)) (.int (-1))=some (.int ((d-1:Nat):Int)):=by rw[bF];congr 2;lia
    exact⟨_,show ah cl [] f9 [some (.int r),some (.int n),some (.str (tx w)),some (.int d),some (.int x),o5,o6]=some (.nx,_)from wO (aq (aa rfl) af m1) (aq (aa rfl) af m2) rfl (a8 ee rfl (a8 (aq (aa rfl) (eK (cE (aL af (aL af bS))) (bh (aa rfl) rfl) tx0) (qP (by simp[most];lia))) rfl (a8 (aq (aa rfl) (eK (cE (aL (oO af) (aL af bS))) (bh (aa rfl) rfl) rfl) es) rfl aE))),
     r / 2,w++[false],d-1,_,_,_,rfl,by simp[hw],by rw[bY,hd];obtain⟨e,rfl⟩:∃ e,d=e+1:=⟨d-1,by lia⟩;rfl,by simp;lia,by simp;lia⟩)
 obtain⟨r',w,d,o4,o5,o6,rfl,hw,hd,hl,hp⟩:=I;simp at hw hl
 have:d=0:=by lia
 subst this;refine⟨w,hw,hd,?_⟩;rw[<-q0]at e;exact aK rfl rfl (a8 af rfl (a8 af rfl (cR (vm (aq af (aa rfl) e1) af e2) e (aG (aa rfl) rfl))))
abbrev rd(n q:Nat):Nat:=if q<n then q else 3*n-1-q
def aN(h:q<2*n):rd n q<2*n:=by unfold rd;split<;>omega
def bK(h:q<2*n):rd n (rd n q)=q:=by
 unfold rd;by_cases e:q<n
 ·rw[if_pos e,if_pos e]
 ·rw[if_neg e,if_neg (by omega)];lia
def iO(hp:p<2*n)(hq:q<2*n)(h:rd n p=rd n q):p=q:=by rw[<-bK hp,h,bK hq]
abbrev rnd(n:Nat)(f:List Nat)(q:Nat):Nat:=rd n (at' f (rd n q))
structure Val(n:Nat)(f:List Nat):Prop where
 frm:Frm n f
 nox:∀ q q',q<2*n->q'<2*n->¬ (q<q'/\q'<rnd n f q/\rnd n f q<rnd n f q')
structure Mt(n k:Nat)(f S:List Nat):Prop where
 len:f.length=2*n
 kn:k<=2*n
 up:S.Pairwise (·<·)
 lt:∀ s∈S,s<k
 ok:∀ q,q<k->q∉S->rnd n f q<k/\rnd n f q∉S/\rnd n f q≠q/\rnd n f (rnd n f q)=q
 bt:∀ q s,q<k->q∉S->s∈S->¬ (q<s/\s<rnd n f q)
 nox:∀ q q',q<k->q'<k->q∉S->q'∉S->¬ (q<q'/\q'<rnd n f q/\rnd n f q<rnd n f q')
def Mt.push{n k:Nat}{f S:List Nat}(m:Mt n k f S)(hk:k<2*n):Mt n (k+1) f (S++[k]):=by
 have nk:∀ q,q<k+1->q∉S++[k]->q<k/\q∉S:=by
  intro q h1 h2;simp at h2;exact⟨by lia,h2.1⟩
 refine⟨m.len,by lia,?_,?_,?_,?_,?_⟩
 ·rw[List.pairwise_append];exact⟨m.up,by simp,fun a ha b hb=>by simp at hb;have:=m.lt a ha;lia⟩
 ·intro s hs;simp at hs;rcases hs with h | h
  ·have:=m.lt s h;lia
  ·lia
 ·intro q h1 h2;obtain⟨a,b⟩:=nk q h1 h2;obtain⟨c1,c2,c3,c4⟩:=m.ok q a b;exact⟨by lia,by simp;exact⟨c2,by lia⟩,c3,c4⟩
 ·intro q s h1 h2 hs;obtain⟨a,b⟩:=nk q h1 h2;simp at hs;rcases hs with h | h
  ·exact m.bt q s a b h
  ·have:=(m.ok q a b).1;lia
 ·intro q q' h1 h2 h3 h4;obtain⟨a,b⟩:=nk q h1 h3;obtain⟨a',b'⟩:=nk q' h2 h4;exact m.nox q q' a a' b b'
def nE(hl:f.length=2*n)(hk:k<2*n)(hm:m<2*n)(hq:q<2*n):rnd n ((f.set (rd n m) (rd n k)).set (rd n k) (rd n m)) q=if q=k then m else if q=m then k else rnd n f q:=by
 have l1:=aN hk;have l2:=aN hm;unfold rnd;rw[cC (by simp;lia),cC (by lia)];by_cases h1:q=k
 ·subst h1;rw[if_pos rfl,if_pos rfl,bK hm]
 ·rw[if_neg (fun h=>h1 (iO hq hk h)),if_neg h1];by_cases h2:q=m
  ·subst h2;rw[if_pos rfl,if_pos rfl,bK hk]
  ·rw[if_neg (fun h=>h2 (iO hq hm h)),if_neg h2]
def Mt.pop{n k m:Nat}{f S:List Nat}(h:Mt n k f (S++[m]))(hk:k<2*n):Mt n (k+1) ((f.set (rd n m) (rd n k)).set (rd n k) (rd n m)) S:=by
 have hmk:m<k:=h.lt m (by simp)
 have hm:m<2*n:=by lia
 have P:=fun q hq=>nE (f:=f) h.len hk hm (q:=q) hq;have up:=List.pairwise_append.mp h.up;have hmS:∀ s∈S,s<m:=fun s hs=>up.2.2 s hs m (by simp)
 have kS:k∉S:=fun c=>by have:=hmS k c;lia
 have mS:m∉S:=fun c=>by have:=hmS m c;lia
 have cs:∀ q,q<k+1->q∉S->q=k\/q=m\/(q≠k/\q≠m/\q<k/\q∉S++[m]):=by
  intro q h1 h2;by_cases e1:q=k
  ·exact .inl e1
  ·by_cases e2:q=m
   ·exact .inr (.inl e2)
   ·exact .inr (.inr ⟨e1,e2,by lia,by simp;exact⟨h2,e2⟩⟩)
 have old:∀ q,q<k->q∉S++[m]->rnd n f q<k/\rnd n f q∉S/\rnd n f q≠m/\rnd n f q≠q/\rnd n f (rnd n f q)=q:=by
  intro q h1 h2;obtain⟨c1,c2,c3,c4⟩:=h.ok q h1 h2;simp at c2;exact⟨c1,c2.1,c2.2,c3,c4⟩
 refine⟨by simp[h.len],by lia,up.1,fun s hs=>by have:=hmS s hs;lia,?_,?_,?_⟩
 ·intro q h1 h2
  rcases cs q h1 h2 with rfl | rfl | ⟨e1,e2,e3,e4⟩
  ·rw[P q hk,if_pos rfl,P m hm,if_neg (by lia),if_pos rfl];exact⟨by lia,mS,by lia,rfl⟩
  ·rw[P q hm,if_neg (by lia),if_pos rfl,P k hk,if_pos rfl];exact⟨by lia,kS,by lia,rfl⟩
  ·obtain⟨c1,c2,c3,c4,c5⟩:=old q e3 e4;rw[P q (by lia),if_neg e1,if_neg e2,P _ (by lia),if_neg (by lia),if_neg c3];exact⟨by lia,c2,c4,c5⟩
 ·intro q s h1 h2 hs;have:=hmS s hs
  rcases cs q h1 h2 with rfl | rfl | ⟨e1,e2,e3,e4⟩
  ·lia
  ·lia
  ·rw[P q (by lia),if_neg e1,if_neg e2];exact h.bt q s e3 e4 (by simp[hs])
 ·intro q q' h1 h2 h3 h4
  rcases cs q h1 h3 with rfl | rfl | ⟨e1,e2,e3,e4⟩
  ·lia
  ·rw[P q hm,if_neg (by lia),if_pos rfl]
   rcases cs q' h2 h4 with rfl | rfl | ⟨d1,d2,d3,d4⟩
   ·lia
   ·lia
   ·rw[P q' (by lia),if_neg d1,if_neg d2];have:=(old q' d3 d4).1;lia
  ·rw[P q (by lia),if_neg e1,if_neg e2];have a:=(old q e3 e4).1
   rcases cs q' h2 h4 with rfl | rfl | ⟨d1,d2,d3,d4⟩
   ·lia
   ·have:=h.bt q q' e3 e4 (by simp);lia
   ·rw[P q' (by lia),if_neg d1,if_neg d2];exact h.nox q q' e3 d3 e4 d4
def Mt.val(h:Mt n (2*n) f [])(hlt:∀ x,x<2*n->at' f x<2*n):Val n f:=by
 refine⟨⟨h.len,hlt,?_,?_⟩,fun q q' h1 h2=>h.nox q q' h1 h2 (by simp) (by simp)⟩
 ·intro x;by_cases hx:x<2*n
  ·have a:=(h.ok (rd n x) (aN hx) (by simp)).2.2.2;unfold rnd at a;rw[bK hx,bK (hlt x hx)]at a;exact iO (hlt _ (hlt x hx)) hx a
  ·have e:at' f x=x:=jL (by rw[h.len];lia);rw[e,e]
 ·intro x hx e;have a:=(h.ok (rd n x) (aN hx) (by simp)).2.2.1;unfold rnd at a;rw[bK hx,e]at a;exact a rfl
def lS(g:β->D)(im:∀ b,(g b).imm=true)(I:List β->St->Prop):∀ (w done:List β) (σ:St),(∀ u b v σ,done++w=u++b::v->I u σ->∃ σ2,(aP tg (.tup [.int u.length,g b]) σ).bind f=some (.nx,σ2)/\I (u++[b]) σ2)->I done σ->∃ σ',bb f tg (c8 done.length (w.map g)) σ=some (.nx,σ')/\I (done++w) σ'
 | [],done,σ,_,h=>⟨σ,rfl,by simpa using h⟩
 | b::w,done,σ,hs,h=>by
  obtain⟨σ2,h1,h3⟩:=hs done b w σ rfl h;obtain⟨σ',h4,h5⟩:=lS g im I w (done++[b]) σ2 (fun pre e post σ he=>hs pre e post σ (by simpa using he)) h3;refine⟨σ',?_,by simpa using h5⟩;rw[List.map_cons,c8,bb,if_pos (by simp[D.imm,ao,im])];rw[show((done++[b]).length:Int)=(done.length:Int)+1 by simp]at h4
  cases hb:aP tg (.tup [.int done.length,g b]) σ with
  | none=>rw[hb]at h1;cases h1
  |some σ1=>
   rw[hb]at h1;simp only[Option.bind_some]at h1 ⊢;rw[h1];exact h4
abbrev aV(n:Nat):List Nat:=(List.range (2*n)).map (rd n)
def lp(n:Nat):(aV n).length=2*n:=by simp[aV]
def A1(h:1<=n):aV n=List.range' 0 n++(List.range n).map (fun i=>(2*n-1)-i):=by
 unfold aV;rw[show 2*n=n+n by lia,List.range_add,List.map_append,<-List.range_eq_range',List.map_map];congr 1
 ·conv=>rhs;rw[<-List.map_id (List.range n)]
  apply List.map_congr_left;intro i hi;simp at hi;simp[rd,hi]
 ·apply List.map_congr_left;intro i hi;simp at hi;show rd n (n+i)=_;unfold rd;rw[if_neg (by lia)];lia
def AG{a b:Nat}(h:b<=a)(ha:a<=1000):dS (-1) (.int (a:Int)) (.int ((a:Int)-b))=some (L ((List.range b).map fun i=>a-i)):=by
 have hN:bp (-1) (a:Int) ((a:Int)-b)=b:=by
  unfold bp;rw[show(- -1:Int)=1 from rfl,Int.ediv_one,if_neg (by decide)];split<;>lia
 dsimp only[dS];rw[hN];rw[if_pos ⟨by decide,by decide,by decide,by unfold most;lia,by lia,by lia,by lia,by lia⟩];rw[jX b a h]
def uj{n:Nat}(h1:1<=n)(hn:n<=10):evF cl eS [.int n]=some (.lst (L (aV n))):=by
 have e1:a5 .mul (.int 2) (.int n)=some (.int (2*n)):=bB (by decide) (by decide);have e2:=nR (a:=0) (b:=n) (by lia) (by lia);rw[Nat.sub_zero]at e2;simp only[Int.natCast_zero]at e2;have e3:=AG (a:=2*n-1) (b:=n) (by lia) (by lia);rw[show((2*n-1:Nat):Int)=2*n-1 by lia,show 2*(n:Int)-1-n=n-1 by lia]at e3
 have e4:a5 .add (.lst (L (List.range' 0 n))) (.lst (L ((List.range n).map fun i=>2*n-1-i)))=some (.lst (L (aV n))):=by
  rw[Cm];rw[if_pos (by simp[bw,most];lia),A1 h1,hG]
 simp[evF,eS,ah,cY,bR,bZ,vR,Fs,aJ,evs,e1,e2,e3,e4,cy,bo,D.imm,aA,bD,aS]
def kd{n q:Nat}(h:q<2*n):ixV (.lst (L (aV n))) (.int (q:Int))=some (.int ((rd n q:Nat):Int)):=by
 show cW _ _=_;rw[jc,zR];simp[aV,h]
def gz{f:List Nat}{i j:Nat}(h:i<f.length):eN (.lst (L f)) (.int (i:Int)) (.int (j:Int))=some (.lst (L (f.set i j))):=by
 rw[DI];rw[bw,yT h];simp[zC]
def fZ(v:List Bool):∀ (w:List Bool) (d:Nat),dpf d (w++v)=(dpf d w).bind fun e=>dpf e v
 | [],d=>rfl
 | true::r,d=>by simpa[dpf]using fZ v r (d+1)
 | false::r,0=>rfl
 | false::r,d+1=>by simpa[dpf]using fZ v r d
def mC:∀ (w:List Bool) (d:Nat) {e:Nat},dpf d w=some e->e<=d+w.length
 | [],d,e,h=>by cases h;simp
 | true::r,d,e,h=>by have:=mC r (d+1) h;simp;lia
 | false::r,0,e,h=>nomatch h
 | false::r,d+1,e,h=>by have:=mC r d h;simp;lia
def zeros(cl:Cl)(σ:St):∀ xs:List Nat,cj (fun σ1=>(ev cl σ1 (.cst (.int 0))).map some) [7] σ (L xs)=some (L (List.replicate xs.length 0))
 | []=>rfl
 | x::r=>by
  rw[show L (x::r)=.int x::L r from rfl,cj,zeros cl σ r];rfl
abbrev Wd(n:Nat)(u:List Bool)(f S:List Nat):Prop:=∀ q,q<u.length->u[q]?=some (decide (q∈S\/q<rnd n f q))
def Wd.push{S:List Nat}(h:Wd n u f S)(m:Mt n u.length f S):Wd n (u++[true]) f (S++[u.length]):=by
 intro q hq;simp at hq;by_cases c:q=u.length
 ·subst c;simp
 ·have hq':q<u.length:=by lia
  rw[List.getElem?_append_left hq',h q hq'];simp[c]
def Wd.pop{S:List Nat}{m0:Nat}(h:Wd n u f (S++[m0]))(m:Mt n u.length f (S++[m0]))(hk:u.length<2*n):Wd n (u++[false]) ((f.set (rd n m0) (rd n u.length)).set (rd n u.length) (rd n m0)) S:=by
 have hmk:m0<u.length:=m.lt m0 (by simp);have up:=List.pairwise_append.mp m.up;have hmS:∀ s∈S,s<m0:=fun s hs=>up.2.2 s hs m0 (by simp);intro q hq;simp at hq;rw[nE m.len hk (by lia) (by lia)];by_cases c:q=u.length
 ·subst c
  have:¬ (u.length∈S):=fun a=>by have:=hmS _ a;lia
  simp[this];lia
 ·have hq':q<u.length:=by lia
  rw[List.getElem?_append_left hq',h q hq',if_neg c];by_cases c':q=m0
  ·subst c';simp[hmk]
  ·simp[c']
def lQ{fc:Nat}(h1:1<=n)(hn:n<=10)(hc:cl fc [.int n]=some (.lst (L (aV n))))(hw:w.length=2*n)(hd:dpf 0 w=some 0):∃ f:List Nat,(Val n f/\Wd n w f [])/\evF cl (cX fc) [.str (tx w)]=some (.tup (L f)):=by
 obtain⟨σ',e,I⟩:=lS (f:=ah cl [3,4] (cO fc)) (tg:=[5,6]) (fun b:Bool=>D.str (tx [b])) (fun _=>rfl)
  (fun u σ=>∃ (f S:List Nat) (o5 o6 o8:Option D),σ=[some (.str (tx w)),some (.int n),some (.lst (L (aV n))),some (.lst (L f)),some (.lst (L (S.map (rd n)))),o5,o6,none,o8]/\dpf 0 u=some S.length/\Mt n u.length f S/\(∀ x,x<2*n->at' f x<2*n)/\Wd n u f S)
  w [] [some (.str (tx w)),some (.int n),some (.lst (L (aV n))),some (.lst (L (List.replicate (2*n) 0))),some (.lst (L [])),none,none,none,none] (by
   rintro u b v σ hu ⟨f,S,o5,o6,o8,rfl,hS,m,hlt,wd⟩
   have hk:u.length<2*n:=by
    rw[<-hw];have:=congrArg List.length hu;simp at this;lia
   have hdb:∃ d,dpf S.length [b]=some d:=by
    have:dpf 0 (u++b::v)=some 0:=by rw[<-hu];exact hd
    rw[fZ,hS]at this
    revert this
    cases b with
    | true=>exact fun _=>⟨_,rfl⟩
    |false=>
     cases S.length with
     | zero=>exact fun h=>nomatch h
     | succ d=>exact fun _=>⟨_,rfl⟩
   cases b with
   |true=>
    refine⟨[some (.str (tx w)),some (.int n),some (.lst (L (aV n))),some (.lst (L f)),some (.lst (L ((S++[u.length]).map (rd n)))),some (.int u.length),some (.str (tx [true])),none,o8],?_,f,S++[u.length],_,_,_,rfl,?_,by simpa using m.push hk,hlt,wd.push m⟩
    ·have hl:S.length<most:=by have:=mC u 0 hS;unfold most;lia
     have ap:L ((S++[u.length]).map (rd n))=L (S.map (rd n))++[.int ((rd n u.length:Nat):Int)]:=by simp[L]
     rw[ap];exact show ah cl [3,4] (cO fc) [some (.str (tx w)),some (.int n),some (.lst (L (aV n))),some (.lst (L f)),some (.lst (L (S.map (rd n)))),some (.int u.length),some (.str (tx [true])),none,o8]=some (.nx,_)from fJ (aC (ay (k:=true) (aa rfl) af (by rw[gc];decide))) (lV (eK (aa rfl) (aa rfl) (kd hk)) rfl rfl (by rw[bw,List.length_map];exact hl) aE) aE
    ·rw[bY,hS];simp[dpf]
   |false=>
    obtain⟨d,hdb⟩:=hdb
    have hS0:S≠[]:=by
     rintro rfl;simp[dpf]at hdb
    obtain⟨S0,m0,rfl⟩:∃ S0 m0,S=S0++[m0]:=⟨S.dropLast,S.getLast hS0,(List.dropLast_concat_getLast hS0).symm⟩
    have hm0:m0<u.length:=m.lt m0 (by simp);have c:=kd hk;have p1:=gz (f:=f) (i:=rd n m0) (j:=rd n u.length) (by rw[m.len];exact aN (by lia));have p2:=gz (f:=f.set (rd n m0) (rd n u.length)) (i:=rd n u.length) (j:=rd n m0) (by rw[List.length_set,m.len];exact aN (by lia));refine⟨[some (.str (tx w)),some (.int n),some (.lst (L (aV n))),some (.lst (L ((f.set (rd n m0) (rd n u.length)).set (rd n u.length) (rd n m0)))),some (.lst (L (S0.map (rd n)))),some (.int u.length),some (.str (tx [false])),none,some (.int ((rd n m0:Nat):Int))],?_,_,S0,_,_,_,rfl,?_,by simpa using m.pop hk,?_,wd.pop m hk⟩
    ·have ap:L ((S0++[m0]).map (rd n))=L (S0.map (rd n))++[.int ((rd n m0:Nat):Int)]:=by simp[L]
     rw[ap];exact show ah cl [3,4] (cO fc) [some (.str (tx w)),some (.int n),some (.lst (L (aV n))),some (.lst (L f)),some (.lst (L (S0.map (rd n))++[.int ((rd n m0:Nat):Int)])),some (.int u.length),some (.str (tx [false])),none,o8]=some (.nx,_)from fO (aC (ay (k:=false) (aa rfl) af (by rw[gc];decide))) (Eb rfl (xg (eK (aa rfl) (aa rfl) c) (aa rfl) rfl rfl p1 (xg (aa rfl) (eK (aa rfl) (aa rfl) c) rfl rfl p2 aE))) aE
    ·rw[bY,hS];simp[dpf]
    ·intro x hx;rw[cC (by simp[m.len];exact aN (by lia)),cC (by rw[m.len];exact aN (by lia))];have:=aN (n:=n) (q:=m0) (by lia);have:=aN (n:=n) (q:=u.length) (by lia);have:=hlt x hx
     repeat' split
     all_goals lia)
  ⟨List.replicate (2*n) 0,[],none,none,none,rfl,rfl,⟨by simp,by simp,by simp,by simp,by simp,by simp,by simp⟩,fun x hx=>by simp[at',hx];lia,fun q hq=>by simp at hq⟩
 obtain⟨f,S,o5,o6,o8,rfl,hS,m,hlt,wd⟩:=I;simp only[List.nil_append]at hS m wd;rw[hd]at hS;have hS0:S=[]:=List.eq_nil_of_length_eq_zero (by simpa using hS.symm);subst hS0;rw[hw]at m;refine⟨f,⟨m.val hlt,wd⟩,?_⟩
 have len:biV .len (.str (tx w))=some (.int ((2*n:Nat):Int)):=by
  rw[Aa];rw[eC,hw,if_pos (by unfold most;lia)]
 have dv:a5 .fdiv (.int ((2*n:Nat):Int)) (.int 2)=some (.int (n:Nat)):=by
  rw[fW (by decide) (by decide)];congr 2;lia
 have it:cA (.str (tx w))=some (w.map fun b=>D.str (tx [b])):=by
  simp[cA,tx,Function.comp_def]
 have z:=zeros cl [some (.str (tx w)),some (.int n),some (.lst (L (aV n))),none,none,none,none,none,none] (aV n);rw[lp]at z
 exact aK rfl rfl (a8 (aq (bh (aa rfl) len) af dv) rfl (a8 (bO (aa rfl) hc) (by unfold bu;rw[show aA (.lst (L (aV n)))=true from bD _];rfl) (gy (dt (ko (aa rfl) rfl) (by rw[bw,lp];unfold most;lia) z) (by rw[show aA (.lst (L (List.replicate (2*n) 0)))=true from bD _];rfl) (gy (cE bS) rfl
  (cR (il (aa rfl) it) e (aG (bh (aa rfl) rfl) (by unfold bo;rw[show(D.tup (L f)).imm=true from bD _];rfl)))))))
def oA{fc:Nat}(h1:1<=n)(hn:n<=10)(hc:cl fc [.int n]=some (.lst (L (aV n))))(hw:w.length=2*n)(hd:dpf 0 w=some 0):∃ f:List Nat,Val n f/\evF cl (cX fc) [.str (tx w)]=some (.tup (L f)):=by
 obtain⟨f,⟨V,_⟩,e⟩:=lQ h1 hn hc hw hd;exact⟨f,V,e⟩
def jB(im:∀ x,(g x).imm=true):∀ xs:List Nat,(∀ x∈xs,(aP tg (.int (x:Nat)) σ).bind F=some (some (g x)))->cj F tg σ (L xs)=some (xs.map g)
 | [],_=>rfl
 | x::r,h=>by
  have a:=h x (by simp);have b:=jB im r (fun y hy=>h y (by simp[hy]));rw[show L (x::r)=.int x::L r from rfl,cj]
  cases hb:aP tg (.int (x:Nat)) σ with
  | none=>rw[hb]at a;cases a
  |some σ1=>
   rw[hb]at a;simp only[Option.bind_some]at a ⊢;rw[a,b];simp[jS,im]
def vy(im:∀ x,(g x).imm=true):∀ xs:List Nat,(∀ x∈xs,(aP tg (.int (x:Nat)) σ).bind F=some (if c x then some (g x)else none))->cj F tg σ (L xs)=some ((xs.filter c).map g)
 | [],_=>rfl
 | x::r,h=>by
  have a:=h x (by simp);have b:=vy im r (fun y hy=>h y (by simp[hy]));rw[show L (x::r)=.int x::L r from rfl,cj]
  cases hb:aP tg (.int (x:Nat)) σ with
  | none=>rw[hb]at a;cases a
  |some σ1=>
   rw[hb]at a;simp only[Option.bind_some]at a ⊢;rw[a,b];cases hc:c x<;>simp[jS,im,hc]
def zi(xs:List Nat)(g:Nat->Nat):(xs.map fun x=>D.int (g x:Nat))=L (xs.map g):=by simp[L]
def jW(h:xs.length<=1000):fits (L xs)=some (L xs):=by
 unfold fits;rw[if_pos (by rw[bw];unfold most;lia)]
def cJ{n:Nat}(h:n<=1000):dm (.int 0) (.int n)=some (L (List.range n)):=by
 have e2:=nR (a:=0) (b:=n) (by lia) h;rw[Nat.sub_zero,<-List.range_eq_range']at e2;exact e2
def nr{n:Nat}(hn:n<=100):evF cl d9 [.int n]=some (.tup (L (bq n))):=by
 have e2:=cJ (n:=n) (by lia)
 have e3:=jB (F:=fun σ1=>(ev cl σ1 (.bin .add (.var 0) (.var 1))).map some) (tg:=[1]) (σ:=[some (.int n),none]) (g:=fun x=>.int ((n+x:Nat):Int)) (fun _=>rfl) (List.range n) (by
  intro x _
  simp[du,bR,aJ,bF])
 rw[zi]at e3
 have e4:a5 .add (.lst (L ((List.range n).map fun x=>n+x))) (.lst (L (List.range n)))=some (.lst (L (bq n))):=by
  rw[Cm];rw[if_pos (by simp[bw,most];lia),bq,hG];congr 3
  ·rw[List.range'_eq_map_range]
  ·rw[List.range_eq_range']
 have e5:=jW (xs:=List.range n) (by simp;lia);simp only[evF,d9,ah,cY,gH,bR,iE,vR,aJ,aU];simp[e2,e5];simp[bR,aJ]at e3;rw[e3];simp[e4,qu,items,bo,D.imm,bD,aS]
def oF{n:Nat}(hn:n<=10):evF cl d9 [.int n]=some (.tup (L (bq n))):=nr (by lia)
def nZ(h:q<2*n):rnd n (bq n) q=2*n-1-q:=by
 unfold rnd rd;by_cases c:q<n
 ·rw[if_pos c,plain_at,if_pos c,if_neg (by lia)];lia
 ·have e:at' (bq n) (3*n-1-q)=2*n-1-q:=by rw[plain_at,if_neg (by omega),if_pos (by omega)];lia
  rw[if_neg c,e,if_pos (by omega)]
def vD(n:Nat):Val n (bq n):=by
 refine⟨jE n,fun q q' h1 h2=>?_⟩;rw[nZ h1,nZ h2];omega
abbrev f7(n i:Nat):List Nat:=js (bq n) (n+i)
set_option synthInstance.maxSize 10000 in
set_option synthInstance.maxHeartbeats 0 in
def xV:∀ n,n<11->∀ i,i<n->i+1<n->∀ q,q<2*n->∀ q',q'<2*n->¬ (q<q'/\q'<rnd n (f7 n i) q/\rnd n (f7 n i) q<rnd n (f7 n i) q'):=by decide +kernel
def xH(hn:n<=10)(h:i+1<n):Val n (f7 n i):=⟨yh (jE n) (by lia),fun q q' h1 h2=>xV n (by lia) i (by lia) h q h1 q' h2⟩
def p6{fp:Nat}{n i:Nat}(hn:n<=10)(hi:i+1<n)(hp:cl fp [.int n]=some (.tup (L (bq n)))):evF cl (gm fp) [.int n,.int i]=some (.tup (L (f7 n i))):=by
 have hl:=(jE n).len
 have e:f7 n i=((((bq n).set i (i+1)).set (i+1) i).set (n+i) (n+i+1)).set (n+i+1) (n+i):=by
  unfold f7 js
  have a1:at' (bq n) (n+i)=i:=by rw[plain_at,if_neg (by lia),if_pos (by lia)];lia
  have a2:at' (bq n) (n+i+1)=i+1:=by rw[plain_at,if_neg (by lia),if_pos (by lia)];lia
  rw[a1,a2,if_neg (by lia)]
 have p1:=gz (f:=bq n) (i:=i) (j:=i+1) (by lia);have p2:=gz (f:=(bq n).set i (i+1)) (i:=i+1) (j:=i) (by simp;lia);have p3:=gz (f:=((bq n).set i (i+1)).set (i+1) i) (i:=n+i) (j:=n+i+1) (by simp;lia);have p4:=gz (f:=(((bq n).set i (i+1)).set (i+1) i).set (n+i) (n+i+1)) (i:=n+i+1) (j:=n+i) (by simp;lia);rw[<-e]at p4;simp only[Int.natCast_add,Int.natCast_one]at p1 p2 p3 p4;simp[evF,gm,ah,d6,kD,fv,cY,gH,bR,bZ,j6,aJ,df,evs,hp,GO,qu,items,aA,bD,aU,bF,bb,D.imm,du,kO,p1,p2,p3,p4,bo,aS]
abbrev aQ(n:Nat)(f:List Nat):List Nat:=(List.range (2*n)).map fun p=>(at' f ((p+n)%(2*n))+n)%(2*n)
def mJ(h:p<2*n):at' (aQ n f) p=(at' f ((p+n)%(2*n))+n)%(2*n):=by
 simp[at',aQ,h]
def half{xs:List D}(h:xs.length=2*n):biV .len (.tup xs)=some (.int (2*n)):=by
 simp[Ad,h]
def tN(n:Nat):a5 .fdiv (.int (2*(n:Int))) (.int 2)=some (.int n):=by
 rw[fW (by decide) (by decide)];congr 2;lia
def dR(h:x<f.length):ixV (.tup (L f)) (.int (x:Nat))=some (.int (at' f x:Nat)):=by
 show cW _ _=_;rw[jc,zR,iF h];rfl
def qO(h1:1<=n)(hn:n<=10)(hf:f.length=2*n):evF cl gi [.tup (L f)]=some (.tup (L (aQ n f))):=by
 have e1:a5 .mul (.int 2) (.int n)=some (.int (2*n)):=bB (by decide) (by decide);have e2:=cJ (n:=2*n) (by lia);rw[show((2*n:Nat):Int)=2*(n:Int) by lia]at e2
 have e3:=jB (F:=fun σ1=>(ev cl σ1 (.bin .mod (.bin .add (.ix (.var 0) (.bin .mod (.bin .add (.var 2) (.var 1)) (.bin .mul (.cst (.int 2)) (.var 1)))) (.var 1)) (.bin .mul (.cst (.int 2)) (.var 1)))).map some) (tg:=[2]) (σ:=[some (.tup (L f)),some (.int n),none]) (g:=fun p=>.int (((at' f ((p+n)%(2*n))+n)%(2*n):Nat):Int)) (fun _=>rfl) (List.range (2*n)) (by
  intro x _
  have m1:a5 .mod (.int ((x:Int)+n)) (.int (2*(n:Int)))=some (.int (((x+n)%(2*n):Nat):Int)):=by
   rw[dh (by lia)];simp
  have m2:=dR (f:=f) (x:=(x+n)%(2*n)) (by rw[hf];exact Nat.mod_lt _ (by lia))
  have m3:a5 .mod (.int ((at' f ((x+n)%(2*n)):Nat)+(n:Int))) (.int (2*(n:Int)))=some (.int (((at' f ((x+n)%(2*n))+n)%(2*n):Nat):Int)):=by
   rw[dh (by lia)];simp
  simp only[du,bR,bZ,i0,aJ,List.set,Option.bind_some,List.getElem?_cons_zero,List.getElem?_cons_succ,id,e1,bF,m1,m2,m3,Option.map_some])
 rw[zi]at e3;have e5:=jW (xs:=List.range (2*n)) (by simp;lia);have e6:=half (xs:=L f) (n:=n) (by rw[bw,hf]);have e7:=tN n;simp only[evF,gi,ah,eP,cY,gH,bR,bZ,aJ,iE,i0,aU];simp[e2,e5,e1,e6,e7,bu,D.imm];simp[bR,bZ,i0,aJ]at e3;rw[e3];simp[qu,items,bo,D.imm,bD,aS,aQ]
section dicts
variable [DecidableEq κ]
def rA:∀ {ks:List κ} {vs:List D} {x:κ} {d:D} {y:κ},ks.length=vs.length->x∉ks->aB (ks++[x]) (vs++[d]) y=if x=y then some d else aB ks vs y
 | [],[],x,d,y,_,_=>by simp[aB]
 | k::ks,v::vs,x,d,y,h,hn=>by
  simp at h hn;have:=rA (ks:=ks) (vs:=vs) (x:=x) (d:=d) (y:=y) h hn.2;simp only[List.cons_append,aB];by_cases e:k=y
  ·rw[if_pos e,if_pos e,if_neg (fun c=>hn.1 (c.trans e.symm))]
  ·rw[if_neg e,if_neg e,this]
def rB:∀ {ks:List κ} {vs:List D} {x:κ} {d:D} {y:κ},ks.length=vs.length->x∈ks->aB ks (List.zipWith (fun k v=>if k=x then d else v) ks vs) y=if x=y then some d else aB ks vs y
 | k::ks,v::vs,x,d,y,h,hm=>by
  simp at h;simp only[List.zipWith_cons_cons,aB];by_cases e:k=y
  ·rw[if_pos e,if_pos e];by_cases e':k=x
   ·rw[if_pos e',if_pos (e'.symm.trans e)]
   ·rw[if_neg e',if_neg (fun c=>e' (e.trans c.symm))]
  ·rw[if_neg e,if_neg e];by_cases hx:x∈ks
   ·exact rB h hx
   ·have kx:x=k:=by simpa[hx]using hm
    rw[if_neg (fun c=>e (kx.symm.trans c))]
    have:List.zipWith (fun k v=>if k=x then d else v) ks vs=vs:=by
     clear e hm kx
     induction ks generalizing vs with
     | nil=>cases vs with | nil=>rfl | cons _ _=>simp at h
     | cons a ks ih=>cases vs with
      | nil=>simp at h
      |cons b vs=>
       simp at h hx;simp only[List.zipWith_cons_cons];rw[if_neg (fun c=>hx.1 c.symm),ih (vs:=vs) (h:=h) (hx:=hx.2)]
    rw[this]
def gM{ks:List κ}(h:ks.length=vs.length):aB (putD ks vs x d).1 (putD ks vs x d).2 y=if x=y then some d else aB ks vs y:=by
 unfold putD;split
 ·exact rB h ‹_›
 ·exact rA h ‹_›
def gp{ks:List κ}(h:ks.length=vs.length):(putD ks vs x d).1.length=(putD ks vs x d).2.length/\(putD ks vs x d).1.length<=ks.length+1:=by
 unfold putD;split<;>simp[h]
end dicts
abbrev sd(b:Bool):PySem.Str:=if b then PySem.Str.ofString "high" else PySem.Str.ofString "low"
def oI(b:Bool):(sd b == PySem.Str.ofString "high")=b:=by cases b<;>decide +kernel
def EJ(h:sd a=sd b):a=b:=by
 have:=oI a;rw[h,oI]at this;exact this.symm
abbrev nk(b:Bool)(p:Nat):List Ky:=[.inr (sd b),.inl (p:Int)]
def pL(h:nk a p=nk b q):a=b/\p=q:=by
 unfold nk at h;injection h with h1 h2;injection h1 with h1;injection h2 with h2;injection h2 with h2;exact⟨EJ h1,by lia⟩
abbrev aY(b:Bool)(x:Nat):D:=.tup [.str (sd b),.int x]
abbrev pick(h l:List Nat)(b:Bool):List Nat:=if b then h else l
abbrev jI(h l:List Nat)(k:Nat)(ks:List (List Ky))(vs:List D):Prop:=ks.length=vs.length/\ks.length<=2*k/\∀ b p,p<k->aB ks vs (nk b p)=some (aY b (at' (pick h l b) p))
def jI.next{h l:List Nat}(N:jI h l k ks vs):jI h l (k+1) (putD (putD ks vs (nk true k) (aY true (at' h k))).1 (putD ks vs (nk true k) (aY true (at' h k))).2 (nk false k) (aY false (at' l k))).1 (putD (putD ks vs (nk true k) (aY true (at' h k))).1 (putD ks vs (nk true k) (aY true (at' h k))).2 (nk false k) (aY false (at' l k))).2:=by
 obtain⟨n1,n2,n3⟩:=N;obtain⟨a1,a2⟩:=gp (x:=nk true k) (d:=aY true (at' h k)) n1;obtain⟨b1,b2⟩:=gp (x:=nk false k) (d:=aY false (at' l k)) a1;refine⟨b1,by lia,fun b p hp=>?_⟩;rw[gM a1,gM n1];by_cases e:p=k
 ·subst e;cases b
  ·rw[if_pos rfl];rfl
  ·rw[if_neg (fun c=>by have:=(pL c).1;cases this),if_pos rfl];rfl
 ·rw[if_neg (fun c=>e (pL c).2.symm),if_neg (fun c=>e (pL c).2.symm)];exact n3 b p (by lia)
def wW{fr:Nat}(hn:n<=10)(hh:h.length=2*n)(hl:l.length=2*n):∃ ks vs o,jI h l (2*n) ks vs/\bb (ah cl [3,5,6] (fD fr)) [4] (L (List.range (2*n))) [some (.tup (L h)),some (.tup (L l)),some (.int n),some (.dT [] []),none,none,none,none,none]=some (.nx,[some (.tup (L h)),some (.tup (L l)),some (.int n),some (.dT ks vs),o,none,none,none,none]):=by
 obtain⟨σ',e,ks,vs,o,rfl,N⟩:=cB (f:=ah cl [3,5,6] (fD fr)) (tg:=[4]) (xs:=List.range (2*n)) (σ:=[some (.tup (L h)),some (.tup (L l)),some (.int n),some (.dT [] []),none,none,none,none,none])
  (fun p σ=>∃ ks vs o,σ=[some (.tup (L h)),some (.tup (L l)),some (.int n),some (.dT ks vs),o,none,none,none,none]/\jI h l p.length ks vs) ⟨[],[],none,rfl,rfl,by simp,by simp⟩ (by
   rintro p x q σ hx ⟨ks,vs,o,rfl,N⟩;obtain⟨h1,h2⟩:=cv (g:=id) (by simpa using hx);simp only[id]at h2;subst h2;have i1:=dR (f:=h) (x:=p.length) (by lia);have i2:=dR (f:=l) (x:=p.length) (by lia);have a:=gp (x:=nk true p.length) (d:=aY true (at' h p.length)) N.1
   have m1:ks.length<most:=by have:=N.2.1;unfold most;lia
   have m2:(putD ks vs (nk true p.length) (aY true (at' h p.length))).1.length<most:=by have:=N.2.1;unfold most;lia
   refine⟨_,?_,_,_,some (.int (p.length:Int)),rfl,by simpa using N.next⟩;have k1:keysOf [.str (PySem.Str.ofString "high"),.int (p.length:Int)]=some (nk true p.length):=rfl;have k2:keysOf [.str (PySem.Str.ofString "low"),.int (p.length:Int)]=some (nk false p.length):=rfl
   have u1:eN (.dT ks vs) (.tup [.str (PySem.Str.ofString "high"),.int (p.length:Int)]) (.tup [.str (PySem.Str.ofString "high"),.int (at' h p.length:Nat)])=some (.dT (putD ks vs (nk true p.length) (aY true (at' h p.length))).1 (putD ks vs (nk true p.length) (aY true (at' h p.length))).2):=by
    rw[C8];rw[k1,Option.bind_some,if_pos m1];rfl
   have u2:∀ ks vs,ks.length<most->eN (.dT ks vs) (.tup [.str (PySem.Str.ofString "low"),.int (p.length:Int)]) (.tup [.str (PySem.Str.ofString "low"),.int (at' l p.length:Nat)])=some (.dT (putD ks vs (nk false p.length) (aY false (at' l p.length))).1 (putD ks vs (nk false p.length) (aY false (at' l p.length))).2):=by
    intro ks vs m;rw[C8];rw[k2,Option.bind_some,if_pos m];rfl
   simp only[du,fD,ah,fv,bZ,i0,j6,aJ,evs,List.set,Option.bind_some,List.getElem?_cons_zero,List.getElem?_cons_succ,id,i1,i2,Option.map_some,D.imm,ao,Bool.and_self,if_true,u1,u2 _ _ m2])
 simp only[List.length_range]at N;exact⟨ks,vs,o,N,e⟩
abbrev stp(n:Nat)(h l:List Nat)(s:Bool × Nat):Bool × Nat:=if s.1=decide (n<=s.2)then(!s.1,at' (pick h l (!s.1)) ((s.2+n)%(2*n)))else s
abbrev itr(n:Nat)(h l:List Nat):Nat->Bool × Nat->Bool × Nat
 | 0,s=>s
 | i+1,s=>stp n h l (itr n h l i s)
abbrev Tr(n:Nat)(s:Bool × Nat)(m:Nat):Prop:=s.1=decide (n<=s.2)/\s.2%n=m
abbrev GD(gk:List Ky)(gv:List D)(k:Nat)(P:Nat->Prop):Prop:=gk.length=gv.length/\gk.length<=k/\∀ m:Nat,(aB gk gv (.inl (m:Int))).isSome=true↔P m
def GD.put(G:GD gk gv k P)(m0:Nat)(d:D):GD (putD gk gv (.inl (m0:Int)) d).1 (putD gk gv (.inl (m0:Int)) d).2 (k+1) (fun m=>P m\/m0=m):=by
 obtain⟨g1,g2,g3⟩:=G;obtain⟨a1,a2⟩:=gp (x:=(.inl (m0:Int):Ky)) (d:=d) g1;refine⟨a1,by lia,fun m=>?_⟩;rw[gM g1];by_cases e:m0=m
 ·subst e;simp
 ·rw[if_neg (fun c=>e (by injection c;lia)),g3];simp[e]
def GD.mono(G:GD gk gv k P)(hk:k<=k')(h:∀ m,P m↔Q m):GD gk gv k' Q :=
 ⟨G.1,by have:=G.2.1;lia,fun m=>(G.2.2 m).trans (h m)⟩
abbrev hst(n:Nat)(h l:List Nat)(ks:List (List Ky))(vs:List D)(o4:Option D)(fnd:List Nat)(gk:List Ky)(gv:List D)(o7 o8:Option D):St :=
 [some (.tup (L h)),some (.tup (L l)),some (.int n),some (.dT ks vs),o4,some (.lst (L fnd)),some (.dK gk gv),o7,o8]
section
def pP(b:Bool)(x:Nat):ixV (aY b x) (.int 0)=some (.str (sd b)):=rfl
def l7(b:Bool)(x:Nat):ixV (aY b x) (.int 1)=some (.int (x:Nat)):=rfl
def lB(b:Bool):ixV (.lst [.str (PySem.Str.ofString "high"),.str (PySem.Str.ofString "low")]) (.int (if b=true then 1 else 0))=some (.str (sd !b)):=by cases b<;>rfl
def Az(h1:1<=n)(hn:n<=10)(N:jI h l (2*n) ks vs)(hx:x<2*n)(G:GD gk gv k P)(hk:k<=2000)(o4 o8:Option D)(t:D) :
  ∃ gk' gv',GD gk' gv' (k+1) (fun m=>P m\/Tr n (b,x) m)/\(aP [8] t (hst n h l ks vs o4 fnd gk gv (some (aY b x)) o8)).bind (ah cl [3,5,6] (cU fr))=some (.nx,hst n h l ks vs o4 fnd gk' gv' (some (aY (stp n h l (b,x)).1 (stp n h l (b,x)).2)) (some t)):=by
 have e1:a5 .mul (.int 2) (.int n)=some (.int (2*n)):=bB (by decide) (by decide)
 have cnd:ev cl (hst n h l ks vs o4 fnd gk gv (some (aY b x)) (some t)) (.cmp .eq (.cmp .eq (.ix (.var 7) (.cst (.int 0))) (.cst (.str "high"))) (.cmp .ge (.ix (.var 7) (.cst (.int 1))) (.var 2)))=some (.bl (b == decide (n<=x))):=by
  simp only[hst,dY,i0,aJ,bZ,Option.bind_some,List.getElem?_cons_zero,List.getElem?_cons_succ,id,pP,l7,E6,E5,tK,tW,uI,oI,Option.map_some];simp
 by_cases e:b=decide (n<=x)
 ·refine⟨_,_,(G.put (x%n) (.bl true)).mono (Nat.le_refl _) (fun m=>by simp[Tr,e]),?_⟩
  have m1:a5 .mod (.int (x:Nat)) (.int n)=some (.int ((x%n:Nat):Int)):=by rw[dh (by lia)];simp
  have m2:a5 .mod (.int ((x:Nat)+(n:Int))) (.int (2*(n:Int)))=some (.int (((x+n)%(2*n):Nat):Int)):=by rw[dh (by lia)];simp
  have u:eN (.dK gk gv) (.int ((x%n:Nat):Int)) (.bl true)=some (.dK (putD gk gv (.inl ((x%n:Nat):Int)) (.bl true)).1 (putD gk gv (.inl ((x%n:Nat):Int)) (.bl true)).2):=by
   rw[x9];dsimp only[keyOf];rw[Option.bind_some,if_pos (by have:=G.2.1;unfold most;lia)]
  have lk:mP (.dT ks vs) (.tup [.str (sd !b),.int (((x+n)%(2*n):Nat):Int)])=some (aY (!b) (at' (pick h l !b) ((x+n)%(2*n)))):=by
   have:=N.2.2 (!b) ((x+n)%(2*n)) (Nat.mod_lt _ (by lia));rw[<-this];rfl
  have s1:stp n h l (b,x)=(!b,at' (pick h l !b) ((x+n)%(2*n))):=by unfold stp;rw[if_pos e]
  rw[s1]
  have eb:(b == decide (n<=x))=true:=by simp[e]
  rw[eb]at cnd;simp only[du,hst,List.set,Option.bind_some,cU,ah,eP,dB,fv]at cnd ⊢;rw[cnd];simp only[Option.bind_some,truth,if_true,ah,gH,bR,dY,bZ,i0,hW,ka,j6,aJ,evs,List.getElem?_cons_zero,List.getElem?_cons_succ,id,pP,l7,m1,u,D.imm,Option.map_some,List.set,E6,E5,tK,tW,uI,oI,DW,lB,bF,e1,m2,lk];have ok:bu [3,5,6] (.ixD (.var 3) (.tup (.cons (.ix (.lst (.cons (.cst (.str "high")) (.cons (.cst (.str "low")) .nil))) (.bi .int (.cmp .eq (.ix (.var 7) (.cst (.int 0))) (.cst (.str "high"))))) (.cons (.bin .mod (.bin .add (.ix (.var 7) (.cst (.int 1))) (.var 2)) (.bin .mul (.cst (.int 2)) (.var 2))) .nil)))) (aY (!b) (at' (pick h l !b) ((x+n)%(2*n))))=true:=rfl;rw[if_pos ok];rfl
 ·refine⟨gk,gv,G.mono (by lia) (fun m=>by simp[Tr,e]),?_⟩
  have s1:stp n h l (b,x)=(b,x):=by unfold stp;rw[if_neg e]
  rw[s1]
  have eb:(b == decide (n<=x))=false:=by simp[e]
  rw[eb]at cnd;simp only[du,hst,List.set,Option.bind_some,cU,ah,eP,dB,fv]at cnd ⊢;rw[cnd];simp[truth,ah]
def BV(hh:∀ x,x<2*n->at' h x<2*n)(hl:∀ x,x<2*n->at' l x<2*n)(hs:s.2<2*n):(stp n h l s).2<2*n:=by
 unfold stp;split
 ·have m:(s.2+n)%(2*n)<2*n:=Nat.mod_lt _ (by lia);cases s.1
  ·exact hh _ m
  ·exact hl _ m
 ·exact hs
def wD(hh:∀ x,x<2*n->at' h x<2*n)(hl:∀ x,x<2*n->at' l x<2*n)(hs:s.2<2*n):∀ i,(itr n h l i s).2<2*n
 | 0=>hs
 | i+1=>BV hh hl (wD hh hl hs i)
abbrev Met(n:Nat)(h l:List Nat)(s:Bool × Nat)(i:Nat)(m:Nat):Prop:=∃ j,j<i/\Tr n (itr n h l j s) m
def Aw(h1:1<=n)(hn:n<=10)(N:jI h l (2*n) ks vs)(hh:∀ x,x<2*n->at' h x<2*n)(hl:∀ x,x<2*n->at' l x<2*n)(hs:s.2<2*n)(G:GD gk gv k P)(hk:k<=1000)(o4 o8:Option D) :
  ∃ gk' gv' o8',GD gk' gv' (k+4*n) (fun m=>P m\/Met n h l s (4*n) m)/\bb (ah cl [3,5,6] (cU fr)) [8] (L (List.range (4*n))) (hst n h l ks vs o4 fnd gk gv (some (aY s.1 s.2)) o8)=some (.nx,hst n h l ks vs o4 fnd gk' gv' (some (aY (itr n h l (4*n) s).1 (itr n h l (4*n) s).2)) o8'):=by
 obtain⟨σ',e,gk',gv',o8',rfl,G'⟩:=cB (f:=ah cl [3,5,6] (cU fr)) (tg:=[8]) (xs:=List.range (4*n)) (σ:=hst n h l ks vs o4 fnd gk gv (some (aY s.1 s.2)) o8)
  (fun p σ=>∃ gk' gv' o8',σ=hst n h l ks vs o4 fnd gk' gv' (some (aY (itr n h l p.length s).1 (itr n h l p.length s).2)) o8'/\GD gk' gv' (k+p.length) (fun m=>P m\/Met n h l s p.length m))
  ⟨gk,gv,o8,rfl,G.mono (by simp) (fun m=>by simp[Met])⟩ (by
   rintro p x q σ hx ⟨gk',gv',o8',rfl,G'⟩;obtain⟨a1,a2⟩:=cv (g:=id) (by simpa using hx);obtain⟨gk2,gv2,G2,e2⟩:=Az (cl:=cl) (fr:=fr) (fnd:=fnd) h1 hn N (wD hh hl hs p.length) G' (by lia) o4 o8' (.int (x:Nat)) (b:=(itr n h l p.length s).1);refine⟨_,e2,gk2,gv2,_,by rw[List.length_append];rfl,G2.mono (by simp;lia) (fun m=>?_)⟩;simp only[Met,List.length_append,List.length_singleton];constructor
   ·rintro((hp | ⟨j,h1,h2⟩) | h2)
    ·exact .inl hp
    ·exact .inr ⟨j,by lia,h2⟩
    ·exact .inr ⟨p.length,by lia,h2⟩
   ·rintro(hp | ⟨j,h1,h2⟩)
    ·exact .inl (.inl hp)
    ·by_cases hj:j=p.length
     ·subst hj;exact .inr h2
     ·exact .inl (.inr ⟨j,by lia,h2⟩))
 simp only[List.length_range]at G' e;exact⟨gk',gv',o8',G',e⟩
abbrev beg(n:Nat)(h l:List Nat)(p:Nat):Bool × Nat:=(decide (p<n),at' (pick h l (decide (p<n))) p)
abbrev hJ(n:Nat)(h l:List Nat):List Nat:=(List.range (2*n)).map fun p=>(itr n h l (4*n) (beg n h l p)).2
abbrev Gn(n:Nat)(h l:List Nat)(k m:Nat):Prop:=∃ p,p<k/\Met n h l (beg n h l p) (4*n) m
def GL(b:Bool):ixV (.lst [.str (PySem.Str.ofString "high"),.str (PySem.Str.ofString "low")]) (.int (if b=true then 1 else 0))=some (.str (sd !b)):=lB b
def Ax(h1:1<=n)(hn:n<=10)(N:jI h l (2*n) ks vs)(hh:∀ x,x<2*n->at' h x<2*n)(hl:∀ x,x<2*n->at' l x<2*n)(o4 o7 o8:Option D) :
  ∃ gk gv o4' o7' o8',GD gk gv 1000 (Gn n h l (2*n))/\bb (ah cl [3,5,6] (fA fr)) [4] (L (List.range (2*n))) (hst n h l ks vs o4 [] [] [] o7 o8)=some (.nx,hst n h l ks vs o4' (hJ n h l) gk gv o7' o8'):=by
 have e4:a5 .mul (.int 4) (.int n)=some (.int (4*n)):=bB (by decide) (by decide);have r4:=cJ (n:=4*n) (by lia);rw[show((4*n:Nat):Int)=4*(n:Int) by lia]at r4
 obtain⟨σ',e,gk,gv,o4',o7',o8',rfl,G⟩:=cB (f:=ah cl [3,5,6] (fA fr)) (tg:=[4]) (xs:=List.range (2*n)) (σ:=hst n h l ks vs o4 [] [] [] o7 o8)
  (fun p σ=>∃ gk gv o4' o7' o8',σ=hst n h l ks vs o4' ((List.range p.length).map fun p=>(itr n h l (4*n) (beg n h l p)).2) gk gv o7' o8'/\GD gk gv (40*p.length) (Gn n h l p.length))
  ⟨[],[],o4,o7,o8,rfl,rfl,by simp,fun m=>by simp[aB,Gn]⟩ (by
   rintro p x q σ hx ⟨gk,gv,o4',o7',o8',rfl,G⟩;obtain⟨a1,a2⟩:=cv (g:=id) (by simpa using hx);simp only[id]at a2;subst a2
   have hb:(beg n h l p.length).2<2*n:=by
    unfold beg pick;cases decide (p.length<n)
    ·exact hl _ a1
    ·exact hh _ a1
   obtain⟨gk2,gv2,o82,G2,e2⟩:=Aw (cl:=cl) (fr:=fr) (fnd:=(List.range p.length).map fun p=>(itr n h l (4*n) (beg n h l p)).2) h1 hn N hh hl hb G (by lia) (some (.int (p.length:Nat))) o8'
   have c1:aO .ge (.int (p.length:Nat)) (.int n)=some (!decide (p.length<n)):=by
    rw[xM];congr 1;by_cases c:p.length<n
    ·simp[c]
    ·simp[c];lia
   have lk:mP (.dT ks vs) (.tup [.str (sd (decide (p.length<n))),.int (p.length:Nat)])=some (aY (beg n h l p.length).1 (beg n h l p.length).2):=by
    have:=N.2.2 (decide (p.length<n)) p.length a1;rw[show aY (beg n h l p.length).1 (beg n h l p.length).2=aY (decide (p.length<n)) (at' (pick h l (decide (p.length<n))) p.length)from rfl,<-this];rfl
   have sx:=lB (!decide (p.length<n));rw[Bool.not_not]at sx;refine⟨hst n h l ks vs (some (.int (p.length:Nat))) ((List.range (p++[p.length]).length).map fun p=>(itr n h l (4*n) (beg n h l p)).2) gk2 gv2 (some (aY (itr n h l (4*n) (beg n h l p.length)).1 (itr n h l (4*n) (beg n h l p.length)).2)) o82,?_,gk2,gv2,_,_,_,rfl,G2.mono (by simp;lia) (fun m=>?_)⟩
   ·have ok:bu [3,5,6] (.ixD (.var 3) (.tup (.cons (.ix (.lst (.cons (.cst (.str "high")) (.cons (.cst (.str "low")) .nil))) (.bi .int (.cmp .ge (.var 4) (.var 2)))) (.cons (.var 4) .nil)))) (aY (beg n h l p.length).1 (beg n h l p.length).2)=true:=rfl;simp only[du,hst,List.set,Option.bind_some,fA,ah,tU,eP,d6,bR,bZ,i0,aJ,hW,ka,j6,gH,dY,evs,aU,List.getElem?_cons_zero,List.getElem?_cons_succ,id,c1,Option.map_some,DW,sx,lk,e4,r4]at e2 ⊢;rw[if_pos ok];simp only[Option.bind_some,e4,r4,List.getElem?_cons_zero,List.getElem?_cons_succ,id,e2,l7]
    have ml:((D.int (((itr n h l (4*n) (beg n h l p.length)).2:Nat):Int)).imm&&decide ((L (List.map (fun p=>(itr n h l (4*n) (beg n h l p)).snd) (List.range p.length))).length<most))=true:=by
     simp[D.imm,bw,most];lia
    rw[if_pos ml];simp[L,List.range_succ]
   ·simp only[Gn,List.length_append,List.length_singleton];constructor
    ·rintro(⟨j,h1,h2⟩ | h2)
     ·exact⟨j,by lia,h2⟩
     ·exact⟨p.length,by lia,h2⟩
    ·rintro⟨j,h1,h2⟩;by_cases hj:j=p.length
     ·subst hj;exact .inr h2
     ·exact .inl ⟨j,by lia,h2⟩)
 simp only[List.length_range]at G e;exact⟨gk,gv,o4',o7',o8',G.mono (by lia) (fun _=>Iff.rfl),e⟩
def yN(h1:1<=n)(hn:n<=10)(h2:h.length=2*n)(l2:l.length=2*n)(hh:∀ x,x<2*n->at' h x<2*n)(hl:∀ x,x<2*n->at' l x<2*n) :
  ∃ inner:List Nat,(∀ m,m∈inner↔m<n/\¬ Gn n h l (2*n) m)/\inner.length<=n/\∀ r:Int,cl fr [.tup (L h),.tup (L l),.lst (L inner)]=some (.int r)->evF cl (eT fr) [.tup (L h),.tup (L l)]=some (.tup [.tup (L (hJ n h l)),.int r]):=by
 have e1:a5 .mul (.int 2) (.int n)=some (.int (2*n)):=bB (by decide) (by decide);have r2:=cJ (n:=2*n) (by lia);rw[show((2*n:Nat):Int)=2*(n:Int) by lia]at r2;have r1:=cJ (n:=n) (by lia);obtain⟨ks,vs,o,N,en⟩:=wW (cl:=cl) (fr:=fr) hn h2 l2;obtain⟨gk,gv,o4,o7,o8,G,eb⟩:=Ax (cl:=cl) (fr:=fr) h1 hn N hh hl o none none;refine⟨(List.range n).filter fun m:Nat=>!(aB gk gv (.inl (m:Int))).isSome,fun m=>?_,?_,?_⟩
 ·have:=G.2.2 m;simp[<-this]
 ·have:=List.length_filter_le (fun m:Nat=>!(aB gk gv (.inl (m:Int))).isSome) (List.range n);simpa using this
 ·intro r hr;have e6:=half (xs:=L h) (n:=n) (by rw[bw,h2]);have e7:=tN n;have ft:=jW (xs:=List.range n) (by simp;lia)
  have mc:=vy (F:=fun σ1=>((ev cl σ1 (.inD true (.var 4) (.var 6))).bind truth).bind fun k=>if k then(ev cl σ1 (.var 4)).map some else some none) (tg:=[4]) (σ:=hst n h l ks vs o4 (hJ n h l) gk gv o7 o8) (g:=fun m=>.int (m:Nat)) (c:=fun m=>!(aB gk gv (.inl (m:Int))).isSome) (fun _=>rfl) (List.range n) (by
   intro x _;simp only[du,hst,List.set,Option.bind_some,tY,aJ,List.getElem?_cons_zero,List.getElem?_cons_succ,id,qW,keyOf,Option.map_some,truth,if_true]
   cases(aB gk gv (.inl (x:Int))).isSome<;>rfl)
  simp only[evF,eT,ah,eP,d6,kD,cY,gH,bR,bZ,aJ,ka,j6,zJ,G1,aU];simp[e6,e7,bu,D.imm,aA,ao,e1,r2];rw[en];simp[ah,gH,df,xm,aJ,tY,evs,aU,e1,r2,aA,ao,D.imm];simp[hst]at eb;rw[show L []=[]from rfl]at eb;rw[eb];simp[ah,evs,aU,r1,ft,qu,items];simp[tY,aJ,hst]at mc;rw[mc];rw[show(List.map (fun m:Nat=>D.int (m:Int)) (List.filter (fun m:Nat=>(aB gk gv (Sum.inl (m:Int))).isNone) (List.range n)))=L (List.filter (fun m:Nat=>(aB gk gv (Sum.inl (m:Int))).isNone) (List.range n))from rfl];simp at hr;simp[hr,bo,D.imm,ao,bD,aS]
end
def ph [DecidableEq κ]:∀ {ks:List κ} {vs:List D} {x:κ} {d:D},aB ks vs x=some d->x∈ks
 | k::ks,v::vs,x,d,h=>by
  rw[aB]at h;by_cases e:k=x
  ·simp[e]
  ·rw[if_neg e]at h;simp[ph h]
def xB{κ:Type} [DecidableEq κ]{ks:List κ}{vs:List D}{x:κ}(h:aB ks vs x=some d):(putD ks vs x e).1=ks:=by
 unfold putD;rw[if_pos (ph h)]
abbrev HI(inner:List Nat)(hk:List Ky)(hv:List D):Prop:=hk.length=hv.length/\hk.length<=10/\∀ m∈inner,∃ v:Int,aB hk hv (.inl (m:Int))=some (.int v)
def HI.put{inner:List Nat}{hk:List Ky}{hv:List D}(H:HI inner hk hv){m:Nat}(hm:m∈inner)(v:Int):HI inner (putD hk hv (.inl (m:Int)) (.int v)).1 (putD hk hv (.inl (m:Int)) (.int v)).2:=by
 obtain⟨a,b,c⟩:=H;obtain⟨v0,h0⟩:=c m hm;refine⟨(gp a).1,by rw[xB h0];exact b,fun i hi=>?_⟩;rw[gM a];by_cases e:(.inl (m:Int):Ky)=.inl (i:Int)
 ·rw[if_pos e];exact⟨v,rfl⟩
 ·rw[if_neg e];exact c i hi
abbrev rst(n:Nat)(h l inner:List Nat)(hk:List Ky)(hv:List D)(o5 o6 o7 o8 o9:Option D):St :=
 [some (.tup (L h)),some (.tup (L l)),some (.lst (L inner)),some (.int n),some (.dK hk hv),o5,o6,o7,o8,o9]
section
def oZ(e:aB hk hv (.inl (m:Int))=some (.int v)):mP (.dK hk hv) (.int (m:Nat))=some (.int v):=e
def BF(H:HI inner hk hv)(o5 o6 o7:Option D)(keep go:Int):∃ hk' hv' o7',HI inner hk' hv'/\bb (ah cl [4] cq) [7] (L inner) (rst n h l inner hk hv o5 o6 o7 (some (.int keep)) (some (.int go)))=some (.nx,rst n h l inner hk' hv' o5 o6 o7' (some (.int keep)) (some (.int go))):=by
 obtain⟨σ',e,hk',hv',o7',rfl,H'⟩:=cB (f:=ah cl [4] cq) (tg:=[7]) (xs:=inner) (σ:=rst n h l inner hk hv o5 o6 o7 (some (.int keep)) (some (.int go)))
  (fun p σ=>∃ hk' hv' o7',σ=rst n h l inner hk' hv' o5 o6 o7' (some (.int keep)) (some (.int go))/\HI inner hk' hv') ⟨hk,hv,o7,rfl,H⟩ (by
   rintro p x q σ hx ⟨hk',hv',o7',rfl,H'⟩
   have hm:x∈inner:=by rw[hx];simp
   obtain⟨v,hv0⟩:=H'.2.2 x hm;have lk:=oZ hv0;by_cases c:v=go
   ·refine⟨_,?_,_,_,some (.int (x:Nat)),rfl,H'.put hm keep⟩
    have cc:(v == go)=true:=by simp[c]
    have u:eN (.dK hk' hv') (.int (x:Nat)) (.int keep)=some (.dK (putD hk' hv' (.inl (x:Int)) (.int keep)).1 (putD hk' hv' (.inl (x:Int)) (.int keep)).2):=by
     rw[x9];dsimp only[keyOf];rw[Option.bind_some,if_pos (by have:=H'.2.1;unfold most;lia)]
    simp only[du,rst,List.set,Option.bind_some,cq,ah,dB,fv,dY,hW,aJ,List.getElem?_cons_zero,List.getElem?_cons_succ,id,lk,c9,cc,Option.map_some,truth,if_true,D.imm,u]
   ·refine⟨_,?_,hk',hv',some (.int (x:Nat)),rfl,H'⟩
    have cc:(v == go)=false:=by simp[c]
    simp only[du,rst,List.set,Option.bind_some,cq,ah,dB,fv,dY,hW,aJ,List.getElem?_cons_zero,List.getElem?_cons_succ,id,lk,c9,cc,Option.map_some,truth]
    rfl)
 exact⟨hk',hv',o7',H',e⟩
def yq(H:HI inner hk hv)(hm:m∈inner)(hxs:∀ x∈xs,x∈inner)(o6 o7 o8 o9:Option D):∃ hk' hv' o6' o7' o8' o9',HI inner hk' hv'/\bb (ah cl [4] da) [6] (L xs) (rst n h l inner hk hv (some (.int (m:Nat))) o6 o7 o8 o9)=some (.nx,rst n h l inner hk' hv' (some (.int (m:Nat))) o6' o7' o8' o9'):=by
 obtain⟨σ',e,hk',hv',o6',o7',o8',o9',rfl,H'⟩:=cB (f:=ah cl [4] da) (tg:=[6]) (xs:=xs) (σ:=rst n h l inner hk hv (some (.int (m:Nat))) o6 o7 o8 o9)
  (fun p σ=>∃ hk' hv' o6' o7' o8' o9',σ=rst n h l inner hk' hv' (some (.int (m:Nat))) o6' o7' o8' o9'/\HI inner hk' hv') ⟨hk,hv,o6,o7,o8,o9,rfl,H⟩ (by
   rintro p x q σ hx ⟨hk',hv',o6',o7',o8',o9',rfl,H'⟩;have hx':x∈inner:=hxs x (by rw[hx];simp);obtain⟨v,hv0⟩:=H'.2.2 x hx';obtain⟨w,hw0⟩:=H'.2.2 m hm;have lk:=oZ hv0;have lw:=oZ hw0;obtain⟨hk2,hv2,o72,H2,e2⟩:=BF (cl:=cl) (n:=n) (h:=h) (l:=l) H' (some (.int (m:Nat))) (some (.int (x:Nat))) o7' w v;refine⟨_,?_,hk2,hv2,some (.int (x:Nat)),o72,some (.int w),some (.int v),rfl,H2⟩
   ·simp only[du,rst,List.set,Option.bind_some,da,ah,d6,zP,aJ,hW,aU,items,List.getElem?_cons_zero,List.getElem?_cons_succ,id,lk,lw,D.imm,Bool.and_self,if_true]at e2 ⊢;rw[e2]
    rfl)
 exact⟨hk',hv',o6',o7',o8',o9',H',e⟩
def ints_map(v:Nat->Int):∀ xs:List Nat,bJ (xs.map fun m=>.int (v m))=some (xs.map v)
 | []=>rfl
 | x::r=>by simp[bJ,ints_map v r]
def wm(hn:n<=10)(h2:h.length=2*n)(l2:l.length=2*n)(hi:inner.length<=n)(hin:∀ m∈inner,m<n/\at' l m∈inner/\∃ j∈inner,at' h (n+m)=n+j):∃ r:Int,evF cl dn [.tup (L h),.tup (L l),.lst (L inner)]=some (.int r):=by
 have e6:=half (xs:=L h) (n:=n) (by rw[bw,h2]);have e7:=tN n
 obtain⟨σ1,l1,hk,hv,o5,rfl,H0,H1,H2⟩:=cB (f:=ah cl [4] eV) (tg:=[5]) (xs:=inner) (σ:=rst n h l inner [] [] none none none none none)
  (fun p σ=>∃ hk hv o5,σ=rst n h l inner hk hv o5 none none none none/\hk.length=hv.length/\hk.length<=p.length/\∀ m∈p,∃ v:Int,aB hk hv (.inl (m:Int))=some (.int v)) ⟨[],[],none,rfl,rfl,by simp,by simp⟩ (by
   rintro p x q σ hx ⟨hk,hv,o5,rfl,H0,H1,H2⟩
   have hp:p.length<10:=by
    have:=congrArg List.length hx;simp at this;lia
   have pl:=gp (x:=(.inl (x:Int):Ky)) (d:=.int (x:Nat)) H0;refine⟨_,?_,(putD hk hv (.inl (x:Int)) (.int (x:Nat))).1,(putD hk hv (.inl (x:Int)) (.int (x:Nat))).2,some (.int (x:Nat)),rfl,pl.1,by have:=pl.2;simp;lia,fun m hm=>?_⟩
   ·have u:eN (.dK hk hv) (.int (x:Nat)) (.int (x:Nat))=some (.dK (putD hk hv (.inl (x:Int)) (.int (x:Nat))).1 (putD hk hv (.inl (x:Int)) (.int (x:Nat))).2):=by
     rw[x9];dsimp only[keyOf];rw[Option.bind_some,if_pos (by unfold most;lia)]
    simp only[du,rst,List.set,Option.bind_some,eV,ah,fv,aJ,List.getElem?_cons_zero,List.getElem?_cons_succ,id,D.imm,if_true,u,Option.map_some]
   ·rw[gM H0];by_cases e:(.inl (x:Int):Ky)=.inl (m:Int)
    ·rw[if_pos e];exact⟨_,rfl⟩
    ·rw[if_neg e];simp at hm;rcases hm with hm | hm
     ·exact H2 m hm
     ·exact absurd (by rw[hm]) e)
 have H:HI inner hk hv:=⟨H0,by lia,H2⟩
 obtain⟨σ2,l2',hk',hv',o5',o6',o7',o8',o9',rfl,H'⟩:=cB (f:=ah cl [4] eL) (tg:=[5]) (xs:=inner) (σ:=rst n h l inner hk hv o5 none none none none)
  (fun p σ=>∃ hk hv o5 o6 o7 o8 o9,σ=rst n h l inner hk hv o5 o6 o7 o8 o9/\HI inner hk hv) ⟨hk,hv,o5,none,none,none,none,rfl,H⟩ (by
   rintro p x q σ hx ⟨hk',hv',o5',o6',o7',o8',o9',rfl,H'⟩
   have hm:x∈inner:=by rw[hx];simp
   obtain⟨xn,ha,j,hj,hjj⟩:=hin x hm;obtain⟨hk2,hv2,o62,o72,o82,o92,H2,e2⟩:=yq (cl:=cl) (n:=n) (h:=h) (l:=l) H' hm (xs:=[at' l x,j]) (by intro y hy;simp at hy;rcases hy with rfl | rfl<;>assumption) o6' o7' o8' o9';have i1:=dR (f:=l) (x:=x) (by lia);have i2:=dR (f:=h) (x:=n+x) (by lia);rw[hjj]at i2
   have s1:((n+x:Nat):Int)=(n:Int)+x:=by lia
   have s2:((n+j:Nat):Int)-n=(j:Nat):=by lia
   rw[s1]at i2;refine⟨_,?_,hk2,hv2,some (.int (x:Nat)),o62,o72,o82,o92,rfl,H2⟩;simp only[du,rst,List.set,Option.bind_some,eL,ah,d6,bR,i0,j6,aJ,evs,aU,items,List.getElem?_cons_zero,List.getElem?_cons_succ,id,i1,i2,bF,cy,s2,Option.map_some]at e2 ⊢;simp only[L,List.map_cons,List.map_nil]at e2 ⊢;rw[e2]
   rfl)
 let v:Nat->Int:=fun m=>match aB hk' hv' (.inl (m:Int))with
  | some (.int v)=>v
  | _=>0
 have mc:=jB (F:=fun σ1=>(ev cl σ1 (.ixD (.var 4) (.var 5))).map some) (tg:=[5]) (σ:=rst n h l inner hk' hv' o5' o6' o7' o8' o9') (g:=fun m=>.int (v m)) (fun _=>rfl) inner (by
  intro x hx;obtain⟨w,hw⟩:=H'.2.2 x hx
  have vw:v x=w:=by simp only[v,hw]
  have lk:=oZ hw
  simp only[du,rst,List.set,Option.bind_some,hW,aJ,List.getElem?_cons_zero,List.getElem?_cons_succ,id,lk,Option.map_some,vw])
 have ft:=jW (xs:=inner) (by lia);refine⟨((eR (inner.map v)).length:Int),?_⟩
 have ls:biV .lenSet (.lst (inner.map fun m=>.int (v m)))=some (.int ((eR (inner.map v)).length:Int)):=by
  rw[zK];rw[if_pos (by simp;lia),ints_map];rfl
 simp only[rst]at l1 l2' mc;simp only[evF,dn,ah,eP,d6,kD,cY,gH,bR,bZ,aJ,iE,zJ,hW,aU];simp[e6,e7,bu,D.imm,aA,ao,items];rw[l1];simp[ah,aU,items];rw[l2'];simp[ah,aU,items,ft];simp[hW,aJ]at mc;rw[mc];simp[ls,bo,D.imm,aS]
end
abbrev eM(n:Nat)(f:List Nat):List Nat:=(List.range (2*n)).map fun p=>if p<n then(if at' f p<n then at' f p else p+n)else(if at' f (p-n)<n then at' f (p-n)+n else p-n)
def iJ(h:p<2*n):at' (eM n f) p=if p<n then(if at' f p<n then at' f p else p+n)else(if at' f (p-n)<n then at' f (p-n)+n else p-n):=by
 unfold eM;rw[at'];rw[List.getElem?_map,List.getElem?_range h];rfl
def gR(hs:stp n h l s=s):∀ i,itr n h l i s=s
 | 0=>rfl
 | i+1=>by rw[itr,gR hs i,hs]
def iP(hs:stp n h l s=t)(ht:stp n h l t=t):∀ i,itr n h l (i+1) s=t
 | 0=>hs
 | i+1=>by rw[itr,iP hs ht i,ht]
section
def tw(F:Frm n f)(h:p<n):at' (aQ n f) p=if at' f (p+n)<n then at' f (p+n)+n else at' f (p+n)-n:=by
 rw[mJ (by lia),Nat.mod_eq_of_lt (a:=p+n) (by lia)];have:=F.lt (p+n) (by lia);split
 ·rw[Nat.mod_eq_of_lt (by lia)]
 ·rw[Nat.mod_eq_sub_mod (by lia),Nat.mod_eq_of_lt (by lia)];lia
def BC(F:Frm n f)(h:n<=p)(h2:p<2*n):at' (aQ n f) p=if at' f (p-n)<n then at' f (p-n)+n else at' f (p-n)-n:=by
 rw[mJ (by lia),show(p+n)%(2*n)=p-n by rw[Nat.mod_eq_sub_mod (by lia),Nat.mod_eq_of_lt (by omega)];lia];have:=F.lt (p-n) (by lia);split
 ·rw[Nat.mod_eq_of_lt (by lia)]
 ·rw[Nat.mod_eq_sub_mod (by lia),Nat.mod_eq_of_lt (by lia)];lia
def si(F:Frm n f)(hp:p<2*n):(∀ i,(itr n f (aQ n f) (i+1) (beg n f (aQ n f) p)).2=at' (eM n f) p)/\∀ i m,m<n->Tr n (itr n f (aQ n f) i (beg n f (aQ n f) p)) m->at' f (n+m)<n:=by
 rw[iJ hp];by_cases h:p<n
 ·have b0:beg n f (aQ n f) p=(true,at' f p):=by simp[beg,h,pick]
  rw[b0,if_pos h];have l0:=F.lt p (by lia);by_cases c:at' f p<n
  ·have st:stp n f (aQ n f) (true,at' f p)=(true,at' f p):=by
    unfold stp;rw[if_neg (by simp;lia)]
   refine⟨fun i=>by rw[gR st,if_pos c],fun i m hm t=>?_⟩;rw[gR st]at t;have:=t.1;simp at this;lia
  ·have st:stp n f (aQ n f) (true,at' f p)=(false,p+n):=by
    unfold stp;rw[if_pos (by simp;lia)];show(false,at' (aQ n f) ((at' f p+n)%(2*n)))=_;rw[show(at' f p+n)%(2*n)=at' f p-n by rw[Nat.mod_eq_sub_mod (by lia),Nat.mod_eq_of_lt (by lia)];lia,tw F (by lia),show at' f p-n+n=at' f p by lia,F.inv,if_pos h]
   have s2:stp n f (aQ n f) (false,p+n)=(false,p+n):=by
    unfold stp;rw[if_neg (by simp)]
   refine⟨fun i=>by rw[iP st s2,if_neg c],fun i m hm t=>?_⟩
   cases i with
   |zero=>
    have t2:=t.2;simp only[itr]at t2
    have:n+m=at' f p:=by
     rw[Nat.mod_eq_sub_mod (by lia),Nat.mod_eq_of_lt (by omega)]at t2;lia
    rw[this,F.inv];exact h
   |succ i=>
    rw[iP st s2]at t;have:=t.1;simp at this
 ·have b0:beg n f (aQ n f) p=(false,at' (aQ n f) p):=by simp[beg,h,pick]
  rw[b0,if_neg h,BC F (by lia) hp];have l0:=F.lt (p-n) (by lia);by_cases c:at' f (p-n)<n
  ·rw[if_pos c,if_pos c]
   have st:stp n f (aQ n f) (false,at' f (p-n)+n)=(false,at' f (p-n)+n):=by
    unfold stp;rw[if_neg (by simp)]
   refine⟨fun i=>by rw[gR st],fun i m hm t=>?_⟩;rw[gR st]at t;have:=t.1;simp at this
  ·rw[if_neg c,if_neg c]
   have st:stp n f (aQ n f) (false,at' f (p-n)-n)=(true,p-n):=by
    unfold stp;rw[if_pos (by simp;lia)];show(true,at' f ((at' f (p-n)-n+n)%(2*n)))=_;rw[show at' f (p-n)-n+n=at' f (p-n) by lia,Nat.mod_eq_of_lt l0,F.inv]
   have s2:stp n f (aQ n f) (true,p-n)=(true,p-n):=by
    unfold stp;rw[if_neg (by simp;lia)]
   refine⟨fun i=>by rw[iP st s2],fun i m hm t=>?_⟩
   cases i with
   |zero=>
    have t2:=t.2;simp only[itr]at t2;rw[Nat.mod_eq_of_lt (by omega)]at t2
    have:n+m=at' f (p-n):=by lia
    rw[this,F.inv];lia
   |succ i=>
    rw[iP st s2]at t;have:=t.1;simp at this;lia
def vB(h1:1<=n)(F:Frm n f):hJ n f (aQ n f)=eM n f:=by
 apply BX (n:=n) (by simp[hJ]) (by simp[eM]);funext p;by_cases hp:p<2*n
 ·have:=(si F hp).1 (4*n-1);rw[<-this,show 4*n-1+1=4*n by lia];simp[at',hJ,hp]
 ·rw[jL (by simp[hJ];lia),jL (by simp[eM];lia)]
def p9(h1:1<=n)(F:Frm n f)(hm:m<n):Gn n f (aQ n f) (2*n) m↔at' f (n+m)<n:=by
 constructor
 ·rintro⟨p,hp,j,hj,t⟩;exact(si F hp).2 j m hm t
 ·intro h;refine⟨at' f (n+m),by lia,0,by lia,?_⟩
  have b0:beg n f (aQ n f) (at' f (n+m))=(true,n+m):=by simp[beg,h,pick,F.inv]
  rw[itr,b0];refine⟨by simp,?_⟩;show(n+m)%n=m;rw[Nat.add_mod_left,Nat.mod_eq_of_lt hm]
def A7(F:Frm n f):Frm n (eM n f):=by
 have lt:∀ x,x<2*n->at' (eM n f) x<2*n:=by
  intro x hx;rw[iJ hx];have a:=F.lt x hx;have b:=F.lt (x-n) (by lia)
  repeat' split
  all_goals lia
 refine⟨by simp[eM],lt,fun x=>?_,fun x hx=>?_⟩
 ·by_cases hx:x<2*n
  ·rw[iJ (lt x hx),iJ hx];by_cases c:x<n
   ·rw[if_pos c];by_cases d:at' f x<n
    ·rw[if_pos d,if_pos d,F.inv,if_pos c]
    ·rw[if_neg d,if_neg (by lia),show x+n-n=x by lia,if_neg d]
   ·rw[if_neg c];by_cases d:at' f (x-n)<n
    ·rw[if_pos d,if_neg (by lia),show at' f (x-n)+n-n=at' f (x-n) by lia,F.inv,if_pos (by lia)];lia
    ·rw[if_neg d,if_pos (by lia),if_neg d];lia
  ·have e:at' (eM n f) x=x:=jL (by simp[eM];lia);rw[e,e]
 ·rw[iJ hx];have a:=F.no x hx;have b:=F.no (x-n) (by lia)
  repeat' split
  all_goals lia
def vO(F:Frm n f)(h:q<n):rnd n f q=if at' f q<n then at' f q else 3*n-1-at' f q:=by
 unfold rnd;rw[show rd n q=q by simp[rd,h]];rfl
def sh(F:Frm n f)(h:q<2*n):rnd n (eM n f) q=if q<n then(if at' f q<n then at' f q else 2*n-1-q)else(if at' f (2*n-1-q)<n then 2*n-1-at' f (2*n-1-q)else 2*n-1-q):=by
 unfold rnd;rw[iJ (aN h)];by_cases c:q<n
 ·have e:rd n q=q:=by simp[rd,c]
  rw[e,if_pos c,if_pos c];by_cases d:at' f q<n
  ·rw[if_pos d,if_pos d];simp[rd,d]
  ·rw[if_neg d,if_neg d];unfold rd;rw[if_neg (by lia)];lia
 ·have e:rd n q=3*n-1-q:=by simp[rd,c]
  rw[e,if_neg c,if_neg (by lia),show 3*n-1-q-n=2*n-1-q by lia];by_cases d:at' f (2*n-1-q)<n
  ·rw[if_pos d,if_pos d];unfold rd;rw[if_neg (by lia)];lia
  ·rw[if_neg d,if_neg d];unfold rd;rw[if_pos (by omega)]
def Bp(V:Val n f):Val n (eM n f):=by
 have F:=V.frm;refine⟨A7 F,fun q q' h1 h2=>?_⟩
 have X:∀ a b,a<n->b<n->at' f a<n->¬ (a<b/\b<at' f a/\(at' f a<at' f b\/n<=at' f b)):=by
  intro a b ha hb hc ⟨c1,c2,c3⟩;have:=V.nox a b (by lia) (by lia);rw[vO F ha,vO F hb,if_pos hc]at this;have lb:=F.lt b (by lia);split at this<;>lia
 rw[sh F h1,sh F h2];rintro⟨a1,a2,a3⟩;by_cases c:q<n
 ·rw[if_pos c]at a2 a3;by_cases d:at' f q<n
  ·rw[if_pos d]at a2 a3;rw[if_pos (by lia:q'<n)]at a3;have:=X q q' c (by lia) d;split at a3<;>lia
  ·rw[if_neg d]at a2 a3;by_cases c':q'<n
   ·rw[if_pos c']at a3;split at a3<;>omega
   ·rw[if_neg c']at a3;by_cases d':at' f (2*n-1-q')<n
    ·rw[if_pos d']at a3;have:=X (at' f (2*n-1-q')) q d' c (by rw[F.inv];omega);rw[F.inv]at this;lia
    ·rw[if_neg d']at a3;lia
 ·rw[if_neg c]at a2 a3;rw[if_neg (by lia:¬ q'<n)]at a3;by_cases d:at' f (2*n-1-q)<n
  ·rw[if_pos d]at a2 a3;by_cases d':at' f (2*n-1-q')<n
   ·rw[if_pos d']at a3;have:=X (at' f (2*n-1-q')) (at' f (2*n-1-q)) d' d (by rw[F.inv];omega);rw[F.inv,F.inv]at this;omega
   ·rw[if_neg d']at a3;lia
  ·rw[if_neg d]at a2 a3;omega
def qT(h1:1<=n)(hn:n<=10)(F:Frm n f)(hr:∀ inner:List Nat,inner.length<=n->(∀ m∈inner,m<n/\at' (aQ n f) m∈inner/\∃ j∈inner,at' f (n+m)=n+j)->∃ r:Int,cl fr [.tup (L f),.tup (L (aQ n f)),.lst (L inner)]=some (.int r)) :
  ∃ r:Int,evF cl (eT fr) [.tup (L f),.tup (L (aQ n f))]=some (.tup [.tup (L (eM n f)),.int r]):=by
 have ol:(aQ n f).length=2*n:=by simp[aQ]
 have olt:∀ x,x<2*n->at' (aQ n f) x<2*n:=fun x hx=>by
  rw[mJ hx];exact Nat.mod_lt _ (by lia)
 obtain⟨inner,i1,i2,i3⟩:=yN (cl:=cl) (fr:=fr) h1 hn F.len ol F.lt olt
 have i1':∀ m,m∈inner↔m<n/\n<=at' f (n+m):=by
  intro m;rw[i1];constructor
  ·rintro⟨a,b⟩;rw[p9 h1 F a]at b;exact⟨a,by lia⟩
  ·rintro⟨a,b⟩;refine⟨a,?_⟩;rw[p9 h1 F a];lia
 obtain⟨r,hr⟩:=hr inner i2 (fun m hm=>by
  obtain⟨a,b⟩:=(i1' m).mp hm;have lt:=F.lt (n+m) (by lia)
  have jm:at' f (n+m)-n∈inner:=by
   rw[i1'];refine⟨by lia,?_⟩;rw[show n+(at' f (n+m)-n)=at' f (n+m) by lia,F.inv];lia
  refine⟨a,?_,_,jm,by lia⟩;rw[tw F a,Nat.add_comm m n,if_neg (by lia)]
  exact jm)
 exact⟨r,by rw[<-vB h1 F];exact i3 r hr⟩
end
def vH(h1:1<=n)(hn:n<=10)
 (hd:∃ ds:List Nat,jH ds [8,10 ^ 12,max 1 (n-1)]/\cl fdi [scr,.int k,.lst (L [8,10 ^ 12,max 1 (n-1)])]=some (.lst (L ds)))
 (hpl:cl fpl [.int n]=some (.tup (L (bq n))))
 (hho:∀ i:Nat,i+1<n->cl fho [.int n,.int i]=some (.tup (L (f7 n i))))
 (htx:∀ r:Int,∃ w:List Bool,w.length=2*n/\dpf 0 w=some 0/\cl ftx [.int r,.int n]=some (.str (tx w)))
 (hfr:∀ w:List Bool,w.length=2*n->dpf 0 w=some 0->∃ f:List Nat,Val n f/\cl ffr [.str (tx w)]=some (.tup (L f)))
 (hov:∀ f:List Nat,f.length=2*n->cl fov [.tup (L f)]=some (.tup (L (aQ n f))))
 (hhu:∀ f:List Nat,Val n f->∃ (g:List Nat) (r:Int),Val n g/\cl fhu [.tup (L f),.tup (L (aQ n f))]=some (.tup [.tup (L g),.int r])) :
  ∃ f:List Nat,Val n f/\evF cl (i5 fhu fov ffr ftx fho fpl fdi) [scr,.int k,.int n]=some (.tup (L f)):=by
 obtain⟨ds,⟨dl,dd⟩,hd⟩:=hd
 match ds,dl with
 |[a,b,c],_=>
  have hc:c<max 1 (n-1):=dd 2 c _ rfl rfl
  have mx:(if(n:Int)-1 > 1 then(n:Int)-1 else 1)=((max 1 (n-1):Nat):Int):=by
   split<;>lia
  have pw:a5 .pow (.int 10) (.int 12)=some (.int ((10 ^ 12:Nat):Int)):=rfl;obtain⟨w,w1,w2,w3⟩:=htx b;obtain⟨f,V,f3⟩:=hfr w w1 w2;obtain⟨g,r,V',hu⟩:=hhu f V;have ho:=hov f V.frm.len
  have tl:∀ g:List Nat,bo [] (.cst .non) (.tup (L g))=true/\(D.tup (L g)).imm=true:=fun g=>by simp[bo,D.imm,bD]
  have ret:∀ (e:E) (g:List Nat),bo [] e (.tup (L g))=true:=fun e g=>by unfold bo;rw[(tl g).2];rfl
  have start:∀ {rest:Ss} {d:D},(∃ σ,ah cl [] rest [some scr,some (.int k),some (.int n),none,some (.int (a:Nat)),some (.int (b:Nat)),some (.int (c:Nat))]=some (.rt d,σ))->evF cl ⟨3,7,[],[],.cons (.unp [4,5,6] (.call fdi (.cons (.var 0) (.cons (.var 1) (.cons (.lst (.cons (.cst (.int 8)) (.cons (.bin .pow (.cst (.int 10)) (.cst (.int 12))) (.cons (.max (.cst (.int 1)) (.bin .sub (.var 2) (.cst (.int 1)))) .nil)))) .nil))))) rest⟩ [scr,.int k,.int n]=some d:=fun {rest d} ⟨σ,h⟩ =>
   aK rfl rfl (qS (zc (aa rfl) (aa rfl) (cE (aL af (aL (aq af af pw) (aL ((FI af (aq (aa rfl) af cy)).trans (by rw[mx])) bS)))) hd) rfl rfl rfl h)
  have no:∀ {j:Nat},a≠j->∀ o,(ev cl [some scr,some (.int k),some (.int n),o,some (.int (a:Nat)),some (.int (b:Nat)),some (.int (c:Nat))] (.cmp .eq (.var 4) (.cst (.int (j:Nat)))))=some (.bl false):=fun {j} h o=>ay (aa rfl) af (by rw[c9,beq_eq_false_iff_ne.mpr (by lia)]);have yes:∀ {j:Nat},a=j->∀ o,(ev cl [some scr,some (.int k),some (.int n),o,some (.int (a:Nat)),some (.int (b:Nat)),some (.int (c:Nat))] (.cmp .eq (.var 4) (.cst (.int (j:Nat)))))=some (.bl true):=fun {j} h o=>ay (aa rfl) af (by rw[c9,h,beq_self_eq_true]);by_cases a0:a=0
  ·exact⟨bq n,vD n,start ⟨_,bW (aC (yes a0 _)) (aG (bO (aa rfl) hpl) (ret ..))⟩⟩
  ·by_cases a1:a=1/\1<n
   ·exact⟨f7 n c,xH hn (by lia),start ⟨_,aT (aC (no a0 _)) (bW (aC (c7 (yes a1.1 _) (ay (aa rfl) af (by rw[jr,decide_eq_true (by lia)])))) (aG (cF (aa rfl) (aa rfl) (hho c (by lia))) (ret ..)))⟩⟩
   ·have cnd:ev cl [some scr,some (.int k),some (.int n),none,some (.int (a:Nat)),some (.int (b:Nat)),some (.int (c:Nat))] (.and (.cmp .eq (.var 4) (.cst (.int 1))) (.cmp .gt (.var 2) (.cst (.int 1))))=some (.bl false):=by
     by_cases e1:a=1
     ·exact c7 (yes e1 _) (ay (aa rfl) af (by rw[jr,decide_eq_false (by lia)]))
     ·exact gF (no e1 _)
    have on:∀ {rest:Ss} {d:D},(∃ σ,ah cl [] rest [some scr,some (.int k),some (.int n),some (.tup (L f)),some (.int (a:Nat)),some (.int (b:Nat)),some (.int (c:Nat))]=some (.rt d,σ))->∃ σ,ah cl [] (.cons (.ife (.cmp .eq (.var 4) (.cst (.int 0))) (.cons (.ret (.call fpl (.cons (.var 2) .nil))) .nil) .nil) (.cons (.ife (.and (.cmp .eq (.var 4) (.cst (.int 1))) (.cmp .gt (.var 2) (.cst (.int 1)))) (.cons (.ret (.call fho (.cons (.var 2) (.cons (.var 6) .nil)))) .nil) .nil) (.cons (.asg 3 (.call ffr (.cons (.call ftx (.cons (.var 5) (.cons (.var 2) .nil))) .nil))) rest))) [some scr,some (.int k),some (.int n),none,some (.int (a:Nat)),some (.int (b:Nat)),some (.int (c:Nat))]=some (.rt d,σ):=fun⟨σ,h⟩ =>
     ⟨σ,aT (aC (no a0 _)) (aT (aC cnd) (a8 (bO (cF (aa rfl) (aa rfl) w3) f3) (by unfold bu;rw[(tl f).2];rfl) h))⟩
    by_cases a2:a=2
    ·exact⟨g,V',start (on ⟨_,bW (aC (yes a2 _)) (aG (eK (cF (aa rfl) (bO (aa rfl) ho) hu) af rfl) (ret ..))⟩)⟩
    ·exact⟨f,V,start (on ⟨_,aT (aC (no a2 _)) (aG (aa rfl) (ret ..))⟩)⟩
def vQ(im:∀ x,(g x).imm=true):∀ xs:List Nat,(∀ x∈xs,(aP tg (h x) σ).bind F=some (if c x then some (g x)else none))->cj F tg σ (xs.map h)=some ((xs.filter c).map g)
 | [],_=>rfl
 | x::r,hh=>by
  have a:=hh x (by simp);have b:=vQ im r (fun y hy=>hh y (by simp[hy]));rw[List.map_cons,cj]
  cases hb:aP tg (h x) σ with
  | none=>rw[hb]at a;cases a
  |some σ1=>
   rw[hb]at a;simp only[Option.bind_some]at a ⊢;rw[a,b];cases hc:c x<;>simp[jS,im,hc]
abbrev pr(f:List Nat)(p:Nat):D:=.tup [.int (p:Nat),.int (at' f p:Nat)]
def sZ:∀ (f:List Nat) (k:Nat),c8 (k:Int) (L f)=(List.range f.length).map fun p=>.tup [.int ((k+p:Nat):Int),.int (at' f p:Nat)]
 | [],k=>rfl
 | x::r,k=>by
  rw[show L (x::r)=.int x::L r from rfl,c8,show(k:Int)+1=((k+1:Nat):Int) by lia,sZ r (k+1),List.length_cons,List.range_succ_eq_map,List.map_cons,List.map_map];congr 1;apply List.map_congr_left;intro p hp;simp at hp
  have e:at' (x::r) (p+1)=at' r p:=by simp[at',hp]
  simp[e];lia
def iG(h:f.length=m):c8 0 (L f)=(List.range m).map (pr f):=by
 have:=sZ f 0;rw[h]at this;simp only[Nat.zero_add]at this;exact this
def lK(g:β->D)(im:∀ b,(g b).imm=true)(I:List β->St->Prop):∀ (w done:List β) (σ:St),(∀ u b v σ,done++w=u++b::v->I u σ->∃ σ2,(aP tg (g b) σ).bind f=some (.nx,σ2)/\I (u++[b]) σ2)->I done σ->∃ σ',bb f tg (w.map g) σ=some (.nx,σ')/\I (done++w) σ'
 | [],done,σ,_,h=>⟨σ,rfl,by simpa using h⟩
 | b::w,done,σ,hs,h=>by
  obtain⟨σ2,h1,h3⟩:=hs done b w σ rfl h;obtain⟨σ',h4,h5⟩:=lK g im I w (done++[b]) σ2 (fun pre e post σ he=>hs pre e post σ (by simpa using he)) h3;refine⟨σ',?_,by simpa using h5⟩;rw[List.map_cons,bb,if_pos (im b)]
  cases hb:aP tg (g b) σ with
  | none=>rw[hb]at h1;cases h1
  |some σ1=>
   rw[hb]at h1;simp only[Option.bind_some]at h1 ⊢;rw[h1];exact h4
section
variable{n:Nat}
def mn(hp:p<2*n):evF cl cQ [.int n,.int (p:Nat)]=some (.int (rd n p:Nat)):=by
 have e1:a5 .mul (.int 3) (.int n)=some (.int (3*n)):=bB (by decide) (by decide);by_cases c:p<n
 ·have c1:decide ((p:Int)<n)=true:=by simp;lia
  simp[evF,cQ,ah,cY,bR,dY,bZ,uC,aJ,cb,c1,truth,bo,D.imm,aS,rd,c]
 ·have c1:decide ((p:Int)<n)=false:=by simp;lia
  simp[evF,cQ,ah,cY,bR,dY,bZ,uC,aJ,cb,c1,truth,e1,cy,bo,D.imm,aS,rd,c];lia
def m9{T:D}{c:List D->D}{to:Nat->Nat}(hc:c=.tup\/c=.lst)(hn:n<=10)(F:Frm n f)(hT:∀ p:Nat,p<2*n->ixV T (.int (p:Nat))=some (.int (to p:Nat)))(hlt:∀ p,p<2*n->to p<2*n)(inj:∀ p q,p<2*n->q<2*n->to p=to q->p=q) :
  ∃ E:List Nat,E.length=2*n/\(∀ p,p<2*n->at' E (to p)=to (at' f p))/\evF cl iR [c (L f),T]=some (.tup (L E)):=by
 have ln:biV .len (c (L f))=some (.int (2*n)):=by rcases hc with rfl | rfl<;>simp[Gw,Ad,bw,F.len]
 have it:cA (c (L f))=some (L f):=by rcases hc with rfl | rfl<;>rfl
 have en:=iG F.len
 have e0:a5 .mul (.lst [.int 0]) (.int (2*(n:Int)))=some (.lst (L (List.replicate (2*n) 0))):=by
  rw[GN];rw[if_pos ⟨by lia,by unfold most;lia,by simp[most];lia⟩]
  have:(2*(n:Int)).toNat=2*n:=by lia
  rw[this];simp[L]
 obtain⟨σ',e,E,o3,o4,rfl,El,EE⟩:=lK (f:=ah cl [2] kX) (tg:=[3,4]) (pr f) (fun _=>rfl)
  (fun u σ=>∃ (E:List Nat) (o3 o4:Option D),σ=[some (c (L f)),some T,some (.lst (L E)),o3,o4]/\E.length=2*n/\∀ p∈u,at' E (to p)=to (at' f p))
  (List.range (2*n)) [] [some (c (L f)),some T,some (.lst (L (List.replicate (2*n) 0))),none,none] (by
   rintro u p v σ hu ⟨E,o3,o4,rfl,El,EE⟩
   have hp:p<2*n:=by
    have:p∈List.range (2*n):=by
     simp only[List.nil_append]at hu;rw[hu];simp
    simpa using this
   have hpu:∀ x∈u,x<2*n/\x≠p:=by
    intro x hx;simp only[List.nil_append]at hu;have nd:(List.range (2*n)).Nodup:=List.nodup_range
    have m:x∈List.range (2*n):=by rw[hu];simp[hx]
    rw[hu,List.nodup_append]at nd;exact⟨by simpa using m,nd.2.2 x hx p (by simp)⟩
   have t1:=hT p hp;have t2:=hT (at' f p) (F.lt p hp);have pt:=gz (f:=E) (i:=to p) (j:=to (at' f p)) (by have:=hlt p hp;lia);refine⟨_,?_,E.set (to p) (to (at' f p)),some (.int (p:Nat)),some (.int (at' f p:Nat)),rfl,by simp[El],fun x hx=>?_⟩
   ·simp[CZ,BY,Dp,pr,kX,ah,fv,i0,aJ,t1,t2,D.imm,pt]
   ·rw[cC (by have:=hlt p hp;lia)];simp at hx;rcases hx with hx | rfl
    ·rw[if_neg (fun c=>(hpu x hx).2 (inj x p (hpu x hx).1 hp c))];exact EE x hx
    ·rw[if_pos rfl])
  ⟨_,none,none,rfl,by simp,by simp⟩
 refine⟨E,El,fun p hp=>EE p (by simp[hp]),?_⟩;simp only[evF,iR,ah,d6,kD,cY,gH,bR,bZ,ka,aJ,evs,aU];simp[evs,ln,e0,aA,bD,it,en];rw[e];simp[ah,qu,items,bo,D.imm,bD,aS]
def wC{T:D}{to:Nat->Nat}(hn:n<=10)(F:Frm n f)(hT:∀ p:Nat,p<2*n->ixV T (.int (p:Nat))=some (.int (to p:Nat)))(hlt:∀ p,p<2*n->to p<2*n)(inj:∀ p q,p<2*n->q<2*n->to p=to q->p=q) :
  ∃ E:List Nat,E.length=2*n/\(∀ p,p<2*n->at' E (to p)=to (at' f p))/\evF cl iR [.tup (L f),T]=some (.tup (L E)):=m9 (.inl rfl) hn F hT hlt inj
def j7{c:List D->D}(hc:c=.tup\/c=.lst)(hn:n<=10)(F:Frm n f)(hpo:∀ xs:List D,cl fpo [c xs]=some (.int (xs.length / 2)))(hrp:∀ p:Nat,p<2*n->cl frp [.int n,.int (p:Nat)]=some (.int (rd n p:Nat)))
 (hm:∃ E:List Nat,E.length=2*n/\(∀ p,p<2*n->at' E (rd n p)=rd n (at' f p))/\cl fm [c (L f),.lst (L (aV n))]=some (.tup (L E))) :
  ∃ E:List Nat,E.length=2*n/\(∀ q,q<2*n->at' E q=rnd n f q)/\evF cl (eu fm frp fpo) [c (L f)]=some (.tup (L E)):=by
 obtain⟨E,El,EE,hm⟩:=hm;refine⟨E,El,fun q hq=>?_,?_⟩
 ·have:=EE (rd n q) (aN hq);rw[bK hq]at this;exact this
 ·have e1:a5 .mul (.int 2) (.int n)=some (.int (2*n)):=bB (by decide) (by decide);have r2:=cJ (n:=2*n) (by lia);rw[show((2*n:Nat):Int)=2*(n:Int) by lia]at r2;have ft:=jW (xs:=List.range (2*n)) (by simp;lia);have po:=hpo (L f);rw[bw,F.len,show(((2*n:Nat):Int) / 2)=(n:Int) by lia]at po
  have mc:=jB (F:=fun σ1=>(ev cl σ1 (.call frp (.cons (.var 1) (.cons (.var 2) .nil)))).map some) (tg:=[2]) (σ:=[some (c (L f)),some (.int n),none]) (g:=fun p=>.int (rd n p:Nat)) (fun _=>rfl) (List.range (2*n)) (by
   intro x hx;simp at hx;have:=hrp x hx
   simp[du,df,aJ,evs,this])
  rw[zi,show(List.range (2*n)).map (fun p=>rd n p)=aV n from rfl]at mc;simp only[evF,eu,ah,eP,cY,df,aJ,bR,iE,bZ,evs,aU];simp[evs,po,bu,D.imm,e1,r2,ft];simp[df,aJ,evs]at mc;rw[mc];simp[hm,bo,D.imm,bD,aS]
def qq(hn:n<=10)(F:Frm n f)(hpo:∀ xs:List D,cl fpo [.tup xs]=some (.int (xs.length / 2)))(hrp:∀ p:Nat,p<2*n->cl frp [.int n,.int (p:Nat)]=some (.int (rd n p:Nat)))
 (hm:∃ E:List Nat,E.length=2*n/\(∀ p,p<2*n->at' E (rd n p)=rd n (at' f p))/\cl fm [.tup (L f),.lst (L (aV n))]=some (.tup (L E))) :
  ∃ E:List Nat,E.length=2*n/\(∀ q,q<2*n->at' E q=rnd n f q)/\evF cl (eu fm frp fpo) [.tup (L f)]=some (.tup (L E)):=j7 (.inl rfl) hn F hpo hrp hm
end
structure Op(r:Nat->Nat)(k:Nat)(W:List Nat):Prop where
 up:W.Pairwise (·<·)
 mem:∀ p,p∈W↔p<k/\k<=r p
section
def Op.push(O:Op r k W)(inv:∀ q,q<m->r (r q)=q)(hk:k<m)(h:k<r k):Op r (k+1) (W++[k]):=by
 refine⟨?_,fun p=>?_⟩
 ·rw[List.pairwise_append];exact⟨O.up,by simp,fun a ha b hb=>by simp at hb;have:=(O.mem a).mp ha;lia⟩
 ·simp only[List.mem_append,List.mem_singleton,O.mem];constructor
  ·rintro(⟨a,b⟩ | rfl)
   ·refine⟨by lia,?_⟩;by_cases c:r p=k
    ·have:=inv p (by lia);rw[c]at this;lia
    ·lia
   ·lia
  ·rintro⟨a,b⟩;by_cases c:p=k
   ·exact .inr c
   ·exact .inl ⟨by lia,by lia⟩
end
section
def p7(h1:1<=n)(hn:n<=10)(V:Val n f)(hpo:∀ xs:List D,cl fo [.tup xs]=some (.int (xs.length / 2)))(hc:cl fc [.int n]=some (.bl true))(hp:cl fp [.tup (L f)]=some (.bl true))
 (hi:∃ E:List Nat,E.length=2*n/\(∀ q,q<2*n->at' E q=rnd n f q)/\cl fi [.tup (L f)]=some (.tup (L E)))
 (hu:∀ E:List Nat,E.length=2*n->(∀ q,q<2*n->at' E (at' E q)=q)->(∀ q,q<2*n->at' E q≠q)->(∀ q q',q<2*n->q'<2*n->¬ (q<q'/\q'<at' E q/\at' E q<at' E q'))->(∀ q,q<2*n->at' E q<2*n)->cl fu [.tup (L E)]=some (.bl true)) :
  evF cl (fX fu fi fp fc fo) [.tup (L f)]=some (.bl true):=by
 have F:=V.frm;obtain⟨E,El,Ea,hi⟩:=hi;have rl:∀ q,q<2*n->rnd n f q<2*n:=fun q hq=>aN (F.lt _ (aN hq))
 have hu:=hu E El (fun q hq=>by
   rw[Ea q hq,Ea _ (rl q hq)];unfold rnd
   rw[bK (F.lt _ (aN hq)),F.inv,bK hq]) (fun q hq e=>by
   rw[Ea q hq]at e;unfold rnd at e;have:=congrArg (rd n) e;rw[bK (F.lt _ (aN hq))]at this
   exact F.no _ (aN hq) this) (fun q q' h h'=>by
   rw[Ea q h,Ea q' h']
   exact V.nox q q' h h') (fun q hq=>by rw[Ea q hq];exact rl q hq)
 have e1:a5 .mul (.int 2) (.int n)=some (.int (2*n)):=bB (by decide) (by decide);have ln:=half (xs:=L f) (n:=n) (by rw[bw,F.len]);have po:=hpo (L f);rw[bw,F.len,show(((2*n:Nat):Int) / 2)=(n:Int) by lia]at po;have en:=iG F.len
 have ft:fits ((List.range (2*n)).map (pr f))=some ((List.range (2*n)).map (pr f)):=by
  unfold fits;rw[if_pos (by simp[most];lia)]
 have mc:=vQ (F:=fun σ1=>((ev cl σ1 (.cmp .eq (.var 3) (.var 4))).bind truth).bind fun k=>if k then(ev cl σ1 (.var 3)).map some else some none) (tg:=[3,4]) (σ:=[some (.tup (L f)),some (.int n),none,none,none]) (h:=pr f) (g:=fun p=>.int (p:Nat)) (c:=fun _=>false) (fun _=>rfl) (List.range (2*n)) (by
  intro x hx;simp at hx;have c2:((x:Int) == (at' f x:Nat))=false:=beq_eq_false_iff_ne.mpr (by have:=F.no x hx;lia)
  simp[CZ,BY,Dp,pr,dY,aJ,c9,c2,truth])
 rw[show(List.range (2*n)).filter (fun _=>false)=[]from List.filter_eq_nil_iff.mpr (by simp),List.map_nil]at mc
 have ne0:aO .ne (.int (2*(n:Int))) (.int (2*(n:Int)))=some false:=by
  rw[D0];simp
 simp only[evF,fX,ah,eP,dB,cY,df,aJ,m8,gH,bR,dY,xm,bZ,oJ,uE,evs,aU];simp[evs,po,bu,D.imm,ln,e1,ne0,hc,hp,truth,ah,aU,cA,en,ft];simp[dY,aJ]at mc;rw[mc];simp[ah,evs,aA,ao,hi,hu,truth,bo,D.imm,aS,Hv]
def lU(h:cl fi [x]=some (.bl true)):evF cl (dC fi) [x]=some .non:=by
 simp[evF,dC,ah,dB,xj,df,oJ,aJ,evs,h,truth,aS]
end
def eQ{β:Type}{F:St->Option (Option D)}{tg:List Nat}{σ:St}{h g:β->D}(im:∀ x,(g x).imm=true):∀ xs:List β,(∀ x∈xs,(aP tg (h x) σ).bind F=some (some (g x)))->cj F tg σ (xs.map h)=some (xs.map g)
 | [],_=>rfl
 | x::r,hh=>by
  have a:=hh x (by simp);have b:=eQ im r (fun y hy=>hh y (by simp[hy]));rw[List.map_cons,cj]
  cases hb:aP tg (h x) σ with
  | none=>rw[hb]at a;cases a
  |some σ1=>
   rw[hb]at a;simp only[Option.bind_some]at a ⊢;rw[a,b];simp[jS,im]
def oN(x:Bool):aO .ne (.bl x) (.bl x)=some false:=by cases x<;>rfl
def zY(x:Bool):aO .eq (.bl x) (.bl x)=some true:=by cases x<;>rfl
section
def ny(hN:(match d with | .non=>some (D.bl (!false)) | .dK _ _=>none | .dT _ _=>none | .fT _=>none | _=>some (.bl false))=some (D.bl false))(hb:fh .bool d=some kb)(hi:fh .int d=some ki)(hl:fh .list d=some kl)(ht:fh .tuple d=some kt)
 (k:ah cl [] r [some d,some d,none,none]=res):ah cl [] (.cons (.ife (.isN false (.var 1)) (.cons (.ret (.isN false (.var 0))) .nil) .nil) (.cons (.ife (.or (.cmp .ne (.isi (.var 0) .bool) (.isi (.var 1) .bool)) (.cmp .ne (.isi (.var 0) .int) (.isi (.var 1) .int))) (.cons (.ret (.cst (.bl false))) .nil) .nil) (.cons (.ife (.or (.cmp .ne (.isi (.var 0) .list) (.isi (.var 1) .list)) (.cmp .ne (.isi (.var 0) .tuple) (.isi (.var 1) .tuple))) (.cons (.ret (.cst (.bl false))) .nil) .nil) r))) [some d,some d,none,none]=res :=
 aT (aC (FG hN (aa rfl))) (aT (aC (dW (ay (cz (aa rfl) hb) (cz (aa rfl) hb) (oN _)) (ay (cz (aa rfl) hi) (cz (aa rfl) hi) (oN _)))) (aT (aC (dW (ay (cz (aa rfl) hl) (cz (aa rfl) hl) (oN _)) (ay (cz (aa rfl) ht) (cz (aa rfl) ht) (oN _)))) k))
def jK(hN:(match d with | .non=>some (D.bl (!false)) | .dK _ _=>none | .dT _ _=>none | .fT _=>none | _=>some (.bl false))=some (D.bl false))(hb:fh .bool d=some kb)(hi:fh .int d=some ki)(hl:fh .list d=some false)(ht:fh .tuple d=some false)(hs:fh .str d=some ks)(he:aO .eq d d=some true):evF cl (cN fs) [d,d]=some (.bl true) :=
 aK rfl rfl (ny hN hb hi hl ht (bW (aC (c7 (bN (cz (aa rfl) hl)) (bN (cz (aa rfl) ht)))) (aG (c7 (ay (cz (aa rfl) hs) (cz (aa rfl) hs) (zY _)) (ay (aa rfl) (aa rfl) he)) rfl)))
end
def same_int(a:Int):evF cl (cN fs) [.int a,.int a]=some (.bl true):=jK rfl rfl rfl rfl rfl rfl (by rw[c9,beq_self_eq_true])
def kT:∀ xs:List D,eh xs xs=xs.map fun x=>.tup [x,x]
 | []=>rfl
 | x::r=>by simp[eh,kT r]
def vn:∀ xs:List β,bX (xs.map fun _=>D.bl true)=some (xs.map fun _=>true)
 | []=>rfl
 | x::r=>by simp[bX,vn r]
def qr{fs:Nat}{d:D}{xs:List D}(hd:d=.tup xs\/d=.lst xs)(hl:xs.length<=1000)(h:∀ x∈xs,cl fs [x,x]=some (.bl true)):evF cl (cN fs) [d,d]=some (.bl true):=by
 have al:biV .all (.lst (xs.map fun _=>.bl true))=some (.bl true):=by
  simp only[HD,vn];simp
 have mc:=eQ (F:=fun σ1=>(ev cl σ1 (.call fs (.cons (.var 2) (.cons (.var 3) .nil)))).map some) (tg:=[2,3]) (σ:=[some d,some d,none,none]) (h:=fun x=>.tup [x,x]) (g:=fun _=>.bl true) (fun _=>rfl) xs (by
  intro x hx;show(ev cl [some d,some d,some x,some x] (.call fs (.cons (.var 2) (.cons (.var 3) .nil)))).map some=_;rw[cF (aa rfl) (aa rfl) (h x hx)]
  rfl)
 have it:items d=some xs:=by rcases hd with rfl | rfl<;>rfl
 have ln:biV .len d=some (.int xs.length):=by rcases hd with rfl | rfl<;>rfl
 have lq:aO .eq (.int (xs.length:Int)) (.int (xs.length:Int))=some true:=by simp[c9]
 have lz:(eh xs xs).length<=most:=by rw[kT,List.length_map];unfold most;lia
 rw[<-kT]at mc;have tl:∀ {res:Option (Out × St)},some (Out.rt (.bl true),[some d,some d,none,none])=res->ah cl [] (.cons (.ret (.and (.cmp .eq (.bi .len (.var 0)) (.bi .len (.var 1))) (.bi .all (.compA (.call fs (.cons (.var 2) (.cons (.var 3) .nil))) [2,3] (.zip (.var 0) (.var 1)))))) .nil) [some d,some d,none,none]=res:=fun e=>(aG (c7 (ay (bh (aa rfl) ln) (bh (aa rfl) ln) lq) (bh (dt (G3 (aa rfl) (aa rfl) it it rfl) lz mc) al)) rfl).trans e;rcases hd with rfl | rfl
 ·exact aK rfl rfl (ny rfl rfl rfl rfl rfl (aT (aC (c7 (bN (k:=false) (cz (aa rfl) rfl)) (bN (k:=true) (cz (aa rfl) rfl)))) (tl rfl)))
 ·exact aK rfl rfl (ny rfl rfl rfl rfl rfl (aT (aC (gF (bN (k:=true) (cz (aa rfl) rfl)))) (tl rfl)))
end RM
set_option maxHeartbeats 1000000
namespace RM
open RL RT
def pM(g:β->D)(im:∀ b,(g b).imm=true)(I:List β->St->Prop):∀ (w done:List β) (σ:St),(∀ u b v σ,done++w=u++b::v->I u σ->(∃ σ2,(aP tg (g b) σ).bind f=some (.nx,σ2)/\I (u++[b]) σ2)\/(B/\∃ σ2,(aP tg (g b) σ).bind f=some (.rt d,σ2)))->I done σ->(∃ σ',bb f tg (w.map g) σ=some (.nx,σ')/\I (done++w) σ')\/(B/\∃ σ',bb f tg (w.map g) σ=some (.rt d,σ'))
 | [],done,σ,_,h=>.inl ⟨σ,rfl,by simpa using h⟩
 | b::w,done,σ,hs,h=>by
  rcases hs done b w σ rfl h with⟨σ2,h1,h3⟩ | ⟨hB,σ2,h1⟩
  ·have go:∀ {r:Option (Out × St)},bb f tg (w.map g) σ2=r->bb f tg ((b::w).map g) σ=r:=fun {r} e=>by
    rw[List.map_cons,bb,if_pos (im b)]
    cases hb:aP tg (g b) σ with
    | none=>rw[hb]at h1;cases h1
    |some σ1=>
     rw[hb]at h1;simp only[Option.bind_some]at h1 ⊢;rw[h1];exact e
   rcases pM (d:=d) (B:=B) g im I w (done++[b]) σ2 (fun pre e post σ he=>hs pre e post σ (by simpa using he)) h3 with⟨σ',h4,h5⟩ | ⟨hB,σ',h4⟩
   ·exact .inl ⟨σ',go h4,by simpa using h5⟩
   ·exact .inr ⟨hB,σ',go h4⟩
  ·refine .inr ⟨hB,σ2,?_⟩;rw[List.map_cons,bb,if_pos (im b)]
   cases hb:aP tg (g b) σ with
   | none=>rw[hb]at h1;cases h1
   |some σ1=>
    rw[hb]at h1;simp only[Option.bind_some]at h1 ⊢;rw[h1];rfl
def uU(hi:(σ[i]?).bind id=some (.lst (xs++[.int p])))(h:ev cl (σ.set i (some (.lst xs))) e=some (.int q))(k:ah cl M (.cons (.ife (.cst (.bl (decide (p=q)))) b a) r) (σ.set i (some (.lst xs)))=res):ah cl M (.cons (.ifp i e a b) r) σ=res:=by
 have l:evS cl M (.ifp i e a b) σ=if decide (p=q)=true then ah cl M b (σ.set i (some (.lst xs)))else ah cl M a (σ.set i (some (.lst xs))):=by
  rw[Gh,hi,Option.bind_some];show((xs++[D.int p])[(xs++[D.int p]).length-1]?).bind _=_;rw[show(xs++[D.int p])[(xs++[D.int p]).length-1]?=some (.int p) by simp,Option.bind_some,List.dropLast_concat,h];rfl
 have r':evS cl M (.ife (.cst (.bl (decide (p=q)))) b a) (σ.set i (some (.lst xs)))=if decide (p=q)=true then ah cl M b (σ.set i (some (.lst xs)))else ah cl M a (σ.set i (some (.lst xs))):=by
  rw[dB,af];rfl
 rw[ah,r',<-l,<-ah]at k;exact k
abbrev Nx(r:Nat->Nat)(m:Nat):Prop:=∀ q q',q<q'->q'<r q->r q<m->¬ (r q<r q'\/r q'=q')
structure Oq(r:Nat->Nat)(k:Nat)(W:List Nat):Prop extends Op r k W where
 nx:Nx r k
 al:∀ q q',q<q'->q'<k->k<=r q->r q'≠q'
section
def Oq.push(O:Oq r k W)(inv:∀ q,q<m->r (r q)=q)(hk:k<m)(h:k<r k):Oq r (k+1) (W++[k]) where
 toOp:=O.toOp.push inv hk h
 nx:=fun q q' h1 h2 h3=>by
  by_cases c:r q=k
  ·exfalso;have:=inv q (by lia);rw[c]at this;lia
  ·exact O.nx q q' h1 h2 (by lia)
 al:=fun q q' h1 h2 h3=>by
  by_cases c:q'=k
  ·subst c;lia
  ·exact O.al q q' h1 (by lia) (by lia)
def Oq.alone(O:Oq r k [])(inv:∀ q,q<m->r (r q)=q)(hk:k<m)(h:r k=k):Oq r (k+1) []:=by
 have no:∀ q,q<k->k<=r q->False:=fun q h1 h2=>by
  have:=(O.mem q).mpr ⟨h1,h2⟩;cases this
 refine⟨⟨.nil,fun p=>⟨fun h=>(by cases h),fun⟨a,b⟩=>?_⟩⟩,fun q q' h1 h2 h3=>?_,fun q q' h1 h2 h3=>?_⟩
 ·by_cases c:p=k
  ·subst c;lia
  ·exact(no p (by lia) (by lia)).elim
 ·by_cases c:r q=k
  ·exfalso;have:=inv q (by lia);rw[c,h]at this;lia
  ·exact O.nx q q' h1 h2 (by lia)
 ·exact(no q (by lia) (by lia)).elim
def Oq.pop(O:Oq r k (W0++[r k]))(inv:∀ q,q<m->r (r q)=q)(hk:k<m)(h:r k<k):Oq r (k+1) W0:=by
 have up:=O.up;rw[List.pairwise_append]at up;refine⟨⟨up.1,fun p=>?_⟩,fun q q' h1 h2 h3=>?_,fun q q' h1 h2 h3=>?_⟩
 ·constructor
  ·intro hp;have lt:=up.2.2 p hp (r k) (by simp);have:=(O.mem p).mp (by simp[hp]);refine⟨by lia,?_⟩;by_cases c:r p=k
   ·have i:=inv p (by lia);rw[c]at i;lia
   ·lia
  ·rintro⟨a,b⟩
   have pk:p≠k:=by rintro rfl;lia
   have:=(O.mem p).mpr ⟨by lia,by lia⟩;simp at this;rcases this with h | h
   ·exact h
   ·rw[h,inv k hk]at b;lia
 ·by_cases c:r q=k
  ·have i:=inv q (by lia);rw[c]at i;subst i;rintro(z | z)
   ·have mq:=(O.mem q').mpr ⟨by lia,by lia⟩;simp at mq;rcases mq with mq | mq
    ·have:=up.2.2 q' mq (r k) (by simp);lia
    ·lia
   ·exact O.al (r k) q' h1 (by lia) (by lia) z
  ·exact O.nx q q' h1 h2 (by lia)
 ·by_cases c:q'=k
  ·subst c;lia
  ·exact O.al q q' h1 (by lia) (by lia)
end
def A2{cl:Cl}{m:Nat}{E:List Nat}(hm:m<=1000)(El:E.length=m)(inv:∀ q,q<m->at' E (at' E q)=q)(lt:∀ q,q<m->at' E q<m):∃ b:Bool,evF cl eW [.tup (L E)]=some (.bl b)/\(b=true->Nx (at' E) m)/\(Nx (at' E) m->b=true):=by
 have en:=iG El
 have st:=pM (B:=¬ Nx (at' E) m) (f:=ah cl [1] bC) (tg:=[2,3]) (d:=.bl false) (pr E) (fun _=>rfl)
  (fun u σ=>∃ (W:List Nat) (o2 o3:Option D),σ=[some (.tup (L E)),some (.lst (L W)),o2,o3]/\Oq (at' E) u.length W/\W.length<=u.length)
  (List.range m) [] [some (.tup (L E)),some (.lst (L [])),none,none] (by
   rintro u p v σ hu ⟨W,o2,o3,rfl,O,Wl⟩;obtain⟨hk,hp⟩:=cv (g:=id) (by simpa using hu);simp only[id]at hp;subst hp
   have ml:(L W).length<most:=by rw[bw];unfold most;lia
   by_cases c:u.length<at' E u.length
   ·refine .inl ⟨_,show ah cl [1] bC [some (.tup (L E)),some (.lst (L W)),some (.int (u.length:Nat)),some (.int (at' E u.length:Nat))]=some (.nx,_)from fJ (aC (ay (k:=true) (aa rfl) (aa rfl) (by rw[jr,decide_eq_true (by lia)]))) (lV (aa rfl) rfl rfl ml aE) aE,W++[u.length],some (.int (u.length:Nat)),some (.int (at' E u.length:Nat)),?_,?_,?_⟩
    ·rw[hG];rfl
    ·rw[List.length_append];exact O.push inv hk c
    ·simp;lia
   ·have cg:(ev cl [some (.tup (L E)),some (.lst (L W)),some (.int (u.length:Nat)),some (.int (at' E u.length:Nat))] (.cmp .gt (.var 3) (.var 2))).bind truth=some false:=aC (ay (k:=false) (aa rfl) (aa rfl) (by rw[jr,decide_eq_false (by lia)]));by_cases c2:at' E u.length=u.length
    ·have ce:(ev cl [some (.tup (L E)),some (.lst (L W)),some (.int (u.length:Nat)),some (.int (at' E u.length:Nat))] (.cmp .eq (.var 3) (.var 2))).bind truth=some true:=aC (ay (k:=true) (aa rfl) (aa rfl) (by rw[c9,c2,beq_self_eq_true]))
     cases W with
     |nil=>
      exact .inl ⟨_,show ah cl [1] bC [some (.tup (L E)),some (.lst (L [])),some (.int (u.length:Nat)),some (.int (at' E u.length:Nat))]=some (.nx,_)from fO cg (fJ ce (aT (by rw[aa rfl];rfl) aE) aE) aE,[],_,_,rfl,by rw[List.length_append];exact O.alone inv hk c2,by simp⟩
     |cons w W=>
      exact .inr ⟨fun N=>by
       obtain⟨w1,w2⟩:=(O.mem w).mp (List.mem_cons_self ..)
       have wk:at' E w≠u.length:=fun z=>by
        have:=inv w (by lia);rw[z,c2]at this;lia
       exact N w u.length w1 (by lia) (lt w (by lia)) (.inr c2),_,show ah cl [1] bC [some (.tup (L E)),some (.lst (L (w::W))),some (.int (u.length:Nat)),some (.int (at' E u.length:Nat))]=some (.rt (.bl false),_)from kC cg (bW ce (bW (by rw[aa rfl];rfl) (aG af rfl)))⟩
    ·have ce:(ev cl [some (.tup (L E)),some (.lst (L W)),some (.int (u.length:Nat)),some (.int (at' E u.length:Nat))] (.cmp .eq (.var 3) (.var 2))).bind truth=some false:=aC (ay (k:=false) (aa rfl) (aa rfl) (by rw[c9,beq_eq_false_iff_ne.mpr (by lia)]));have m1:at' E u.length∈W:=(O.mem _).mpr ⟨by lia,by rw[inv _ hk];exact Nat.le_refl _⟩;have ne:W≠[]:=List.ne_nil_of_mem m1;have dl:=List.dropLast_concat_getLast ne;generalize W.getLast ne=z at dl;generalize W.dropLast=W0 at dl;subst dl
     have hi:(([some (D.tup (L E)),some (.lst (L (W0++[z]))),some (.int (u.length:Nat)),some (.int (at' E u.length:Nat))]:St)[1]?).bind id=some (.lst (L W0++[.int (z:Nat)])):=by rw[hG];rfl
     by_cases c3:z=at' E u.length
     ·refine .inl ⟨_,show ah cl [1] bC [some (.tup (L E)),some (.lst (L (W0++[z]))),some (.int (u.length:Nat)),some (.int (at' E u.length:Nat))]=some (.nx,_)from fO cg (fO ce (uU hi (aa rfl) (fJ (by rw[af,decide_eq_true (by lia)];rfl) aE aE)) aE) aE,W0,_,_,rfl,?_,?_⟩
      ·rw[List.length_append];subst c3;exact O.pop inv hk (by lia)
      ·simp at Wl ⊢;lia
     ·exact .inr ⟨fun N=>by
       have up:=O.up;rw[List.pairwise_append]at up
       have m0:at' E u.length∈W0:=by
        rcases List.mem_append.mp m1 with h | h
        ·exact h
        ·exact absurd (List.mem_singleton.mp h).symm c3
       have lz:=up.2.2 _ m0 z (by simp);have zz:=(O.mem z).mp (by simp)
       have zk:at' E z≠u.length:=fun q=>by
        have:=inv z (by lia);rw[q]at this;exact c3 this.symm
       have i:=inv u.length hk
       exact N (at' E u.length) z lz (by rw[i];exact zz.1) (by rw[i];exact hk) (.inl (by rw[i];lia)),_,show ah cl [1] bC [some (.tup (L E)),some (.lst (L (W0++[z]))),some (.int (u.length:Nat)),some (.int (at' E u.length:Nat))]=some (.rt (.bl false),_)from kC cg (kC ce (uU hi (aa rfl) (kC (by rw[af,decide_eq_false (by lia)];rfl) (aG af rfl))))⟩)
  ⟨[],none,none,rfl,⟨⟨by simp,by simp⟩,fun q q' _ _ h=>absurd h (Nat.not_lt_zero _),fun q q' _ h=>absurd h (Nat.not_lt_zero _)⟩,by simp⟩
 rw[<-en]at st
 rcases st with⟨σ',e,W,o2,o3,rfl,O,_⟩ | ⟨nN,σ',e⟩
 ·refine⟨true,aK rfl rfl (gy (cE bS) rfl (cR (il (aa rfl) rfl) e (aG af rfl))),fun _=>?_,fun _=>rfl⟩;have:=O.nx;rw[List.nil_append,List.length_range]at this;exact this
 ·exact⟨false,aK rfl rfl (gy (cE bS) rfl (tq (il (aa rfl) rfl) e)),(fun h=>by cases h),fun N=>absurd N nN⟩
end RM
set_option maxHeartbeats 1000000
namespace RM
open RL RT
abbrev xi(xs:List Int)(p:Nat):Int:=(xs[p]?).getD 0
abbrev nb(xs:List Int)(p:Nat):Bool:=decide (0<=xi xs p/\xi xs p<xs.length)&&decide (xi xs (xi xs p).toNat=p)
def zW(h:p<xs.length):ixV (.tup (LI xs)) (.int (p:Nat))=some (.int (xi xs p)):=by
 show cW _ _=_;rw[jc];simp[LI,xi,h]
def pJ(xs:List Int):biV .len (.tup (LI xs))=some (.int (xs.length:Nat)):=congrArg (fun n:Nat=>some (D.int n)) (xx xs)
def bls(g:β->Bool):∀ xs:List β,bX (xs.map fun x=>D.bl (g x))=some (xs.map g)
 | []=>rfl
 | x::r=>by rw[List.map_cons,bX,bls g r];rfl
def sq(g:β->Bool)(xs:List β):biV .all (.lst (xs.map fun x=>D.bl (g x)))=some (.bl (xs.all g)):=by
 show(bX (xs.map fun x=>D.bl (g x))).map _=_;rw[bls,Option.map_some,List.all_map];rfl
section
def C6(hnum:∀ i:Int,cl fn [.int i]=some (.bl true))(hp:p<xs.length):evF cl (gS fn) [.tup (LI xs),.int (p:Nat)]=some (.bl (nb xs p)):=by
 unfold nb;have a1:ev cl [some (.tup (LI xs)),some (.int (p:Nat)),some (.int (xi xs p))] (.call fn (.cons (.var 2) .nil))=some (.bl true):=bO (aa rfl) (hnum _);have as:∀ {res:Option (Out × St)} {r:Ss},ah cl [] r [some (.tup (LI xs)),some (.int (p:Nat)),some (.int (xi xs p))]=res->ah cl [] (.cons (.asg 2 (.ix (.var 0) (.var 1))) r) [some (.tup (LI xs)),some (.int (p:Nat)),none]=res:=fun h=>a8 (eK (aa rfl) (aa rfl) (zW hp)) rfl h;by_cases c:0<=xi xs p/\xi xs p<xs.length
 ·rw[decide_eq_true c,Bool.true_and];obtain⟨j,hj⟩:=Int.eq_ofNat_of_zero_le c.1;rw[hj]at c as a1 ⊢;have i2:=zW (xs:=xs) (p:=j) (by lia)
  exact aK rfl rfl (as (aG (c7 a1 (c7 (k6 (k:=true) af (aa rfl) (bh (aa rfl) (pJ xs)) (by rw[mF,decide_eq_true c.1]) (by rw[cb,decide_eq_true c.2])) (ay (eK (aa rfl) (aa rfl) i2) (aa rfl) (by
   rw[c9,Int.toNat_natCast]
   congr 1)))) rfl))
 ·rw[decide_eq_false c,Bool.false_and];by_cases c1:0<=xi xs p
  ·exact aK rfl rfl (as (aG (c7 a1 (gF (k6 (k:=false) af (aa rfl) (bh (aa rfl) (pJ xs)) (by rw[mF,decide_eq_true c1]) (by rw[cb,decide_eq_false (fun z=>c ⟨c1,z⟩)])))) rfl))
  ·exact aK rfl rfl (as (aG (c7 a1 (gF (yf af (aa rfl) (by rw[mF,decide_eq_false c1])))) rfl))
def rL(hm:xs.length<=1000)(hb:∀ p:Nat,p<xs.length->cl fb [.tup (LI xs),.int (p:Nat)]=some (.bl (nb xs p))):evF cl (gX fb) [.tup (LI xs)]=some (.bl ((List.range xs.length).all (nb xs))):=by
 have mc:=eQ (F:=fun σ1=>(ev cl σ1 (.call fb (.cons (.var 0) (.cons (.var 1) .nil)))).map some) (tg:=[1]) (σ:=[some (.tup (LI xs)),none]) (h:=fun p=>.int (p:Nat)) (g:=fun p=>.bl (nb xs p)) (fun _=>rfl) (List.range xs.length) (by
  intro p hp;show(ev cl [some (.tup (LI xs)),some (.int (p:Nat))] (.call fb (.cons (.var 0) (.cons (.var 1) .nil)))).map some=_;rw[cF (aa rfl) (aa rfl) (hb p (List.mem_range.mp hp))]
  rfl)
 exact aK rfl rfl (aG (c7 (cz (aa rfl) rfl) (bh (dt (lT (bh (aa rfl) (pJ xs)) (cJ hm)) (by rw[bw,List.length_range];unfold most;lia) mc) (sq _ _))) rfl)
def Hk(f:List Nat):L f=LI (f.map Int.ofNat):=by unfold L LI;rw[List.map_map];rfl
def uM(len:h.length=m)(lt:∀ q,q<m->at' h q<m)(inv:∀ q,q<m->at' h (at' h q)=q):(List.range (h.map Int.ofNat).length).all (nb (h.map Int.ofNat))=true:=by
 have x1:∀ q,q<m->xi (h.map Int.ofNat) q=(at' h q:Nat):=fun q hq=>by simp[xi,at',show q<h.length by lia]
 rw[List.all_eq_true,List.length_map,len];intro q hq;have hq:=List.mem_range.mp hq;have l:=lt q hq;unfold nb;rw[x1 q hq,Int.toNat_natCast,x1 _ l,inv q hq,List.length_map,len];rw[decide_eq_true ⟨by lia,by lia⟩];simp
end
structure Dg(T:List Fn)(mx rw dg:Nat):Prop where
 Hb:T[mx]?=some jM
 Ia:T[rw]?=some (jF mx)
 Hh:T[dg]?=some (et rw)
def Dg.digits{T:List Fn}{mx rw dg:Nat}(h:Dg T mx rw dg){ns:List Int}(hl:ns.length<=63)(n:Nat){k:Nat}{sizes:List Nat}(hk:k<=1000)(hp:∀ s∈sizes,0<s/\s<2 ^ 200)(hz:sizes.length<=1000) :
  ∃ ds:List Nat,jH ds sizes/\au T (n+3) dg [.lst (LI ns),.int k,.lst (L sizes)]=some (.lst (L ds)):=by
 obtain⟨r,hr⟩:=B3 (cl:=au T (n+1)) (f:=mx) (fun s=>by
  obtain⟨m,hm⟩:=AD (cl:=au T n) s
  exact⟨m,(ar h.Hb).trans hm⟩) hl hk
 obtain⟨ds,h1,h2⟩:=uJ (cl:=au T (n+2)) (f:=rw) ((ar h.Ia).trans hr) hp hz;exact⟨ds,h1,(ar h.Hh).trans h2⟩
structure Dr(T:List Fn)(mx rw dg pl hk ci ft tx rg hu ov fr:Nat):Prop extends Dg T mx rw dg where
 GX:T[pl]?=some d9
 HF:T[hk]?=some (gm pl)
 GV:T[ci]?=some eS
 Hc:T[ft]?=some (cX ci)
 Hm:T[tx]?=some iW
 Hj:T[rg]?=some dn
 GY:T[hu]?=some (eT rg)
 GZ:T[ov]?=some gi
 HH:T[fr]?=some (i5 hu ov ft tx hk pl dg)
section
variable{T:List Fn}{mx rw dg pl hk ci ft tx rg hu ov fr:Nat}
def Dr.plain(h:Dr T mx rw dg pl hk ci ft tx rg hu ov fr)(n:Nat){k:Nat}(hk:k<=10):au T (n+1) pl [.int k]=some (.tup (L (bq k))):=(ar h.GX).trans (oF hk)
def Dr.hook(h:Dr T mx rw dg pl hk ci ft tx rg hu ov fr)(n:Nat){k i:Nat}(hk':k<=10)(hi:i+1<k):au T (n+2) hk [.int k,.int i]=some (.tup (L (f7 k i))):=(ar h.HF).trans (p6 hk' hi (h.plain n hk'))
def Dr.pU(h:Dr T mx rw dg pl hk ci ft tx rg hu ov fr)(n:Nat){k:Nat}(h1:1<=k)(hk':k<=10):au T (n+1) ci [.int k]=some (.lst (L (aV k))):=(ar h.GV).trans (uj h1 hk')
def Dr.over(h:Dr T mx rw dg pl hk ci ft tx rg hu ov fr)(n:Nat){k:Nat}{f:List Nat}(h1:1<=k)(hk':k<=10)(hf:f.length=2*k):au T (n+1) ov [.tup (L f)]=some (.tup (L (aQ k f))):=(ar h.GZ).trans (qO h1 hk' hf)
def Dr.Cs(h:Dr T mx rw dg pl hk ci ft tx rg hu ov fr){ns:List Int}(hl:ns.length<=63)(n:Nat){k m:Nat}(hk':k<=1000)(h1:1<=m)(hm:m<=10)
 (hh:∀ f:List Nat,Val m f->∃ (g:List Nat) (r:Int),Val m g/\au T (n+3) hu [.tup (L f),.tup (L (aQ m f))]=some (.tup [.tup (L g),.int r])):∃ f:List Nat,Val m f/\au T (n+4) fr [.lst (LI ns),.int k,.int m]=some (.tup (L f)):=by
 obtain⟨f,V,e⟩:=vH (cl:=au T (n+3)) (fhu:=hu) (fov:=ov) (ffr:=ft) (ftx:=tx) (fho:=hk) (fpl:=pl) (fdi:=dg) (scr:=.lst (LI ns)) (k:=k) h1 hm
  (h.digits hl n hk' (by
   intro s hs;simp only[List.mem_cons,List.not_mem_nil,or_false]at hs;rcases hs with rfl | rfl | rfl
   ·decide
   ·decide
   ·exact⟨by omega,Nat.lt_of_le_of_lt (show max 1 (m-1)<=10 by lia) (by decide)⟩) (by simp))
  (h.plain (n+2) hm) (fun i hi=>h.hook (n+1) hm hi)
  (fun r=>by
   obtain⟨w,h1,h2,h3⟩:=yb (cl:=au T (n+2)) (r:=r) hm
   exact⟨w,h1,h2,(ar h.Hm).trans h3⟩)
  (fun w a b=>by
   obtain⟨f,V,e⟩:=oA (cl:=au T (n+2)) (fc:=ci) h1 hm (h.pU (n+1) h1 hm) a b
   exact⟨f,V,(ar h.Hc).trans e⟩)
  (fun f hf=>h.over (n+2) h1 hm hf) hh
 exact⟨f,V,(ar h.HH).trans e⟩
def Dr.frame(h:Dr T mx rw dg pl hk ci ft tx rg hu ov fr){ns:List Int}(hl:ns.length<=63)(n:Nat){k m:Nat}(hk':k<=1000)(h1:1<=m)(hm:m<=10):∃ f:List Nat,Val m f/\au T (n+4) fr [.lst (LI ns),.int k,.int m]=some (.tup (L f)) :=
 h.Cs hl n hk' h1 hm fun f V=>by
  have F:=V.frm
  obtain⟨r,e⟩:=qT (cl:=au T (n+2)) (fr:=rg) h1 hm F (fun inner i1 i2=>by
   obtain⟨r,e⟩:=wm (cl:=au T (n+1)) hm F.len (by simp[aQ]) i1 i2
   exact⟨r,(ar h.Hj).trans e⟩)
  exact⟨_,r,Bp V,(ar h.GY).trans e⟩
end
structure Ck(T:List Fn)(nu pc pa nb un if' cf po rp ir mv:Nat):Prop where
 Ic:T[nu]?=some i8
 Hl:T[pc]?=some (di nu)
 HA:T[pa]?=some (gX nb)
 Ib:T[nb]?=some (gS nu)
 Ha:T[un]?=some eW
 FX:T[if']?=some (fX un ir pa pc po)
 HV:T[cf]?=some (dC if')
 E1:T[po]?=some iw
 HL:T[rp]?=some cQ
 DK:T[ir]?=some (eu mv rp po)
 Fz:T[mv]?=some iR
section
variable{T:List Fn}{nu pc pa nb un if' cf po rp ir mv:Nat}
def Ck.num(h:Ck T nu pc pa nb un if' cf po rp ir mv)(n:Nat)(i:Int):au T (n+1) nu [.int i]=some (.bl true):=(ar h.Ic).trans (oG i)
def Ck.zr(h:Ck T nu pc pa nb un if' cf po rp ir mv)(n:Nat)(i:Int):au T (n+2) pc [.int i]=some (.bl (decide (1<=i/\i<=10))):=(ar h.Hl).trans (lr (h.num n) i)
def Ck.of(h:Ck T nu pc pa nb un if' cf po rp ir mv)(n:Nat)(xs:List D):au T (n+1) po [.tup xs]=some (.int (xs.length / 2)):=(ar h.E1).trans (pI xs)
def Ck.ofL(h:Ck T nu pc pa nb un if' cf po rp ir mv)(n:Nat)(xs:List D):au T (n+1) po [.lst xs]=some (.int (xs.length / 2)):=(ar h.E1).trans (rF xs)
def Ck.place(h:Ck T nu pc pa nb un if' cf po rp ir mv)(n:Nat){k p:Nat}(hp:p<2*k):au T (n+1) rp [.int k,.int (p:Nat)]=some (.int (rd k p:Nat)):=(ar h.HL).trans (mn hp)
def Ck.move(h:Ck T nu pc pa nb un if' cf po rp ir mv)(n:Nat){k:Nat}{f:List Nat}{U:D}{to:Nat->Nat}(hk:k<=10)(F:Frm k f)(hT:∀ p:Nat,p<2*k->ixV U (.int (p:Nat))=some (.int (to p:Nat)))(hlt:∀ p,p<2*k->to p<2*k)(inj:∀ p q,p<2*k->q<2*k->to p=to q->p=q) :
  ∃ E:List Nat,E.length=2*k/\(∀ p,p<2*k->at' E (to p)=to (at' f p))/\au T (n+1) mv [.tup (L f),U]=some (.tup (L E)):=by
 obtain⟨E,h1,h2,h3⟩:=wC (cl:=au T n) (T:=U) (to:=to) hk F hT hlt inj;exact⟨E,h1,h2,(ar h.Fz).trans h3⟩
def Ck.round(h:Ck T nu pc pa nb un if' cf po rp ir mv)(n:Nat){k:Nat}{f:List Nat}(hk:k<=10)(F:Frm k f):∃ E:List Nat,E.length=2*k/\(∀ q,q<2*k->at' E q=rnd k f q)/\au T (n+2) ir [.tup (L f)]=some (.tup (L E)):=by
 obtain⟨E,h1,h2,h3⟩:=qq (cl:=au T (n+1)) (fm:=mv) (frp:=rp) (fpo:=po) hk F (h.of n) (fun p hp=>h.place n hp) (h.move n (U:=.lst (L (aV k))) (to:=rd k) hk F (fun p hp=>kd hp) (fun p hp=>aN hp) (fun p q hp hq h=>iO hp hq h));exact⟨E,h1,h2,(ar h.DK).trans h3⟩
def Ck.frame(h:Ck T nu pc pa nb un if' cf po rp ir mv)(n:Nat){k:Nat}{f:List Nat}(h1:1<=k)(hk:k<=10)(V:Val k f):au T (n+4) if' [.tup (L f)]=some (.bl true) :=
 (ar h.FX).trans (p7 h1 hk V (h.of (n+2)) (by rw[h.zr (n+1),decide_eq_true (by lia)])
  (by
   have F:=V.frm;have p:=(ar (n:=n+2) h.HA).trans (rL (xs:=f.map Int.ofNat) (by rw[List.length_map,F.len];lia) fun q hq=>(ar h.Ib).trans (C6 (h.num n) hq));rw[uM F.len F.lt (fun q _=>F.inv q),<-Hk]at p
   exact p)
  (h.round (n+1) hk V.frm) (fun E a b c d l=>(ar h.Ha).trans (by
   obtain⟨w,e,_,hb⟩:=A2 (cl:=au T (n+2)) (m:=2*k) (by lia) a b l
   rw[hb fun q q' x y z w=>by
    have:=d q q' (by lia) (by lia);have:=c q' (by lia)
    lia]at e
   exact e)))
def Ck.check(h:Ck T nu pc pa nb un if' cf po rp ir mv)(n:Nat){k:Nat}{f:List Nat}(h1:1<=k)(hk:k<=10)(V:Val k f):au T (n+5) cf [.tup (L f)]=some .non:=(ar h.HV).trans (lU (h.frame n h1 hk V))
def Ck.FY(h:Ck T nu pc pa nb un if' cf po rp ir mv){cp:Nat}(hcp:T[cp]?=some (dZ pc))(n:Nat){k:Nat}(h1:1<=k)(hk:k<=10):au T (n+3) cp [.int k]=some .non:=(ar hcp).trans (mQ (by rw[h.zr,decide_eq_true (by lia)]))
end
inductive Pl:Nat->D->Prop
 | int (n:Nat) (i:Int):Pl n (.int i)
 | bl (n:Nat) (b:Bool):Pl n (.bl b)
 | str (n:Nat) (x:PySem.Str):Pl n (.str x)
 | tup (n:Nat) (xs:List D) (hl:xs.length<=1000) (h:∀ x∈xs,Pl n x):Pl (n+1) (.tup xs)
 | lst (n:Nat) (xs:List D) (hl:xs.length<=1000) (h:∀ x∈xs,Pl n x):Pl (n+1) (.lst xs)
def sU{cl:Cl}{fs:Nat}(a:Bool):evF cl (cN fs) [.bl a,.bl a]=some (.bl true):=jK rfl rfl rfl rfl rfl rfl (zY a)
def same_str{cl:Cl}{fs:Nat}(x:PySem.Str):evF cl (cN fs) [.str x,.str x]=some (.bl true):=jK rfl rfl rfl rfl rfl rfl (show some (x == x)=some true by rw[beq_self_eq_true])
def sameAll{T:List Fn}{sm:Nat}(h:T[sm]?=some (cN sm)):∀ (k n:Nat) (d:D),Pl k d->k<=n->au T (n+1) sm [d,d]=some (.bl true):=by
 intro k
 induction k with
 |zero=>
  intro n d p _
  cases p with
  | int=>exact(ar h).trans (same_int _)
  | bl=>exact(ar h).trans (sU _)
  | str=>exact(ar h).trans (same_str _)
 |succ k ih=>
  intro n d p hn
  cases p with
  | int=>exact(ar h).trans (same_int _)
  | bl=>exact(ar h).trans (sU _)
  | str=>exact(ar h).trans (same_str _)
  |tup _ xs hl hx=>
   obtain⟨m,rfl⟩:∃ m,n=m+1:=⟨n-1,by lia⟩
   exact(ar h).trans (qr (.inl rfl) hl fun x hd=>ih m x (hx x hd) (by lia))
  |lst _ xs hl hx=>
   obtain⟨m,rfl⟩:∃ m,n=m+1:=⟨n-1,by lia⟩
   exact(ar h).trans (qr (.inr rfl) hl fun x hd=>ih m x (hx x hd) (by lia))
def wZ(hf:f.length=n)(hg:g.length=n)(h:∀ x,x<n->at' f x=at' g x):f=g:=by
 refine List.ext_getElem? fun x=>?_;by_cases hx:x<n
 ·rw[iF (by lia),iF (by lia),h x hx]
 ·rw[List.getElem?_eq_none (by lia),List.getElem?_eq_none (by lia)]
def l9:∀ xs:List D,(∀ x∈xs,f x x=some true)->eqs f xs xs=some true
 | [],_=>rfl
 | x::r,h=>by
  rw[eqs,h x List.mem_cons_self,Option.bind_some,l9 r fun y hy=>h y (List.mem_cons_of_mem _ hy)];rfl
def GG:∀ (k n:Nat) (d:D),Pl k d->k<=n->eqD n d d=some true:=by
 intro k
 induction k with
 |zero=>
  intro n d p _
  cases p with
  | int i=>simp[uI]
  | bl i=>simp[tW]
  | str i=>simp[tK]
 |succ k ih=>
  intro n d p hn
  obtain⟨m,rfl⟩:∃ m,n=m+1:=⟨n-1,by lia⟩
  cases p with
  | int i=>simp[uI]
  | bl i=>simp[tW]
  | str i=>simp[tK]
  | tup _ xs hl h=>rw[HC,l9 xs fun x hx=>ih m x (h x hx) (by lia)];simp
  | lst _ xs hl h=>rw[Hi,l9 xs fun x hx=>ih m x (h x hx) (by lia)];simp
def GA(p:Pl k d)(h:k<=8):aO .ne d d=some false:=by
 show(eqD 8 d d).map not=some false;rw[GG k 8 d p h];rfl
def GC(hl:ns.length<=63):qb (.scr (LI ns)) (.int 63)=some (.lst (LI ns)):=by
 show some (D.lst ((LI ns).take (cutAt (LI ns).length 63)))=_;rw[List.take_of_length_le]
 have:(LI ns).length=ns.length:=by simp[LI]
 rw[this];unfold cutAt;rw[if_pos (by decide)];have:(63:Int).toNat=63:=rfl;lia
section
def Aj(n:Nat):a5 .mul (.int 2) (.int (n:Nat))=some (.int ((2*n:Nat):Int)):=by
 rw[bB (by decide) (by decide)];simp
end
section
variable{nu pc pa nb un if' cf po rp ir mv:Nat}
end
end RM
set_option maxHeartbeats 1000000
namespace RT
open RL
abbrev fS:Fn :=
 ⟨2,6,[],[],(.cons (.unp [2,3] (.var 1)) (.cons (.ret (.bi .any (.compA (.chain3 .lt .lt .lt (.var 2) (.var 4) (.var 3) (.var 5)) [4,5] (.seq (.var 0))))) .nil))⟩
abbrev kP(f_law_crosses f_law_circle:Nat):Ss :=
 (.cons (.ife (.or (.not (.chain .le .lt (.cst (.int 0)) (.var 5) (.var 1))) (.or (.cmp .eq (.var 5) (.var 4)) (.cmp .ne (.ix (.var 0) (.var 5)) (.var 4)))) (.cons (.ret (.cst (.bl false))) .nil) .nil) .nil)
abbrev jh(f_law_crosses f_law_circle:Nat):Fn :=
 ⟨1,7,[],[],(.cons (.asg 1 (.bi .len (.var 0))) (.cons (.ife (.or (.cmp .lt (.var 1) (.cst (.int 2))) (.or (.cmp .gt (.var 1) (.cst (.int 20))) (.cmp .eq (.bin .mod (.var 1) (.cst (.int 2))) (.cst (.int 1))))) (.cons (.ret (.cst (.bl false))) .nil) .nil) (.cons (.forr [4,5] (.enm (.var 0)) (kP f_law_crosses f_law_circle)) (.cons (.asg 2 (.call f_law_circle (.cons (.bin .fdiv (.var 1) (.cst (.int 2))) .nil))) (.cons (.asg 3 (.compA (.bi .tuple (.bi .sorted (.lst (.cons (.index (.var 2) (.var 4)) (.cons (.index (.var 2) (.var 5)) .nil))))) [4,5] (.enm (.var 0)))) (.cons (.ret (.not (.bi .any (.compA (.call f_law_crosses (.cons (.var 3) (.cons (.var 6) .nil))) [6] (.seq (.var 3)))))) .nil))))))⟩
end RT
namespace RM
open RL RT
def yp(h1:ev cl σ a=some (.int x))(h2:ev cl σ b=some (.int y))(h3:ev cl σ e=some (.int z))(h4:ev cl σ g=some (.int w))(no:¬ (x<y/\y<z/\z<w)):ev cl σ (.chain3 .lt .lt .lt a b e g)=some (.bl false):=by
 rw[zx,h1,Option.bind_some,h2,Option.bind_some,cb,Option.bind_some];by_cases c:x<y
 ·rw[decide_eq_true c,if_pos rfl,h3,Option.bind_some,cb,Option.bind_some];by_cases c':y<z
  ·rw[decide_eq_true c',if_pos rfl,h4,Option.bind_some,cb,decide_eq_false (fun c''=>no ⟨c,c',c''⟩)];rfl
  ·rw[decide_eq_false c',if_neg (by decide)]
 ·rw[decide_eq_false c,if_neg (by decide)]
def su:∀ xs:List β,biV .any (.lst (xs.map fun _=>D.bl false))=some (.bl false):=by
 intro xs
 have h:∀ xs:List β,bX (xs.map fun _=>D.bl false)=some (xs.map fun _=>false):=fun xs=>by
  induction xs with
  | nil=>rfl
  | cons x r ih=>simp only[List.map_cons,bX,ih];rfl
 show(bX (xs.map fun _=>D.bl false)).map _=_;rw[h,Option.map_some];congr 2
 induction xs with
 | nil=>rfl
 | cons x r ih=>exact ih
abbrev lo(n:Nat)(f:List Nat)(p:Nat):Nat:=if rd n p<=rd n (at' f p)then rd n p else rd n (at' f p)
abbrev hi(n:Nat)(f:List Nat)(p:Nat):Nat:=if rd n p<=rd n (at' f p)then rd n (at' f p)else rd n p
abbrev iy(n:Nat)(f:List Nat)(p:Nat):D:=.tup [.int (lo n f p:Nat),.int (hi n f p:Nat)]
abbrev dA(n:Nat)(f:List Nat):List D:=(List.range (2*n)).map (iy n f)
def Ah(F:Frm n f)(hp:p<2*n):lo n f p<2*n/\rnd n f (lo n f p)=hi n f p:=by
 have l:=F.lt p hp;unfold lo hi rnd;split
 ·exact⟨aN hp,by rw[bK hp]⟩
 ·exact⟨aN l,by rw[bK l,F.inv]⟩
def Bb(V:Val n f)(hp:p<2*n)(hq:q<2*n):¬ ((lo n f p:Int)<lo n f q/\(lo n f q:Int)<hi n f p/\(hi n f p:Int)<hi n f q):=by
 obtain⟨a1,a2⟩:=Ah V.frm hp;obtain⟨b1,b2⟩:=Ah V.frm hq;have:=V.nox _ _ a1 b1;rw[a2,b2]at this;lia
section
def rJ(hn:n<=10)(V:Val n f)(hp:p<2*n):evF cl fS [.lst (dA n f),iy n f p]=some (.bl false):=by
 have mc:=eQ (F:=fun σ1=>(ev cl σ1 (.chain3 .lt .lt .lt (.var 2) (.var 4) (.var 3) (.var 5))).map some) (tg:=[4,5]) (σ:=[some (.lst (dA n f)),some (iy n f p),some (.int (lo n f p:Nat)),some (.int (hi n f p:Nat)),none,none]) (h:=iy n f) (g:=fun _=>.bl false) (fun _=>rfl) (List.range (2*n)) (by
  intro q hq;show(ev cl [some (.lst (dA n f)),some (iy n f p),some (.int (lo n f p:Nat)),some (.int (hi n f p:Nat)),some (.int (lo n f q:Nat)),some (.int (hi n f q:Nat))] (.chain3 .lt .lt .lt (.var 2) (.var 4) (.var 3) (.var 5))).map some=_;rw[yp (aa rfl) (aa rfl) (aa rfl) (aa rfl) (Bb V hp (List.mem_range.mp hq))]
  rfl)
 exact aK rfl rfl (qS (aa rfl) rfl rfl rfl (aG (bh (dt (ko (aa rfl) rfl) (by simp[dA,most];lia) mc) (su _)) rfl))
def xZ:∀ n,n<11->∀ p:Nat,p<2*n->Int.ofNat p∈(aV n).map Int.ofNat/\((aV n).map Int.ofNat).idxOf (Int.ofNat p)=rd n p:=by decide +kernel
def xr:∀ xs:List Nat,bJ (L xs)=some (xs.map Int.ofNat)
 | []=>rfl
 | x::r=>by rw[show L (x::r)=.int x::L r from rfl,bJ,xr r];rfl
def wq(hn:n<=10)(h:ev cl σ e=some (.lst (L (aV n))))(h':ev cl σ e'=some (.int (p:Nat)))(hp:p<2*n):ev cl σ (.index e e')=some (.int (rd n p:Nat)):=by
 obtain⟨a,b⟩:=xZ n (by lia) p hp;exact(Bs h h' (xr _) a).trans (congrArg (fun k:Nat=>some (D.int (k:Int))) b)
def GQ(x y:Nat):biV .sorted (.lst [.int (x:Nat),.int (y:Nat)])=some (.lst [.int ((if x<=y then x else y:Nat):Int),.int ((if x<=y then y else x:Nat):Int)]):=by
 show some (D.lst ((if(x:Int)<=(y:Int)then [(x:Int),(y:Int)]else [(y:Int),(x:Int)]).map .int))=_;by_cases c:x<=y
 ·rw[if_pos (by lia),if_pos c,if_pos c];rfl
 ·rw[if_neg (by lia),if_neg c,if_neg c];rfl
def pz(h1:1<=n)(hn:n<=10)(V:Val n f)(hci:cl fi [.int (n:Nat)]=some (.lst (L (aV n))))(hcr:∀ p,p<2*n->cl fc [.lst (dA n f),iy n f p]=some (.bl false)):evF cl (jh fc fi) [.tup (L f)]=some (.bl true):=by
 have F:=V.frm
 have ln:biV .len (.tup (L f))=some (.int ((2*n:Nat):Int)):=by
  show some (D.int ((L f).length:Nat))=_;rw[bw,F.len]
 have en:=iG F.len
 obtain⟨σ',e1,o4,o5,rfl⟩:=lK (f:=ah cl [] (kP fc fi)) (tg:=[4,5]) (pr f) (fun _=>rfl) (fun _ σ=>∃ o4 o5,σ=[some (.tup (L f)),some (.int ((2*n:Nat):Int)),none,none,o4,o5,none]) (List.range (2*n)) [] [some (.tup (L f)),some (.int ((2*n:Nat):Int)),none,none,none,none,none] (by
  rintro u p v σ he ⟨o4,o5,rfl⟩
  have hp:p<2*n:=by
   have:p∈List.range (2*n):=by rw[List.nil_append]at he;rw[he];simp
   exact List.mem_range.mp this
  have l:=F.lt p hp
  refine⟨_,aT (aC (dW (bN (k:=true) (k6 af (aa rfl) (aa rfl) (by rw[mF];simp) (by rw[cb];simp;lia))) (dW (ay (k:=false) (aa rfl) (aa rfl) (by rw[c9];have:=F.no p hp;simp;lia)) (ay (k:=false) (eK (aa rfl) (aa rfl) (dR (by rw[F.len];exact l))) (aa rfl) (by rw[D0,F.inv];simp))))) aE,_,_,rfl⟩) ⟨_,_,rfl⟩
 have mc:=eQ (F:=fun σ1=>(ev cl σ1 (.bi .tuple (.bi .sorted (.lst (.cons (.index (.var 2) (.var 4)) (.cons (.index (.var 2) (.var 5)) .nil)))))).map some) (tg:=[4,5]) (σ:=[some (.tup (L f)),some (.int ((2*n:Nat):Int)),some (.lst (L (aV n))),none,o4,o5,none]) (h:=pr f) (g:=iy n f) (fun _=>rfl) (List.range (2*n)) (by
  intro p hp;have hp:=List.mem_range.mp hp;show(ev cl [some (.tup (L f)),some (.int ((2*n:Nat):Int)),some (.lst (L (aV n))),none,some (.int (p:Nat)),some (.int (at' f p:Nat)),none] _).map some=_;rw[bh (bh (cE (aL (wq hn (aa rfl) (aa rfl) hp) (aL (wq hn (aa rfl) (aa rfl) (F.lt p hp)) bS))) (GQ _ _)) rfl]
  rfl)
 have mk:=eQ (F:=fun σ1=>(ev cl σ1 (.call fc (.cons (.var 3) (.cons (.var 6) .nil)))).map some) (tg:=[6]) (σ:=[some (.tup (L f)),some (.int ((2*n:Nat):Int)),some (.lst (L (aV n))),some (.lst (dA n f)),o4,o5,none]) (h:=iy n f) (g:=fun _=>.bl false) (fun _=>rfl) (List.range (2*n)) (by
  intro p hp;show(ev cl [some (.tup (L f)),some (.int ((2*n:Nat):Int)),some (.lst (L (aV n))),some (.lst (dA n f)),o4,o5,some (iy n f p)] _).map some=_;rw[cF (aa rfl) (aa rfl) (hcr p (List.mem_range.mp hp))]
  rfl)
 have c3:aO .eq (.int (((2*n:Nat):Int)%2)) (.int 1)=some false:=by
  rw[c9,show((2*n:Nat):Int)%2=0 by lia];rfl
 have hm:(List.range (2*n)).length<=most:=by rw[List.length_range];unfold most;lia
 have hm1:(c8 0 (L f)).length<=most:=by rw[en,List.length_map];exact hm
 have hm2:(dA n f).length<=most:=by unfold dA;rw[List.length_map];exact hm
 rw[<-en]at e1 mc
 have im:ao (dA n f)=true:=by
  have:∀ xs:List Nat,ao (xs.map (iy n f))=true:=fun xs=>by
   induction xs with
   | nil=>rfl
   | cons x r ih=>exact ih
  exact this _
 exact aK rfl rfl (a8 (bh (aa rfl) ln) rfl
  (aT (aC (dW (ay (k:=false) (aa rfl) af (by rw[cb];simp;lia)) (dW (ay (k:=false) (aa rfl) af (by rw[jr];simp;lia)) (ay (k:=false) (aq (aa rfl) af (dh (by decide))) af c3))))
  (cR (il (aa rfl) rfl) e1
  (a8 (bO (aq (d:=.int (n:Nat)) (aa rfl) af (by rw[fW (by decide) (by decide)];congr 2;lia)) hci) (by simp[bu,aA,bD,D.imm])
  (a8 (d:=.lst (dA n f)) (dt (il (aa rfl) rfl) hm1 mc) (by unfold bu;rw[show aA (.lst (dA n f))=true from im];rfl)
  (aG (bN (bh (dt (ko (aa rfl) rfl) hm2 mk) (su _))) rfl))))))
end
section
end
section
end
section
variable{cl:Cl}
end
section
end
section
end
section
end
section
end
section
variable{nu pc pa nb un if' cf po rp ir mv rn mk rg jb pu c2 hu:Nat}
end
section
variable{mx rw dg pl hk ci ft tx rg hu ov fr:Nat}
end
section
end
section
end
section
end
section
variable{mx rw dg pl hk ci ft tx rg hu ov fr:Nat}
end
section
end
section
end
section
end
section
end
end RM
set_option maxHeartbeats 1000000
namespace RM
open RL RT
section
end
end RM
set_option maxHeartbeats 1000000
namespace RT
open RL
end RT
namespace RM
open RL RT
section
variable{nu pc pa nb un if' cf po rp ir mv rn mk rg jb pu c2 hu:Nat}
end
section
end
end RM
set_option maxHeartbeats 1000000
namespace RT
open RL
end RT
namespace RM
open RL RT
section
end
section
variable{nu pc pa nb un if' cf po rp ir mv:Nat}
end
section
end
section
end
end RM
set_option maxHeartbeats 1000000
namespace RM
open RL RT
section
variable{n:Nat}{f h a b:List Nat}
end
end RM
set_option maxHeartbeats 1000000
namespace RM
open RL RT
section
end
end RM
set_option maxHeartbeats 1000000
namespace RM
open RL RT
section
variable{n:Nat}{f g A B:List Nat}
end
end RM
set_option maxHeartbeats 1000000
namespace RM
open RL RT
section
variable{cl:Cl}{xs:List Int}
end
end RM
set_option maxHeartbeats 1000000
namespace RT
open RL
end RT
namespace RM
open RL RT
section
variable{cl:Cl}{n:Nat}{h a b:List Nat}
end
end RM
set_option maxHeartbeats 1000000
namespace RM
open RL RT
abbrev Cb(m:Nat):Nat->Nat
 | 0=>1
 | i+1=>Cb m i*(m-i) / (i+1)
abbrev Wy(m g:Nat):Nat:=if g<=m/\(m-g)%2=0 then(if m=g then 1 else Cb m ((m-g) / 2)-Cb m ((m-g) / 2-1))else 0
def jA{m g:Nat}(h:m<g):Wy m g=0:=by
 unfold Wy;rw[if_neg (by lia)]
end RM
set_option maxHeartbeats 1000000
namespace RT
open RL
abbrev rf(f_choices:Nat):Fn :=
 ⟨2,3,[],[],(.cons (.ife (.or (.cmp .lt (.var 1) (.cst (.int 0))) (.or (.cmp .gt (.var 1) (.var 0)) (.cmp .eq (.bin .mod (.bin .sub (.var 0) (.var 1)) (.cst (.int 2))) (.cst (.int 1))))) (.cons (.ret (.cst (.int 0))) .nil) .nil) (.cons (.asg 2 (.bin .fdiv (.bin .sub (.var 0) (.var 1)) (.cst (.int 2)))) (.cons (.ret (.bin .sub (.call f_choices (.cons (.var 0) (.cons (.var 2) .nil))) (.call f_choices (.cons (.var 0) (.cons (.bin .sub (.var 2) (.cst (.int 1))) .nil))))) .nil)))⟩
abbrev lY:Ss :=
 (.cons (.asg 2 (.bin .fdiv (.bin .mul (.var 2) (.bin .sub (.var 0) (.var 3))) (.bin .add (.var 3) (.cst (.int 1))))) .nil)
abbrev fE:Fn :=
 ⟨2,4,[],[],(.cons (.ife (.cmp .lt (.var 1) (.cst (.int 0))) (.cons (.ret (.cst (.int 0))) .nil) .nil) (.cons (.asg 2 (.cst (.int 1))) (.cons (.forr [3] (.rng1 (.var 1)) (lY)) (.cons (.ret (.var 2)) .nil))))⟩
abbrev iI(f_is_number:Nat):Fn :=
 ⟨2,2,[],[],(.cons (.ife (.or (.not (.call f_is_number (.cons (.var 0) .nil))) (.not (.chain .le .lt (.cst (.int 0)) (.var 0) (.var 1)))) (.cons (.rais "NoNumber" (.cons (.var 1) .nil)) .nil) .nil) .nil)⟩
end RT
namespace RM
open RL RT
section
variable{cl:Cl}
def jD{M:List Nat}{e:E}(i:Int):bu M e (.int i)=true:=rfl
def mw{M:List Nat}{e:E}(i:Int):bo M e (.int i)=true:=rfl
def rO{m c:Nat}(hm:m<=100)(hc:c<=m):evF cl fE [.int (m:Nat),.int (c:Nat)]=some (.int (Cb m c:Nat)):=by
 obtain⟨σ',e,o3,rfl⟩:=lK (f:=ah cl [] lY) (tg:=[3]) (fun p:Nat=>.int (p:Nat)) (fun _=>rfl)
  (fun u σ=>∃ o3:Option D,σ=[some (.int (m:Nat)),some (.int (c:Nat)),some (.int (Cb m u.length:Nat)),o3])
  (List.range c) [] [some (.int (m:Nat)),some (.int (c:Nat)),some (.int (Cb m 0:Nat)),none] (by
   rintro u p v σ hu ⟨o3,rfl⟩;obtain⟨hk,hp⟩:=cv (g:=id) (by simpa using hu);simp only[id]at hp;subst hp;have lt:((u.length:Nat):Int)+1<2 ^ 200:=Int.lt_of_lt_of_le (b:=1000) (by lia) (by decide);have ls:((m:Nat):Int)-(u.length:Nat)<2 ^ 64:=Int.lt_of_lt_of_le (b:=1000) (by lia) (by decide);have lg:-(2 ^ 64)<((m:Nat):Int)-(u.length:Nat):=Int.lt_of_lt_of_le (b:=0) (by decide) (by lia)
   have a1:ev cl [some (.int (m:Nat)),some (.int (c:Nat)),some (.int (Cb m u.length:Nat)),some (.int (u.length:Nat))] (.bin .fdiv (.bin .mul (.var 2) (.bin .sub (.var 0) (.var 3))) (.bin .add (.var 3) (.cst (.int 1))))=some (.int (Cb m (u.length+1):Nat)):=by
    refine aq (x:=.int ((Cb m u.length:Nat)*((m:Nat)-(u.length:Nat)))) (y:=.int ((u.length:Nat)+1)) (aq (aa rfl) (aq (aa rfl) (aa rfl) cy) (pG lg ls)) (aq (aa rfl) af bF) ?_;rw[fW (by lia) lt,Cb,Int.natCast_ediv,Int.natCast_mul,Int.natCast_sub (by lia)];rfl
   have b1:=a8 (cl:=cl) (M:=[]) (i:=2) a1 (jD _) aE;refine⟨[some (.int (m:Nat)),some (.int (c:Nat)),some (.int (Cb m (u.length+1):Nat)),some (.int (u.length:Nat))],?_,some (.int (u.length:Nat)),?_⟩
   ·have bt:aP [3] (.int (u.length:Nat)) [some (.int (m:Nat)),some (.int (c:Nat)),some (.int (Cb m u.length:Nat)),o3]=some [some (.int (m:Nat)),some (.int (c:Nat)),some (.int (Cb m u.length:Nat)),some (.int (u.length:Nat))]:=rfl;rw[bt,Option.bind_some];exact b1
   rw[List.length_append,List.length_singleton]) ⟨none,rfl⟩
 rw[List.nil_append,List.length_range]at e;exact aK rfl rfl (aT (aC (ay (k:=false) (aa rfl) af (by rw[cb,decide_eq_false (by lia)]))) (a8 (d:=.int (Cb m 0:Nat)) af (jD _) (cR (lT (aa rfl) (cJ (by lia))) e (aG (d:=.int (Cb m c:Nat)) (aa rfl) (mw _)))))
def qo{m:Nat}:evF cl fE [.int (m:Nat),.int (-1)]=some (.int 0) :=
 aK rfl rfl (bW (aC (ay (k:=true) (aa rfl) af rfl)) (aG af rfl))
def yy{fc m g:Nat}(hm:m<=100)(le:g<=m->m≠g->Cb m ((m-g) / 2-1)<=Cb m ((m-g) / 2))(h1:∀ c:Nat,c<=m->cl fc [.int (m:Nat),.int (c:Nat)]=some (.int (Cb m c:Nat)))(h0:cl fc [.int (m:Nat),.int (-1)]=some (.int 0)):evF cl (rf fc) [.int (m:Nat),.int (g:Nat)]=some (.int (Wy m g:Nat)):=by
 have s1:ev cl [some (.int (m:Nat)),some (.int (g:Nat)),none] (.cmp .lt (.var 1) (.cst (.int 0)))=some (.bl false):=ay (aa rfl) af (by rw[cb,decide_eq_false (by lia)]);by_cases c:m<g
 ·rw[jA c];exact aK rfl rfl (bW (aC (dW s1 (zM (ay (k:=true) (aa rfl) (aa rfl) (by rw[jr,decide_eq_true (by lia)]))))) (aG af rfl))
 ·have s2:ev cl [some (.int (m:Nat)),some (.int (g:Nat)),none] (.cmp .gt (.var 1) (.var 0))=some (.bl false):=ay (aa rfl) (aa rfl) (by rw[jr,decide_eq_false (by lia)]);have sb:∀ {σ:St},(σ[0]?).bind id=some (D.int (m:Nat))->(σ[1]?).bind id=some (D.int (g:Nat))->ev cl σ (.bin .sub (.var 0) (.var 1))=some (.int ((m-g:Nat):Int)):=fun a b=>aq (aa a) (aa b) (by rw[cy,Int.natCast_sub (by lia)])
  have md:a5 .mod (.int ((m-g:Nat):Int)) (.int 2)=some (.int (((m-g)%2:Nat):Int)):=by rw[dh (by decide)];rfl
  by_cases c2:(m-g)%2=1
  ·have w0:Wy m g=0:=by unfold Wy;rw[if_neg (by lia)]
   rw[w0];exact aK rfl rfl (bW (aC (dW s1 (dW s2 (ay (k:=true) (aq (sb rfl rfl) af md) af (by rw[c9,c2];rfl))))) (aG af rfl))
  ·have s3:ev cl [some (.int (m:Nat)),some (.int (g:Nat)),none] (.cmp .eq (.bin .mod (.bin .sub (.var 0) (.var 1)) (.cst (.int 2))) (.cst (.int 1)))=some (.bl false):=ay (aq (sb rfl rfl) af md) af (by rw[c9,beq_eq_false_iff_ne.mpr (by lia)])
   have dv:a5 .fdiv (.int ((m-g:Nat):Int)) (.int 2)=some (.int (((m-g) / 2:Nat):Int)):=by rw[fW (by decide) (by decide)];rfl
   have k1:=h1 ((m-g) / 2) (by lia);refine aK rfl rfl (aT (aC (dW s1 (dW s2 s3))) (a8 (aq (sb rfl rfl) af dv) (jD _) (aG (d:=.int (Wy m g:Nat)) ?_ (mw _))));by_cases c3:m=g
   ·have w1:Wy m g=1:=by unfold Wy;rw[if_pos ⟨by lia,by lia⟩,if_pos c3]
    rw[w1]
    have z:(m-g) / 2=0:=by lia
    rw[z]at k1 ⊢;exact aq (cF (aa rfl) (aa rfl) k1) (cF (aa rfl) (aq (aa rfl) af cy) h0) rfl
   ·have k2:=h1 ((m-g) / 2-1) (by lia)
    have w1:Wy m g=Cb m ((m-g) / 2)-Cb m ((m-g) / 2-1):=by unfold Wy;rw[if_pos ⟨by lia,by lia⟩,if_neg c3]
    have le:=le (by omega) c3;rw[w1];refine aq (cF (aa rfl) (aa rfl) k1) (cF (aa rfl) (aq (aa rfl) af (by rw[cy,show(((m-g) / 2:Nat):Int)-1=(((m-g) / 2-1:Nat):Int) by lia])) k2) ?_;rw[cy,Int.natCast_sub le]
end
end RM
set_option maxHeartbeats 1000000
namespace RM
open RL RT
def D9{M:List Nat}{e:E}(xs:List Nat):bu M e (.tup (L xs))=true:=by
 unfold bu;rw[show(D.tup (L xs)).imm=true from bD xs];rfl
def DE{M:List Nat}{e:E}(xs:List Nat):bo M e (.tup (L xs))=true:=by
 unfold bo;rw[show(D.tup (L xs)).imm=true from bD xs];rfl
section
variable{T:List Fn}{hf nf td wy ch:Nat}
end
end RM
set_option maxHeartbeats 1000000
namespace RM
open RL RT
abbrev wdL(n:Nat)(f:List Nat):List Bool:=(List.range (2*n)).map fun q=>decide (q<rnd n f q)
def km:(wdL n f).length=2*n:=by simp[wdL]
def F7(hw:w.length=2*n)(h:Wd n w f []):w=wdL n f:=by
 apply List.ext_getElem?;intro q;by_cases c:q<2*n
 ·rw[h q (by lia)];simp[wdL,c]
 ·rw[List.getElem?_eq_none (by lia),List.getElem?_eq_none (by rw[km];lia)]
def Frm.rlt(F:Frm n f)(h:q<2*n):rnd n f q<2*n:=aN (F.lt _ (aN h))
def Frm.gD(F:Frm n f)(h:q<2*n):rnd n f (rnd n f q)=q:=by
 unfold rnd;rw[bK (F.lt _ (aN h)),F.inv,bK h]
def Frm.rno(F:Frm n f)(h:q<2*n):rnd n f q≠q:=fun c=>by
 have:=F.no (rd n q) (aN h);exact this (by rw[<-bK (F.lt _ (aN h))];exact congrArg (rd n) c)
def nT(V:Val n f)(U:Val n g)(P:∀ q,q<k->rnd n f q<k\/rnd n g q<k->rnd n f q=rnd n g q)(hk:k<2*n)(h1:rnd n f k<k)(h2:rnd n g k<k):¬ rnd n f k<rnd n g k:=by
 intro c;have a:=V.frm.gD hk;have b:=U.frm.gD hk
 have d:¬ rnd n f (rnd n g k)<k:=fun d=>by
  have:=P _ h2 (.inl d);lia
 have e:rnd n f (rnd n g k)≠k:=fun e=>by
  have:=V.frm.gD (q:=rnd n g k) (by lia);rw[e]at this;lia
 exact V.nox (rnd n f k) (rnd n g k) (by lia) (by lia) ⟨c,by lia,by lia⟩
def nW(V:Val n f)(U:Val n g)(h:∀ q,q<2*n->(q<rnd n f q↔q<rnd n g q)):∀ k,k<=2*n->∀ q,q<k->rnd n f q<k\/rnd n g q<k->rnd n f q=rnd n g q
 | 0,_,q,hq,_=>absurd hq (Nat.not_lt_zero _)
 | k+1,hk,q,hq,c=>by
  have P:=nW V U h k (by lia);have hk':k<2*n:=hk
  have J:rnd n f k<k\/rnd n g k<k->rnd n f k=rnd n g k:=fun c=>by
   have a:=h k hk';have b1:=V.frm.rno hk';have b2:=U.frm.rno hk'
   have c1:rnd n f k<k:=by lia
   have c2:rnd n g k<k:=by lia
   have:=nT V U P hk' c1 c2;have:=nT U V (fun q a b=>(P q a b.symm).symm) hk' c2 c1;lia
  by_cases e:q=k
  ·subst e;have b1:=V.frm.rno hk';have b2:=U.frm.rno hk';exact J (by lia)
  ·have hq':q<k:=by lia
   by_cases e1:rnd n f q=k
   ·have i1:=V.frm.gD (q:=q) (by lia);rw[e1]at i1;have j:=J (.inl (by lia));rw[e1,<-U.frm.gD hk',<-j,i1]
   ·by_cases e2:rnd n g q=k
    ·have i1:=U.frm.gD (q:=q) (by lia);rw[e2]at i1;have j:=J (.inr (by lia));rw[e2,<-V.frm.gD hk',j,i1]
    ·exact P q hq' (by lia)
def EH(V:Val n f)(U:Val n g)(h:wdL n f=wdL n g):f=g:=by
 have h':∀ q,q<2*n->(q<rnd n f q↔q<rnd n g q):=fun q hq=>by
  have:=congrArg (fun l=>l[q]?) h;simpa[wdL,hq]using this
 refine wZ V.frm.len U.frm.len fun x hx=>?_;have:=nW V U h' (2*n) (Nat.le_refl _) (rd n x) (aN hx) (.inl (V.frm.rlt (aN hx)));unfold rnd at this;rw[bK hx]at this;exact iO (V.frm.lt x hx) (U.frm.lt x hx) this
abbrev opn(n:Nat)(f:List Nat)(k:Nat):Nat:=(List.range k).countP fun q=>decide (k<=rnd n f q)
def DQ(F:Frm n f)(hk:k<2*n)(h:k<rnd n f k):opn n f (k+1)=opn n f k+1:=by
 unfold opn;rw[List.range_succ,List.countP_append]
 have:(List.range k).countP (fun q=>decide (k+1<=rnd n f q))=(List.range k).countP fun q=>decide (k<=rnd n f q):=by
  apply List.countP_congr;intro q hq;simp at hq
  have:rnd n f q≠k:=fun c=>by
   have:=F.gD (q:=q) (by lia);rw[c]at this;lia
  simp;lia
 rw[this];simp;lia
def AM{k j:Nat}(hj:j<k)(p p':Nat->Bool)(h:∀ q,q<k->q≠j->p q=p' q)(h1:p j=true)(h2:p' j=false):(List.range k).countP p=(List.range k).countP p'+1:=by
 induction k with
 | zero=>lia
 |succ k ih=>
  rw[List.range_succ,List.countP_append,List.countP_append];by_cases c:j=k
  ·subst c
   have:(List.range j).countP p=(List.range j).countP p':=by
    apply List.countP_congr;intro q hq;simp at hq;rw[h q (by lia) (by lia)]
   rw[this];simp[h1,h2]
  ·rw[ih (by lia) fun q hq hn=>h q (by lia) hn];have:=h k (by lia) (by lia);simp[this];lia
def DB(F:Frm n f)(hk:k<2*n)(h:rnd n f k<k):opn n f k=opn n f (k+1)+1:=by
 unfold opn;rw[List.range_succ,List.countP_append];have b:=F.gD hk
 rw[AM (j:=rnd n f k) h (fun q=>decide (k<=rnd n f q)) (fun q=>decide (k+1<=rnd n f q)) (fun q hq hn=>by
  have:rnd n f q≠k:=fun c=>by
   have:=F.gD (q:=q) (by lia);rw[c]at this;lia
  simp
  lia) (by simp;lia) (by simp;lia)]
 simp;lia
def rS(F:Frm n f):∀ k,k<=2*n->dpf 0 ((List.range k).map fun q=>decide (q<rnd n f q))=some (opn n f k)
 | 0,_=>rfl
 | k+1,hk=>by
  rw[List.range_succ,List.map_append,List.map_cons,List.map_nil,bY,rS F k (by lia),Option.bind_some];have no:=F.rno (q:=k) (by lia);by_cases c:k<rnd n f k
  ·rw[decide_eq_true c,DQ F (by lia) c];rfl
  ·rw[decide_eq_false c,DB F (by lia) (by lia)];rfl
def wV(F:Frm n f):dpf 0 (wdL n f)=some 0:=by
 rw[wdL,rS F _ (Nat.le_refl _)];congr 1;unfold opn;rw[List.countP_eq_zero];intro q hq;simp at hq;have:=F.rlt hq;simp;lia
end RM
set_option maxHeartbeats 1000000
namespace RL
open PySem (Str)
section
end
end RL
namespace RT
open RL
end RT
namespace RM
open RL RT
end RM
set_option maxHeartbeats 1000000
namespace RT
open RL
abbrev jl(f_in_round f_check_frame:Nat):Fn :=
 ⟨1,3,[],[],(.cons (.exc (.call f_check_frame (.cons (.var 0) .nil))) (.cons (.ret (.join (.compA (.ifx (.cmp .gt (.var 2) (.var 1)) (.cst (.str "(")) (.cst (.str ")"))) [1,2] (.enm (.call f_in_round (.cons (.var 0) .nil)))))) .nil))⟩
abbrev cL(f_in_round f_tie f_is_brackets:Nat):Ss :=
 (.cons (.ife (.cmp .eq (.var 4) (.cst (.str "("))) (.cons (.app 2 (.var 3)) .nil) (.cons (.tie3 f_tie 1 3 2) .nil)) .nil)
abbrev eU(f_in_round f_tie f_is_brackets:Nat):Fn :=
 ⟨1,5,[1,2],[],(.cons (.ife (.not (.call f_is_brackets (.cons (.var 0) .nil))) (.cons (.rais "BadFrame" .nil) .nil) .nil) (.cons (.own 1 (.bin .mul (.lst (.cons (.cst (.int 0)) .nil)) (.bi .len (.var 0)))) (.cons (.own 2 (.lst .nil)) (.cons (.forr [3,4] (.enm (.var 0)) (cL f_in_round f_tie f_is_brackets)) (.cons (.ret (.call f_in_round (.cons (.var 1) .nil))) .nil)))))⟩
abbrev dk(f_is_peg_count:Nat):Ss :=
 (.cons (.ife (.inn true (.var 2) (.tup (.cons (.cst (.str "(")) (.cons (.cst (.str ")")) .nil)))) (.cons (.ret (.cst (.bl false))) .nil) .nil) (.cons (.aug 1 .add (.ifx (.cmp .eq (.var 2) (.cst (.str "("))) (.cst (.int 1)) (.neg (.cst (.int 1))))) (.cons (.ife (.cmp .lt (.var 1) (.cst (.int 0))) (.cons (.ret (.cst (.bl false))) .nil) .nil) .nil)))
abbrev fQ(f_is_peg_count:Nat):Fn :=
 ⟨1,3,[],[],(.cons (.ife (.not (.call f_is_peg_count (.cons (.bin .fdiv (.bi .len (.var 0)) (.cst (.int 2))) .nil))) (.cons (.ret (.cst (.bl false))) .nil) .nil) (.cons (.asg 1 (.cst (.int 0))) (.cons (.forr [2] (.chr (.var 0)) (dk f_is_peg_count)) (.cons (.ret (.cmp .eq (.var 1) (.cst (.int 0)))) .nil))))⟩
abbrev eY(f_law_circle:Nat):Ss :=
 (.cons (.asg 3 (.bin .add (.var 3) (.ix (.lst (.cons (.cst (.str "(")) (.cons (.cst (.str ")")) .nil))) (.bi .int (.inn false (.ix (.var 0) (.var 4)) (.var 2)))))) (.cons (.app 2 (.var 4)) .nil))
abbrev fU(f_law_circle:Nat):Fn :=
 ⟨1,5,[2],[],(.cons (.asg 1 (.call f_law_circle (.cons (.bin .fdiv (.bi .len (.var 0)) (.cst (.int 2))) .nil))) (.cons (.own 2 (.lst .nil)) (.cons (.asg 3 (.cst (.str ""))) (.cons (.forr [4] (.seq (.var 1)) (eY f_law_circle)) (.cons (.ret (.var 3)) .nil)))))⟩
end RT
namespace RM
open RL RT
def BG{xs:List D}{R R' x d u:D}(h1:(σ[r]?).bind id=some R)(h2:(σ[p]?).bind id=some x)(h3:(σ[w]?).bind id=some (.lst (xs++[d])))(im:x.imm=true)(hc:cl f [R,x,d]=some (.tup [u,R']))(k:ah cl M b ((σ.set w (some (.lst xs))).set r (some R'))=res):ah cl M (.cons (.tie3 f r p w) b) σ=res:=cZ (by
 show((σ[r]?).bind id).bind _=_;rw[h1,Option.bind_some,h2,Option.bind_some,h3,Option.bind_some,show x8 (.lst (xs++[d]))=some (d,.lst xs) by simp[x8],Option.bind_some,if_pos im,hc]
 rfl) k
def Ck.Fe{nb:Nat}(h:Ck T nu pc pa nb un if' cf po rp ir mv)(n:Nat){k:Nat}{f:List Nat}(hk:k<=10)(F:Frm k f):∃ E:List Nat,E.length=2*k/\(∀ q,q<2*k->at' E q=rnd k f q)/\au T (n+2) ir [.lst (L f)]=some (.tup (L E)):=by
 obtain⟨E,h1,h2,h3⟩:=j7 (c:=.lst) (cl:=au T (n+1)) (fm:=mv) (frp:=rp) (fpo:=po) (.inr rfl) hk F (h.ofL n) (fun p hp=>h.place n hp) (by
  obtain⟨E,h1,h2,h3⟩:=m9 (c:=.lst) (cl:=au T n) (T:=.lst (L (aV k))) (to:=rd k) (.inr rfl) hk F (fun p hp=>kd hp) (fun p hp=>aN hp) (fun p q hp hq h=>iO hp hq h)
  exact⟨E,h1,h2,(ar h.Fz).trans h3⟩)
 exact⟨E,h1,h2,(ar h.DK).trans h3⟩
def kK{ib ti ir:Nat}(h1:1<=n)(hn:n<=10)(hw:w.length=2*n)(hd:dpf 0 w=some 0)(hb:cl ib [.str (tx w)]=some (.bl true))
 (ht:∀ (xs:List Nat) (i j:Nat),i<xs.length->j<xs.length->cl ti [.lst (L xs),.int (i:Nat),.int (j:Nat)]=some (.tup [.non,.lst (L ((xs.set i j).set j i))]))
 (hr:∀ R:List Nat,Frm n R->∃ E:List Nat,E.length=2*n/\(∀ q,q<2*n->at' E q=rnd n R q)/\cl ir [.lst (L R)]=some (.tup (L E))) :
  ∃ f:List Nat,(Val n f/\Wd n w f [])/\evF cl (eU ir ti ib) [.str (tx w)]=some (.tup (L f)):=by
 have r0:rd n 0=0:=by unfold rd;rw[if_pos (by lia)]
 obtain⟨σ',e,I⟩:=lS (f:=ah cl [1,2] (cL ir ti ib)) (tg:=[3,4]) (fun b:Bool=>D.str (tx [b])) (fun _=>rfl)
  (fun u σ=>∃ (R f S:List Nat) (o3 o4:Option D),σ=[some (.str (tx w)),some (.lst (L R)),some (.lst (L S)),o3,o4]/\dpf 0 u=some S.length/\Mt n u.length f S/\(∀ x,x<2*n->at' f x<2*n)/\Wd n u f S/\R.length=2*n/\∀ q,q<2*n->at' R q=rnd n f q)
  w [] [some (.str (tx w)),some (.lst (L (List.replicate (2*n) 0))),some (.lst (L [])),none,none] (by
   rintro u b v σ hu ⟨R,f,S,o3,o4,rfl,hS,m,hlt,wd,hR,rr⟩
   have hk:u.length<2*n:=by
    rw[<-hw];have:=congrArg List.length hu;simp at this;lia
   have hdb:∃ d,dpf S.length [b]=some d:=by
    have:dpf 0 (u++b::v)=some 0:=by rw[<-hu];exact hd
    rw[fZ,hS]at this
    revert this
    cases b with
    | true=>exact fun _=>⟨_,rfl⟩
    |false=>
     cases S.length with
     | zero=>exact fun h=>nomatch h
     | succ d=>exact fun _=>⟨_,rfl⟩
   cases b with
   |true=>
    have hl:S.length<most:=by have:=mC u 0 hS;unfold most;lia
    have ap:L (S++[u.length])=L S++[.int ((u.length:Nat):Int)]:=by simp[L]
    refine⟨[some (.str (tx w)),some (.lst (L R)),some (.lst (L (S++[u.length]))),some (.int u.length),some (.str (tx [true]))],?_,R,f,S++[u.length],_,_,rfl,?_,by simpa using m.push hk,hlt,wd.push m,hR,rr⟩
    ·rw[ap];exact show ah cl [1,2] (cL ir ti ib) [some (.str (tx w)),some (.lst (L R)),some (.lst (L S)),some (.int u.length),some (.str (tx [true]))]=some (.nx,_)from fJ (aC (ay (k:=true) (aa rfl) af (by rw[gc];decide))) (lV (aa rfl) rfl rfl (by rw[bw];exact hl) aE) aE
    ·rw[bY,hS];simp[dpf]
   |false=>
    obtain⟨d,hdb⟩:=hdb
    have hS0:S≠[]:=by
     rintro rfl;simp[dpf]at hdb
    obtain⟨S0,m0,rfl⟩:∃ S0 m0,S=S0++[m0]:=⟨S.dropLast,S.getLast hS0,(List.dropLast_concat_getLast hS0).symm⟩
    have hm0:m0<u.length:=m.lt m0 (by simp)
    have ap:L (S0++[m0])=L S0++[.int ((m0:Nat):Int)]:=by simp[L]
    have hc:=ht R u.length m0 (by lia) (by lia);refine⟨[some (.str (tx w)),some (.lst (L ((R.set u.length m0).set m0 u.length))),some (.lst (L S0)),some (.int u.length),some (.str (tx [false]))],?_,_,(f.set (rd n m0) (rd n u.length)).set (rd n u.length) (rd n m0),S0,_,_,rfl,?_,by simpa using m.pop hk,?_,wd.pop m hk,by simp[hR],?_⟩
    ·rw[ap];exact show ah cl [1,2] (cL ir ti ib) [some (.str (tx w)),some (.lst (L R)),some (.lst (L S0++[.int ((m0:Nat):Int)])),some (.int u.length),some (.str (tx [false]))]=some (.nx,_)from fO (aC (ay (k:=false) (aa rfl) af (by rw[gc];decide))) (BG rfl rfl rfl rfl hc aE) aE
    ·rw[bY,hS];simp[dpf]
    ·intro x hx;rw[cC (by simp[m.len];exact aN (by lia)),cC (by rw[m.len];exact aN (by lia))];have:=aN (n:=n) (q:=m0) (by lia);have:=aN (n:=n) (q:=u.length) (by lia);have:=hlt x hx
     repeat' split
     all_goals lia
    ·intro q hq;rw[cC (by simp;lia),cC (by lia),nE m.len hk (by lia) hq,rr q hq]
     repeat' split
     all_goals lia)
  ⟨List.replicate (2*n) 0,List.replicate (2*n) 0,[],none,none,rfl,rfl,⟨by simp,by simp,by simp,by simp,by simp,by simp,by simp⟩,fun x hx=>by simp[at',hx];lia,fun q hq=>by simp at hq,by simp,fun q hq=>by
   have z:∀ x,x<2*n->at' (List.replicate (2*n) 0) x=0:=fun x hx=>by simp[at',hx]
   unfold rnd
   rw[z _ (aN hq),z q hq,r0]⟩
 obtain⟨R,f,S,o3,o4,rfl,hS,m,hlt,wd,hR,rr⟩:=I;simp only[List.nil_append]at hS m wd;rw[hd]at hS;have hS0:S=[]:=List.eq_nil_of_length_eq_zero (by simpa using hS.symm);subst hS0;rw[hw]at m;have V:=m.val hlt;have F:=V.frm
 have FR:Frm n R:=⟨hR,fun x hx=>by rw[rr x hx];exact F.rlt hx,fun x=>by
  by_cases hx:x<2*n
  ·rw[rr x hx,rr _ (F.rlt hx),F.gD hx]
  ·have o:=jL (f:=R) (x:=x) (by lia)
   rw[o,o],fun x hx=>by rw[rr x hx];exact F.rno hx⟩
 obtain⟨E,El,EE,hE⟩:=hr R FR
 have eE:E=f:=wZ El F.len fun x hx=>by
  rw[EE x hx];unfold rnd;rw[rr _ (aN hx)];unfold rnd;rw[bK hx,bK (F.lt x hx)]
 subst eE;refine⟨E,⟨V,wd⟩,?_⟩
 have len:biV .len (.str (tx w))=some (.int ((2*n:Nat):Int)):=by
  dsimp only[biV];rw[eC,hw,if_pos (by unfold most;lia)]
 have e0:a5 .mul (.lst [.int 0]) (.int ((2*n:Nat):Int))=some (.lst (L (List.replicate (2*n) 0))):=by
  dsimp only[a5];rw[if_pos ⟨by lia,by unfold most;lia,by simp[most];lia⟩];simp[L];lia
 have it:cA (.str (tx w))=some (w.map fun b=>D.str (tx [b])):=by
  simp[cA,tx,Function.comp_def]
 exact aK rfl rfl (aT (aC (bN (bO (aa rfl) hb))) (gy (aq (cE (aL af bS)) (bh (aa rfl) len) e0) (by rw[show aA (.lst (L (List.replicate (2*n) 0)))=true from bD _];rfl) (gy (cE bS) rfl
  (cR (il (aa rfl) it) e (aG (bO (aa rfl) hE) (by unfold bo;rw[show(D.tup (L E)).imm=true from bD _];rfl))))))
end RM
set_option maxHeartbeats 1000000
namespace RM
open RL RT
def rZ(b:β->Bool):∀ xs:List β,strs? (xs.map fun q=>D.str (tx [b q]))=some (xs.map fun q=>tx [b q])
 | []=>rfl
 | x::r=>by simp[strs?,rZ b r]
def sj(b:β->Bool):∀ xs:List β,(xs.map fun q=>tx [b q]).flatMap (fun s=>s.cps.toList)=(xs.map b).map sg
 | []=>rfl
 | x::r=>by
  rw[List.map_cons,List.flatMap_cons,sj b r];rfl
def Be(b:β->Bool)(xs:List β)(h:xs.length<=most):oR (.lst (xs.map fun q=>D.str (tx [b q])))=some (.str (tx (xs.map b))):=by
 dsimp only[oR];rw[rZ,Option.bind_some,if_pos ⟨by simpa using h,by simp[eC]⟩,sj];rfl
def Dk(h:ev cl σ e=some x)(hb:oR x=some d):ev cl σ (.join e)=some d:=by
 show(ev cl σ e).bind _=_;rw[h];exact hb
def rC{ir cf:Nat}(hn:n<=10)(hc:cl cf [.tup (L f)]=some .non)(hr:∃ E:List Nat,E.length=2*n/\(∀ q,q<2*n->at' E q=rnd n f q)/\cl ir [.tup (L f)]=some (.tup (L E))):evF cl (jl ir cf) [.tup (L f)]=some (.str (tx (wdL n f))):=by
 obtain⟨E,El,EE,hE⟩:=hr
 have mc:=eQ (F:=fun σ1=>(ev cl σ1 (.ifx (.cmp .gt (.var 2) (.var 1)) (.cst (.str "(")) (.cst (.str ")")))).map some) (tg:=[1,2]) (σ:=[some (.tup (L f)),none,none]) (h:=pr E) (g:=fun q=>D.str (tx [decide (q<rnd n f q)])) (fun _=>rfl) (List.range (2*n)) (by
  intro q hq;simp at hq
  have e:ev cl [some (.tup (L f)),some (.int (q:Nat)),some (.int (at' E q:Nat))] (.ifx (.cmp .gt (.var 2) (.var 1)) (.cst (.str "(")) (.cst (.str ")")))=some (.str (tx [decide (q<rnd n f q)])):=by
   rw[EE q hq];refine ui (aC (ay (k:=decide (q<rnd n f q)) (aa rfl) (aa rfl) ?_)) ?_
   ·show some (decide (((rnd n f q:Nat):Int) > (q:Nat)))=_;congr 1;exact decide_eq_decide.mpr (by lia)
   ·by_cases c:q<rnd n f q
    ·rw[decide_eq_true c,<-gc];exact af
    ·rw[decide_eq_false c,<-oP];exact af
  show(ev cl [some (.tup (L f)),some (.int (q:Nat)),some (.int (at' E q:Nat))] _).map some=_
  rw[e];rfl)
 rw[<-iG El]at mc;have jn:=Be (fun q=>decide (q<rnd n f q)) (List.range (2*n)) (by simp[most];lia);exact aK rfl rfl (qh (bO (aa rfl) hc) (aG (Dk (dt (il (bO (aa rfl) hE) rfl) (by rw[iG El];simp[most];lia) mc) jn) rfl))
def HU(a:Nat)(p:List Nat):inV (.int (a:Nat)) (.lst (L p))=some (decide (a∈p)):=by
 have h1:(L p).all flat=true:=by simp[L,flat]
 have h2:((L p).any fun x=>eqF x (.int (a:Nat)))=decide (a∈p):=by
  rw[Bool.eq_iff_iff];simp[L,eqF];exact⟨fun⟨x,hx,e⟩=>by rw[<-show x=a by lia];exact hx,fun h=>⟨a,h,rfl⟩⟩
 show(if flat (.int (a:Nat))&&(L p).all flat then some ((L p).any fun x=>eqF x (.int (a:Nat)))else none)=_;rw[h1,h2];rfl
def rE{ci:Nat}(h1:1<=n)(hn:n<=10)(F:Frm n f)(hc:cl ci [.int n]=some (.lst (L (aV n)))):evF cl (fU ci) [.tup (L f)]=some (.str (tx (wdL n f))):=by
 obtain⟨σ',e,I⟩:=cB (f:=ah cl [2] (eY ci)) (tg:=[4]) (xs:=aV n) (σ:=[some (.tup (L f)),some (.lst (L (aV n))),some (.lst (L [])),some (.str (tx [])),none])
  (fun p σ=>∃ o4,σ=[some (.tup (L f)),some (.lst (L (aV n))),some (.lst (L p)),some (.str (tx ((List.range p.length).map fun q=>decide (q<rnd n f q)))),o4]) ⟨none,rfl⟩ (by
   rintro p x q σ hx ⟨o4,rfl⟩;obtain⟨a1,a2⟩:=cv (show(List.range (2*n)).map (rd n)=p++x::q from hx)
   have ep:p=(List.range p.length).map (rd n):=by
    have:=congrArg (List.take p.length) (show(List.range (2*n)).map (rd n)=p++x::q from hx);rw[List.take_left' rfl,<-List.map_take,List.take_range,Nat.min_eq_left (by lia)]at this;exact this.symm
   generalize hk:p.length=k at *
   have mem:at' f x∈p↔rnd n f k<k:=by
    rw[ep,a2];simp only[List.mem_map,List.mem_range];constructor
    ·rintro⟨j,hj,e⟩;unfold rnd;rw[<-e,bK (by lia)];exact hj
    ·intro c;exact⟨_,c,bK (F.lt _ (aN (by lia)))⟩
   have no:=F.rno (q:=k) (by lia)
   have sgn:ixV (.lst [.str (PySem.Str.ofString "("),.str (PySem.Str.ofString ")")]) (.int (if at' f x∈p then 1 else 0))=some (.str (tx [decide (k<rnd n f k)])):=by
    rw[gc,oP];by_cases c:at' f x∈p
    ·rw[if_pos c,decide_eq_false (by have:=mem.mp c;lia)];rfl
    ·rw[if_neg c,decide_eq_true (by have:=mt mem.mpr c;lia)];rfl
   have bi:biV .int (.bl (decide (at' f x∈p)))=some (.int (if at' f x∈p then 1 else 0)):=by
    by_cases c:at' f x∈p
    ·rw[if_pos c,decide_eq_true c];rfl
    ·rw[if_neg c,decide_eq_false c];rfl
   have xl:x<f.length:=by rw[F.len,a2];exact aN a1
   have ap:L (p++[x])=L p++[.int (x:Nat)]:=by simp[L]
   refine⟨_,show ah cl [2] (eY ci) [some (.tup (L f)),some (.lst (L (aV n))),some (.lst (L p)),some (.str (tx ((List.range k).map fun q=>decide (q<rnd n f q)))),some (.int (x:Nat))]=some (.nx,_)from
    a8 (aq (aa rfl) (eK (cE (aL af (aL af bS))) (bh (uo (n:=false) (eK (aa rfl) (aa rfl) (dR xl)) (aa rfl) (HU _ _)) bi) sgn) (qP (by simp[most];lia))) rfl (lV (aa rfl) rfl rfl (by rw[bw,hk];unfold most;lia) aE),some (.int (x:Nat)),?_⟩
   rw[ap,List.length_append,hk,List.length_singleton,List.range_succ,List.map_append]
   rfl)
 obtain⟨o4,rfl⟩:=I;rw[lp]at e;have ln:=half (xs:=L f) (n:=n) (by rw[bw,F.len]);rw[<-q0]at e;exact aK rfl rfl (a8 (bO (aq (bh (aa rfl) ln) af (tN n)) hc) (by unfold bu;rw[show aA (.lst (L (aV n)))=true from bD _];rfl) (gy (cE bS) rfl (a8 af rfl (cR (ko (aa rfl) rfl) e (aG (aa rfl) rfl)))))
end RM
set_option maxHeartbeats 1000000
namespace RM
open RL RT
def Cj:∀ s,s<20->∀ d,d<22->Wy (s+1) d=Wy s (d+1)+(if d=0 then 0 else Wy s (d-1)):=by decide +kernel
def oW(hs:s<20):Wy (s+1) d=Wy s (d+1)+(if d=0 then 0 else Wy s (d-1)):=by
 by_cases c:d<22
 ·exact Cj s hs d c
 ·rw[jA (by lia),jA (by lia),if_neg (by lia),jA (by lia)]
abbrev rk:Nat->List Bool->Nat
 | _,[]=>0
 | d,true::w=>rk (d+1) w
 | d,false::w=>Wy w.length (d+1)+rk (d-1) w
abbrev ur:Nat->Nat->Nat->List Bool
 | 0,_,_=>[]
 | s+1,d,r=>if r<Wy s (d+1)then true::ur s (d+1) r else false::ur s (d-1) (r-Wy s (d+1))
def Hx:Wy 0 d=if d=0 then 1 else 0:=by
 by_cases c:d=0
 ·subst c;rfl
 ·rw[if_neg c,jA (by lia)]
def oX:∀ s d r,s<=20->r<Wy s d->(ur s d r).length=s/\dpf d (ur s d r)=some 0/\rk d (ur s d r)=r
 | 0,d,r,_,h=>by
  rw[Hx]at h;by_cases c:d=0
  ·subst c;rw[if_pos rfl]at h;exact⟨rfl,rfl,by show 0=r;lia⟩
  ·rw[if_neg c]at h;lia
 | s+1,d,r,hs,h=>by
  rw[oW (by lia)]at h;unfold ur;by_cases c:r<Wy s (d+1)
  ·rw[if_pos c];obtain⟨a,b,e⟩:=oX s (d+1) r (by lia) c;exact⟨by simp[a],b,e⟩
  ·rw[if_neg c]
   have d0:d≠0:=fun z=>by rw[if_pos z]at h;lia
   rw[if_neg d0]at h
   obtain⟨d',rfl⟩:∃ d',d=d'+1:=⟨d-1,by lia⟩
   obtain⟨a,b,e⟩:=oX s (d'+1-1) (r-Wy s (d'+1+1)) (by lia) (by lia);exact⟨by rw[List.length_cons,a],b,by rw[rk,a,e];lia⟩
def uQ:∀ (w:List Bool) (d:Nat),w.length<=20->dpf d w=some 0->rk d w<Wy w.length d/\ur w.length d (rk d w)=w
 | [],d,_,h=>by
  have:d=0:=by simpa[dpf]using h
  subst this;exact⟨by decide,rfl⟩
 | true::w,d,hl,h=>by
  simp only[List.length_cons]at hl;obtain⟨a,b⟩:=uQ w (d+1) (by lia) h;refine⟨?_,?_⟩
  ·rw[List.length_cons,oW (by lia),rk];lia
  ·rw[List.length_cons,ur,rk,if_pos a,b]
 | false::w,0,_,h=>by cases h
 | false::w,d+1,hl,h=>by
  simp only[List.length_cons]at hl;obtain⟨a,b⟩:=uQ w d (by lia) h;refine⟨?_,?_⟩
  ·rw[List.length_cons,oW (by lia),rk,if_neg (by lia),Nat.add_sub_cancel];lia
  ·rw[List.length_cons,ur,rk,if_neg (by lia),Nat.add_sub_cancel,Nat.add_sub_cancel_left,b]
def FF(b c:List Bool):¬ (sg false::b.map sg<sg true::c.map sg):=by
 intro h;rw[List.cons_lt_cons_iff]at h
 rcases h with h | ⟨h,_⟩
 ·exact absurd h (by decide)
 ·exact absurd h (by decide)
def qp:∀ s d r q,r<=q->¬ ((ur s d q).map sg<(ur s d r).map sg)
 | 0,d,r,q,h=>by intro z;exact absurd z (by simp[ur])
 | s+1,d,r,q,h=>by
  unfold ur;by_cases c:q<Wy s (d+1)
  ·rw[if_pos c,if_pos (by lia),List.map_cons,List.map_cons,List.cons_lt_cons_iff];rintro(z | ⟨_,z⟩)
   ·exact absurd z (Nat.lt_irrefl _)
   ·exact qp s (d+1) r q h z
  ·rw[if_neg c];by_cases e:r<Wy s (d+1)
   ·rw[if_pos e];exact FF _ _
   ·rw[if_neg e,List.map_cons,List.map_cons,List.cons_lt_cons_iff];rintro(z | ⟨_,z⟩)
    ·exact absurd z (Nat.lt_irrefl _)
    ·exact qp s (d-1) (r-Wy s (d+1)) (q-Wy s (d+1)) (by lia) z
end RM
set_option maxHeartbeats 1000000
namespace RT
open RL
abbrev m4(f_ways f_check_pegs:Nat):Fn :=
 ⟨1,1,[],[],(.cons (.exc (.call f_check_pegs (.cons (.var 0) .nil))) (.cons (.ret (.call f_ways (.cons (.bin .mul (.cst (.int 2)) (.var 0)) (.cons (.cst (.int 0)) .nil)))) .nil))⟩
abbrev fB(f_from_brackets f_ways f_check_number f_how_many:Nat):Ss :=
 (.cons (.asg 6 (.call f_ways (.cons (.var 5) (.cons (.bin .add (.var 3) (.cst (.int 1))) .nil)))) (.cons (.ife (.cmp .lt (.var 1) (.bin .add (.var 4) (.var 6))) (.cons (.augs 2 (.cst (.str "("))) (.cons (.aug 3 .add (.cst (.int 1))) .nil)) (.cons (.augs 2 (.cst (.str ")"))) (.cons (.aug 3 .sub (.cst (.int 1))) (.cons (.aug 4 .add (.var 6)) .nil)))) .nil))
abbrev j5(f_from_brackets f_ways f_check_number f_how_many:Nat):Fn :=
 ⟨2,7,[],[],(.cons (.exc (.call f_check_number (.cons (.var 1) (.cons (.call f_how_many (.cons (.var 0) .nil)) .nil)))) (.cons (.asg 2 (.cst (.str ""))) (.cons (.asg 3 (.cst (.int 0))) (.cons (.asg 4 (.cst (.int 0))) (.cons (.forr [5] (.rng3 (-1) (.bin .sub (.bin .mul (.cst (.int 2)) (.var 0)) (.cst (.int 1))) (.neg (.cst (.int 1)))) (fB f_from_brackets f_ways f_check_number f_how_many)) (.cons (.ret (.call f_from_brackets (.cons (.var 2) .nil))) .nil))))))⟩
abbrev eJ(f_ways f_brackets:Nat):Ss :=
 (.cons (.ife (.cmp .eq (.var 5) (.cst (.str "("))) (.cons (.aug 2 .add (.cst (.int 1))) .nil) (.cons (.aug 3 .add (.call f_ways (.cons (.bin .sub (.bin .sub (.bi .len (.var 1)) (.cst (.int 1))) (.var 4)) (.cons (.bin .add (.var 2) (.cst (.int 1))) .nil)))) (.cons (.aug 2 .sub (.cst (.int 1))) .nil))) .nil)
abbrev i6(f_ways f_brackets:Nat):Fn :=
 ⟨1,6,[],[],(.cons (.asg 1 (.call f_brackets (.cons (.var 0) .nil))) (.cons (.asg 2 (.cst (.int 0))) (.cons (.asg 3 (.cst (.int 0))) (.cons (.forr [4,5] (.enm (.var 1)) (eJ f_ways f_brackets)) (.cons (.ret (.var 3)) .nil)))))⟩
end RT
namespace RM
open RL RT
def sD(hi:(σ[i]?).bind id=some (.str a))(h:ev cl σ e=some (.str b))(hl:a.length+b.length<=most)(k:ah cl M r (σ.set i (some (.str (a++b))))=res):ah cl M (.cons (.augs i e) r) σ=res :=
 cZ (by
  rw[F4,hi,Option.bind_some,h,Option.bind_some];show(if a.length+b.length<=most then _ else none).map _=_;rw[if_pos hl]
  rfl) k
def mD:∀ (k a:Nat),k<=a+1->b8 (-1) (a:Int) k=L ((List.range k).map fun i=>a-i)
 | 0,_,_=>rfl
 | k+1,0,h=>by
  have:k=0:=by lia
  subst this;rfl
 | k+1,a+1,h=>by
  rw[b8,List.range_succ_eq_map,show(((a+1:Nat):Int)+-1)=(a:Nat) by lia,mD k a (by lia)];rw[List.map_cons,List.map_map];show _=D.int ((a+1-0:Nat):Int)::L _;congr 1;unfold L;congr 1;apply List.map_congr_left;intro i _;simp only[Function.comp];lia
def BU(h:1<=m)(hm:m<=1000):dS (-1) (.int ((m:Nat)-1)) (.int (-1))=some (L ((List.range m).map fun i=>m-1-i)):=by
 have e:bp (-1) ((m:Nat)-1) (-1)=m:=by
  unfold bp;rw[if_neg (by decide),if_pos (by lia)];simp<;>lia
 show(if _ then some (b8 (-1) ((m:Nat)-1) (bp (-1) ((m:Nat)-1) (-1)))else none)=_;rw[e,if_pos ⟨by decide,by decide,by decide,by unfold most;lia,by lia,by lia,by decide,by decide⟩,show((m:Nat):Int)-1=((m-1:Nat):Int) by lia,mD m (m-1) (by lia)]
section
def pd{fb wy cn hw:Nat}(h1:1<=n)(hn:n<=10)(hr:r<Wy (2*n) 0)(c1:cl hw [.int (n:Nat)]=some (.int (Wy (2*n) 0:Nat)))(c2:cl cn [.int (r:Nat),.int (Wy (2*n) 0:Nat)]=some .non)
 (c3:∀ s d:Nat,s<=20->cl wy [.int (s:Nat),.int (d:Nat)]=some (.int (Wy s d:Nat)))(c4:cl fb [.str (tx (ur (2*n) 0 r))]=some (.tup (L f))):evF cl (j5 fb wy cn hw) [.int (n:Nat),.int (r:Nat)]=some (.tup (L f)):=by
 obtain⟨σ',e,pre,d,A,r',o5,o6,rfl,i1,i2,i3,i4⟩:=cB (f:=ah cl [] (fB fb wy cn hw)) (tg:=[5]) (xs:=(List.range (2*n)).map fun i=>2*n-1-i) (σ:=[some (.int (n:Nat)),some (.int (r:Nat)),some (.str (tx [])),some (.int (0:Nat)),some (.int (0:Nat)),none,none])
  (fun u σ=>∃ (pre:List Bool) (d A r':Nat) (o5 o6:Option D),σ=[some (.int (n:Nat)),some (.int (r:Nat)),some (.str (tx pre)),some (.int (d:Nat)),some (.int (A:Nat)),o5,o6]/\pre.length=u.length/\A+r'=r/\r'<Wy (2*n-u.length) d/\ur (2*n) 0 r=pre++ur (2*n-u.length) d r')
  ⟨[],0,0,r,none,none,rfl,rfl,by lia,hr,rfl⟩ (by
  rintro u x v σ hu ⟨pre,d,A,r',o5,o6,rfl,i1,i2,i3,i4⟩;have hl:=congrArg List.length hu;simp at hl
  have hx:x=2*n-1-u.length:=by
   have:=congrArg (fun l=>l[u.length]?) hu;simp[show u.length<2*n by lia]at this;exact this.symm
  subst hx
  obtain⟨s,hs⟩:∃ s,2*n-u.length=s+1:=⟨2*n-u.length-1,by lia⟩
  rw[hs]at i3 i4
  have ex:2*n-1-u.length=s:=by lia
  rw[ex];have cw:=c3 s (d+1) (by lia)
  have a6:∀ {res:Option (Out × St)} {b:Ss},ah cl [] b [some (.int (n:Nat)),some (.int (r:Nat)),some (.str (tx pre)),some (.int (d:Nat)),some (.int (A:Nat)),some (.int (s:Nat)),some (.int (Wy s (d+1):Nat))]=res->ah cl [] (.cons (.asg 6 (.call wy (.cons (.var 5) (.cons (.bin .add (.var 3) (.cst (.int 1))) .nil)))) b) [some (.int (n:Nat)),some (.int (r:Nat)),some (.str (tx pre)),some (.int (d:Nat)),some (.int (A:Nat)),some (.int (s:Nat)),o6]=res:=fun h =>
   a8 (cF (aa rfl) (aq (aa rfl) af (show _=some (.int ((d+1:Nat):Int))from rfl)) cw) (jD _) h
  have ml:∀ b:Bool,(tx pre).length+(tx [b]).length<=most:=fun b=>by rw[eC,eC];unfold most;simp;lia
  have ns:2*n-(u++[s]).length=s:=by simp;lia
  by_cases c:r'<Wy s (d+1)
  ·refine⟨_,show ah cl [] (fB fb wy cn hw) [some (.int (n:Nat)),some (.int (r:Nat)),some (.str (tx pre)),some (.int (d:Nat)),some (.int (A:Nat)),some (.int (s:Nat)),o6]=some (.nx,_)from a6 (fJ (aC (ay (k:=true) (aa rfl) (aq (aa rfl) (aa rfl) bF) (by rw[cb,decide_eq_true (by lia)]))) (sD (b:=tx [true]) rfl (by rw[<-gc];exact af) (ml _) (fG (y:=1) (z:=((d+1:Nat):Int)) rfl af rfl aE)) aE),pre++[true],d+1,A,r',_,_,by rw[<-rq];rfl,by simp[i1],i2,by rw[ns];exact c,?_⟩;rw[ns,i4,ur,if_pos c];simp
  ·have st:=oW (s:=s) (d:=d) (by lia)
   have d0:d≠0:=fun z=>by rw[if_pos z]at st;lia
   rw[if_neg d0]at st
   obtain⟨e,rfl⟩:∃ e,d=e+1:=⟨d-1,by lia⟩
   refine⟨_,show ah cl [] (fB fb wy cn hw) [some (.int (n:Nat)),some (.int (r:Nat)),some (.str (tx pre)),some (.int ((e+1:Nat):Int)),some (.int (A:Nat)),some (.int (s:Nat)),o6]=some (.nx,_)from a6 (fO (aC (ay (k:=false) (aa rfl) (aq (aa rfl) (aa rfl) bF) (by rw[cb,decide_eq_false (by lia)]))) (sD (b:=tx [false]) rfl (by rw[<-oP];exact af) (ml _) (fG (y:=1) (z:=(e:Nat)) rfl af (by rw[cy];congr 2;lia) (fG (z:=((A+Wy s (e+1+1):Nat):Int)) rfl (aa rfl) rfl aE))) aE),pre++[false],e,A+Wy s (e+1+1),r'-Wy s (e+1+1),_,_,by rw[<-rq];rfl,by simp[i1],by lia,by rw[ns];rw[Nat.add_sub_cancel]at st;lia,?_⟩;rw[ns,i4,ur,if_neg c]
   simp)
 have w:ur (2*n) 0 r=pre:=by
  rw[i4];simp[ur]
 rw[w]at c4
 have e1:a5 .mul (.int 2) (.int (n:Nat))=some (.int ((2*n:Nat):Int)):=by rw[bB (by decide) (by decide)];rfl
 exact aK rfl rfl (qh (cF (aa rfl) (bO (aa rfl) c1) c2) (a8 (d:=.str (tx [])) (by rw[<-q0];exact af) rfl (a8 af rfl (a8 af rfl (cR (vm (aq (aq af (aa rfl) e1) af cy) (oO af) (BU (m:=2*n) (by lia) (by lia))) e (aG (bO (aa rfl) c4) (DE _)))))))
def Ap(b:Bool):aO .eq (.str (tx [b])) (.str (PySem.Str.ofString "("))=some b:=by
 rw[gc];cases b<;>rfl
def oB{wy br:Nat}(hw:w.length<=20)(hd:dpf 0 w=some 0)(c1:cl br [d0]=some (.str (tx w)))(c3:∀ s d:Nat,s<=20->cl wy [.int (s:Nat),.int (d:Nat)]=some (.int (Wy s d:Nat))):evF cl (i6 wy br) [d0]=some (.int (rk 0 w:Nat)):=by
 have it:cA (.str (tx w))=some (w.map fun b=>D.str (tx [b])):=by simp[cA,tx,Function.comp_def]
 have ln:biV .len (.str (tx w))=some (.int (w.length:Nat)):=by
  dsimp only[biV];rw[eC,if_pos (by unfold most;lia)]
 obtain⟨σ',e,d,A,o4,o5,rfl,i1,i2⟩:=lS (f:=ah cl [] (eJ wy br)) (tg:=[4,5]) (fun b:Bool=>D.str (tx [b])) (fun _=>rfl)
  (fun u σ=>∃ (d A:Nat) (o4 o5:Option D),σ=[some d0,some (.str (tx w)),some (.int (d:Nat)),some (.int (A:Nat)),o4,o5]/\dpf 0 u=some d/\A+rk d (w.drop u.length)=rk 0 w)
  w [] [some d0,some (.str (tx w)),some (.int (0:Nat)),some (.int (0:Nat)),none,none] (by
  rintro u b v σ hu ⟨d,A,o4,o5,rfl,i1,i2⟩;have hu:w=u++b::v:=hu
  have dr:w.drop u.length=b::v:=by rw[hu];simp
  have dr':w.drop (u++[b]).length=v:=by rw[hu];simp
  have lv:w.length-1-u.length=v.length:=by rw[hu];simp<;>lia
  have dp:dpf d (b::v)=some 0:=by
   have:∀ (u:List Bool) (c d:Nat),dpf c u=some d->dpf c (u++b::v)=dpf d (b::v):=by
    intro u
    induction u with
    | nil=>intro c d h;cases h;rfl
    |cons x r ih=>
     intro c d h
     cases x with
     | true=>exact ih (c+1) d h
     |false=>
      cases c with
      | zero=>cases h
      | succ c=>exact ih c d h
   rw[<-this u 0 d i1,<-hu];exact hd
  rw[dr]at i2
  have lw:w.length=u.length+1+v.length:=by rw[hu];simp<;>lia
  have st:∀ {o:Out} {σ2:St},ah cl [] (eJ wy br) [some d0,some (.str (tx w)),some (.int (d:Nat)),some (.int (A:Nat)),some (.int (u.length:Nat)),some (.str (tx [b]))]=some (o,σ2)->(aP [4,5] (.tup [.int (u.length:Nat),.str (tx [b])]) [some d0,some (.str (tx w)),some (.int (d:Nat)),some (.int (A:Nat)),o4,o5]).bind (ah cl [] (eJ wy br))=some (o,σ2):=fun h=>h
  cases b with
  |true=>
   refine⟨_,st (fJ (aC (ay (aa rfl) af (Ap true))) (fG (y:=1) (z:=((d+1:Nat):Int)) rfl af rfl aE) aE),d+1,A,_,_,rfl,by rw[bY,i1];rfl,?_⟩;rw[dr'];rw[rk]at i2;exact i2
  |false=>
   cases d with
   | zero=>cases dp
   |succ d=>
    have cw:=c3 v.length (d+1+1) (by lia)
    have sb:a5 .sub (.int ((w.length:Nat)-1)) (.int (u.length:Nat))=some (.int (v.length:Nat)):=by
     rw[cy];congr 2;lia
    refine⟨_,st (fO (aC (ay (aa rfl) af (Ap false))) (fG (z:=((A+Wy v.length (d+1+1):Nat):Int)) rfl (cF (aq (aq (bh (aa rfl) ln) af cy) (aa rfl) sb) (aq (aa rfl) af (show _=some (.int ((d+1+1:Nat):Int))from rfl)) cw) rfl (fG (y:=1) (z:=(d:Nat)) rfl af (by rw[cy];congr 2;lia) aE)) aE),d,A+Wy v.length (d+1+1),_,_,rfl,by rw[bY,i1];rfl,?_⟩;rw[dr'];rw[rk,Nat.add_sub_cancel]at i2
    lia) ⟨0,0,none,none,rfl,rfl,by simp⟩
 have eA:A=rk 0 w:=by
  rw[List.nil_append,List.drop_length]at i2;exact i2
 subst eA;exact aK rfl rfl (a8 (bO (aa rfl) c1) rfl (a8 af rfl (a8 af rfl (cR (il (aa rfl) it) e (aG (d:=.int (rk 0 w:Nat)) (aa rfl) (mw _))))))
end
end RM
set_option maxHeartbeats 1000000
namespace RM
open RL RT
abbrev gd:Nat->List Nat->Option Nat
 | d,[]=>some d
 | d,c::r=>if c=40 then gd (d+1) r else if c=41 then(if d=0 then none else gd (d-1) r)else none
def fH(v:List Nat):∀ (u:List Nat) (d:Nat),gd d (u++v)=(gd d u).bind fun e=>gd e v
 | [],d=>rfl
 | c::r,d=>by
  rw[List.cons_append,gd,gd,fH v r,fH v r]
  repeat' split
  all_goals rfl
def qm:∀ (w:List Bool) (d:Nat),gd d (w.map sg)=dpf d w
 | [],d=>rfl
 | true::w,d=>by
  rw[List.map_cons,gd,if_pos (show sg true=40 from rfl),qm w];rfl
 | false::w,0=>rfl
 | false::w,d+1=>by
  rw[List.map_cons,gd,if_neg (by decide),if_pos (show sg false=41 from rfl),if_neg (by lia),qm w];rfl
abbrev c1(c:Nat):D:=.str ⟨#[c]⟩
def wx(c c':Nat):((⟨#[c]⟩:PySem.Str) == ⟨#[c']⟩)=decide (c=c'):=by
 by_cases h:c=c'
 ·subst h;simp
 ·rw[decide_eq_false h,beq_eq_false_iff_ne];intro e;exact h (by simpa using e)
def DX:PySem.Str.ofString "(" = ⟨#[40]⟩:=by decide +kernel
def He:PySem.Str.ofString ")" = ⟨#[41]⟩:=by decide +kernel
def zH(c:Nat):inV (c1 c) (.tup [.str (PySem.Str.ofString "("),.str (PySem.Str.ofString ")")])=some (decide (c=40\/c=41)):=by
 rw[DX,He];show some ([D.str ⟨#[40]⟩,D.str ⟨#[41]⟩].any fun x=>eqF x (c1 c))=_;simp only[List.any_cons,List.any_nil,c1,eqF,wx];congr 1;simp[eq_comm]
def zT(c:Nat):aO .eq (c1 c) (.str (PySem.Str.ofString "("))=some (decide (c=40)):=by
 rw[DX,<-wx];rfl
def Ac(h:ev cl σ e=some x)(hr:Fo x=some ds):aU cl σ (.chr e)=some ds:=by
 show(ev cl σ e).bind _=_;rw[h];exact hr
def um{s:PySem.Str}(h:s.length<=most):biV .len (.str s)=some (.int (s.length:Nat)):=by
 dsimp only[biV];rw[if_pos h]
def mr{s:PySem.Str}{pc:Nat}{k:Bool}(hl:s.length<=most)(hp:cl pc [.int ((s.length / 2:Nat):Int)]=some (.bl k)):evF cl (fQ pc) [.str s]=some (.bl (k&&decide (gd 0 s.cps.toList=some 0))):=by
 have dv:a5 .fdiv (.int (s.length:Nat)) (.int 2)=some (.int ((s.length / 2:Nat):Int)):=by
  rw[fW (by decide) (by decide)];congr 2
 cases k with
 |false=>
  exact aK rfl rfl (bW (aC (bN (bO (aq (bh (aa rfl) (um hl)) af dv) hp))) (aG af rfl))
 |true=>
  have L:=pM (f:=ah cl [] (dk pc)) (tg:=[2]) (d:=.bl false) (B:=gd 0 s.cps.toList=none) c1 (fun _=>rfl)
   (fun u σ=>∃ (d:Nat) (o2:Option D),σ=[some (.str s),some (.int (d:Nat)),o2]/\gd 0 u=some d) s.cps.toList [] [some (.str s),some (.int (0:Nat)),none] (by
    rintro u c v σ hu ⟨d,o2,rfl,hd⟩
    have hg:gd 0 s.cps.toList=gd d (c::v):=by
     rw[show s.cps.toList=u++c::v from hu,fH,hd];rfl
    have st:∀ {o:Out} {σ2:St},ah cl [] (dk pc) [some (.str s),some (.int (d:Nat)),some (c1 c)]=some (o,σ2)->(aP [2] (c1 c) [some (.str s),some (.int (d:Nat)),o2]).bind (ah cl [] (dk pc))=some (o,σ2):=fun h=>h;by_cases a:c=40\/c=41
    ·have i1:ev cl [some (.str s),some (.int (d:Nat)),some (c1 c)] (.inn true (.var 2) (.tup (.cons (.cst (.str "(")) (.cons (.cst (.str ")")) .nil))))=some (.bl false):=by
      have:=uo (cl:=cl) (σ:=[some (.str s),some (.int (d:Nat)),some (c1 c)]) (n:=true) (e:=.var 2) (aa rfl) (Ai (aL af (aL af bS))) (zH c);rw[decide_eq_true a]at this;exact this
     by_cases b:c=40
     ·subst b;refine .inl ⟨_,st (aT (aC i1) (fG (y:=1) (z:=((d+1:Nat):Int)) rfl (ui (k:=true) (aC (ay (aa rfl) af (zT 40))) af) bF (aT (aC (ay (k:=false) (aa rfl) af (by rw[cb,decide_eq_false (by lia)]))) aE))),d+1,_,rfl,?_⟩;rw[fH,hd];rfl
     ·have c0:c=41:=by lia
      subst c0;have ag:∀ {b' res},ah cl [] b' [some (.str s),some (.int ((d:Nat)-1)),some (c1 41)]=res->ah cl [] (.cons (.aug 1 .add (.ifx (.cmp .eq (.var 2) (.cst (.str "("))) (.cst (.int 1)) (.neg (.cst (.int 1))))) b') [some (.str s),some (.int (d:Nat)),some (c1 41)]=res:=fun h=>fG (y:=-1) (z:=(d:Nat)-1) rfl (ui (k:=false) (aC (ay (aa rfl) af (zT 41))) (oO af)) bF h;by_cases z:d=0
      ·subst z;exact .inr ⟨by rw[hg];rfl,_,st (aT (aC i1) (ag (bW (aC (ay (k:=true) (aa rfl) af rfl)) (aG af rfl))))⟩
      ·obtain⟨d',rfl⟩:∃ d',d=d'+1:=⟨d-1,by lia⟩
       have ez:(((d'+1:Nat):Int)-1)=(d':Nat):=by lia
       rw[ez]at ag;refine .inl ⟨_,st (aT (aC i1) (ag (aT (aC (ay (k:=false) (aa rfl) af (by rw[cb,decide_eq_false (by lia)]))) aE))),d',_,rfl,?_⟩;rw[fH,hd];rfl
    ·have i1:ev cl [some (.str s),some (.int (d:Nat)),some (c1 c)] (.inn true (.var 2) (.tup (.cons (.cst (.str "(")) (.cons (.cst (.str ")")) .nil))))=some (.bl true):=by
      have:=uo (cl:=cl) (σ:=[some (.str s),some (.int (d:Nat)),some (c1 c)]) (n:=true) (e:=.var 2) (aa rfl) (Ai (aL af (aL af bS))) (zH c);rw[decide_eq_false a]at this;exact this
     exact .inr ⟨by rw[hg,gd,if_neg (by lia),if_neg (by lia)],_,st (bW (aC i1) (aG af rfl))⟩)
   ⟨0,none,rfl,rfl⟩
  rcases L with⟨σ',e,d,o2,rfl,hd⟩ | ⟨hB,σ',e⟩
  ·rw[List.nil_append]at hd;rw[hd];refine aK rfl rfl (aT (aC (bN (bO (aq (bh (aa rfl) (um hl)) af dv) hp))) (a8 af rfl (cR (Ac (aa rfl) rfl) e (aG (ay (aa rfl) af ?_) rfl))));rw[c9];congr 1;rw[Bool.eq_iff_iff];simp
  ·rw[hB];exact aK rfl rfl (aT (aC (bN (bO (aq (bh (aa rfl) (um hl)) af dv) hp))) (a8 af rfl (tq (Ac (aa rfl) rfl) e)))
end RM
set_option maxHeartbeats 1000000
namespace RM
open RL RT
end RM
set_option maxHeartbeats 1000000
namespace RM
open RL RT
section
variable{cl:Cl}{n:Nat}{f:List Nat}
end
end RM
set_option maxHeartbeats 1000000
namespace RT
open RL
end RT
namespace RM
open RL RT
def CQ(x:Nat){q:Nat}(h:0<q):a5 .mod (.int (x:Nat)) (.int (q:Nat))=some (.int ((x%q:Nat):Int)):=by
 rw[dh (by omega)];congr 2
section
variable{cl:Cl}{xs:List Int}{s1 s2:D}
end
end RM
set_option maxHeartbeats 1000000
namespace RM
open RL RT
section
variable{T:List Fn}{hf nf td wy ch:Nat}
end
end RM
set_option maxHeartbeats 1000000
namespace RM
open RL RT
section
variable{cl:Cl}{n:Nat}{f h:List Nat}
end
section
variable{T:List Fn}{nu pc pa nb un if' cf po rp ir mv hf nf td wy ch cn ih chf go to hmh ho hnm cp n:Nat}{h:List Nat}
end
end RM
set_option maxHeartbeats 1000000
namespace RM
open RL RT
section
end
end RM
set_option maxHeartbeats 1000000
namespace RT
open RL
end RT
namespace RM
open RL RT
def r9:∀ {l:List Int} {a x:Int},x∈cD a l->x=a\/x∈l
 | [],a,x,h=>by simpa[cD]using h
 | b::r,a,x,h=>by
  unfold cD at h;split at h
  ·simpa using h
  ·rcases List.mem_cons.mp h with h | h
   ·exact .inr (by simp[h])
   ·rcases r9 h with h | h
    ·exact .inl h
    ·exact .inr (by simp[h])
def qI:∀ {l:List Int} {x:Int},x∈sortI l->x∈l
 | [],x,h=>h
 | a::r,x,h=>by
  rcases r9 (show x∈cD a (sortI r)from h)with h | h
  ·simp[h]
  ·simp[qI h]
def B4(l m:List Int){x:Int}(h:x∈l.foldl (fun m k=>if m.any (· == k)then m else m++[k]) m):x∈l\/x∈m:=by
 induction l generalizing m with
 | nil=>exact .inr h
 |cons a r ih=>
  rcases ih _ h with h | h
  ·exact .inl (by simp[h])
  ·dsimp only at h;split at h
   ·exact .inr h
   ·rcases List.mem_append.mp h with h | h
    ·exact .inr h
    ·exact .inl (by simp[List.mem_singleton.mp h])
section
variable{cl:Cl}{xs:List Int}{s1 s2:D}
end
end RM
set_option maxHeartbeats 1000000
namespace K18
open RL RT
abbrev qa:Ss :=
 (.cons (.app 1 (.bi .sum (.compA (.bin .mul (.ix (.var 1) (.var 3)) (.ix (.var 1) (.bin .sub (.bin .sub (.var 2) (.cst (.int 1))) (.var 3)))) [3] (.rng1 (.var 2))))) .nil)
abbrev rM:Fn :=
 ⟨1,4,[1],[],(.cons (.own 1 (.lst (.cons (.cst (.int 1)) .nil))) (.cons (.forr [2] (.rng2 (.cst (.int 1)) (.bin .add (.var 0) (.cst (.int 1)))) (qa)) (.cons (.ret (.ix (.var 1) (.var 0))) .nil)))⟩
abbrev qH(f_law_same f_numbered f_number_of f_law_frame f_law_good f_law_text_of f_how_many f_law_count f_law_digits:Nat):Ss :=
 (.cons (.unp [2,8,9] (.call f_law_digits (.cons (.var 0) (.cons (.bin .add (.cst (.int 40)) (.var 1)) (.cons (.lst (.cons (.cst (.int 10)) (.cons (.bin .pow (.cst (.int 10)) (.cst (.int 20))) (.cons (.bin .pow (.cst (.int 10)) (.cst (.int 20))) .nil)))) .nil))))) (.cons (.asg 2 (.bin .add (.cst (.int 1)) (.var 2))) (.cons (.asg 3 (.call f_law_count (.cons (.var 2) .nil))) (.cons (.ife (.not (.call f_law_same (.cons (.call f_how_many (.cons (.var 2) .nil)) (.cons (.var 3) .nil)))) (.cons (.ret (.cst (.bl false))) .nil) .nil) (.cons (.asg 4 (.bi .sortedSet (.lst (.cons (.bin .mod (.var 8) (.var 3)) (.cons (.bin .mod (.var 9) (.var 3)) (.cons (.cst (.int 0)) (.cons (.bin .sub (.var 3) (.cst (.int 1))) (.cons (.min (.bin .sub (.var 3) (.cst (.int 1))) (.bin .add (.bin .mod (.var 8) (.var 3)) (.cst (.int 1)))) .nil)))))))) (.cons (.asg 5 (.compA (.call f_numbered (.cons (.var 2) (.cons (.var 10) .nil))) [10] (.seq (.var 4)))) (.cons (.ife (.not (.call f_law_same (.cons (.compA (.call f_number_of (.cons (.var 7) .nil)) [7] (.seq (.var 5))) (.cons (.var 4) .nil)))) (.cons (.ret (.cst (.bl false))) .nil) .nil) (.cons (.asg 6 (.compA (.call f_law_text_of (.cons (.var 7) .nil)) [7] (.seq (.var 5)))) (.cons (.ife (.cmp .ne (.var 6) (.bi .sortedS (.var 6))) (.cons (.ret (.cst (.bl false))) .nil) .nil) (.cons (.ife (.not (.bi .all (.compA (.and (.call f_law_good (.cons (.var 7) .nil)) (.cmp .eq (.bi .len (.var 7)) (.bin .mul (.cst (.int 2)) (.var 2)))) [7] (.seq (.var 5))))) (.cons (.ret (.cst (.bl false))) .nil) .nil) (.cons (.asg 7 (.call f_law_frame (.cons (.var 0) (.cons (.var 1) (.cons (.var 2) .nil))))) (.cons (.ife (.not (.call f_law_same (.cons (.call f_numbered (.cons (.var 2) (.cons (.call f_number_of (.cons (.var 7) .nil)) .nil))) (.cons (.var 7) .nil)))) (.cons (.ret (.cst (.bl false))) .nil) .nil) .nil))))))))))))
abbrev zS(f_law_same f_numbered f_number_of f_law_frame f_law_good f_law_text_of f_how_many f_law_count f_law_digits:Nat):Fn :=
 ⟨1,11,[],[],(.cons (.asg 0 (.slT (.var 0) (.cst (.int 63)))) (.cons (.forr [1] (.rng1 (.cst (.int 6))) (qH f_law_same f_numbered f_number_of f_law_frame f_law_good f_law_text_of f_how_many f_law_count f_law_digits)) (.cons (.ret (.cst (.bl true))) .nil)))⟩
abbrev T:List Fn:=[i8,di 0,dZ 1,gX 4,gS 0,eW,oU,fX 5 14 3 1 9,dC 7,iw,jl 14 8,eU 14 6 12,fQ 1,cQ,eu 15 13 9,iR,m4 19 2,j5 11 19 21 16,i6 19 10,rf 20,fE,iI 0,jM,jF 22,et 23,cN 25,eS,fU 26,fS,jh 28 26,d9,gm 30,cX 26,iW,dn,eT 34,gi,i5 35 36 32 33 31 30 24,rM,zS 25 17 18 37 29 27 16 38 24]
open RM
def FC(h:jH ds [a,b,c]):∃ x y z,ds=[x,y,z]/\x<a/\y<b/\z<c:=by
 obtain⟨h1,h2⟩:=h
 match ds,h1 with
 | [x,y,z],_=>exact⟨x,y,z,rfl,h2 0 x a rfl rfl,h2 1 y b rfl rfl,h2 2 z c rfl rfl⟩
def ck:Ck T 0 1 3 4 5 7 8 9 13 14 15:=⟨rfl,rfl,rfl,rfl,rfl,rfl,rfl,rfl,rfl,rfl,rfl⟩
def dr:Dr T 22 23 24 30 31 26 32 33 34 35 36 37:=⟨⟨rfl,rfl,rfl⟩,rfl,rfl,rfl,rfl,rfl,rfl,rfl,rfl,rfl⟩
def DN:∀ m,m<=20->∀ g,g<=m->m≠g->Cb m ((m-g) / 2-1)<=Cb m ((m-g) / 2):=by decide +kernel
def wy(m:Nat)(s d:Nat)(hs:s<=20):au T (m+2) 19 [.int (s:Nat),.int (d:Nat)]=some (.int (Wy s d:Nat)) :=
 (ar (fn:=rf 20) rfl).trans (yy (by omega) (fun h=>DN s hs d h) (fun c hc=>(ar (fn:=fE) rfl).trans (rO (by omega) hc)) ((ar (fn:=fE) rfl).trans qo))
def how(m:Nat)(h1:1<=n)(hn:n<=10):au T (m+4) 16 [.int (n:Nat)]=some (.int (Wy (2*n) 0:Nat)) :=
 (ar (fn:=m4 19 2) rfl).trans (aK rfl rfl (qh (bO (aa rfl) (ck.FY (cp:=2) rfl m h1 hn)) (aG (cF (aq af (aa rfl) (Aj n)) af (wy (m+1) (2*n) 0 (by omega))) (mw _))))
def chk(m:Nat)(h:r<z):au T (m+2) 21 [.int (r:Nat),.int (z:Nat)]=some .non :=
 (ar (fn:=iI 0) rfl).trans (F6 rfl rfl (aT (aC (dW (bN (k:=true) (bO (aa rfl) (ck.num m _))) (bN (k:=true) (k6 af (aa rfl) (aa rfl) (by rw[mF,decide_eq_true (by omega)]) (by rw[cb,decide_eq_true (by omega)]))))) aE))
def isb(m:Nat)(h1:1<=n)(hn:n<=10)(hw:w.length=2*n)(hd:dpf 0 w=some 0):au T (m+3) 12 [.str (tx w)]=some (.bl true):=by
 have l:(tx w).length=2*n:=by rw[eC,hw]
 have e:=(ar (fn:=fQ 1) (T:=T) (f:=12) (n:=m+2) rfl).trans (mr (s:=tx w) (by rw[l];unfold most;omega) (ck.zr m _));rw[e,l];congr 2;rw[decide_eq_true (by omega),Bool.true_and,decide_eq_true_eq];have:=qm w 0;rw[hd]at this;simpa[tx]using this
def frb(m:Nat)(h1:1<=n)(hn:n<=10)(hw:w.length=2*n)(hd:dpf 0 w=some 0):∃ f,Val n f/\wdL n f=w/\au T (m+5) 11 [.str (tx w)]=some (.tup (L f)):=by
 obtain⟨g,⟨U,W⟩,e⟩:=kK (cl:=au T (m+4)) (ib:=12) (ti:=6) (ir:=14) h1 hn hw hd (isb (m+1) h1 hn hw hd) (fun xs i j hi hj=>(ar (fn:=oU) rfl).trans (BM xs hi hj)) (fun R F=>ck.Fe (m+2) hn F);exact⟨g,U,(F7 hw W).symm,(ar (fn:=eU 14 6 12) rfl).trans e⟩
def num(h1:1<=n)(hn:n<=10)(hr:r<Wy (2*n) 0):∃ f,Val n f/\wdL n f=ur (2*n) 0 r/\au T 29 17 [.int (n:Nat),.int (r:Nat)]=some (.tup (L f)):=by
 obtain⟨a,b,_⟩:=oX (2*n) 0 r (by omega) hr;obtain⟨f,V,e,c⟩:=frb 23 h1 hn a b;exact⟨f,V,e,(ar (fn:=j5 11 19 21 16) rfl).trans (pd h1 hn hr (how 24 h1 hn) (chk 26 hr) (fun s d hs=>wy 26 s d hs) c)⟩
def numOf(h1:1<=n)(hn:n<=10)(V:Val n f):au T 29 18 [.tup (L f)]=some (.int (rk 0 (wdL n f):Nat)):=by
 have br:au T 28 10 [.tup (L f)]=some (.str (tx (wdL n f))):=(ar (fn:=jl 14 8) rfl).trans (rC hn (ck.check 22 h1 hn V) (ck.round 25 hn V.frm));exact(ar (fn:=i6 19 10) rfl).trans (oB (by rw[km];omega) (wV V.frm) br (fun s d hs=>wy 26 s d hs))
def txt(h1:1<=n)(hn:n<=10)(V:Val n f):au T 29 27 [.tup (L f)]=some (.str (tx (wdL n f))) :=
 (ar (fn:=fU 26) rfl).trans (rE h1 hn V.frm (dr.pU 27 h1 hn))
def good(h1:1<=n)(hn:n<=10)(V:Val n f):au T 29 29 [.tup (L f)]=some (.bl true) :=
 (ar (fn:=jh 28 26) rfl).trans (pz h1 hn V (dr.pU 27 h1 hn) fun p hp=>(ar (fn:=fS) rfl).trans (rJ hn V hp))
abbrev Eo(n:Nat):Bool:=match au T 29 38 [.int (n:Nat)]with
 | some (.int i)=>decide (i=(Wy (2*n) 0:Nat))
 | _=>false
def cnt(h1:1<=n)(hn:n<=10):au T 29 38 [.int (n:Nat)]=some (.int (Wy (2*n) 0:Nat)):=by
 have k:∀ n,n<11->1<=n->Eo n=true:=by decide +kernel
 have h:=k n (by omega) h1;unfold Eo at h
 cases e:au T 29 38 [.int (n:Nat)]with
 | none=>rw[e]at h;cases h
 |some d=>
  rw[e]at h
  cases d with
  | int i=>rw[of_decide_eq_true h]
  | _=>cases h
def pos:∀ n,n<=10->1<=n->0<Wy (2*n) 0:=by decide +kernel
def vW(s d:Nat):∀ rs:List Nat,rs.Pairwise (·<=·)->lD (rs.map fun r=>tx (ur s d r))=true
 | [],_=>rfl
 | [_],_=>rfl
 | a::b::r,h=>by
  rw[List.pairwise_cons]at h;have ih:=vW s d (b::r) h.2;have hl:=qp s d a b (h.1 b (by simp));rw[List.map_cons,List.map_cons,lD,<-List.map_cons (f:=fun r=>tx (ur s d r)),ih,Bool.and_true,Bool.not_eq_true',decide_eq_false_iff_not];simpa[tx]using hl
def strs_map{β:Type}(g:β->PySem.Str):∀ xs:List β,strs? (xs.map fun x=>D.str (g x))=some (xs.map g)
 | []=>rfl
 | x::r=>by rw[List.map_cons,strs?,strs_map g r];rfl
def Bd(g:Nat->List Nat)(rs:List Nat):aA (.lst (rs.map fun r=>.tup (L (g r))))=true:=by
 show ao (rs.map fun r=>D.tup (L (g r)))=true
 induction rs with
 | nil=>rfl
 | cons a r ih=>rw[List.map_cons,ao,ih,show(D.tup (L (g a))).imm=true from bD _];rfl
def AR(g:Nat->PySem.Str)(rs:List Nat):aA (.lst (rs.map fun r=>.str (g r)))=true:=by
 show ao (rs.map fun r=>D.str (g r))=true
 induction rs with
 | nil=>rfl
 | cons a r ih=>exact ih
def nip (a : Int) : ∀ l : List Int, (cD a l).Perm (a :: l)
  | [] => .refl _
  | b :: r => by
    unfold cD
    split
    · exact .refl _
    · exact ((nip a r).cons b).trans (.swap ..)
def nis (a : Int) : ∀ l : List Int, l.Pairwise (· ≤ ·) → (cD a l).Pairwise (· ≤ ·)
  | [], _ => by simp [cD]
  | b :: r, h => by
    unfold cD
    rw [List.pairwise_cons] at h
    split
    · rename_i c
      rw [List.pairwise_cons, List.pairwise_cons]
      exact ⟨fun x hx => by
        rcases List.mem_cons.mp hx with rfl | hx
        · exact c
        · exact Int.le_trans c (h.1 x hx), h⟩
    · rename_i c
      rw [List.pairwise_cons]
      refine ⟨fun x hx => ?_, nis a r h.2⟩
      rcases List.mem_cons.mp ((nip a r).mem_iff.mp hx) with rfl | hx
      · omega
      · exact h.1 x hx
def nsp : ∀ l : List Int, (sortI l).Perm l
  | [] => .refl _
  | a :: r => (nip a _).trans ((nsp r).cons a)
def nss : ∀ l : List Int, (sortI l).Pairwise (· ≤ ·)
  | [] => .nil
  | a :: r => nis a _ (nss r)
def ndl (l m : List Int) : (l.foldl (fun m k => if m.any (· == k) then m else m ++ [k]) m).length ≤ m.length + l.length := by
  induction l generalizing m with
  | nil => exact Nat.le_refl _
  | cons a r ih =>
    refine Nat.le_trans (ih _) ?_
    dsimp only
    split
    · simp only [List.length_cons]; omega
    · simp only [List.length_cons, List.length_append, List.length_nil]; omega
def nums{Z:Nat}(hZ:0<Z)(a b:Nat):∃ rs:List Nat,rs.length<=5/\rs.Pairwise (·<=·)/\(∀ r∈rs,r<Z)/\biV .sortedSet (.lst [.int ((a%Z:Nat):Int),.int ((b%Z:Nat):Int),.int 0,.int ((Z-1:Nat):Int),.int ((min (Z-1) (a%Z+1):Nat):Int)])=some (.lst (L rs)):=by
 obtain⟨zs,hz⟩:∃ zs,zs=sortI (eR [((a%Z:Nat):Int),((b%Z:Nat):Int),0,((Z-1:Nat):Int),((min (Z-1) (a%Z+1):Nat):Int)]):=⟨_,rfl⟩
 have hm:∀ z∈zs,0<=z/\z<Z:=fun z h=>by
  rw[hz]at h;rcases B4 _ _ (qI h)with h | h
  ·have ha:=Nat.mod_lt a hZ;have hb:=Nat.mod_lt b hZ;simp only[List.mem_cons,List.not_mem_nil,or_false]at h;rcases h with rfl | rfl | rfl | rfl | rfl<;>omega
  ·cases h
 have hl:zs.length<=5:=by
  rw[hz,(nsp _).length_eq];exact Nat.le_trans (ndl _ _) (Nat.le_refl 5)
 have hp:zs.Pairwise (·<=·):=by rw[hz];exact nss _
 have e:LI zs=L (zs.map Int.toNat):=by
  unfold LI L;rw[List.map_map];apply List.map_congr_left;intro z h;show D.int z=D.int ((z.toNat:Nat):Int);rw[Int.toNat_of_nonneg (hm z h).1]
 refine⟨zs.map Int.toNat,by simpa using hl,?_,fun r h=>?_,?_⟩
 ·rw[List.pairwise_map]
  exact hp.imp fun h=>by omega
 ·obtain⟨z,h1,rfl⟩:=List.mem_map.mp h;have:=hm z h1;omega
 ·rw[<-e,hz];rfl
def one{ns:List Int}(hl:ns.length<=63){k:Nat}(hk:k<6)(os:List (Option D))(ho:os.length=9):∃ os',os'.length=10/\ah (au T 29) [] (qH 25 17 18 37 29 27 16 38 24) (some (.lst (LI ns))::some (.int (k:Nat))::os)=some (.nx,some (.lst (LI ns))::os'):=by
 obtain⟨o2,o3,o4,o5,o6,o7,o8,o9,o10,rfl⟩:∃ a b c d e f g h i,os=[a,b,c,d,e,f,g,h,i]:=by
  match os,ho with
  | [a,b,c,d,e,f,g,h,i],_=>exact⟨a,b,c,d,e,f,g,h,i,rfl⟩
 obtain⟨ds,hd,e1⟩:=dr.digits hl 26 (k:=40+k) (sizes:=[10,10 ^ 20,10 ^ 20]) (by omega) (fun s hs=>by
  simp only[List.mem_cons,List.not_mem_nil,or_false]at hs
  rcases hs with rfl | rfl | rfl<;>decide +kernel) (by simp)
 obtain⟨p,A,B,rfl,hp,_,_⟩:=FC hd
 have n1:1<=1+p:=by omega
 have n2:1+p<=10:=by omega
 have e0:a5 .add (.int 1) (.int (p:Nat))=some (.int ((1+p:Nat):Int)):=rfl;generalize 1+p=n at *;have Zp:=pos n n2 n1;have e3:=cnt n1 n2;have e4:=how 25 n1 n2;have sI:∀ i:Int,au T 29 25 [.int i,.int i]=some (.bl true):=fun i=>sameAll rfl 0 28 (.int i) (.int 0 i) (by omega)
 obtain⟨F,hF⟩:=Classical.axiomOfChoice (r:=fun(r:Nat) (f:List Nat)=>r<Wy (2*n) 0->Val n f/\wdL n f=ur (2*n) 0 r/\au T 29 17 [.int (n:Nat),.int (r:Nat)]=some (.tup (L f))) (fun r=>by
  by_cases c:r<Wy (2*n) 0
  ·obtain⟨f,h⟩:=num n1 n2 c;exact⟨f,fun _=>h⟩
  ·exact⟨[],fun z=>absurd z c⟩)
 obtain⟨f,V,ef⟩:=dr.frame hl 25 (k:=k) (m:=n) (by omega) n1 n2;have ur0:∀ r,r<Wy (2*n) 0->rk 0 (ur (2*n) 0 r)=r:=fun r hr=>(oX (2*n) 0 r (by omega) hr).2.2
 have back:∃ r:Nat,au T 29 18 [.tup (L f)]=some (.int (r:Nat))/\au T 29 17 [.int (n:Nat),.int (r:Nat)]=some (.tup (L f)):=by
  have b:=uQ (wdL n f) 0 (by rw[km];omega) (wV V.frm);rw[km]at b;obtain⟨g,U,w,e⟩:=num n1 n2 b.1;rw[b.2]at w;rw[EH U V w]at e;exact⟨_,numOf n1 n2 V,e⟩
 obtain⟨r0,b1,b2⟩:=back;generalize Wy (2*n) 0=Z at *;obtain⟨rs,rl,rp,rz,es⟩:=nums Zp A B;have mA:a5 .mod (.int (A:Nat)) (.int (Z:Nat))=some (.int ((A%Z:Nat):Int)):=CQ A Zp;have mB:a5 .mod (.int (B:Nat)) (.int (Z:Nat))=some (.int ((B%Z:Nat):Int)):=CQ B Zp
 have z1:a5 .sub (.int (Z:Nat)) (.int 1)=some (.int ((Z-1:Nat):Int)):=by rw[cy];congr 2;omega
 have mi:∀ {σ:St},(σ[3]?).bind id=some (.int (Z:Nat))->(σ[8]?).bind id=some (.int (A:Nat))->ev (au T 29) σ (.min (.bin .sub (.var 3) (.cst (.int 1))) (.bin .add (.bin .mod (.var 8) (.var 3)) (.cst (.int 1))))=some (.int ((min (Z-1) (A%Z+1):Nat):Int)):=fun h3 h8=>by
  rw[Gm (aq (aa h3) af z1) (aq (aq (aa h8) (aa h3) mA) af bF)];congr 2;split<;>omega
 have im5:=Bd F rs;have im6:=AR (fun r=>tx (ur (2*n) 0 r)) rs
 have ml:∀ {β:Type} (g:β->D) (xs:List β),xs.length<=5->(xs.map g).length<=most:=fun g xs h=>by rw[List.length_map];unfold most;omega
 have c5:=fun(o7 o10:Option D)=>eQ (F:=fun σ1=>(ev (au T 29) σ1 (.call 17 (.cons (.var 2) (.cons (.var 10) .nil)))).map some) (tg:=[10]) (σ:=[some (.lst (LI ns)),some (.int (k:Nat)),some (.int (n:Nat)),some (.int (Z:Nat)),some (.lst (L rs)),o5,o6,o7,some (.int (A:Nat)),some (.int (B:Nat)),o10]) (h:=fun r:Nat=>D.int (r:Nat)) (g:=fun r=>.tup (L (F r))) (fun _=>show ao (L _)=true from bD _) rs (by
  intro r hr;show(ev (au T 29) [some (.lst (LI ns)),some (.int (k:Nat)),some (.int (n:Nat)),some (.int (Z:Nat)),some (.lst (L rs)),o5,o6,o7,some (.int (A:Nat)),some (.int (B:Nat)),some (.int (r:Nat))] (.call 17 (.cons (.var 2) (.cons (.var 10) .nil)))).map some=_;rw[cF (aa rfl) (aa rfl) (hF r (rz r hr)).2.2]
  rfl)
 have st7:∀ (o6:Option D) {e:E} {g:Nat->D},(∀ r,(g r).imm=true)->(∀ r∈rs,ev (au T 29) [some (.lst (LI ns)),some (.int (k:Nat)),some (.int (n:Nat)),some (.int (Z:Nat)),some (.lst (L rs)),some (.lst (rs.map fun r=>.tup (L (F r)))),o6,some (.tup (L (F r))),some (.int (A:Nat)),some (.int (B:Nat)),o10] e=some (g r))->ev (au T 29) [some (.lst (LI ns)),some (.int (k:Nat)),some (.int (n:Nat)),some (.int (Z:Nat)),some (.lst (L rs)),some (.lst (rs.map fun r=>.tup (L (F r)))),o6,o7,some (.int (A:Nat)),some (.int (B:Nat)),o10] (.compA e [7] (.seq (.var 5)))=some (.lst (rs.map g)):=fun o6 {e g} im h=>by
  refine dt (ko (aa rfl) rfl) (ml _ rs rl) (eQ (h:=fun r=>D.tup (L (F r))) im rs fun r hr=>?_);show(ev (au T 29) [some (.lst (LI ns)),some (.int (k:Nat)),some (.int (n:Nat)),some (.int (Z:Nat)),some (.lst (L rs)),some (.lst (rs.map fun r=>.tup (L (F r)))),o6,some (.tup (L (F r))),some (.int (A:Nat)),some (.int (B:Nat)),o10] e).map some=_;rw[h r hr];rfl
 have n18:∀ r∈rs,au T 29 18 [.tup (L (F r))]=some (.int (r:Nat)):=fun r hr=>by
  obtain⟨U,w,_⟩:=hF r (rz r hr);have:=numOf n1 n2 U;rw[w,ur0 r (rz r hr)]at this;exact this
 have n27:∀ r∈rs,au T 29 27 [.tup (L (F r))]=some (.str (tx (ur (2*n) 0 r))):=fun r hr=>by
  obtain⟨U,w,_⟩:=hF r (rz r hr);rw[<-w];exact txt n1 n2 U
 have sL:au T 29 25 [.lst (L rs),.lst (L rs)]=some (.bl true):=sameAll rfl 1 28 _ (.lst 0 _ (by rw[bw];omega) fun x hx=>by
  obtain⟨r,_,rfl⟩:=List.mem_map.mp hx
  exact .int 0 _) (by omega)
 have sT:au T 29 25 [.tup (L f),.tup (L f)]=some (.bl true):=sameAll rfl 1 28 _ (.tup 0 _ (by rw[bw,V.frm.len];omega) fun x hx=>by
  obtain⟨r,_,rfl⟩:=List.mem_map.mp hx
  exact .int 0 _) (by omega)
 have srt:biV .sortedS (.lst (rs.map fun r=>.str (tx (ur (2*n) 0 r))))=some (.lst (rs.map fun r=>.str (tx (ur (2*n) 0 r)))):=by
  rw[Af,strs_map,Option.bind_some,if_pos (vW (2*n) 0 rs rp)]
 have neS:aO .ne (.lst (rs.map fun r=>.str (tx (ur (2*n) 0 r)))) (.lst (rs.map fun r=>.str (tx (ur (2*n) 0 r))))=some false:=GA (.lst 0 _ (by rw[List.length_map];omega) fun x hx=>by
  obtain⟨r,_,rfl⟩:=List.mem_map.mp hx
  exact .str 0 _) (by decide)
 refine⟨_,?_,qS (zc (aa rfl) (aq af (aa rfl) rfl) (cE (aL af (aL (aq af af rfl) (aL (aq af af rfl) bS)))) e1) rfl rfl rfl
  (a8 (aq af (aa rfl) e0) rfl
  (a8 (bO (aa rfl) e3) (jD _)
  (aT (aC (bN (cF (bO (aa rfl) e4) (aa rfl) (sI _))))
  (a8 (bh (cE (aL (aq (aa rfl) (aa rfl) mA) (aL (aq (aa rfl) (aa rfl) mB) (aL af (aL (aq (aa rfl) af z1) (aL (mi rfl rfl) bS)))))) es) (by unfold bu;rw[show aA (.lst (L rs))=true from bD rs];rfl)
  (a8 (dt (ko (aa rfl) rfl) (show(L rs).length<=most by rw[bw];unfold most;omega) (c5 _ _)) (by unfold bu;rw[im5];rfl)
  (aT (aC (bN (cF (st7 _ (g:=fun r=>.int (r:Nat)) (fun _=>rfl) fun r hr=>bO (aa rfl) (n18 r hr)) (aa rfl) sL)))
  (a8 (st7 _ (g:=fun r=>.str (tx (ur (2*n) 0 r))) (fun _=>rfl) fun r hr=>bO (aa rfl) (n27 r hr)) (by unfold bu;rw[im6];rfl)
  (aT (aC (ay (aa rfl) (bh (aa rfl) srt) neS))
  (aT (aC (bN (k:=true) (bh (st7 _ (g:=fun _=>.bl true) (fun _=>rfl) fun r hr=>c7 (bO (aa rfl) (good n1 n2 (hF r (rz r hr)).1)) (ay (bh (aa rfl) rfl) (aq af (aa rfl) (Aj n)) (by rw[c9,bw,(hF r (rz r hr)).1.frm.len,beq_self_eq_true]))) (by rw[sq];simp))))
  (a8 (zc (aa rfl) (aa rfl) (aa rfl) ef) (D9 f)
  (aT (aC (bN (cF (cF (aa rfl) (bO (aa rfl) b1) b2) (aa rfl) sT))) aE)))))))))))⟩
 rfl
def main(ns:List Int)(hl:ns.length<=63):au T 30 39 [.scr (ns.map D.int)]=some (.bl true):=by
 have r:=cJ (n:=6) (by omega)
 obtain⟨σ',e,os,hos,rfl⟩:=cB (f:=ah (au T 29) [] (qH 25 17 18 37 29 27 16 38 24)) (tg:=[1]) (xs:=List.range 6) (σ:=some (.lst (LI ns))::List.replicate 10 none) (fun _ σ=>∃ os:List (Option D),os.length=10/\σ=some (.lst (LI ns))::os) ⟨_,by simp,rfl⟩ (by
  rintro p x q σ hx ⟨os,ho,rfl⟩
  have hxN:x<6:=by
   have:x∈List.range 6:=by rw[hx];simp
   simpa using this
  cases os with
  | nil=>simp at ho
  |cons o os=>
   obtain⟨os',h1,h2⟩:=one hl hxN os (by simpa using ho)
   exact⟨_,h2,os',h1,rfl⟩)
 exact(ar (fn:=zS 25 17 18 37 29 27 16 38 24) rfl).trans (aK rfl rfl (a8 (Gx (aa rfl) af (GC hl)) (by simp[bu,D.imm,aA,w4]) (cR (lT af r) e (aG af rfl))))
end K18
namespace L2
open PySem PySem.Spec PyProof.Rows
@[reducible]noncomputable def Key:=Sum Int Str
abbrev kc:Key->Value->Bool
 | .inl k,v=>Value.isInt k v
 | .inr x,v=>Value.isStrOf x v
abbrev Hy(w:World):Key->Int
 | .inl k=>hashInt k
 | .inr x=>hashStr w x
def bI:∀ {k:Key} {v:Value},kc k v=true->(∃ i t,k=Sum.inl i/\v=Value.int i t)\/(∃ x t,k=Sum.inr x/\v=Value.str x t)
 | .inl i,v,h=>by
  obtain⟨t,e⟩:=Value.isInt_shape (k:=i) (v:=v) h;exact .inl ⟨i,t,rfl,e⟩
 | .inr x,v,h=>by
  obtain⟨t,e⟩:=Value.isStrOf_shape (x:=x) (v:=v) h;exact .inr ⟨x,t,rfl,e⟩
def x4(i:Int)(t:Tok):kc (.inl i) (.int i t)=true:=by simp[kc,Value.isInt]
def vt(x:Str)(t:Tok):kc (.inr x) (.str x t)=true:=by simp[kc,Value.isStrOf]
def C4(a b:Int):decide ((Sum.inl a:Key)=Sum.inl b)=(a == b):=by
 by_cases e:a=b
 ·subst e;simp
 ·have h:¬ (Sum.inl a:Key)=Sum.inl b:=fun q=>e (Sum.inl.inj q);rw[decide_eq_false h];exact(beq_eq_false_iff_ne.mpr e).symm
def D8(a b:Str):decide ((Sum.inr a:Key)=Sum.inr b)=decide (a=b):=by
 by_cases e:a=b
 ·subst e;simp
 ·have h:¬ (Sum.inr a:Key)=Sum.inr b:=fun q=>e (Sum.inr.inj q);rw[decide_eq_false h,decide_eq_false e]
def Cn(a:Int)(b:Str):decide ((Sum.inl a:Key)=Sum.inr b)=false:=decide_eq_false (fun q=>nomatch q)
def C9(a:Str)(b:Int):decide ((Sum.inr a:Key)=Sum.inl b)=false:=decide_eq_false (fun q=>nomatch q)
abbrev bQ(prog:Program)(w:World):PySem.KeyKind prog w Key where
 is:=kc
 hash:=Hy w
 inj:=fun v a b ha hb=>by
  rcases bI ha with⟨i,t,rfl,rfl⟩ | ⟨x,t,rfl,rfl⟩
  ·rcases bI hb with⟨j,u,rfl,e⟩ | ⟨y,u,rfl,e⟩
   ·injection e with e1 _;rw[e1]
   ·exact nomatch e
  ·rcases bI hb with⟨j,u,rfl,e⟩ | ⟨y,u,rfl,e⟩
   ·exact nomatch e
   ·injection e with e1 _;rw[e1]
 byValue:=fun k v h=>by
  rcases bI h with⟨i,t,rfl,rfl⟩ | ⟨x,t,rfl,rfl⟩<;>rfl
 pyHash:=fun hv h=>by
  rcases bI hv with⟨i,t,rfl,rfl⟩ | ⟨x,t,rfl,rfl⟩
  ·exact wpAny_pyHash_int h
  ·exact wpAny_pyHash_str h
 eqBool:=fun hu hv h=>by
  rcases bI hu with⟨i,t,rfl,rfl⟩ | ⟨x,t,rfl,rfl⟩
  ·rcases bI hv with⟨j,u,rfl,rfl⟩ | ⟨y,u,rfl,rfl⟩
   ·rw[C4]at h;exact wpAny_eqBool_int h
   ·rw[Cn]at h;exact SeqAt.EqAt.int_str i t y u _ _ _ _ h
  ·rcases bI hv with⟨j,u,rfl,rfl⟩ | ⟨y,u,rfl,rfl⟩
   ·rw[C9]at h;exact SeqAt.EqAt.str_int x t j u _ _ _ _ h
   ·rw[D8]at h;exact wpAny_eqBool_str h
 «strs»:=fun k x t v h=>by
  rcases bI h with⟨i,u,rfl,e⟩ | ⟨y,u,rfl,e⟩
  ·exact nomatch e
  ·injection e with e1 _;subst e1;cases v<;>rfl
def rG(prog:Program)(w:World)(i:Int)(t:Tok):(bQ prog w).is (.inl i) (.int i t)=true:=x4 i t
def rD(prog:Program)(w:World)(x:Str)(t:Tok):(bQ prog w).is (.inr x) (.str x t)=true:=vt x t
set_option genInjectivity true in
inductive V where
 | non | bl (b:Bool) | int (i:Int) | str (x:Str) | byt (b:Array UInt8) | flt (b:UInt64) | ref (a:Addr) | ty (n:String)
 deriving DecidableEq
abbrev RelV:V->Value->Prop
 | .non,u=>u=Value.none
 | .bl b,u=>u=Value.bool b
 | .int i,u=>∃ t,u=Value.int i t
 | .str x,u=>∃ t,u=Value.str x t
 | .byt b,u=>∃ t,u=Value.bytes b t
 | .flt b,u=>∃ t,u=Value.float b t
 | .ref a,u=>u=Value.ref a
 | .ty n,u=>u=Value.type n
@[reducible]noncomputable def Vals:List V->List Value->Prop:=Paired RelV
def Vals.length(r:Vals xs us):xs.length=us.length:=Paired.length r
def Vals.get:∀ {xs:List V} {us:List Value} {i:Nat} {x:V},Vals xs us->xs[i]?=some x->∃ u,us[i]?=some u/\RelV x u
 | _,_,_,_,.nil,e=>by simp at e
 | _,_,0,_,.cons r _,e=>by simp at e;subst e;exact⟨_,rfl,r⟩
 | _,_,i+1,x,.cons _ t,e=>by
  obtain⟨u,h1,h2⟩:=Vals.get (i:=i) (x:=x) t (by simpa using e);exact⟨u,by simpa using h1,h2⟩
def Vals.set(r:RelV x u):∀ {xs:List V} {us:List Value} (i:Nat),Vals xs us->Vals (xs.set i x) (us.set i u)
 | _,_,_,.nil=>.nil
 | _,_,0,.cons _ t=>.cons r t
 | _,_,i+1,.cons q t=>.cons q (Vals.set r i t)
def Vals.append:∀ {xs ys:List V} {us ws:List Value},Vals xs us->Vals ys ws->Vals (xs++ys) (us++ws)
 | _,_,_,_,.nil,s=>s
 | _,_,_,_,.cons r t,s=>.cons r (Vals.append t s)
def Vals.take:∀ {xs:List V} {us:List Value} (n:Nat),Vals xs us->Vals (xs.take n) (us.take n)
 | _,_,0,_=>.nil
 | _,_,_+1,.nil=>.nil
 | _,_,n+1,.cons r t=>.cons r (Vals.take n t)
def Vals.drop:∀ {xs:List V} {us:List Value} (n:Nat),Vals xs us->Vals (xs.drop n) (us.drop n)
 | _,_,0,r=>r
 | _,_,_+1,.nil=>.nil
 | _,_,n+1,.cons _ t=>Vals.drop n t
abbrev gY:Option V->Option Value->Prop
 | some v,some u=>RelV v u
 | none,none=>True
 | _,_=>False
abbrev KV:List (κ × V)->List (κ × Value)->Prop:=Paired fun(p:κ × V) (q:κ × Value)=>p.1=q.1/\RelV p.2 q.2
abbrev kV:Key->V
 | .inl i=>.int i
 | .inr x=>.str x
inductive HO where
  | lst (xs:List V)
  | tup (xs:List V)
  | dK (kvs:List (Key × V)) | dT (kvs:List (List Key × V))
  | set (S:Int->Bool) (n:Nat)
  | ins (C dx:Addr) (fs:List (Str × V))
  | own (x:Addr)
  | xd (fs:List (Str × V))
  | met (f x:Addr)
  | rng (lo hi:Int)
  | frz (o:Obj) (u:HO)
  | tbl (ps:Array Value)
  | ext (φ:Heap->Prop)
@[reducible]noncomputable def Hp:=Addr->Option HO
abbrev upd(H:Hp)(a:Addr)(o:HO):Hp:=fun b=>if b=a then some o else H b
def aW:upd H a o a=some o:=by unfold upd;rw[if_pos rfl]
def aI(h:b≠a):upd H a o b=H b:=by unfold upd;rw[if_neg h]
def kI{H:Hp}(h:H a=some o)(h':H b=some u)(d:o≠u):a≠b:=by
 intro e;subst e;rw[h]at h';exact d (Option.some.inj h')
def aH{H:Hp}(h:H a=some o)(h':H b=none):a≠b:=by
 intro e;subst e;rw[h]at h';cases h'
section
variable(P:Program)(w:World)
abbrev bj(H:Hp)(h:Heap)(a:Addr):HO->Prop
 | .lst xs=>xs.length<=sizeLine/\∃ (its:List Value) (n:Nat),Vals xs its/\h.get? a=some { cls:=.type "list",data:=.seq its.toArray n }
 | .tup xs=>xs.length<=sizeLine/\∃ its:List Value,Vals xs its/\IsTup h a its.toArray
 | .dK kvs=>kvs.length<=sizeLine/\(a == sysModules)=false/\∃ vs,KV kvs vs/\h.DictOf (bQ P w) a vs
 | .dT kvs=>kvs.length<=sizeLine/\(a == sysModules)=false/\∃ xs:List (List Key × Addr × Value),
   Paired (fun(p:List Key × V) (q:List Key × Addr × Value)=>p.1=q.1/\H q.2.1=some (.tup (p.1.map kV))/\RelV p.2 q.2.2) kvs xs /\
   ∃ o es ep,h.get? a=some o/\o.ExactDict/\o.data=.dict es ep/\es.toList=xs.map (entryOfKey (tupleKind (bQ P w)))/\(xs.map (·.1)).Nodup
 | .set S n=>h.SetOf (intKind P w) a S n
 | .ins C dx fs=>H dx=some (.own a)/\fs.length<=1000/\dx≠a/\h.get? a=some (PySem.W.instObj C dx) /\
   ∃ mA,h.Ns1 dx mA/\(∀ f,gY (fs.lookup f) (mA f))/\PySem.Within mA (fs.map (·.1))
 | .own _=>∃ o,h.get? a=some o
 | .xd fs=>∃ mA,h.Ns1 a mA/\∀ f,gY (fs.lookup f) (mA f)
 | .rng lo hi=>∃ t u v,h.get? a=some { cls:=.type "range",data:=.fields #[.int lo t,.int hi u,.int 1 v] }
 | .frz o u=>h.get? a=some o/\bj H h a u
 | .tbl ps=>h.get? a=some { cls:=.none,data:=.fields ps }
 | .met f x=>h.get? a=some (PySem.W.methodObj (.ref f) (.ref x))
 | .ext φ=>φ h/\(∃ o,h.get? a=some o)/\∀ h1 h2:Heap,φ h1->(∀ o,h1.get? a=some o->h2.get? a=some o)->φ h2
abbrev HOk(H:Hp)(h:Heap):Prop:=∀ a o,H a=some o->bj P w H h a o
end
section
variable{P:Program}{w:World}{H H':Hp}{h h':Heap}{a:Addr}{o:HO}
def bj.lt(x:bj P w H h a o):a<h.objs.size:=by
 cases o with
 | lst xs=>obtain⟨_,_,_,_,e⟩:=x;exact Heap.lt_size e
 | tup xs=>obtain⟨_,_,_,p⟩:=x;exact p.lt
 | dK kvs=>obtain⟨_,_,_,_,o,_,_,e,_⟩:=x;exact Heap.lt_size e
 | dT kvs=>obtain⟨_,_,_,_,o,_,_,e,_⟩:=x;exact Heap.lt_size e
 | set S n=>obtain⟨o,_,_,_,e,_⟩:=x;exact Heap.lt_size e
 | ins C dx fs=>obtain⟨_,_,_,e,_⟩:=x;exact Heap.lt_size e
 | own y=>obtain⟨_,e⟩:=x;exact Heap.lt_size e
 | xd fs=>obtain⟨_,⟨_,_,_,e,_⟩,_⟩:=x;exact Heap.lt_size e
 | rng lo hi=>obtain⟨_,_,_,e⟩:=x;exact Heap.lt_size e
 | frz ob u=>obtain⟨e,_⟩:=x;exact Heap.lt_size e
 | tbl ps=>exact Heap.lt_size (show h.get? a=some _ from x)
 | met f y=>exact Heap.lt_size (show h.get? a=some _ from x)
 | ext φ=>obtain⟨_,⟨_,e⟩,_⟩:=x;exact Heap.lt_size e
def Paired.yJ:∀ {l₁:List α} {l₂:List β},Paired F l₁ l₂->(∀ a b,F a b->G a b)->Paired G l₁ l₂
 | _,_,.nil,_=>.nil
 | _,_,.cons r t,f=>.cons (f _ _ r) (Paired.yJ t f)
def bj.mI(x:bj P w H h a o)(k:∀ b u,(b=a\/H b=some (.own a))->h.get? b=some u->h'.get? b=some u)
 (ho:∀ b,H b=some (.own a)->H' b=some (.own a))(ht:∀ b xs,H b=some (.tup xs)->H' b=some (.tup xs)):bj P w H' h' a o:=by
 induction o with
 | lst xs=>obtain⟨z,its,n,r,e⟩:=x;exact⟨z,its,n,r,k _ _ (.inl rfl) e⟩
 | tup xs=>obtain⟨z,its,r,ob,e,c⟩:=x;exact⟨z,its,r,ob,k _ _ (.inl rfl) e,c⟩
 | dK kvs=>obtain⟨z,y,vs,r,ob,es,ep,e,c⟩:=x;exact⟨z,y,vs,r,ob,es,ep,k _ _ (.inl rfl) e,c⟩
 |dT kvs=>
  obtain⟨z,y,xs,r,ob,es,ep,e,c⟩:=x;exact⟨z,y,xs,Paired.yJ r fun p q z=>⟨z.1,ht _ _ z.2.1,z.2.2⟩,ob,es,ep,k _ _ (.inl rfl) e,c⟩
 | set S n=>obtain⟨ob,es,ep,t,e,c⟩:=x;exact⟨ob,es,ep,t,k _ _ (.inl rfl) e,c⟩
 |ins C dx fs=>
  obtain⟨d,z,ne,e,mA,⟨od,es,ep,e2,c⟩,r⟩:=x;exact⟨ho _ d,z,ne,k _ _ (.inl rfl) e,mA,⟨od,es,ep,k _ _ (.inr d) e2,c⟩,r⟩
 | own y=>obtain⟨ob,e⟩:=x;exact⟨ob,k _ _ (.inl rfl) e⟩
 | xd fs=>obtain⟨mA,⟨od,es,ep,e,c⟩,r⟩:=x;exact⟨mA,⟨od,es,ep,k _ _ (.inl rfl) e,c⟩,r⟩
 | rng lo hi=>obtain⟨t,u,v,e⟩:=x;exact⟨t,u,v,k _ _ (.inl rfl) e⟩
 | frz ob u ih=>obtain⟨e,q⟩:=x;exact⟨k _ _ (.inl rfl) e,ih q⟩
 |tbl ps=>
  have e:h.get? a=some { cls:=.none,data:=.fields ps }:=x;show h'.get? a=some { cls:=.none,data:=.fields ps };exact k a _ (.inl rfl) e
 |met f y=>
  have e:h.get? a=some (PySem.W.methodObj (.ref f) (.ref y)):=x;show h'.get? a=some (PySem.W.methodObj (.ref f) (.ref y));exact k a _ (.inl rfl) e
 | ext φ=>obtain⟨p,⟨o,e⟩,st⟩:=x;exact⟨st _ _ p fun o q=>k _ _ (.inl rfl) q,⟨o,k _ _ (.inl rfl) e⟩,st⟩
def HOk.lt(x:HOk P w H h)(e:H a=some o):a<h.objs.size:=(x a o e).lt
def HOk.fresh(x:HOk P w H h)(e:h.objs.size<=a):H a=none:=by
 cases q:H a with
 | none=>rfl
 | some u=>exact absurd (Nat.lt_of_lt_of_le (x.lt q) e) (Nat.lt_irrefl _)
def HOk.kept(x:HOk P w H h)(k:∀ b u,h.get? b=some u->h'.get? b=some u):HOk P w H h':=fun a o e =>
 (x a o e).mI (fun b u _ q=>k b u q) (fun _ q=>q) fun _ _ q=>q
def HOk.laid(x:HOk P w H h)(k:∀ b u,h.get? b=some u->h'.get? b=some u)(hp:h.objs.size<=a)(new:bj P w (upd H a o) h' a o):HOk P w (upd H a o) h':=fun b u e=>by
 have hn:=x.fresh hp;by_cases hb:b=a
 ·subst hb;rw[aW]at e;cases e;exact new
 ·rw[aI hb]at e
  exact(x b u e).mI (fun c v _ q=>k c v q) (fun c q=>by rw[aI (aH q hn)];exact q) fun c xs q=>by rw[aI (aH q hn)];exact q
end
abbrev Rd(H:Hp)(a:Addr)(u:HO):Prop:=H a=some u\/∃ o,H a=some (.frz o u)
def Rd.ok(r:Rd H a u)(x:HOk P w H h):bj P w H h a u:=by
 rcases r with r | ⟨o,r⟩
 ·exact x a u r
 ·obtain⟨_,q⟩:=x a _ r;exact q
abbrev Mut:Option HO->Prop
 | some (.lst _)=>True
 | some (.dK _)=>True
 | some (.dT _)=>True
 | some (.set _ _)=>True
 | some (.ins _ _ _)=>True
 | some (.ext _)=>True
 | _=>False
section
variable{P:Program}{w:World}{H:Hp}{h h':Heap}{x e:Addr}{o':HO}
def HOk.write(ok:HOk P w H h)(mu:Mut (H x))(he:e=x\/H e=some (.own x))(k:∀ b u,b≠e->h.get? b=some u->h'.get? b=some u)(heo:∃ u,h'.get? e=some u)
 (new:bj P w (upd H x o') h' x o'):HOk P w (upd H x o') h':=fun b u q=>by
 have nown:∀ c y,H c=some (.own y)->c≠x:=fun c y r z=>by subst z;rw[r]at mu;exact mu
 have ntup:∀ c xs,H c=some (.tup xs)->c≠x:=fun c xs r z=>by subst z;rw[r]at mu;exact mu
 by_cases hb:b=x
 ·subst hb;rw[aW]at q;cases q;exact new
 ·rw[aI hb]at q;by_cases hbe:b=e
  ·have q':H b=some (.own x):=by
    rcases he with z | z
    ·exact absurd (hbe.trans z) hb
    ·rw[hbe];exact z
   rw[q]at q';cases q';obtain⟨v,hv⟩:=heo;exact⟨v,by rw[hbe];exact hv⟩
  ·refine(ok b u q).mI (fun c v hc r=>k c v ?_ r) (fun c r=>by rw[aI (nown c b r)];exact r) fun c xs r=>by rw[aI (ntup c xs r)];exact r
   rcases hc with rfl | hc
   ·exact hbe
   ·rintro rfl;rcases he with z | z
    ·exact nown c b hc z
    ·rw[hc]at z;cases z;exact hb rfl
end
structure Un(fs ex:List Addr)(H H':Hp)(h h':Heap):Prop where
 keep:∀ b o,h.get? b=some o->H b=none->b∉fs->b∉ex->h'.get? b=some o
 slot:∀ b o,h.get? b=some o->H b=none->b∈fs->b∉ex->∃ sl,h'.get? b=some { o with slots:=sl }
 free:∀ b o,h.get? b=some o->H b=none->b∉ex->H' b=none
 there:∀ b o,h.get? b=some o->b∉ex->∃ o',h'.get? b=some o'
 jG:∀ b xs,H b=some (.tup xs)->H' b=some (.tup xs)
 gZ:∀ b o u,H b=some (.frz o u)->H' b=some (.frz o u)
 jT:∀ b ps,H b=some (.tbl ps)->∃ more,H' b=some (.tbl (ps++more))
section
variable{fs fs' ex ex':List Addr}{H H1 H2:Hp}{h h1 h2 h':Heap}{a x e:Addr}{o:HO}
def Un.any(u:Un fs ex H H1 h h1)(q:h.get? b=some ob)(n:H b=none)(hx:b∉ex):∃ sl,h1.get? b=some { ob with slots:=sl }:=by
 by_cases hb:b∈fs
 ·exact u.slot b ob q n hb hx
 ·exact⟨ob.slots,u.keep b ob q n hb hx⟩
def Un.kept(k:∀ b u,h.get? b=some u->h'.get? b=some u):Un fs ex H H h h' :=
 ⟨fun b ob q _ _ _=>k b ob q,fun b ob q _ _ _=>⟨ob.slots,k b ob q⟩,fun _ _ _ n _=>n,fun b ob q _=>⟨ob,k b ob q⟩,fun _ _ q=>q,fun _ _ _ q=>q,fun _ ps q=>⟨#[],by rw[q];simp⟩⟩
def Un.refl:Un fs ex H H h h:=Un.kept fun _ _ q=>q
def Un.laid(k:∀ b u,h.get? b=some u->h'.get? b=some u)(hp:h.objs.size<=a)(hn:H a=none):Un fs ex H (upd H a o) h h' where
 keep:=fun b u q _ _ _=>k b u q
 slot:=fun b u q _ _ _=>⟨u.slots,k b u q⟩
 free:=fun b u q n _=>by rw[aI (Nat.ne_of_lt (Nat.lt_of_lt_of_le (Heap.lt_size q) hp))];exact n
 there:=fun b u q _=>⟨u,k b u q⟩
 jG:=fun b xs q=>by rw[aI (aH q hn)];exact q
 gZ:=fun b u xs q=>by rw[aI (aH q hn)];exact q
 jT:=fun b ps q=>⟨#[],by rw[aI (aH q hn),q];simp⟩
def Un.write(mu:Mut (H x))(he:e=x\/H e=some (.own x))(k:∀ b u,b≠e->h.get? b=some u->h'.get? b=some u)(heo:∃ u,h'.get? e=some u):Un fs ex H (upd H x o) h h':=by
 have hx:∀ b,H b=none->b≠x:=fun b n z=>by subst z;rw[n]at mu;exact mu
 have hb:∀ b,H b=none->b≠e:=fun b n z=>by
  subst z;rcases he with r | r
  ·exact hx b n r
  ·rw[n]at r;cases r
 have hm:∀ b u,H b=some u->¬ Mut (some u)->b≠x:=fun b u q nm z=>by subst z;rw[q]at mu;exact nm mu
 refine⟨fun b u q n _ _=>k b u (hb b n) q,fun b u q n _ _=>⟨u.slots,k b u (hb b n) q⟩,fun b u q n _=>by rw[aI (hx b n)];exact n,fun b u q _=>?_,
  fun b xs q=>by rw[aI (hm b _ q fun z=>z)];exact q,fun b u xs q=>by rw[aI (hm b _ q fun z=>z)];exact q,fun b ps q=>⟨#[],by rw[aI (hm b _ q fun z=>z),q];simp⟩⟩
 by_cases hbe:b=e
 ·subst hbe;exact heo
 ·exact⟨u,k b u hbe q⟩
end
abbrev trk(h:Heap)(H:Hp):List Addr:=(List.range h.objs.size).filter fun a=>(H a).isSome
abbrev jv(h:Heap)(H:Hp):Heap:=PySem.W.hideAll h (trk h H)
def vF(h:Heap)(H:Hp):(jv h H).objs.size=h.objs.size:=PySem.W.hideAll_size _ _
def xP(e:h.get? b=some o)(n:H b=none):(jv h H).get? b=some o :=
 PySem.W.hideAll_get _ e fun hm=>by
  have q:(H b).isSome=true:=(List.mem_filter.mp hm).2;rw[n]at q;simp at q
def Bx(e:(jv h H).get? b=some o):h.get? b=some o/\H b=none:=by
 have e':h.get? b=some o:=PySem.W.of_hideAll (trk h H) e;refine⟨e',?_⟩
 cases q:H b with
 | none=>rfl
 |some x=>
  have hm:b∈trk h H:=List.mem_filter.mpr ⟨List.mem_range.mpr (Heap.lt_size e'),by simp[q]⟩;have z:(jv h H).get? b=none:=PySem.W.hideAll_none (trk h H) hm;rw[z]at e;cases e
structure Mod(K:PySem.W.Frag)(mg:Str->Option Value)(base:Heap):Prop where
 kin:K.In base
 glob:base.Ns mainGlobals mg
 blt:∃ mb,base.Ns builtinsNs mb/\∀ x:Str,x ≠ "__name__" -> mb x=bootBuiltins x
 nolimit:base.NoLimit
structure Cx where
 prog:Program
 w:World
 K:PySem.W.Frag
 mg:Str->Option Value
 base:Heap
 A:Around
 N:List Str
 s₀:Shared
 H₀:Hp
 env:Env
 outer:List Env
 stack:List Env
 ex:List Addr
 fn:Str->Bool
 calm:Bool
 pn:List (Addr × Obj)
 xe:Value->Shared->Prop
abbrev frs(l:List Env):List Addr:=l.filterMap (·.frame)
@[reducible]noncomputable def Cx.fs(X:Cx):List Addr:=frs X.outer
abbrev Vis(sc:Scope)(x:Str):Prop:=sc.names.lookup x=some .local\/sc.names.lookup x=some .cell\/sc.names.lookup x=some .free
abbrev Loc(sc:Scope)(x:Str):Prop:=sc.names.lookup x=some .local\/sc.names.lookup x=some .cell
abbrev Look(env:Env)(h:Heap)(m:Str->Option Value)(x:Str)(u:Value):Prop :=
 (env.kindOf x=some .local/\m x=some u)\/((env.kindOf x=some .cell\/env.kindOf x=some .free)/\∃ c,env.cells.lookup x=some c/\h.IsCell c (some u))
abbrev HX(X:Cx):Prop:=X.A.handled=none\/∃ h o u vs,X.A.handled=some (.ref h)/\X.H₀ h=some (.frz o u)/\o.data=.fields vs/\vs[2]?=some .none
structure Cx.Ok(X:Cx):Prop where
 mod:Mod X.K X.mg X.base
 kind:X.env.scope.kind=.function
 glob:X.env.globals=mainGlobals
 blt:X.env.builtins=builtinsNs
 above:X.s₀.heap.objs.size<=X.env.locals
 inj:∀ x y c,X.env.cells.lookup x=some c->X.env.cells.lookup y=some c->x=y
 has:∀ x,(X.env.kindOf x=some .cell\/X.env.kindOf x=some .free)->∃ c,X.env.cells.lookup x=some c
 cab:∀ x c,X.fn x=true->X.env.cells.lookup x=some c->X.s₀.heap.objs.size<=c
 hd:(X.calm=true->X.A.handled=none)/\HX X
 frames:X.A.frames=some X.stack
 stk:X.stack=X.outer\/(X.stack=X.env::X.outer/\X.env.frame=some X.env.locals)
 exf:∀ b∈X.ex,b≠X.env.locals/\∀ x c,X.env.cells.lookup x=some c->c≠b
 bs:∀ b o,X.base.get? b=some o->X.s₀.heap.get? b=some o/\X.H₀ b=none
 bsz:X.base.objs.size<=X.s₀.heap.objs.size
 rh:∀ b o,X.base.get? b=some o->b∉X.ex
 pK:∀ b∈X.ex,b∉X.fs
 hU:X.s₀.heap.FunFrames X.base X.outer
 frf:∀ b∈X.fs,X.H₀ b=none
structure Inv(X:Cx)(pins:List (Addr × Obj))(σ:List (Option V))(H:Hp)(s:Shared):Prop where
 ok:X.Ok
 os:s.os=X.s₀.os
 bare:AllBare s.gens
 base:Un X.fs X.ex X.H₀ H X.s₀.heap s.heap
 loc:∃ m,s.heap.Ns X.env.locals m/\∀ (i:Nat) (x:Str) (v:V),X.N[i]?=some x->σ[i]?=some (some v)->Vis X.env.scope x->∃ u,RelV v u/\Look X.env s.heap m x u
 cell:∀ x c,X.env.cells.lookup x=some c->∃ v,s.heap.IsCell c v
 free:H X.env.locals=none
 eO:∀ x c,X.env.cells.lookup x=some c->H c=none
 pin:∀ p∈X.pn++pins,s.heap.get? p.1=some p.2/\H p.1=none/\p.1≠X.env.locals/\p.1∉X.fs/\∀ v,p.2.data≠.cell v
 hok:HOk X.prog X.w H s.heap
 len:σ.length=X.N.length
section
variable{X:Cx}{pins:List (Addr × Obj)}{σ:List (Option V)}{H H':Hp}{s:Shared}{h':Heap}
def Cx.Ok.HW(ok:X.Ok)(e:X.base.get? b=some o):b∉X.fs:=fun hb=>by
 have:=(ok.hU.mem hb).1;rw[e]at this;cases this
def Inv.bs(I:Inv X pins σ H s):∀ b o,X.base.get? b=some o->s.heap.get? b=some o/\H b=none:=fun b o e =>
 ⟨I.base.keep b o (I.ok.bs b o e).1 (I.ok.bs b o e).2 (I.ok.HW e) (I.ok.rh b o e),I.base.free b o (I.ok.bs b o e).1 (I.ok.bs b o e).2 (I.ok.rh b o e)⟩
def Inv.bk(I:Inv X pins σ H s):∀ b o,X.base.get? b=some o->s.heap.get? b=some o:=fun b o e=>(I.bs b o e).1
def Inv.mod(I:Inv X pins σ H s):Mod X.K X.mg X.base:=I.ok.mod
def Inv.kIn(I:Inv X pins σ H s):X.K.In s.heap:=I.ok.mod.kin.keeps I.bk
def Inv.lt(I:Inv X pins σ H s):X.env.locals<s.heap.objs.size:=let ⟨_,hn,_⟩:=I.loc;hn.lt
def Inv.sz(I:Inv X pins σ H s):X.s₀.heap.objs.size<=s.heap.objs.size:=Nat.le_trans I.ok.above (Nat.le_of_lt I.lt)
def Inv.Ig(I:Inv X pins σ H s)(h:s.heap.objs.size<=a):a∉X.fs:=fun hb=>by
 obtain⟨_,o,ho,_⟩:=I.ok.hU.mem hb;exact absurd (Nat.lt_of_lt_of_le (Heap.lt_size ho) (Nat.le_trans I.sz h)) (Nat.lt_irrefl _)
def Inv.cne(I:Inv X pins σ H s):∀ x c,X.env.cells.lookup x=some c->c≠X.env.locals:=fun x c e z=>by
 obtain⟨v,o,ho,hd⟩:=I.cell x c e;obtain⟨m,⟨o',es,ep,ho',hd',_⟩,_⟩:=I.loc;rw[z,ho']at ho;cases ho;rw[hd']at hd;cases hd
def Inv.hU(I:Inv X pins σ H s):s.heap.FunFrames X.base X.outer:=by
 have all:∀ (l:List Env),(∀ b∈frs l,b∈X.fs)->X.s₀.heap.FunFrames X.base l->s.heap.FunFrames X.base l:=by
  intro l
  induction l with
  | nil=>intro _ _;trivial
  |cons env r ih=>
   intro hs hl;obtain⟨hk,⟨L,o,hf,hn,ho,hd⟩,hr⟩:=hl;have hL:L∈X.fs:=hs L (by unfold frs;rw[List.filterMap_cons,hf];exact List.mem_cons_self);obtain⟨sl,e⟩:=I.base.slot L o ho (I.ok.frf L hL) hL fun z=>I.ok.pK L z hL;exact⟨hk,⟨L,_,hf,hn,e,hd⟩,ih (fun b hb=>hs b (by unfold frs;rw[List.filterMap_cons,hf];exact List.mem_cons_of_mem _ hb)) hr⟩
 exact all X.outer (fun _ hb=>hb) I.ok.hU
def Inv.stack(I:Inv X pins σ H s):s.heap.FunFrames X.base X.stack:=by
 rcases I.ok.stk with e | ⟨e,hf⟩
 ·rw[e];exact I.hU
 ·rw[e];obtain⟨m,hn,_⟩:=I.loc;refine .cons (by rw[I.ok.kind];decide) hf hn ?_ I.hU;exact Heap.get?_none_of_le (Nat.le_trans I.ok.bsz I.ok.above)
def Inv.qw(I:Inv X pins σ H s):∀ b∈frs X.stack,b∈X.env.locals::X.fs:=fun b hb=>by
 rcases I.ok.stk with e | ⟨e,hf⟩
 ·rw[e]at hb;exact List.mem_cons_of_mem _ hb
 ·rw[e]at hb;unfold frs at hb;rw[List.filterMap_cons,hf]at hb;exact hb
def Inv.t5(I:Inv X pins σ H s):∀ b∈frs X.stack,H b=none:=fun b hb=>by
 rcases List.mem_cons.mp (I.qw b hb)with e | hb
 ·rw[e];exact I.free
 ·obtain⟨_,o,ho,_⟩:=I.ok.hU.mem hb;exact I.base.free b o ho (I.ok.frf b hb) fun z=>I.ok.pK b z hb
def Inv.step{g':Array GenState}{t':Nat}{d':Drawn}{ch:List Addr}(I:Inv X pins σ H s)
 (hch:∀ b∈ch,(b∈X.ex\/X.s₀.heap.objs.size<=b)/\b≠X.env.locals/\(∀ x c,X.env.cells.lookup x=some c->c≠b)/\∀ p∈X.pn++pins,p.1≠b)
 (keep:∀ b o,b≠X.env.locals->b∉X.fs->b∉ch->s.heap.get? b=some o->H b=none->h'.get? b=some o)
 (slot:∀ b o,b≠X.env.locals->b∈X.fs->b∉ch->s.heap.get? b=some o->H b=none->∃ sl,h'.get? b=some { o with slots:=sl })(free:∀ b o,b∉ch->s.heap.get? b=some o->H b=none->H' b=none)
 (there:∀ b o,b∉ch->s.heap.get? b=some o->∃ o',h'.get? b=some o')
 (jG:∀ b xs,H b=some (.tup xs)->H' b=some (.tup xs))(gZ:∀ b o u,H b=some (.frz o u)->H' b=some (.frz o u))(jT:∀ b ps,H b=some (.tbl ps)->∃ more,H' b=some (.tbl (ps++more)))
 (ns:∀ m,s.heap.Ns X.env.locals m->h'.Ns X.env.locals m)(hok:HOk X.prog X.w H' h')(hg:AllBare g') :
  Inv X pins σ H' { s with heap:=h',gens:=g',drawn:=d',toks:=t' }:=by
 have neL:∀ b o,X.s₀.heap.get? b=some o->b≠X.env.locals:=fun b o e=>Nat.ne_of_lt (Nat.lt_of_lt_of_le (Heap.lt_size e) I.ok.above)
 have neC:∀ b o,X.s₀.heap.get? b=some o->b∉X.ex->b∉ch:=fun b o e hx hb=>by
  rcases(hch b hb).1 with z | z
  ·exact hx z
  ·exact absurd (Nat.lt_of_lt_of_le (Heap.lt_size e) z) (Nat.lt_irrefl _)
 have cellK:∀ x c,X.env.cells.lookup x=some c->∀ v,s.heap.IsCell c v->h'.IsCell c v:=fun x c e v ⟨o,ho,hd⟩=>by
  have nch:c∉ch:=fun z=>(hch c z).2.2.1 x c e rfl;by_cases hc:c∈X.fs
  ·obtain⟨sl,q⟩:=slot c o (I.cne x c e) hc nch ho (I.eO x c e);exact⟨_,q,hd⟩
  ·exact⟨o,keep c o (I.cne x c e) hc nch ho (I.eO x c e),hd⟩
 refine⟨I.ok,I.os,hg,⟨fun b o e n hb hx=>?_,fun b o e n hb hx=>?_,fun b o e n hx=>?_,fun b o e hx=>?_,fun b xs e=>jG b xs (I.base.jG b xs e),fun b o xs e=>gZ b o xs (I.base.gZ b o xs e),fun b ps e=>?_⟩,?_,fun x c e=>?_,?_,fun x c e=>?_,fun p hp=>?_,hok,I.len⟩
 ·exact keep b o (neL b o e) hb (neC b o e hx) (I.base.keep b o e n hb hx) (I.base.free b o e n hx)
 ·obtain⟨sl,e1⟩:=I.base.slot b o e n hb hx;obtain⟨sl',e2⟩:=slot b _ (neL b o e) hb (neC b o e hx) e1 (I.base.free b o e n hx);exact⟨sl',e2⟩
 ·obtain⟨o',e1⟩:=I.base.there b o e hx;exact free b o' (neC b o e hx) e1 (I.base.free b o e n hx)
 ·obtain⟨o',e1⟩:=I.base.there b o e hx;exact there b o' (neC b o e hx) e1
 ·obtain⟨m1,e1⟩:=I.base.jT b ps e;obtain⟨m2,e2⟩:=jT b _ e1;exact⟨m1++m2,by rw[e2,Array.append_assoc]⟩
 ·obtain⟨m,hn,hl⟩:=I.loc;refine⟨m,ns m hn,fun i x v e1 e2 e3=>?_⟩;obtain⟨u,r,l⟩:=hl i x v e1 e2 e3;refine⟨u,r,?_⟩
  rcases l with l | ⟨k,c,e,z⟩
  ·exact .inl l
  ·exact .inr ⟨k,c,e,cellK x c e _ z⟩
 ·obtain⟨v,z⟩:=I.cell x c e;exact⟨v,cellK x c e v z⟩
 ·obtain⟨m,⟨o,_,_,ho,_⟩,_⟩:=I.loc;exact free _ o (fun z=>(hch _ z).2.1 rfl) ho I.free
 ·obtain⟨v,o,ho,hd⟩:=I.cell x c e;exact free c o (fun z=>(hch c z).2.2.1 x c e rfl) ho (I.eO x c e)
 ·obtain⟨e,n,ne,nf,d⟩:=I.pin p hp;have nch:p.1∉ch:=fun z=>(hch p.1 z).2.2.2 p hp rfl;exact⟨keep p.1 p.2 ne nf nch e n,free p.1 p.2 nch e n,ne,nf,d⟩
def Inv.un(I:Inv X pins σ H s)(u:Un X.fs [] H H' s.heap h')(hok:HOk X.prog X.w H' h'):Inv X pins σ H' { s with heap:=h',toks:=t' }:=by
 obtain⟨m,⟨o,es,ep,ho,r⟩,_⟩:=id I.loc;obtain⟨sl,hL⟩:=u.any ho I.free (by simp)
 exact I.step (g':=s.gens) (d':=s.drawn) (ch:=[]) (fun _ z=>nomatch z) (fun b o _ hb _ e n=>u.keep b o e n hb (by simp)) (fun b o _ hb _ e n=>u.slot b o e n hb (by simp)) (fun b o _ e n=>u.free b o e n (by simp)) (fun b o _ e=>u.there b o e (by simp)) u.jG u.gZ u.jT (fun m' hm=>by
  obtain⟨o',es',ep',ho',r'⟩:=hm;rw[ho]at ho';cases ho'
  exact⟨_,es',ep',hL,r'⟩) hok I.bare
def Inv.call(I:Inv X pins σ H s)(u:Un (frs X.stack) ch H H' s.heap h')(hok:HOk X.prog X.w H' h')(hg:AllBare g')
 (hch:∀ b∈ch,(b∈X.ex\/X.s₀.heap.objs.size<=b)/\b≠X.env.locals/\(∀ x c,X.env.cells.lookup x=some c->c≠b)/\∀ p∈X.pn++pins,p.1≠b) :
  Inv X pins σ H' { s with heap:=h',gens:=g',drawn:=d',toks:=t' }:=by
 obtain⟨m,⟨o,es,ep,ho,r⟩,_⟩:=id I.loc;obtain⟨sl,hL⟩:=u.any ho I.free fun z=>(hch _ z).2.1 rfl
 exact I.step (ch:=ch) hch (fun b o hL hb hc e n=>u.keep b o e n (fun z=>(List.mem_cons.mp (I.qw b z)).elim hL hb) hc) (fun b o _ _ hc e n=>u.any e n hc) (fun b o hc e n=>u.free b o e n hc) (fun b o hc e=>u.there b o e hc) u.jG u.gZ u.jT (fun m' hm=>by
  obtain⟨o',es',ep',ho',r'⟩:=hm;rw[ho]at ho';cases ho'
  exact⟨_,es',ep',hL,r'⟩) hok hg
def Inv.turned(I:Inv X pins σ H s)(k:∀ b o,b≠it->s.heap.get? b=some o->h'.get? b=some o)(hn:H it=none)(hL:it≠X.env.locals)
 (h1:it∈X.ex\/X.s₀.heap.objs.size<=it)(h2:∀ x c,X.env.cells.lookup x=some c->c≠it)(h3:∀ p∈X.pn++pins,p.1≠it):Inv X pins σ H { s with heap:=h',toks:=t' }:=by
 have nit:∀ b u,H b=some u->b≠it:=fun b u e z=>by rw[z,hn]at e;cases e
 refine I.step (g':=s.gens) (d':=s.drawn) (ch:=[it]) (fun b hb=>?_) (fun b o _ _ hc e _=>k b o (fun z=>hc (by simp[z])) e) (fun b o _ _ hc e _=>⟨o.slots,k b o (fun z=>hc (by simp[z])) e⟩) (fun _ _ _ _ n=>n)
  (fun b o hc e=>⟨o,k b o (fun z=>hc (by simp[z])) e⟩) (fun _ _ e=>e) (fun _ _ _ e=>e) (fun b ps e=>⟨#[],by rw[e];simp⟩) (fun m hm=>?_) (fun b u e=>?_) I.bare
 ·have e:b=it:=by simpa using hb
  subst e;exact⟨h1,hL,h2,h3⟩
 ·obtain⟨o,es,ep,ho,r⟩:=hm;exact⟨o,es,ep,k _ o (Ne.symm hL) ho,r⟩
 ·refine(I.hok b u e).mI (fun c v hc q=>k c v ?_ q) (fun _ q=>q) fun _ _ q=>q;rcases hc with z | z
  ·rw[z];exact nit b u e
  ·exact nit c _ z
def Inv.tok(I:Inv X pins σ H s)(t:Nat):Inv X pins σ H { s with toks:=t }:=I.un (h':=s.heap) (t':=t) Un.refl I.hok
def Inv.kept(I:Inv X pins σ H s)(k:∀ b u,s.heap.get? b=some u->h'.get? b=some u):Inv X pins σ H { s with heap:=h',toks:=t' }:=I.un (Un.kept k) (I.hok.kept k)
def Inv.laid(I:Inv X pins σ H s)(k:∀ b u,s.heap.get? b=some u->h'.get? b=some u)(hp:s.heap.objs.size<=a)(new:bj X.prog X.w (upd H a o) h' a o) :
  Inv X pins σ (upd H a o) { s with heap:=h',toks:=t' }:=I.un (Un.laid k hp (I.hok.fresh hp)) (I.hok.laid k hp new)
def Inv.write(I:Inv X pins σ H s)(mu:Mut (H x))(he:e=x\/H e=some (.own x))(k:∀ b u,b≠e->s.heap.get? b=some u->h'.get? b=some u)(heo:∃ u,h'.get? e=some u)
 (new:bj X.prog X.w (upd H x o) h' x o):Inv X pins σ (upd H x o) { s with heap:=h',toks:=t' }:=I.un (Un.write mu he k heo) (I.hok.write mu he k heo new)
def Inv.weak(I:Inv X pins σ H s)(hl:σ'.length=σ.length)(w:∀ (i:Nat) v,σ'[i]?=some (some v)->σ[i]?=some (some v)):Inv X pins σ' H s :=
 ⟨I.ok,I.os,I.bare,I.base,let ⟨m,hn,hl'⟩:=I.loc;⟨m,hn,fun i x v e1 e2 e3=>hl' i x v e1 (w i v e2) e3⟩,I.cell,I.free,I.eO,I.pin,I.hok,hl.trans I.len⟩
def Inv.tu(I:Inv X pins σ H s)(h:∀ p∈pins',s.heap.get? p.1=some p.2/\H p.1=none/\p.1≠X.env.locals/\p.1∉X.fs/\∀ v,p.2.data≠.cell v):Inv X pins' σ H s :=
 ⟨I.ok,I.os,I.bare,I.base,I.loc,I.cell,I.free,I.eO,fun p hp=>(List.mem_append.mp hp).elim (fun z=>I.pin p (List.mem_append_left _ z)) (h p),I.hok,I.len⟩
def qe{N:List Str}(hN:N.Nodup){i j:Nat}(a:N[i]?=some x)(b:N[j]?=some x):i=j:=by
 obtain⟨h1,e1⟩:=List.getElem?_eq_some_iff.mp a;obtain⟨h2,e2⟩:=List.getElem?_eq_some_iff.mp b;exact(List.getElem_inj hN).mp (e1.trans e2.symm)
def nS{M:Model}{A:Around}(I:Inv X pins σ H s)(hN:X.N.Nodup)(hi:X.N[i]?=some x)(hx:Loc X.env.scope x)(r:RelV v u)
 (h:∀ s',Inv X pins (σ.set i (some v)) H s'->(∃ a,Heap.SameBut a s.heap s'.heap/\(a=X.env.locals\/X.env.cells.lookup x=some a))->Q () s')(hf:X.fn x=true\/X.env.scope.names.lookup x=some .local):wpAny M A (storeName X.env x u) Q E s:=by
 obtain⟨m,hn,hl⟩:=id I.loc
 have hcls:(X.env.scope.kind == .class || (X.env.scope.kind == .module&&X.env.locals != X.env.globals))=false:=by rw[I.ok.kind];rfl
 have hiσ:i<σ.length:=by rw[I.len];exact(List.getElem?_eq_some_iff.mp hi).1
 have cne:=I.cne
 have tracked:∀ {a:Addr} {h':Heap},(∃ o,s.heap.get? a=some o/\H a=none)->Heap.SameBut a s.heap h'->HOk X.prog X.w H h':=fun {a h'} ha hs b ob e=>by
  obtain⟨_,_,hfree⟩:=ha;refine(I.hok b ob e).mI (fun c w' hc q=>(hs.2 c ?_).trans q) (fun _ q=>q) fun _ _ q=>q;rintro rfl;rcases hc with rfl | hc
  ·rw[hfree]at e;cases e
  ·rw[hfree]at hc;cases hc
 rcases hx with hk | hk
 ·refine wpAny_storeName_local hk hn (fun h' hn' hs=>?_) hcls;obtain⟨oL,_,_,hoL,_⟩:=id hn;refine h _ ⟨I.ok,I.os,I.bare,⟨fun b o e n hb hx=>?_,fun b o e n hb hx=>?_,I.base.free,fun b o e hx=>?_,I.base.jG,I.base.gZ,I.base.jT⟩,⟨_,hn',fun j y v' e1 e2 e3=>?_⟩,fun y c e=>?_,I.free,I.eO,fun p hp=>?_,tracked ⟨oL,hoL,I.free⟩ hs,by simpa using I.len⟩ ⟨_,hs,.inl rfl⟩
  ·exact(hs.2 b (Nat.ne_of_lt (Nat.lt_of_lt_of_le (Heap.lt_size e) I.ok.above))).trans (I.base.keep b o e n hb hx)
  ·obtain⟨sl,e1⟩:=I.base.slot b o e n hb hx;exact⟨sl,(hs.2 b (Nat.ne_of_lt (Nat.lt_of_lt_of_le (Heap.lt_size e) I.ok.above))).trans e1⟩
  ·obtain⟨o',e1⟩:=I.base.there b o e hx;exact⟨o',(hs.2 b (Nat.ne_of_lt (Nat.lt_of_lt_of_le (Heap.lt_size e) I.ok.above))).trans e1⟩
  ·by_cases hj:j=i
   ·subst hj;rw[hi]at e1;cases e1;rw[List.getElem?_set_self hiσ]at e2;cases e2;exact⟨u,r,.inl ⟨hk,by simp⟩⟩
   ·rw[List.getElem?_set_ne (Ne.symm hj)]at e2;obtain⟨u',r',q⟩:=hl j y v' e1 e2 e3;refine⟨u',r',?_⟩
    rcases q with⟨k,e⟩ | ⟨k,c,e,z⟩
    ·refine .inl ⟨k,?_⟩;have:y≠x:=fun e=>hj (qe hN e1 (e▸hi));simp[this,e]
    ·exact .inr ⟨k,c,e,z.sameBut hs (cne y c e)⟩
  ·obtain⟨w',z⟩:=I.cell y c e;exact⟨w',z.sameBut hs (cne y c e)⟩
  ·obtain⟨e,n,ne,nf,d⟩:=I.pin p hp;exact⟨(hs.2 p.1 ne).trans e,n,ne,nf,d⟩
 ·have hfn:X.fn x=true:=by
   rcases hf with z | z
   ·exact z
   ·rw[z]at hk;cases hk
  obtain⟨c,hc⟩:=I.ok.has x (.inl hk);obtain⟨w',z⟩:=I.cell x c hc;refine wpAny_storeName_cell I.ok.kind hk hc z (fun h' hc' hs=>?_);obtain⟨oc,hoc,hocd⟩:=id z;refine h { s with heap:=h' } ⟨I.ok,I.os,I.bare,⟨fun b o e n hb hx=>?_,fun b o e n hb hx=>?_,I.base.free,fun b o e hx=>?_,I.base.jG,I.base.gZ,I.base.jT⟩,⟨m,hn.sameBut hs (Ne.symm (cne x c hc)),fun j y v' e1 e2 e3=>?_⟩,fun y c' e=>?_,I.free,I.eO,fun p hp=>?_,tracked ⟨oc,hoc,I.eO x c hc⟩ hs,by simpa using I.len⟩ ⟨c,hs,.inr hc⟩
  ·exact(hs.2 b (Nat.ne_of_lt (Nat.lt_of_lt_of_le (Heap.lt_size e) (I.ok.cab x c hfn hc)))).trans (I.base.keep b o e n hb hx)
  ·obtain⟨sl,e1⟩:=I.base.slot b o e n hb hx;exact⟨sl,(hs.2 b (Nat.ne_of_lt (Nat.lt_of_lt_of_le (Heap.lt_size e) (I.ok.cab x c hfn hc)))).trans e1⟩
  ·obtain⟨o',e1⟩:=I.base.there b o e hx;exact⟨o',(hs.2 b (Nat.ne_of_lt (Nat.lt_of_lt_of_le (Heap.lt_size e) (I.ok.cab x c hfn hc)))).trans e1⟩
  ·by_cases hj:j=i
   ·subst hj;rw[hi]at e1;cases e1;rw[List.getElem?_set_self hiσ]at e2;cases e2;exact⟨u,r,.inr ⟨.inl hk,c,hc,hc'⟩⟩
   ·rw[List.getElem?_set_ne (Ne.symm hj)]at e2;obtain⟨u',r',q⟩:=hl j y v' e1 e2 e3;refine⟨u',r',?_⟩
    rcases q with q | ⟨k,c',e,z'⟩
    ·exact .inl q
    ·refine .inr ⟨k,c',e,z'.sameBut hs ?_⟩;rintro rfl;exact hj (qe hN e1 (I.ok.inj _ _ _ e hc▸hi))
  ·by_cases hcc:c'=c
   ·subst hcc;exact⟨_,hc'⟩
   ·obtain⟨w2,z2⟩:=I.cell y c' e;exact⟨w2,z2.sameBut hs hcc⟩
  ·obtain⟨e,n,ne,nf,d⟩:=I.pin p hp;refine⟨(hs.2 p.1 ?_).trans e,n,ne,nf,d⟩;intro q;rw[q,hoc]at e;have q':oc=p.2:=Option.some.inj e;exact d w' (by rw[<-q'];exact hocd)
def gI(I:Inv X pins σ H s)(hN:X.N.Nodup)(hi:X.N[i]?=some x)(hx:Loc X.env.scope x)(r:RelV v u)
 (h:∀ s',Inv X pins (σ.set i (some v)) H s'->Q () s')(hf:X.fn x=true\/X.env.scope.names.lookup x=some .local):wpAny M A (storeName X.env x u) Q E s :=
 nS I hN hi hx r (fun s' I' _=>h s' I') hf
def Inv.Ae(I:Inv X pins σ H s)(ho:s'.os=s.os)(u:Un (frs X.stack) ch H H' s.heap s'.heap)(hok:HOk X.prog X.w H' s'.heap)(hg:AllBare s'.gens)
 (hch:∀ b∈ch,(b∈X.ex\/X.s₀.heap.objs.size<=b)/\b≠X.env.locals/\(∀ x c,X.env.cells.lookup x=some c->c≠b)/\∀ p∈X.pn++pins,p.1≠b):Inv X pins σ H' s':=by
 obtain⟨h',g',d',t',o'⟩:=s';have e:o'=s.os:=ho;subst e;exact I.call (g':=g') (t':=t') (d':=d') u hok hg hch
end
@[reducible]noncomputable def XK:=Value->Option Addr->Hp->Prop
@[reducible]noncomputable def St:=List (Option V)
@[reducible]noncomputable def VK:=V->Hp->Prop
@[reducible]noncomputable def TE:=St->Hp->VK->Prop
@[reducible]noncomputable def TT:=St->Hp->(Bool->Hp->Prop)->Prop
@[reducible]noncomputable def TA:=St->Hp->(List V->Hp->Prop)->Prop
structure Ends where
 nx:St->Hp->Prop
 rt:VK
 bk:St->Hp->Prop:=fun _ _=>False
 ct:St->Hp->Prop:=fun _ _=>False
@[reducible]noncomputable def TS:=Ends->St->Hp->Prop
abbrev EP(X:Cx)(pins:List (Addr × Obj))(σ:St)(Q:VK)(u:Value)(s':Shared):Prop:=∃ v H',Inv X pins σ H' s'/\RelV v u/\Q v H'
abbrev TP(X:Cx)(pins:List (Addr × Obj))(σ:St)(Q:Bool->Hp->Prop)(b:Bool)(s':Shared):Prop:=∃ H',Inv X pins σ H' s'/\Q b H'
abbrev AP(X:Cx)(pins:List (Addr × Obj))(σ:St)(Q:List V->Hp->Prop)(us:List Value)(s':Shared):Prop:=∃ vs H',Inv X pins σ H' s'/\Vals vs us/\Q vs H'
abbrev SP(X:Cx)(pins:List (Addr × Obj))(D:Ends)(f:Flow)(s':Shared):Prop :=
 match f with
 | .next=>∃ σ' H',Inv X pins σ' H' s'/\D.nx σ' H'
 | .brk=>∃ σ' H',Inv X pins σ' H' s'/\D.bk σ' H'
 | .cont=>∃ σ' H',Inv X pins σ' H' s'/\D.ct σ' H'
 | .ret u=>∃ v σ' H',Inv X pins σ' H' s'/\RelV v u/\D.rt v H'
abbrev PE(X:Cx)(e:Expr)(t:TE):Prop :=
 ∀ (pins:List (Addr × Obj)) (s:Shared) (σ:St) (H:Hp) (Q:VK),Inv X pins σ H s->t σ H Q->wpAny (model X.prog X.w) X.A (eval e X.env) (EP X pins σ Q) X.xe s
abbrev PT(X:Cx)(e:Expr)(t:TT):Prop :=
 ∀ (pins:List (Addr × Obj)) (s:Shared) (σ:St) (H:Hp) (Q:Bool->Hp->Prop),Inv X pins σ H s->t σ H Q->wpAny (model X.prog X.w) X.A (isTrue e X.env (eval e X.env)) (TP X pins σ Q) X.xe s
abbrev PW(X:Cx)(e:Expr)(t:TT):Prop :=
 ∀ (whole:Sem Value) (pins:List (Addr × Obj)) (s:Shared) (σ:St) (H:Hp) (Q:Bool->Hp->Prop),Inv X pins σ H s->t σ H Q->wpAny (model X.prog X.w) X.A (isTrue e X.env whole) (TP X pins σ Q) X.xe s
def PW.pt(h:PW X e t):PT X e t:=h _
abbrev PA(X:Cx)(es:List Expr)(t:TA):Prop :=
 ∀ (pos:Pos) (pins:List (Addr × Obj)) (s:Shared) (σ:St) (H:Hp) (Q:List V->Hp->Prop),Inv X pins σ H s->t σ H Q->wpAny (model X.prog X.w) X.A (spliced (backTo pos (starEach es X.env))) (AP X pins σ Q) X.xe s
abbrev PS(X:Cx)(st:Stmt)(t:TS):Prop :=
 ∀ (pins:List (Addr × Obj)) (s:Shared) (σ:St) (H:Hp) (D:Ends),Inv X pins σ H s->t D σ H->wpAny (model X.prog X.w) X.A (exec st X.env) (SP X pins D) X.xe s
abbrev PSs(X:Cx)(st:List Stmt)(t:TS):Prop :=
 ∀ (pins:List (Addr × Obj)) (s:Shared) (σ:St) (H:Hp) (D:Ends),Inv X pins σ H s->t D σ H->wpAny (model X.prog X.w) X.A (execs st X.env) (SP X pins D) X.xe s
def thn(h:wpAny M A t Q E s)(hQ:∀ a s,Q a s->Q' a s):wpAny M A t Q' E s:=wpAny_mono h hQ fun _ _ x=>x
section
variable{X:Cx}
abbrev gK(i:Nat):TE:=fun σ H Q=>∃ v,σ[i]?=some (some v)/\Q v H
abbrev tC(v:V):TE:=fun _ H Q=>Q v H
def eB(hN:X.N[i]?=some x)(hv:Vis X.env.scope x)(hd:(x == ("__debug__" : Str))=false)(hcd:(x == ("__classdict__" : Str))=false):PE X (.Name x pos) (gK i):=by
 intro pins s σ H Q I h;obtain⟨v,e,h⟩:=h;obtain⟨m,hn,hl⟩:=I.loc;obtain⟨u,r,l⟩:=hl i x v hN e hv
 have fin:EP X pins σ Q u s:=⟨v,H,I,r,h⟩
 rcases l with⟨hk,hm⟩ | ⟨hk,c,hc,hcell⟩
 ·exact wpAny_Name (wpAny_loadName_local I.ok.kind hk hn hm fin) hd
 ·rcases hk with hk | hk
  ·exact wpAny_Name (wpAny_loadName_cell I.ok.kind hk hc hcell fin) hd
  ·exact wpAny_Name (wpAny_loadName_free I.ok.kind hk hc hcell fin hcd) hd
def qD:PE X (.Constant (.int i) j pos) (tC (.int i)):=fun _ _ _ H _ I h=>wpAny_Constant_int ⟨.int i,H,I.tok _,⟨_,rfl⟩,h⟩
def Gz:PE X (.Constant (.bool b) j pos) (tC (.bl b)):=fun _ _ _ H _ I h=>Constant_bool ⟨.bl b,H,I,rfl,h⟩
def pX:PE X (.Constant .none j pos) (tC .non):=fun _ _ _ H _ I h=>Constant_none ⟨.non,H,I,rfl,h⟩
def wz:PE X (.Constant (.str x) j pos) (tC (.str x)):=fun _ _ _ H _ I h=>Calls.Constant_str ⟨.str x,H,I.tok _,⟨_,rfl⟩,h⟩
abbrev Gl(X:Cx)(x:Str):Prop:=X.env.kindOf x=some .globalImplicit
def sN(I:Inv X pins σ H s)(hg:Gl X x)(hm:X.mg x=some u)(h:Q u s)
 (hd:(x == ("__debug__" : Str))=false):wpAny (model X.prog X.w) X.A (eval (.Name x pos) X.env) Q E s :=
 Calls.Name_function_global I.ok.kind hg (Calls.loadGlobal_global (by rw[I.ok.glob];exact I.mod.glob.keeps I.bk) hm h) hd
def gG(I:Inv X pins σ H s)(hg:Gl X x)(hm:X.mg x=none)(hv:bootBuiltins x=some u)(h:Q u s)
 (hn:x ≠ "__name__")(hd:(x == ("__debug__" : Str))=false):wpAny (model X.prog X.w) X.A (eval (.Name x pos) X.env) Q E s:=by
 obtain⟨mb,h1,h2⟩:=I.mod.blt;exact Calls.Name_function_global I.ok.kind hg (Calls.loadGlobal_builtin (by rw[I.ok.glob];exact I.mod.glob.keeps I.bk) hm (by rw[I.ok.blt];exact h1.keeps I.bk) ((h2 x hn).trans hv) h) hd
def Av(hg:Gl X x)(hm:X.mg x=some u)(r:RelV v u)(hd:(x == ("__debug__" : Str))=false):PE X (.Name x pos) (tC v) :=
 fun _ _ _ H _ I h=>sN I hg hm ⟨v,H,I,r,h⟩ hd
def BD(hg:Gl X x)(hm:X.mg x=none)(hv:bootBuiltins x=some u)(r:RelV v u)(hn:x ≠ "__name__")(hd:(x == ("__debug__" : Str))=false):PE X (.Name x pos) (tC v) :=
 fun _ _ _ H _ I h=>gG I hg hm hv ⟨v,H,I,r,h⟩ hn hd
variable{a b:Expr}{ta tb:TE}{pos:Pos}
abbrev PC(X:Cx)(op:CmpOp)(a b:Expr)(t:TE):Prop :=
 ∀ (pins:List (Addr × Obj)) (s:Shared) (σ:St) (H:Hp) (Q:VK),Inv X pins σ H s->t σ H Q ->
  wpAny (model X.prog X.w) X.A (eval a X.env) (fun v s₁=>wpAny (model X.prog X.w) X.A (eval b X.env) (fun u s₂=>wpAny (model X.prog X.w) X.A (compareOp op v u) (EP X pins σ Q) X.xe s₂) X.xe s₁) X.xe s
abbrev tB(t:TE):TT:=fun σ H Q=>t σ H fun x H1=>∃ c,x=.bl c/\Q c H1
def EN(h:PC X op a b t)(h1:behindInMarks op b=false):PE X (.Compare a [op] [b] pos) t:=fun pins s σ H Q I hw=>wpAny_Compare1 (h pins s σ H Q I hw) h1
def Dy(h:PC X op a b t)(h1:behindInMarks op b=false):PT X (.Compare a [op] [b] pos) (tB t):=by
 intro pins s σ H Q I hw;refine wpAny_isTrue_Compare1 (thn (h pins s σ H _ I hw) fun v s1 h1=>thn h1 fun u s2 h2=>thn h2 fun c s3 ⟨x,H1,I1,r1,q1⟩=>?_) h1;obtain⟨d,rfl,q⟩:=q1;cases r1;exact wpAny_truthy_bool ⟨H1,I1,q⟩
variable{tA tB':TT}{rest:List Expr}
abbrev HQ(t u:TT):TT:=fun σ H Q=>t σ H fun c H1=>if c=true then u σ H1 Q else Q false H1
abbrev tOr(t u:TT):TT:=fun σ H Q=>t σ H fun c H1=>if c=true then Q true H1 else u σ H1 Q
abbrev HR(t:TT):TT:=fun σ H Q=>t σ H fun c H1=>Q (!c) H1
def AL(ha:PT X a tA):PW X (.BoolOp .And [a] pos) tA:=by
 intro wh pins s σ H Q I h;refine isTrue_and (thn (ha pins s σ H Q I h) fun c s1 e=>?_)
 cases c with
 | true=>exact isTrue_and_nil e
 | false=>exact e
def Dt(ha:PT X a tA):PW X (.BoolOp .Or [a] pos) tA:=by
 intro wh pins s σ H Q I h;refine isTrue_or (thn (ha pins s σ H Q I h) fun c s1 e=>?_)
 cases c with
 | false=>exact isTrue_or_nil e
 | true=>exact e
def Ec(ha:PT X a tA)(hb:PW X (.BoolOp .And (b::rest) pos) tB'):PW X (.BoolOp .And (a::b::rest) pos) (HQ tA tB'):=by
 intro wh pins s σ H Q I h;refine isTrue_and (thn (ha pins s σ H _ I h) fun c s1 ⟨H1,I1,q1⟩=>?_)
 cases c with
 | true=>exact hb wh pins s1 σ H1 Q I1 q1
 | false=>exact⟨H1,I1,q1⟩
def FP(ha:PT X a tA)(hb:PW X (.BoolOp .Or (b::rest) pos) tB'):PW X (.BoolOp .Or (a::b::rest) pos) (tOr tA tB'):=by
 intro wh pins s σ H Q I h;refine isTrue_or (thn (ha pins s σ H _ I h) fun c s1 ⟨H1,I1,q1⟩=>?_)
 cases c with
 | true=>exact⟨H1,I1,q1⟩
 | false=>exact hb wh pins s1 σ H1 Q I1 q1
def DM(ha:PT X a tA):PT X (.UnaryOp .Not a pos) (HR tA):=by
 intro pins s σ H Q I h;exact isTrue_not (ha pins s σ H (fun c H1=>Q (!c) H1) I h)
abbrev FJ(ta tb:TE):TE:=fun σ H Q=>ta σ H fun x H1=>∃ c,x=.bl c/\if c=true then tb σ H1 Q else Q (.bl false) H1
abbrev HS(ta tb:TE):TE:=fun σ H Q=>ta σ H fun x H1=>∃ c,x=.bl c/\if c=true then Q (.bl true) H1 else tb σ H1 Q
def Dn(h:PE X a t):PE X (.BoolOp op [a] pos) t:=fun pins s σ H Q I hw=>BoolOp_one (h pins s σ H Q I hw)
def EY(ha:PE X a ta)(hb:PE X (.BoolOp .And (b::rest) pos) tb):PE X (.BoolOp .And (a::b::rest) pos) (FJ ta tb):=by
 intro pins s σ H Q I h;refine BoolOp_and (thn (ha pins s σ H _ I h) fun v s1 ⟨x,H1,I1,r1,q1⟩=>?_);obtain⟨c,rfl,q1⟩:=q1;cases r1;refine wpAny_truthy_bool ?_
 cases c with
 | true=>exact hb pins s1 σ H1 Q I1 q1
 | false=>exact⟨.bl false,H1,I1,rfl,q1⟩
def Gk(ha:PE X a ta)(hb:PE X (.BoolOp .Or (b::rest) pos) tb):PE X (.BoolOp .Or (a::b::rest) pos) (HS ta tb):=by
 intro pins s σ H Q I h;refine BoolOp_or (thn (ha pins s σ H _ I h) fun v s1 ⟨x,H1,I1,r1,q1⟩=>?_);obtain⟨c,rfl,q1⟩:=q1;cases r1;refine wpAny_truthy_bool ?_
 cases c with
 | false=>exact hb pins s1 σ H1 Q I1 q1
 | true=>exact⟨.bl true,H1,I1,rfl,q1⟩
abbrev tIf(t:TT)(ta tb:TE):TE:=fun σ H Q=>t σ H fun c H1=>if c=true then ta σ H1 Q else tb σ H1 Q
def xQ(hc:PT X c tA)(ha:PE X a ta)(hb:PE X b tb):PE X (.IfExp c a b pos) (tIf tA ta tb):=by
 intro pins s σ H Q I h;refine wpAny_IfExp (thn (hc pins s σ H _ I h) fun d s1 ⟨H1,I1,q1⟩=>?_)
 cases d with
 | true=>exact ha pins s1 σ H1 Q I1 q1
 | false=>exact hb pins s1 σ H1 Q I1 q1
end
abbrev SqL(K:PySem.W.Frag)(H:Hp)(a:Addr)(xs:List V):Prop :=
 Rd H a (.lst xs) \/
  ∃ (o:Obj) (its:Array Value) (n:Nat),K.lookup a=some o/\o.cls=.type "list" /\ o.dict=none/\o.data=.seq its n/\its.size<=sizeLine/\Vals xs its.toList
abbrev SqT(K:PySem.W.Frag)(H:Hp)(a:Addr)(xs:List V):Prop :=
 Rd H a (.tup xs) \/
  ∃ (o:Obj) (its:Array Value) (n:Nat),K.lookup a=some o/\o.cls=.type "tuple" /\ o.data=.seq its n/\its.size<=sizeLine/\Vals xs its.toList
abbrev Hu:Value->Option V
 | .none=>some .non
 | .bool b=>some (.bl b)
 | .int i _=>some (.int i)
 | .str x _=>some (.str x)
 | .bytes b _=>some (.byt b)
 | .float b _=>some (.flt b)
 | .ref a=>some (.ref a)
 | .type n=>some (.ty n)
 | _=>none
def RelV.abs(r:RelV x u):Hu u=some x:=by
 cases x with
 | non=>cases r;rfl
 | bl _=>cases r;rfl
 | int _=>obtain⟨t,rfl⟩:=r;rfl
 | str _=>obtain⟨t,rfl⟩:=r;rfl
 | byt _=>obtain⟨t,rfl⟩:=r;rfl
 | flt _=>obtain⟨t,rfl⟩:=r;rfl
 | ref _=>cases r;rfl
 | ty _=>cases r;rfl
def RelV.inj(r:RelV x u)(q:RelV y u):x=y:=Option.some.inj (r.abs.symm.trans q.abs)
def Vals.inj:∀ {xs ys:List V} {us:List Value},Vals xs us->Vals ys us->xs=ys
 | _,_,_,.nil,.nil=>rfl
 | _,_,_,.cons r t,.cons r' t'=>by rw[r.inj r',Vals.inj t t']
section
variable{X:Cx}{pins:List (Addr × Obj)}{σ:St}{H:Hp}{s:Shared}{a:Addr}{xs ys:List V}
def SqL.of{K:PySem.W.Frag}(h:H a=some (.lst xs)):SqL K H a xs:=.inl (.inl h)
def SqT.of{K:PySem.W.Frag}(h:H a=some (.tup xs)):SqT K H a xs:=.inl (.inl h)
def Inv.list(I:Inv X pins σ H s)(h:SqL X.K H a xs):∃ its:List Value,Vals xs its/\PlainL s.heap a its.toArray/\xs.length<=sizeLine:=by
 rcases h with h | ⟨o,its,n,hk,hc,hd,hs,hz,r⟩
 ·obtain⟨z,its,n,r,e⟩:=h.ok I.hok;exact⟨its,r,⟨_,n,e,rfl,rfl,rfl⟩,z⟩
 ·refine⟨its.toList,r,⟨o,n,I.kIn a o hk,hc,hd,by simpa using hs⟩,?_⟩;have e:=r.length;simp only[Array.length_toList]at e;omega
def Inv.tuple(I:Inv X pins σ H s)(h:SqT X.K H a xs):∃ its:List Value,Vals xs its/\IsTup s.heap a its.toArray/\xs.length<=sizeLine:=by
 rcases h with h | ⟨o,its,n,hk,hc,hs,hz,r⟩
 ·obtain⟨z,its,r,p⟩:=h.ok I.hok;exact⟨its,r,p,z⟩
 ·refine⟨its.toList,r,⟨o,I.kIn a o hk,hc,n,by simpa using hs⟩,?_⟩;have e:=r.length;simp only[Array.length_toList]at e;omega
def Inv.xD(I:Inv X pins σ H s)(h:SqL X.K H a xs)(h':SqL X.K H a ys):xs=ys:=by
 obtain⟨its,r,⟨o,n,e,_,_,d⟩,_⟩:=I.list h;obtain⟨its',r',⟨o',n',e',_,_,d'⟩,_⟩:=I.list h';rw[e]at e';cases e';rw[d]at d';injection d' with d1 _
 have:its=its':=by simpa using congrArg Array.toList d1
 subst this;exact r.inj r'
def Inv.wB(I:Inv X pins σ H s)(h:SqT X.K H a xs)(h':SqT X.K H a ys):xs=ys:=by
 obtain⟨its,r,⟨o,e,_,n,d⟩,_⟩:=I.tuple h;obtain⟨its',r',⟨o',e',_,n',d'⟩,_⟩:=I.tuple h';rw[e]at e';cases e';rw[d]at d';injection d' with d1 _
 have:its=its':=by simpa using congrArg Array.toList d1
 subst this;exact r.inj r'
end
@[reducible]noncomputable def Cx.i9(X:Cx)(E:Value->Shared->Prop):Cx:={ X with xe:=E }
@[reducible]noncomputable def Cx.nox(X:Cx):Cx:=X.i9 fun _ _=>False
def Cx.Ok.i9{X:Cx}(ok:X.Ok)(E:Value->Shared->Prop):(X.i9 E).Ok :=
 ⟨ok.mod,ok.kind,ok.glob,ok.blt,ok.above,ok.inj,ok.has,ok.cab,ok.hd,ok.frames,ok.stk,ok.exf,ok.bs,ok.bsz,ok.rh,ok.pK,ok.hU,ok.frf⟩
def Cx.Ok.fI{X:Cx}(ok:(X.i9 E).Ok):X.Ok :=
 ⟨ok.mod,ok.kind,ok.glob,ok.blt,ok.above,ok.inj,ok.has,ok.cab,ok.hd,ok.frames,ok.stk,ok.exf,ok.bs,ok.bsz,ok.rh,ok.pK,ok.hU,ok.frf⟩
section
variable{X:Cx}{pins:List (Addr × Obj)}{σ:St}{H:Hp}{s:Shared}{E:Value->Shared->Prop}
def Inv.i9(I:Inv X pins σ H s)(E:Value->Shared->Prop):Inv (X.i9 E) pins σ H s:=⟨I.ok.i9 E,I.os,I.bare,I.base,I.loc,I.cell,I.free,I.eO,I.pin,I.hok,I.len⟩
def Inv.fI(I:Inv (X.i9 E) pins σ H s):Inv X pins σ H s:=⟨I.ok.fI,I.os,I.bare,I.base,I.loc,I.cell,I.free,I.eO,I.pin,I.hok,I.len⟩
def SP.fI(h:SP (X.i9 E) pins D f s'):SP X pins D f s':=by
 cases f with
 | next=>obtain⟨σ',H',I,q⟩:=h;exact⟨σ',H',I.fI,q⟩
 | brk=>obtain⟨σ',H',I,q⟩:=h;exact⟨σ',H',I.fI,q⟩
 | cont=>obtain⟨σ',H',I,q⟩:=h;exact⟨σ',H',I.fI,q⟩
 | ret u=>obtain⟨v,σ',H',I,r,q⟩:=h;exact⟨v,σ',H',I.fI,r,q⟩
def PSs.nox{st:List Stmt}(h:PSs X.nox st t):PSs X st t:=fun pins s σ H D I hw =>
 wpAny_mono (h pins s σ H D (I.i9 _) hw) (fun _ _ q=>q.fI) fun _ _ z=>False.elim z
end
section
variable{X:Cx}{st:Stmt}{rest:List Stmt}{t u:TS}{e:Expr}{te:TE}{pos:Pos}
abbrev Gf:TS:=fun D σ H=>D.nx σ H
abbrev GW(t u:TS):TS:=fun D σ H=>t { D with nx:=u D } σ H
def A0:PSs X [] Gf:=fun _ _ σ H _ I h=>wpAny_execs_nil ⟨σ,H,I,h⟩
def jw(h1:PS X st t)(h2:PSs X rest u):PSs X (st::rest) (GW t u):=by
 intro pins s σ H D I h;refine wpAny_execs_cons (thn (h1 pins s σ H { D with nx:=u D } I h) fun f s1 q=>?_)
 cases f with
 |next=>
  obtain⟨σ',H',I',q⟩:=q;exact h2 pins s1 σ' H' D I' q
 | ret v=>exact q
 | brk=>exact q
 | cont=>exact q
def Inv.quiet(I:Inv X pins σ H s):interactive X.env=false:=by simp[interactive,I.ok.kind]
abbrev oS(te:TE):TS:=fun D σ H=>te σ H fun _ H1=>D.nx σ H1
def mT(he:PE X e te)(hs:swapsWith e none pos.line X.env=pure false):PS X (.Expr e pos) (oS te):=by
 intro pins s σ H D I h;exact wpAny_Expr_any (thn (he pins s σ H _ I h) fun v s1 ⟨x,H1,I1,r1,q1⟩=>⟨σ,H1,I1,q1⟩) I.quiet hs
abbrev Hz(te:TE):TS:=fun D σ H=>te σ H D.rt
def wK(he:PE X e te):PS X (.Return (some e) pos) (Hz te):=by
 intro pins s σ H D I h;exact wpAny_Return_some (thn (he pins s σ H _ I h) fun v s1 ⟨x,H1,I1,r1,q1⟩=>⟨x,σ,H1,I1,r1,q1⟩)
abbrev GS(c:TT)(t u:TS):TS:=fun D σ H=>c σ H fun b H1=>if b=true then t D σ H1 else u D σ H1
def zX(hc:PT X c tc)(ha:PSs X a t)(hb:PSs X b u):PS X (.If c a b pos) (GS tc t u):=by
 intro pins s σ H D I h;refine wpAny_If (thn (hc pins s σ H _ I h) fun d s1 ⟨H1,I1,q1⟩=>?_)
 cases d with
 | true=>exact ha pins s1 σ H1 D I1 q1
 | false=>exact hb pins s1 σ H1 D I1 q1
end
@[reducible]noncomputable def TG:=V->St->Hp->(St->Hp->Prop)->Prop
@[reducible]noncomputable def TGs:=List V->St->Hp->(St->Hp->Prop)->Prop
abbrev PG(X:Cx)(target:Expr)(t:TG):Prop :=
 ∀ (pins:List (Addr × Obj)) (s:Shared) (σ:St) (H:Hp) (v:V) (u:Value) (Q:St->Hp->Prop),Inv X pins σ H s->RelV v u->t v σ H Q ->
  wpAny (model X.prog X.w) X.A (assign target X.env u) (fun _ s'=>∃ σ' H',Inv X pins σ' H' s'/\Q σ' H') X.xe s
abbrev PGs(X:Cx)(ts:List Expr)(t:TGs):Prop :=
 ∀ (pins:List (Addr × Obj)) (s:Shared) (σ:St) (H:Hp) (vs:List V) (us:List Value) (Q:St->Hp->Prop),Inv X pins σ H s->Vals vs us->t vs σ H Q ->
  wpAny (model X.prog X.w) X.A (assignInOrder ((assignEach ts X.env).map (·.2)) us) (fun _ s'=>∃ σ' H',Inv X pins σ' H' s'/\Q σ' H') X.xe s
@[reducible]noncomputable def Cd:=V->V->V->Hp->(Hp->Prop)->Prop
abbrev Et(X:Cx)(t:Cd):Prop :=
 ∀ (pins:List (Addr × Obj)) (s:Shared) (σ:St) (H:Hp) (o i v:V) (ov iv u:Value) (Q:Hp->Prop),Inv X pins σ H s->RelV o ov->RelV i iv->RelV v u->t o i v H Q ->
  wpAny (model X.prog X.w) X.A (setItem ov iv u) (fun _ s'=>∃ H',Inv X pins σ H' s'/\Q H') X.xe s
@[reducible]noncomputable def TIp:=V->V->Hp->VK->Prop
abbrev PIp(X:Cx)(op:Operator)(t:TIp):Prop :=
 ∀ (pins:List (Addr × Obj)) (s:Shared) (σ:St) (H:Hp) (x y:V) (v u:Value) (Q:VK),Inv X pins σ H s->RelV x v->RelV y u->t x y H Q ->
  wpAny (model X.prog X.w) X.A (inplaceOp op v u) (EP X pins σ Q) X.xe s
section
variable{X:Cx}{pos:Pos}
abbrev lW(i:Nat):TG:=fun v σ H Q=>Q (σ.set i (some v)) H
def t6(hN:X.N.Nodup)(hi:X.N[i]?=some x)(hx:Loc X.env.scope x)(hf:X.fn x=true\/X.env.scope.names.lookup x=some .local):PG X (.Name x pos) (lW i):=by
 intro pins s σ H v u Q I r h;exact wpAny_assign_Name (gI I hN hi hx r (fun s' I'=>⟨_,H,I',h⟩) hf)
abbrev Ft:TGs:=fun vs σ H Q=>vs=[]/\Q σ H
abbrev zL(t:TG)(u:TGs):TGs:=fun vs σ H Q=>∃ v r,vs=v::r/\t v σ H fun σ' H'=>u r σ' H' Q
def BP:PGs X [] Ft:=by
 intro pins s σ H vs us Q I r h;obtain⟨e,h⟩:=h;subst e;cases r;exact assignInOrder_nil ⟨σ,H,I,h⟩
def xS(h1:PG X e t)(h2:PGs X es u)
 (hs:(assignEach (e::es) X.env).map (·.2)=assign e X.env::(assignEach es X.env).map (·.2)):PGs X (e::es) (zL t u):=by
 intro pins s σ H vs us Q I r h;obtain⟨v,vr,e1,h⟩:=h;subst e1
 cases r with
 |cons r rr=>
  rw[hs];refine assignInOrder_cons (thn (h1 pins s σ H _ _ _ I r h) fun _ s1 ⟨σ1,H1,I1,q1⟩=>?_);exact h2 pins s1 σ1 H1 _ _ Q I1 rr q1
abbrev nc(K:PySem.W.Frag)(n:Nat)(t:TGs):TG:=fun v σ H Q=>∃ a xs,v=.ref a/\SqT K H a xs/\xs.length=n/\t xs σ H Q
def vM(hc:X.calm=true)(h:PGs X es t)
 (hn:(assignEach es X.env).length=n)(hst:(assignEach es X.env).findIdx? (·.1)=none):PG X (.Tuple es k pos) (nc X.K n t):=by
 intro pins s σ H v u Q I r hw;obtain⟨a,xs,e1,hq,hl,hw⟩:=hw;subst e1;cases r;obtain⟨its,rv,ht,hz⟩:=I.tuple hq;refine assign_Tuple_tuple (I.ok.hd.1 hc) ht (by simp[hn,<-hl,rv.length]) hst fun h' hx=>?_;have I1:Inv X pins σ H { s with heap:=h' }:=I.kept (t':=s.toks) fun b o e=>hx b o (Nat.ne_of_lt (Heap.lt_size e)) e;exact h pins _ σ H xs _ Q I1 (by simpa using rv) hw
abbrev yP(to ti:TE)(t:Cd):TG:=fun v σ H Q=>to σ H fun o H1=>ti σ H1 fun i H2=>t o i v H2 fun H3=>Q σ H3
def Df(ho:PE X o to)(hi:PE X i ti)(hs:Et X t)
 (ha:∀ v,assign (.Subscript o i pos) X.env v=(do
   let ov <- holding [v] (eval o X.env)
   let iv <- holding [v,ov] (eval i X.env)
   standAt pos
   holding [v,ov,iv] (setItem ov iv v)
   release [v,ov,iv] []):=by intro _;rfl):PG X (.Subscript o i pos) (yP to ti t):=by
 intro pins s σ H v u Q I r h;rw[ha];refine wpAny_bind (wpAny_holding (thn (ho pins s σ H _ I h) fun ov s1 ⟨x,H1,I1,r1,q1⟩=>?_));refine wpAny_bind (wpAny_holding (thn (hi pins s1 σ H1 _ I1 q1) fun iv s2 ⟨y,H2,I2,r2,q2⟩=>?_));refine wpAny_bind (wpAny_standAt (wpAny_bind (wpAny_holding (thn (hs pins s2 σ H2 x y v ov iv u _ I2 r1 r2 r q2) fun _ s3 ⟨H3,I3,q3⟩=>?_))));exact wpAny_release ⟨σ,H3,I3,q3⟩
abbrev mV(te:TE)(g:TG):TS:=fun D σ H=>te σ H fun x H1=>g x σ H1 D.nx
def vJ(he:PE X e te)(hg:PG X tg g)(hs:swapsWithSole [tg] e pos.line X.env=pure false)(hw:swappedStores [tg] e X.env=pure none)
 (h1:(assignEach [tg] X.env).map (·.2)=[assign tg X.env]):PS X (.Assign [tg] e pos) (mV te g):=by
 intro pins s σ H D I h;refine wpAny_Assign_stores (thn (he pins s σ H _ I h) fun v s1 ⟨x,H1,I1,r1,q1⟩=>?_) hs hw;rw[h1];exact thn (hg pins s1 σ H1 x v _ I1 r1 q1) fun _ s2 q=>q
def vS(hN:X.N.Nodup)(hi:X.N[i]?=some x)(hx:Loc X.env.scope x)(he:PE X e te)(hs:swapsWith e (some (.Name x pos')) pos.line X.env=pure false)(hf:X.fn x=true\/X.env.scope.names.lookup x=some .local) :
  PS X (.Assign [.Name x pos'] e pos) (mV te (lW i)):=by
 intro pins s σ H D I h;refine wpAny_Assign_Name (thn (he pins s σ H _ I h) fun v s1 ⟨y,H1,I1,r1,q1⟩=>?_) hs;exact gI I1 hN hi hx r1 (fun s2 I2=>⟨_,H1,I2,q1⟩) hf
abbrev Fb(i j:Nat)(ta:TA):TS:=fun D σ H=>ta σ H fun vs H1=>∃ v w,vs=[v,w]/\D.nx ((σ.set i (some v)).set j (some w)) H1
def Di(hc:X.calm=true)(hN:X.N.Nodup)(hi:X.N[i]?=some x)(hj:X.N[j]?=some y)(hij:i≠j)
 (hx:X.env.scope.names.lookup x=some .local)(hy:X.env.scope.names.lookup y=some .local)(ha:PA X [a,b] ta)
 (hw:swappedStores [.Tuple [.Name x px,.Name y py] kt pt] (.Tuple [a,b] k2 pt2) X.env=pure (some [x,y]))
 (hs:swapsWithSole [.Tuple [.Name x px,.Name y py] kt pt] (.Tuple [a,b] k2 pt2) pos.line X.env=pure false) :
  PS X (.Assign [.Tuple [.Name x px,.Name y py] kt pt] (.Tuple [a,b] k2 pt2) pos) (Fb i j ta):=by
 intro pins s σ H D I h;rw[exec_Assign_arm];refine wpAny_bind (wpAny_standAt ?_);rw[hs];refine wpAny_bind (wpAny_pure ?_);rw[if_neg (by decide)];refine wpAny_bind (Tuple_ (thn (ha _ pins s σ H _ I h) fun us s1 ⟨vs,H1,I1,r1,q1⟩=>?_));obtain⟨v,w,e1,q1⟩:=q1;subst e1
 obtain⟨u1,u2,rfl,rv,rw'⟩:∃ u1 u2,us=[u1,u2]/\RelV v u1/\RelV w u2:=by
  cases r1 with
  |cons p q=>
   cases q with
   |cons p' q'=>
    cases q';exact⟨_,_,rfl,p,p'⟩
 refine wpAny_newObj_type ?_ (by show 2<=sizeLine;decide);have I2:Inv X pins σ H1 { s1 with heap:=s1.heap.push { cls:=.type "tuple",data:=.seq [u1,u2].toArray } }:=I1.kept (t':=s1.toks) fun b o e=>Heap.get?_push_of_some _ e;rw[hw];refine wpAny_bind (wpAny_pure ?_);show wpAny (model X.prog X.w) X.A (do rule "assign.swapped-stores";let items <- unpackItems (.ref s1.heap.objs.size) 2 none;assignInOrder [fun v=>bindName X.env y v,fun v=>bindName X.env x v] items.reverse;pure Flow.next) _ _ _;refine wpAny_bind (wpAny_rule (wpAny_bind (unpackItems_tuple (items:=#[u1,u2]) (I.ok.hd.1 hc) (IsTup.new s1.heap _) fun h' hx'=>?_)));have I3:=I2.kept (h':=h') (t':=s1.toks) fun b o e=>hx' b o (Nat.ne_of_lt (Heap.lt_size e)) e;show wpAny _ _ (assignInOrder [fun v=>bindName X.env y v,fun v=>bindName X.env x v] [u2,u1] >>= fun _=>pure Flow.next) _ _ _;refine wpAny_bind (assignInOrder_cons (wpAny_bindName (gI I3 hN hj (.inl hy) rw' (fun s2 I4=>?_) (.inr hy))));refine assignInOrder_cons (wpAny_bindName (gI I4 hN hi (.inl hx) rv (fun s3 I5=>assignInOrder_nil (wpAny_pure ?_)) (.inr hx)));rw[List.set_comm _ _ (Ne.symm hij)]at I5;exact⟨_,H1,I5,q1⟩
abbrev yO(i:Nat)(te:TE)(ti:TIp):TS:=fun D σ H=>∃ x,σ[i]?=some (some x)/\te σ H fun y H1=>ti x y H1 fun z H2=>D.nx (σ.set i (some z)) H2
def qM(hN:X.N.Nodup)(hi:X.N[i]?=some x)(hx:Loc X.env.scope x)(he:PE X e te)(ho:PIp X op ti)(hf:X.fn x=true\/X.env.scope.names.lookup x=some .local) :
  PS X (.AugAssign (.Name x pos') op e pos) (yO i te ti):=by
 intro pins s σ H D I h;obtain⟨v,e1,h⟩:=h;obtain⟨m,hn,hl⟩:=I.loc
 have vis:Vis X.env.scope x:=by rcases hx with k | k;exact .inl k;exact .inr (.inl k)
 obtain⟨u,r,l⟩:=hl i x v hi e1 vis;refine wpAny_AugAssign_Name ?_
 have go:wpAny (model X.prog X.w) X.A (eval e X.env) (fun w s₂=>wpAny (model X.prog X.w) X.A (inplaceOp op u w) (fun r s₃=>wpAny (model X.prog X.w) X.A (storeName X.env x r) (fun _=>SP X pins D .next) X.xe s₃) X.xe s₂) X.xe s:=by
  refine thn (he pins s σ H _ I h) fun w s1 ⟨y,H1,I1,r1,q1⟩=>?_;refine thn (ho pins s1 σ H1 v y u w _ I1 r r1 q1) fun z s2 ⟨zv,H2,I2,r2,q2⟩=>?_;exact gI I2 hN hi hx r2 (fun s3 I3=>⟨_,H2,I3,q2⟩) hf
 rcases l with⟨hk,hm⟩ | ⟨hk,c,hc,hcell⟩
 ·exact wpAny_loadName_local I.ok.kind hk hn hm go
 ·rcases hk with hk | hk
  ·exact wpAny_loadName_cell I.ok.kind hk hc hcell go
  ·rcases hx with k | k
   ·have:X.env.scope.names.lookup x=some .free:=hk;rw[k]at this;cases this
   ·have:X.env.scope.names.lookup x=some .free:=hk;rw[k]at this;cases this
abbrev ipI(f:Int->Int->Int):TIp:=fun x y H Q=>∃ i j,x=.int i/\y=.int j/\Q (.int (f i j)) H
def EV:PIp X .Add (ipI fun i j=>i+j):=by
 intro pins s σ H x y v u Q I r1 r2 h;obtain⟨i,j,e1,e2,q⟩:=h;subst e1;subst e2;obtain⟨t,rfl⟩:=r1;obtain⟨t',rfl⟩:=r2;exact iadd_int ⟨.int _,H,I.tok _,⟨_,rfl⟩,q⟩
def CK:PIp X .Sub (ipI fun i j=>i-j):=by
 intro pins s σ H x y v u Q I r1 r2 h;obtain⟨i,j,e1,e2,q⟩:=h;subst e1;subst e2;obtain⟨t,rfl⟩:=r1;obtain⟨t',rfl⟩:=r2;exact isub_int ⟨.int _,H,I.tok _,⟨_,rfl⟩,q⟩
end
section
variable{X:Cx}{pos:Pos}
end
structure It where
 go:Nat->Hp->Prop
 yld:Nat->Hp->V->Hp->Prop
 stop:Nat->Hp->Prop
abbrev ja(X:Cx)(pins:List (Addr × Obj))(H:Hp)(b:Addr):Prop :=
 H b=none/\b≠X.env.locals/\b∉X.fs/\(b∈X.ex\/X.s₀.heap.objs.size<=b)/\(∀ x c,X.env.cells.lookup x=some c->c≠b)/\∀ p∈X.pn++pins,p.1≠b
def Inv.l6(I:Inv X pins σ H s)(hb:s.heap.objs.size<=b)(hn:H' b=none):ja X pins H' b:=by
 refine⟨hn,Nat.ne_of_gt (Nat.lt_of_lt_of_le I.lt hb),I.Ig hb,.inr (Nat.le_trans I.sz hb),fun x c e z=>?_,fun p hp z=>?_⟩
 ·obtain⟨v,q⟩:=I.cell x c e;exact absurd (Nat.lt_of_lt_of_le q.lt (by rw[z];exact hb)) (Nat.lt_irrefl _)
 ·exact absurd (Nat.lt_of_lt_of_le (Heap.lt_size (I.pin p hp).1) (by rw[z];exact hb)) (Nat.lt_irrefl _)
structure m7(CM:Cx->Prop)(P:Program)(w:World)(K:PySem.W.Frag)(tg:Expr)(J:It)(fp:List Addr)(it:Addr)(tn:Nat->Heap->Prop):Prop where
 mem:it∈fp
 obj:∀ i h,tn i h->∀ b∈fp,∃ o,h.get? b=some o/\∀ v,o.data≠.cell v
 keep:∀ i h h',tn i h->(∀ b∈fp,∀ o,h.get? b=some o->h'.get? b=some o)->tn i h'
 item:∀ (X:Cx),X.prog=P->X.w=w->X.K=K->CM X->∀ (i:Nat) (pins:List (Addr × Obj)) (s:Shared) (σ:St) (H:Hp) (E:Value->Shared->Prop),Inv X pins σ H s->(∀ b∈fp,ja X pins H b)->tn i s.heap->J.go i H ->
  wpAny (model P w) X.A (pyNext (.ref it)) (fun r s1=>∃ u,r=some u /\
   wpAny (model P w) X.A (letOwnedTupleGo tg (.ref it) u) (fun _ s2=>∃ x H',Inv X pins σ H' s2/\RelV x u/\J.yld i H x H'/\tn (i+1) s2.heap/\∀ b∈fp,H' b=none) E s1) E s
 done:∀ (X:Cx),X.prog=P->X.w=w->X.K=K->CM X->∀ (i:Nat) (pins:List (Addr × Obj)) (s:Shared) (σ:St) (H:Hp) (E:Value->Shared->Prop),Inv X pins σ H s->(∀ b∈fp,ja X pins H b)->tn i s.heap->J.stop i H ->
  wpAny (model P w) X.A (pyNext (.ref it)) (fun r s1=>r=none/\Inv X pins σ H s1) E s
 self:∀ (A:Around) (i:Nat) (s:Shared) (Q:Value->Shared->Prop) (E:Value->Shared->Prop),tn i s.heap->Q (.ref it) s->wpAny (model P w) A (pyIter (.ref it)) Q E s
@[reducible]noncomputable def Calm:Cx->Prop:=fun X=>X.calm=true
@[reducible]noncomputable def Turn:=m7 Calm
@[reducible]noncomputable def TI:=St->Hp->(It->Hp->Prop)->Prop
abbrev D4(CM:Cx->Prop)(X:Cx)(pins:List (Addr × Obj))(σ:St)(tg:Expr)(R:It->Hp->Prop)(itv:Value)(s2:Shared):Prop :=
 ∃ (it:Addr) (fp:List Addr) (tn:Nat->Heap->Prop) (J:It) (H':Hp),itv=.ref it/\Inv X pins σ H' s2/\m7 CM X.prog X.w X.K tg J fp it tn/\tn 0 s2.heap/\(∀ b∈fp,ja X pins H' b)/\R J H'
@[reducible]noncomputable def PIE:=D4 Calm
abbrev PI'(CM:Cx->Prop)(X:Cx)(tg iter:Expr)(wi:TI):Prop :=
 ∀ (pins:List (Addr × Obj)) (s:Shared) (σ:St) (H:Hp) (R:It->Hp->Prop),Inv X pins σ H s->wi σ H R ->
  wpAny (model X.prog X.w) X.A (eval iter X.env) (fun v s1=>wpAny (model X.prog X.w) X.A (pyIter v) (D4 CM X pins σ tg R) X.xe s1) X.xe s
@[reducible]noncomputable def PI:=PI' Calm
def mj(ho:s.heap.get? it=some o)(hc:o.cls=.type n)(hd:o.data=.fields vs)
 (hn:["enumerate", "zip", "dict_itemiterator", "dict_reverseitemiterator", "odict_iterator", "itertools.zip_longest", "itertools.pairwise"].contains n=false)(hQ:Q () s):wpAny M A (letOwnedTupleGo tg (.ref it) u) Q E s:=by
 unfold letOwnedTupleGo
 cases tg<;>first
  | exact wpAny_pure hQ
  | (cases u<;>first
    | exact wpAny_pure hQ
    | (refine wpAny_bind (wpAny_load ho ?_)
       rw[hc,hd];show wpAny M A (if(["enumerate", "zip", "dict_itemiterator", "dict_reverseitemiterator", "odict_iterator", "itertools.zip_longest", "itertools.pairwise"].contains n&&vs[0]? == some (rawInt _))=true then _ else _) Q E s;rw[if_neg (by intro h;rw[hn,Bool.false_and]at h;cases h)]
       exact wpAny_pure hQ))
abbrev Itl(K:PySem.W.Frag)(a:Addr):It :=
 ⟨fun i H=>∃ xs x,SqL K H a xs/\xs[i]?=some x,fun i H x H'=>H'=H/\∀ xs,SqL K H a xs->xs[i]?=some x,fun i H=>∃ xs,SqL K H a xs/\xs.length<=i⟩
abbrev Itt(K:PySem.W.Frag)(a:Addr):It :=
 ⟨fun i H=>∃ xs x,SqT K H a xs/\xs[i]?=some x,fun i H x H'=>H'=H/\∀ xs,SqT K H a xs->xs[i]?=some x,fun i H=>∃ xs,SqT K H a xs/\xs.length<=i⟩
abbrev Itr(lo:Int)(n:Nat):It:=⟨fun i _=>i<n,fun i H x H'=>H'=H/\x=.int (lo+i),fun i _=>n<=i⟩
def v7{P:Program}{w:World}{K:PySem.W.Frag}(a it:Addr):Turn P w K tg (Itl K a) [it] it (fun i h=>h.IsListIter it a i) where
 mem:=by simp
 obj:=fun i h st b hb=>by
  have e:b=it:=by simpa using hb
  subst e;obtain⟨o,e,c,d⟩:=st;exact⟨o,e,fun v z=>by rw[d]at z;cases z⟩
 keep:=fun i h h' st k=>st.at fun o e=>k it (by simp) o e
 item:=by
  intro X hP hw hK hc i pins s σ H E I hf st hg;subst hP hw hK;obtain⟨xs,x,hq,hx⟩:=hg;obtain⟨its,rv,p,hz⟩:=I.list hq;obtain⟨u,hu,ru⟩:=rv.get hx;obtain⟨f0,f1,f2,f3,f4,f5⟩:=hf it (by simp);refine wpAny_pyNext_list_item st p.isList (x:=u) (by simpa using hu) fun h' st' sb=>?_;have I1:Inv X pins σ H { s with heap:=h' }:=I.turned (t':=s.toks) (fun b o hb e=>(sb.2 b hb).trans e) f0 f1 f3 f4 f5;obtain⟨o,e,c,d⟩:=id st';exact⟨u,rfl,mj (s:={ s with heap:=h' }) e c d (by decide) ⟨x,H,I1,ru,⟨rfl,fun ys hy=>by rw[I.xD hy hq];exact hx⟩,st',fun b hb=>(hf b hb).1⟩⟩
 done:=by
  intro X hP hw hK hc i pins s σ H E I hf st hg;subst hP hw hK;obtain⟨xs,hq,hx⟩:=hg;obtain⟨its,rv,p,hz⟩:=I.list hq;obtain⟨f0,f1,f2,f3,f4,f5⟩:=hf it (by simp);have hl:=rv.length
  exact wpAny_pyNext_list_end (I.ok.hd.1 hc) st p.isList (by simp;omega) fun h' eb=>⟨rfl,I.turned (t':=s.toks) (fun b o hb e=>eb b o hb e) f0 f1 f3 f4 f5⟩
 self:=fun _ _ _ _ _ st h=>wpAny_pyIter_listiter st h
def uw{P:Program}{w:World}{K:PySem.W.Frag}(a it:Addr):Turn P w K tg (Itt K a) [it] it (fun i h=>h.IsTupleIter it a i) where
 mem:=by simp
 obj:=fun i h st b hb=>by
  have e:b=it:=by simpa using hb
  subst e;obtain⟨o,e,c,d⟩:=st;exact⟨o,e,fun v z=>by rw[d]at z;cases z⟩
 keep:=fun i h h' st k=>st.at fun o e=>k it (by simp) o e
 item:=by
  intro X hP hw hK hc i pins s σ H E I hf st hg;subst hP hw hK;obtain⟨xs,x,hq,hx⟩:=hg;obtain⟨its,rv,p,hz⟩:=I.tuple hq;obtain⟨u,hu,ru⟩:=rv.get hx;obtain⟨f0,f1,f2,f3,f4,f5⟩:=hf it (by simp);refine wpAny_pyNext_tuple_item st (show s.heap.IsTuple a its.toArray from p) (x:=u) (by simpa using hu) fun h' st' sb=>?_;have I1:Inv X pins σ H { s with heap:=h' }:=I.turned (t':=s.toks) (fun b o hb e=>(sb.2 b hb).trans e) f0 f1 f3 f4 f5;obtain⟨o,e,c,d⟩:=id st';exact⟨u,rfl,mj (s:={ s with heap:=h' }) e c d (by decide) ⟨x,H,I1,ru,⟨rfl,fun ys hy=>by rw[I.wB hy hq];exact hx⟩,st',fun b hb=>(hf b hb).1⟩⟩
 done:=by
  intro X hP hw hK hc i pins s σ H E I hf st hg;subst hP hw hK;obtain⟨xs,hq,hx⟩:=hg;obtain⟨its,rv,p,hz⟩:=I.tuple hq;obtain⟨f0,f1,f2,f3,f4,f5⟩:=hf it (by simp);have hl:=rv.length
  exact wpAny_pyNext_tuple_end (I.ok.hd.1 hc) st (show s.heap.IsTuple a its.toArray from p) (by simp;omega) fun h' eb=>⟨rfl,I.turned (t':=s.toks) (fun b o hb e=>eb b o hb e) f0 f1 f3 f4 f5⟩
 self:=fun _ _ _ _ _ st h=>wpAny_pyIter_tupleiter st h
def ud{P:Program}{w:World}{K:PySem.W.Frag}(it:Addr)(lo:Int)(n:Nat):Turn P w K tg (Itr lo n) [it] it (fun i h=>IsRangeIter h it (lo+(i:Nat)*1) ((n:Int)-(i:Nat)) 1) where
 mem:=by simp
 obj:=fun i h st b hb=>by
  have e:b=it:=by simpa using hb
  subst e
  exact⟨_,st,fun v z=>by
   have z':Data.fields _=Data.cell v:=z
   cases z'⟩
 keep:=fun i h h' st k=>k it (by simp) _ st
 item:=by
  intro X hP hw hK hc i pins s σ H E I hf st hg;subst hP hw hK;obtain⟨f0,f1,f2,f3,f4,f5⟩:=hf it (by simp);have W:=Walks.range (prog:=X.prog) (w:=X.w) (I.ok.hd.1 hc) it lo 1 n;refine W.item i s _ _ hg st fun v h' tk hv st' kk=>?_;obtain⟨t,rfl⟩:=hv;have I1:Inv X pins σ H { s with heap:=h',toks:=tk }:=I.turned (fun b o hb e=>kk b o (by simpa using hb) e) f0 f1 f3 f4 f5;refine⟨_,rfl,mj (s:={ s with heap:=h',toks:=tk }) (n := "range_iterator") st' rfl rfl (by decide) ⟨.int (lo+i),H,I1,⟨t,?_⟩,⟨rfl,rfl⟩,st',fun b hb=>(hf b hb).1⟩⟩;rw[Int.mul_one]
 done:=by
  intro X hP hw hK hc i pins s σ H E I hf st hg;subst hP hw hK;obtain⟨f0,f1,f2,f3,f4,f5⟩:=hf it (by simp)
  exact wpAny_pyNext_range_end (I.ok.hd.1 hc) st (by have:n<=i:=hg;omega) fun h' eb=>⟨rfl,I.turned (t':=s.toks) (fun b o hb e=>eb b o hb e) f0 f1 f3 f4 f5⟩
 self:=fun _ _ _ _ _ st h=>wpAny_pyIter_rangeiter st h
section
variable{X:Cx}{tg:Expr}
def qB{pins:List (Addr × Obj)}{σ:St}{H:Hp}{s:Shared}{R:It->Hp->Prop}{E:Value->Shared->Prop}{lo hi:Int}{t u v:Tok}{tk:Nat}(I:Inv X pins σ H s)(h1:-(2 ^ 62)<=lo)(h2:lo<2 ^ 62)(h3:-(2 ^ 62)<=hi)(h4:hi<2 ^ 62)
 (q:R (Itr lo (hi-lo).toNat) H):wpAny (model X.prog X.w) X.A (pyIter (.ref s.heap.objs.size)) (PIE X pins σ tg R) E { s with heap:=s.heap.push { cls:=.type "range",data:=.fields #[.int lo t,.int hi u,.int 1 v] },toks:=tk }:=by
 refine wpAny_pyIter_range (IsRange.new ..) (small_one h1 h2 h3 h4) ?_;have I1:Inv X pins σ H { s with heap:=s.heap.push { cls:=.type "range",data:=.fields #[.int lo t,.int hi u,.int 1 v] },toks:=tk }:=I.kept fun b o e=>Heap.get?_push_of_some _ e
 refine⟨(s.heap.push { cls:=.type "range",data:=.fields #[.int lo t,.int hi u,.int 1 v] }).objs.size,[(s.heap.push { cls:=.type "range",data:=.fields #[.int lo t,.int hi u,.int 1 v] }).objs.size],_,_,H,rfl,
  I1.kept (t':=tk) fun b o e=>Heap.get?_push_of_some _ e,ud _ lo (hi-lo).toNat,?_,fun b hb=>?_,q⟩
 ·have e1:lo+((0:Nat):Int)*1=lo:=by simp
  have e2:(((hi-lo).toNat:Nat):Int)-((0:Nat):Int)=Builtin.Range.rangeSize lo hi 1:=by rw[rangeSize_one];split<;>omega
  show IsRangeIter _ _ (lo+((0:Nat):Int)*1) ((((hi-lo).toNat:Nat):Int)-((0:Nat):Int)) 1;rw[e1,e2];exact Heap.get?_push_size _ rfl
 ·have e:b=(s.heap.push { cls:=.type "range",data:=.fields #[.int lo t,.int hi u,.int 1 v] }).objs.size:=by simpa using hb
  subst e;exact I1.l6 (Nat.le_refl _) (I1.hok.fresh (Nat.le_refl _))
abbrev GF(ta:TA):TI:=fun σ H R=>ta σ H fun vs H1=>∃ j:Int,vs=[.int j]/\-(2 ^ 62)<=j/\j<2 ^ 62/\R (Itr 0 j.toNat) H1
abbrev GB(ta:TA):TI:=fun σ H R=>ta σ H fun vs H1=>∃ i j:Int,vs=[.int i,.int j]/\(-(2 ^ 62)<=i/\i<2 ^ 62/\-(2 ^ 62)<=j/\j<2 ^ 62)/\R (Itr i (j-i).toNat) H1
def x6{a:Expr}{ta:TA}{p pos:Pos}(hg:Gl X "range")(hm:X.mg "range" = none)(ha:PA X [a] ta)(hs:starEach [a] X.env=[(false,eval a X.env)]):PI X tg (.Call (.Name "range" p) [a] [] pos) (GF ta):=by
 intro pins s σ H R I h;refine Call_ (gG I hg hm boot_range (PyProof.Rows.callWith_type1 (thn (ha pos pins s σ H _ I h) fun us s1 ⟨vs,H1,I1,r1,q1⟩=>?_) hs rfl) (by decide) (by decide));obtain⟨j,e,q1,q2,q⟩:=q1;subst e
 cases r1 with
 |cons r rr=>
  cases rr;obtain⟨t,rfl⟩:=r;exact call_range_1 (qB I1 (by omega) (by omega) q1 q2 (by simpa using q))
def uY(hg:Gl X "range")(hm:X.mg "range" = none)(ha:PA X [a,b] ta)(hs:starEach [a,b] X.env=[(false,eval a X.env),(false,eval b X.env)])(hs2:starEach [b] X.env=[(false,eval b X.env)]) :
  PI X tg (.Call (.Name "range" p) [a,b] [] pos) (GB ta):=by
 intro pins s σ H R I h;refine Call_ (gG I hg hm boot_range (PyProof.Rows.callWith_type1 (thn (ha pos pins s σ H _ I h) fun us s1 ⟨vs,H1,I1,r1,q1⟩=>?_) (by rw[hs,hs2]) (by rw[hs2];rfl)) (by decide) (by decide));obtain⟨i,j,e,⟨q1,q2,q3,q4⟩,q⟩:=q1;subst e
 cases r1 with
 |cons r rr=>
  cases rr with
  |cons r' rr=>
   cases rr;obtain⟨t,rfl⟩:=r;obtain⟨t',rfl⟩:=r';exact call_range_2 (qB I1 q1 q2 q3 q4 q)
abbrev HM(wi:TI)(g:TG)(tb:TS):TS:=fun D σ H=>wi σ H fun J H1=>∃ W:Nat->Nat->St->Hp->Prop,(∃ m,W 0 m σ H1)/\∀ i m σ H,W i m σ H ->
 (J.stop i H/\D.nx σ H)\/(J.go i H/\∃ N:St->Hp->Prop,(∀ σ' H',N σ' H'->∃ m',m'<m/\W (i+1) m' σ' H')/\∀ x H',J.yld i H x H'->g x σ H' fun σ2 H2=>tb { D with nx:=N,ct:=N,bk:=D.nx } σ2 H2)
abbrev j9(fp:List Addr)(h:Heap):List (Addr × Obj):=fp.filterMap fun b=>(h.get? b).map fun o=>(b,o)
def gf(hb:b∈fp)(e:h.get? b=some o):(b,o)∈j9 fp h:=List.mem_filterMap.mpr ⟨b,hb,by rw[e];rfl⟩
def wb(hp:p∈j9 fp h):p.1∈fp/\h.get? p.1=some p.2:=by
 obtain⟨b,hb,e⟩:=List.mem_filterMap.mp hp
 cases q:h.get? b with
 | none=>rw[q]at e;cases e
 |some o=>
  rw[q]at e;have e':(b,o)=p:=Option.some.inj e;subst e';exact⟨hb,q⟩
def Inv.pinned(I:Inv X pins σ H s)(hf:∀ b∈fp,ja X pins H b)(ho:∀ b∈fp,∃ o,s.heap.get? b=some o/\∀ v,o.data≠.cell v):Inv X (pins++j9 fp s.heap) σ H s :=
 I.tu fun p hp=>(List.mem_append.mp hp).elim (fun z=>I.pin p (List.mem_append_right _ z)) fun z=>by
  obtain⟨hb,e⟩:=wb z;obtain⟨f0,f1,f2,_⟩:=hf p.1 hb;obtain⟨o,e',d⟩:=ho p.1 hb;rw[e]at e';cases e';exact⟨e,f0,f1,f2,d⟩
def Inv.iY(I:Inv X (pins++pl) σ H s):Inv X pins σ H s:=I.tu fun p hp=>I.pin p (List.mem_append_right _ (List.mem_append_left _ hp))
def Dx(hp:PassesOwn (model X.prog X.w) X.A X.env X.xe)(hc:X.calm=true)(hi:PI X tg iter wi)(hg:PG X tg g)(hb:PSs X body tb)
 (hs:∀ x,foldedSetIterable iter X.env x=pure x):PS X (.For tg iter body [] pos) (HM wi g tb):=by
 intro pins s σ H D I h;refine wpAny_For (thn (hi pins s σ H _ I h) fun v s1 h1=>thn h1 fun itv s2 h2=>?_) hs;obtain⟨it,fp,tn,J,H2,e,I2,T,st2,f2,W,⟨m0,w0⟩,turn⟩:=h2;subst e
 have stat:∀ {H':Hp},(∀ b∈fp,H' b=none)->∀ b∈fp,ja X pins H' b:=fun hn b hb=>⟨hn b hb,(f2 b hb).2⟩
 refine codeAny_forLoop_any (fun n s'=>∃ i σ' H',Inv X pins σ' H' s'/\tn i s'.heap/\(∀ b∈fp,H' b=none)/\W i n σ' H') ?_ m0 ⟨0,σ,H2,I2,st2,fun b hb=>(f2 b hb).1,w0⟩;rintro n s3 ⟨i,σ3,H3,I3,st3,fr3,w3⟩
 rcases turn i n σ3 H3 w3 with⟨stop,qn⟩ | ⟨go,N,hN,step⟩
 ·refine wpAny_passesOwn hp (thn (T.done X rfl rfl rfl hc i pins s3 σ3 H3 X.xe I3 (stat fr3) st3 stop) fun r s4 ⟨hr,I4⟩=>?_);subst hr;exact wpAny_execs_nil ⟨σ3,H3,I4,qn⟩
 ·refine wpAny_passesOwn hp (thn (T.item X rfl rfl rfl hc i pins s3 σ3 H3 X.xe I3 (stat fr3) st3 go) fun r s4 ⟨u,hr,h4⟩=>?_);subst hr;refine wpAny_passesOwn hp (thn h4 fun _ s5 ⟨x,H5,I5,r5,y5,st5,fr5⟩=>?_);have I5':=I5.pinned (stat fr5) (T.obj _ _ st5);refine wpAny_passesOwn hp (thn (hg _ s5 σ3 H5 x u _ I5' r5 (step x H5 y5)) fun _ s6 ⟨σ6,H6,I6,q6⟩=>?_);refine wpAny_passesOwn hp (thn (hb _ s6 σ6 H6 _ I6 q6) fun f s7 q7=>?_)
  have again:∀ {σ7:St} {H7:Hp},Inv X (pins++j9 fp s5.heap) σ7 H7 s7->N σ7 H7->∃ m,m<n/\∃ i σ' H',Inv X pins σ' H' s7/\tn i s7.heap/\(∀ b∈fp,H' b=none)/\W i m σ' H':=fun {σ7 H7} I7 n7=>by
   obtain⟨m',hm,w7⟩:=hN σ7 H7 n7;refine⟨m',hm,i+1,σ7,H7,I7.iY,T.keep _ _ _ st5 fun b hb o e=>(I7.pin (b,o) (List.mem_append_right _ (List.mem_append_right _ (gf hb e)))).1,fun b hb=>?_,w7⟩;obtain⟨o,e,d⟩:=T.obj _ _ st5 b hb;exact(I7.pin (b,o) (List.mem_append_right _ (List.mem_append_right _ (gf hb e)))).2.1
  cases f with
  | next=>obtain⟨σ7,H7,I7,n7⟩:=q7;exact again I7 n7
  | cont=>obtain⟨σ7,H7,I7,n7⟩:=q7;exact again I7 n7
  | brk=>obtain⟨σ7,H7,I7,q7⟩:=q7;exact⟨σ7,H7,I7.iY,q7⟩
  | ret v=>obtain⟨x7,σ7,H7,I7,r7,q7⟩:=q7;exact⟨x7,σ7,H7,I7.iY,r7,q7⟩
end
@[reducible]noncomputable def R2:=V->V->Hp->VK->Prop
abbrev OpR(X:Cx)(f:Value->Value->Sem Value)(r:R2):Prop :=
 ∀ (pins:List (Addr × Obj)) (s:Shared) (σ:St) (H:Hp) (x y:V) (v u:Value) (Q:VK),Inv X pins σ H s->RelV x v->RelV y u->r x y H Q ->
  wpAny (model X.prog X.w) X.A (f v u) (EP X pins σ Q) X.xe s
abbrev UnR(X:Cx)(f:Value->Sem Value)(r:V->Hp->VK->Prop):Prop :=
 ∀ (pins:List (Addr × Obj)) (s:Shared) (σ:St) (H:Hp) (x:V) (v:Value) (Q:VK),Inv X pins σ H s->RelV x v->r x H Q ->
  wpAny (model X.prog X.w) X.A (f v) (EP X pins σ Q) X.xe s
abbrev aZ(X:Cx)(f:Value)(r:List V->Hp->VK->Prop):Prop :=
 ∀ (pins:List (Addr × Obj)) (s:Shared) (σ:St) (H:Hp) (xs:List V) (us:List Value) (Q:VK),Inv X pins σ H s->Vals xs us->r xs H Q ->
  wpAny (model X.prog X.w) X.A (call f us) (EP X pins σ Q) X.xe s
abbrev HZ(X:Cx)(r:V->Hp->(Bool->Hp->Prop)->Prop):Prop :=
 ∀ (pins:List (Addr × Obj)) (s:Shared) (σ:St) (H:Hp) (x:V) (v:Value) (Q:Bool->Hp->Prop),Inv X pins σ H s->RelV x v->r x H Q ->
  wpAny (model X.prog X.w) X.A (truthy v) (TP X pins σ Q) X.xe s
abbrev tOp(r:R2)(ta tb:TE):TE:=fun σ H Q=>ta σ H fun x H1=>tb σ H1 fun y H2=>r x y H2 Q
abbrev tUn(r:V->Hp->VK->Prop)(ta:TE):TE:=fun σ H Q=>ta σ H fun x H1=>r x H1 Q
abbrev rI(C:Int->Int->Prop)(g:Int->Int->V):R2:=fun x y H Q=>∃ i j,x=.int i/\y=.int j/\C i j/\Q (g i j) H
abbrev rI0(g:Int->Int->V):R2:=fun x y H Q=>∃ i j,x=.int i/\y=.int j/\Q (g i j) H
abbrev rU(g:Int->V):V->Hp->VK->Prop:=fun x H Q=>∃ i,x=.int i/\Q (g i) H
section
variable{X:Cx}{a b c:Expr}{ta tb tc:TE}{pos:Pos}
def yZ(ha:PE X a ta)(hb:PE X b tb){pins:List (Addr × Obj)}{s:Shared}{σ:St}{H:Hp}{R:V->V->Hp->Prop}(I:Inv X pins σ H s)
 (h:ta σ H fun x H1=>tb σ H1 fun y H2=>R x y H2){Q:Value->Shared->Prop}{f:Value->Value->Sem Value}
 (hf:∀ v u s2 x y H2,Inv X pins σ H2 s2->RelV x v->RelV y u->R x y H2->wpAny (model X.prog X.w) X.A (f v u) Q X.xe s2) :
  wpAny (model X.prog X.w) X.A (eval a X.env) (fun v s₁=>wpAny (model X.prog X.w) X.A (eval b X.env) (fun u s₂=>wpAny (model X.prog X.w) X.A (f v u) Q X.xe s₂) X.xe s₁) X.xe s:=by
 refine thn (ha pins s σ H _ I h) fun v s1 ⟨x,H1,I1,r1,q1⟩=>?_;refine thn (hb pins s1 σ H1 _ I1 q1) fun u s2 ⟨y,H2,I2,r2,q2⟩=>?_;exact hf v u s2 x y H2 I2 r1 r2 q2
def G8{op:Operator}{r:R2}(ho:OpR X (binaryOp op) r)(ha:PE X a ta)(hb:PE X b tb):PE X (.BinOp a op b pos) (tOp r ta tb):=by
 intro pins s σ H Q I h;exact wpAny_BinOp (yZ ha hb I h fun v u s2 x y H2 I2 rx ry q=>ho pins s2 σ H2 x y v u Q I2 rx ry q)
def zF(ho:UnR X (unaryOp op) r)(ha:PE X a ta):PE X (.UnaryOp op a pos) (tUn r ta):=by
 intro pins s σ H Q I h;exact UnaryOp_ (thn (ha pins s σ H _ I h) fun v s1 ⟨x,H1,I1,r1,q1⟩=>ho pins s1 σ H1 x v Q I1 r1 q1)
def opI{f:Value->Value->Sem Value}{C:Int->Int->Prop}{g:Int->Int->Int}
 (rule:∀ (i j:Int) (t u:Tok) (s:Shared) (Q:Value->Shared->Prop) (E:Value->Shared->Prop),C i j->Q (.int (g i j) s.toks) { s with toks:=s.toks+1 }->wpAny (model X.prog X.w) X.A (f (.int i t) (.int j u)) Q E s) :
  OpR X f (rI C fun i j=>.int (g i j)):=by
 intro pins s σ H x y v u Q I rx ry h;obtain⟨i,j,rfl,rfl,hc,q⟩:=h;obtain⟨t,rfl⟩:=rx;obtain⟨t',rfl⟩:=ry;exact rule i j t t' s _ _ hc ⟨.int (g i j),H,I.tok _,⟨_,rfl⟩,q⟩
def Fx{f:Value->Value->Sem Value}{g:Int->Int->Int}
 (rule:∀ (i j:Int) (t u:Tok) (s:Shared) (Q:Value->Shared->Prop) (E:Value->Shared->Prop),Q (.int (g i j) s.toks) { s with toks:=s.toks+1 }->wpAny (model X.prog X.w) X.A (f (.int i t) (.int j u)) Q E s) :
  OpR X f (rI0 fun i j=>.int (g i j)):=by
 intro pins s σ H x y v u Q I rx ry h;obtain⟨i,j,rfl,rfl,q⟩:=h;obtain⟨t,rfl⟩:=rx;obtain⟨t',rfl⟩:=ry;exact rule i j t t' s _ _ ⟨.int (g i j),H,I.tok _,⟨_,rfl⟩,q⟩
abbrev C1(i j:Int):Prop:=0<=j/\j<=1000000/\i.natAbs<2 ^ 64
abbrev tD(i j:Int):Prop:=(-(2 ^ 64)<i/\i<2 ^ 64)\/(-(2 ^ 64)<j/\j<2 ^ 64)
def tD.ok(h:tD i j):IntMulOk i j:=by
 rcases h with⟨h1,h2⟩ | ⟨h1,h2⟩
 ·exact .of_left (intBits_le_64 h1 h2)
 ·exact .of_right (intBits_le_64 h1 h2)
def CV:OpR X (binaryOp .Add) (rI0 fun i j=>.int (i+j)):=Fx fun _ _ _ _ _ _ _ q=>add_int q
def DG:OpR X (binaryOp .Sub) (rI0 fun i j=>.int (i-j)):=Fx fun _ _ _ _ _ _ _ q=>sub_int q
def DJ:OpR X (binaryOp .Mult) (rI tD fun i j=>.int (i*j)):=opI fun _ _ _ _ _ _ _ hc q=>mul_int q hc.ok
def DP:OpR X (binaryOp .Mod) (rI (fun _ j=>0<j) fun i j=>.int (i%j)):=opI fun i j _ _ _ _ _ hc q=>by
 have h1:(0:Int)<j:=hc;exact mod_int' (by omega) (by rw[Int.fmod_eq_emod_of_nonneg i (by omega)];exact q)
def DC:OpR X (binaryOp .Pow) (rI C1 fun i j=>.int (i ^ j.toNat)):=opI fun _ _ _ _ _ _ _ hc q=>pow_int_small hc.1 hc.2.1 hc.2.2 q
def unI{f:Value->Sem Value}{g:Int->Int}
 (rule:∀ (i:Int) (t:Tok) (s:Shared) (Q:Value->Shared->Prop) (E:Value->Shared->Prop),Q (.int (g i) s.toks) { s with toks:=s.toks+1 }->wpAny (model X.prog X.w) X.A (f (.int i t)) Q E s) :
  UnR X f (rU fun i=>.int (g i)):=by
 intro pins s σ H x v Q I rx h;obtain⟨i,rfl,q⟩:=h;obtain⟨t,rfl⟩:=rx;exact rule i t s _ _ ⟨.int (g i),H,I.tok _,⟨_,rfl⟩,q⟩
def x3:UnR X (unaryOp .USub) (rU fun i=>.int (-i)):=unI fun _ _ _ _ _ q=>neg_int q
end
abbrev Hq:V->V->Bool
 | .non,.non=>true | .non,.int _=>true | .int _,.non=>true | .non,.bl _=>true | .bl _,.non=>true | .non,.str _=>true | .str _,.non=>true
 | .int _,.int _=>true | .bl _,.bl _=>true | .str _,.str _=>true | .byt _,.byt _=>true
 | .int _,.str _=>true | .str _,.int _=>true | .bl _,.str _=>true | .str _,.bl _=>true
 | _,_=>false
abbrev rNe:R2:=fun x y H Q=>Hq x y=true/\Q (.bl (!decide (x=y))) H
def Br:decide (V.int i=V.int j)=(i == j):=by
 rw[Bool.eq_iff_iff];simp
def Cz:decide (V.bl i=V.bl j)=(i == j):=by
 rw[Bool.eq_iff_iff];simp
def BR:decide (V.str i=V.str j)=(i == j):=by
 rw[Bool.eq_iff_iff];simp
def BA:decide (V.byt i=V.byt j)=(i.toList == j.toList):=by
 rw[Bool.eq_iff_iff];cases i;cases j;simp
section
variable{X:Cx}{a b c:Expr}{ta tb tc:TE}{pos:Pos}
def bL(I:Inv X pins σ H s)(q:Q (.bl k) H)(e:k=k'):EP X pins σ Q (.bool k') s:=by
 subst e;exact⟨.bl k,H,I,rfl,q⟩
def G4:OpR X (compareOp .NotEq) rNe:=by
 intro pins s σ H x y v u Q I rx ry h;obtain⟨hs,q⟩:=h
 cases x with
 |non=>
  cases rx
  cases y with
  | non=>cases ry;exact PySem.EqNone.ne_none_none (bL I q (by simp))
  | bl j=>cases ry;exact PySem.EqNone.ne_none_bool (bL I q (by simp))
  | int j=>obtain⟨t',rfl⟩:=ry;exact PySem.EqNone.ne_none_int (bL I q (by simp))
  | str j=>obtain⟨t',rfl⟩:=ry;exact PySem.EqNone.ne_none_str (bL I q (by simp))
  | _=>exact absurd (show false=true from hs) Bool.false_ne_true
 |bl i=>
  cases rx
  cases y with
  | non=>cases ry;exact PySem.EqNone.ne_bool_none (bL I q (by simp))
  | bl j=>cases ry;exact ne_bool (bL I q (congrArg not Cz))
  | str j=>obtain⟨t',rfl⟩:=ry;exact PySem.EqMixed.ne_bool_str (bL I q (by simp))
  | _=>exact absurd (show false=true from hs) Bool.false_ne_true
 |int i=>
  obtain⟨t,rfl⟩:=rx
  cases y with
  | non=>cases ry;exact PySem.EqNone.ne_int_none (bL I q (by simp))
  | int j=>obtain⟨t',rfl⟩:=ry;exact ne_int (bL I q (congrArg not Br))
  | str j=>obtain⟨t',rfl⟩:=ry;exact PySem.EqMixed.ne_int_str (bL I q (by simp))
  | _=>exact absurd (show false=true from hs) Bool.false_ne_true
 |str i=>
  obtain⟨t,rfl⟩:=rx
  cases y with
  | non=>cases ry;exact PySem.EqNone.ne_str_none (bL I q (by simp))
  | bl j=>cases ry;exact PySem.EqMixed.ne_str_bool (bL I q (by simp))
  | int j=>obtain⟨t',rfl⟩:=ry;exact PySem.EqMixed.ne_str_int (bL I q (by simp))
  | str j=>obtain⟨t',rfl⟩:=ry;exact ne_str (bL I q (congrArg not BR))
  | _=>exact absurd (show false=true from hs) Bool.false_ne_true
 |byt i=>
  obtain⟨t,rfl⟩:=rx
  cases y with
  | byt j=>obtain⟨t',rfl⟩:=ry;exact PySem.W.ne_bytes (bL I q (congrArg not BA))
  | _=>exact absurd (show false=true from hs) Bool.false_ne_true
 | _=>cases y<;>exact absurd (show false=true from hs) Bool.false_ne_true
def DF:OpR X (compareOp .Is) (fun x y H Q=>y=.non/\Q (.bl (decide (x=.non))) H):=by
 intro pins s σ H x y v u Q I rx ry h;obtain⟨rfl,q⟩:=h;cases ry;refine is_none_gen (bL I q ?_)
 cases x<;>first
  | (cases rx;rfl)
  | (obtain⟨t,rfl⟩:=rx;rfl)
def Bc:OpR X (compareOp .IsNot) (fun x y H Q=>y=.non/\Q (.bl (!decide (x=.non))) H):=by
 intro pins s σ H x y v u Q I rx ry h;obtain⟨rfl,q⟩:=h;cases ry;refine isnot_none_gen (bL I q ?_)
 cases x<;>first
  | (cases rx;rfl)
  | (obtain⟨t,rfl⟩:=rx;rfl)
def OpR.or(h:OpR X f r)(h':OpR X f r'):OpR X f (fun x y H Q=>r x y H Q\/r' x y H Q):=by
 intro pins s σ H x y v u Q I rx ry q;rcases q with q | q
 ·exact h pins s σ H x y v u Q I rx ry q
 ·exact h' pins s σ H x y v u Q I rx ry q
def qX(b:Expr)(h:op≠.In)(h2:op≠.NotIn):behindInMarks op b=false:=by
 have e1:(op == CmpOp.In)=false:=by cases op<;>first | rfl | exact absurd rfl h
 have e2:(op == CmpOp.NotIn)=false:=by cases op<;>first | rfl | exact absurd rfl h2
 cases b<;>simp[behindInMarks,e1,e2]
def nh{op:CmpOp}{r:R2}(ho:OpR X (compareOp op) r)(ha:PE X a ta)(hb:PE X b tb)(hm:behindInMarks op b=false):PE X (.Compare a [op] [b] pos) (tOp r ta tb):=by
 intro pins s σ H Q I h;exact wpAny_Compare1 (yZ ha hb I h fun v u s2 x y H2 I2 rx ry q=>ho pins s2 σ H2 x y v u Q I2 rx ry q) hm
abbrev zO(t:TE):TT:=fun σ H Q=>t σ H fun x H'=>∃ k,x=.bl k/\Q k H'
def ke(ho:OpR X (compareOp op) r)(ha:PE X a ta)(hb:PE X b tb)(hm:behindInMarks op b=false):PT X (.Compare a [op] [b] pos) (zO (tOp r ta tb)):=by
 intro pins s σ H Q I h
 refine wpAny_isTrue_Compare1 (thn (ha pins s σ H _ I h) fun v s1 ⟨x,H1,I1,r1,q1⟩=>thn (hb pins s1 σ H1 _ I1 q1) fun u s2 ⟨y,H2,I2,r2,q2⟩ =>
  thn (ho pins s2 σ H2 x y v u _ I2 r1 r2 q2) fun c s3 ⟨z,H3,I3,r3,k,e,q3⟩=>?_) hm
 subst e;cases r3;exact wpAny_truthy_bool ⟨H3,I3,q3⟩
abbrev pO(r r':R2)(ta tb tc:TE):TE:=fun σ H Q=>ta σ H fun x H1=>tb σ H1 fun y H2=>r x y H2 fun z H3=>∃ k,z=.bl k /\
 (if k=true then tc σ H3 fun w' H4=>r' y w' H4 Q else Q (.bl false) H3)
def yx(ho:OpR X (compareOp op) r)(ho':OpR X (compareOp op') r')(ha:PE X a ta)(hb:PE X b tb)(hc:PE X c tc)
 (hm:lastMarks [op,op'] [b,c]=false):PE X (.Compare a [op,op'] [b,c] pos) (pO r r' ta tb tc):=by
 intro pins s σ H Q I h
 refine Compare_chain (thn (ha pins s σ H _ I h) fun v s1 ⟨x,H1,I1,r1,q1⟩=>chain_link (thn (hb pins s1 σ H1 _ I1 q1) fun u s2 ⟨y,H2,I2,r2,q2⟩ =>
  thn (ho pins s2 σ H2 x y v u _ I2 r1 r2 q2) fun d s3 ⟨z,H3,I3,r3,k,e,q3⟩=>?_)) hm
 subst e;cases r3;refine wpAny_truthy_bool ?_
 cases k with
 | false=>exact ite_ff ⟨.bl false,H3,I3,rfl,q3⟩
 | true=>exact ite_tt (chain_last (thn (hc pins s3 σ H3 _ I3 q3) fun w' s4 ⟨z',H4,I4,r4,q4⟩=>ho' pins s4 σ H4 y z' u w' Q I4 r2 r4 q4))
def xK(ho:OpR X (compareOp op) r)(ho':OpR X (compareOp op') r')(ha:PE X a ta)(hb:PE X b tb)(hc:PE X c tc)
 (hm:lastMarks [op,op'] [b,c]=false):PT X (.Compare a [op,op'] [b,c] pos) (zO (pO r r' ta tb tc)):=by
 intro pins s σ H Q I h
 refine isTrue_chain (thn (ha pins s σ H _ I h) fun v s1 ⟨x,H1,I1,r1,q1⟩=>test_link (thn (hb pins s1 σ H1 _ I1 q1) fun u s2 ⟨y,H2,I2,r2,q2⟩ =>
  thn (ho pins s2 σ H2 x y v u _ I2 r1 r2 q2) fun d s3 ⟨z,H3,I3,r3,k,e,q3⟩=>?_)) hm
 subst e;cases r3;refine wpAny_truthy_bool ?_
 cases k with
 |false=>
  obtain⟨k',e',q'⟩:=q3;cases e';exact ite_ff ⟨H3,I3,q'⟩
 |true=>
  refine ite_tt (test_last (thn (hc pins s3 σ H3 _ I3 q3) fun w' s4 ⟨z',H4,I4,r4,q4⟩=>thn (ho' pins s4 σ H4 y z' u w' _ I4 r2 r4 q4) fun d' s5 ⟨z2,H5,I5,r5,k2,e2,q5⟩=>?_));subst e2;cases r5;exact wpAny_truthy_bool ⟨H5,I5,q5⟩
abbrev tL(K:PySem.W.Frag)(x:V)(H:Hp)(k:Bool):Prop :=
 match x with
 | .non=>k=false
 | .bl b=>k=b
 | .int i=>k=(i != 0)
 | .str y=>y.length<=sizeLine/\k=((y.length:Int) != 0)
 | .byt y=>y.size<=sizeLine/\k=((y.size:Int) != 0)
 | .ref p=>(∃ xs,SqL K H p xs/\k=!xs.isEmpty)\/(∃ xs,SqT K H p xs/\k=!xs.isEmpty)\/∃ kvs,H p=some (.dK kvs)/\k=!kvs.isEmpty
 | _=>False
def uN(r:KV kvs vs):(!vs.isEmpty)=!kvs.isEmpty:=by
 cases r<;>rfl
def m5(r:Vals xs its):(!its.toArray.isEmpty)=!xs.isEmpty:=by
 cases r<;>simp
def iC:(sizeLine:Nat)<2 ^ 63:=by rw[sizeLine_eq];decide
def vc:HZ X (fun x H Q=>∃ k,tL X.K x H k/\Q k H):=by
 intro pins s σ H x v Q I rx h;obtain⟨k,e,q⟩:=h;have hl:=iC;have hs:sizeLine=16777216:=sizeLine_eq
 cases x with
 |non=>
  cases rx;have e':k=false:=e;subst e';exact truthy_none ⟨H,I,q⟩
 |bl b=>
  cases rx;have e':k=b:=e;subst e';exact wpAny_truthy_bool ⟨H,I,q⟩
 |int i=>
  obtain⟨t,rfl⟩:=rx;have e':k=(i != 0):=e;subst e';exact PySem.P.truthy_int ⟨H,I,q⟩
 |str y=>
  obtain⟨t,rfl⟩:=rx;obtain⟨hy,e'⟩:y.length<=sizeLine/\k=((y.length:Int) != 0):=e;subst e';exact PySem.P.truthy_str (by omega) ⟨H,I.tok _,q⟩
 |byt y=>
  obtain⟨t,rfl⟩:=rx;obtain⟨hy,e'⟩:y.size<=sizeLine/\k=((y.size:Int) != 0):=e;subst e';exact PySem.W.truthy_bytes (by omega) ⟨H,I.tok _,q⟩
 |ref p=>
  cases rx;have e':(∃ xs,SqL X.K H p xs/\k=!xs.isEmpty)\/(∃ xs,SqT X.K H p xs/\k=!xs.isEmpty)\/∃ kvs,H p=some (.dK kvs)/\k=!kvs.isEmpty:=e
  rcases e' with⟨xs,hx,e'⟩ | ⟨xs,hx,e'⟩ | ⟨kvs,hx,e'⟩
  ·subst e';obtain⟨its,r,pl,hz⟩:=I.list hx;have hlen:=r.length;exact wpAny_truthy_list pl.isList (by simp only[List.size_toArray];omega) ⟨H,I.tok _,by rw[m5 r];exact q⟩
  ·subst e';obtain⟨its,r,pl,hz⟩:=I.tuple hx;have hlen:=r.length;exact truthy_tuple pl (by simp only[List.size_toArray];omega) ⟨H,I.tok _,by rw[m5 r];exact q⟩
  ·subst e';obtain⟨hz,hS,vs,r,m⟩:kvs.length<=sizeLine/\(p == sysModules)=false/\∃ vs,KV kvs vs/\s.heap.DictOf (bQ X.prog X.w) p vs:=I.hok p _ hx;have hlen:kvs.length=vs.length:=Paired.length r;exact wpAny_truthy_dict hS m (by omega) ⟨H,I.tok _,by rw[uN r];exact q⟩
 | _=>exact(show False from e).elim
def ym(ha:PE X a ta)(he:∀ whole,isTrue a X.env whole=(do let v <- whole;standAt a.pos;holding [v] (truthy v))) :
  PT X a (fun σ H Q=>ta σ H fun x H'=>∃ k,tL X.K x H' k/\Q k H'):=by
 intro pins s σ H Q I h;exact isTrue_plain (thn (ha pins s σ H _ I h) fun v s1 ⟨x,H1,I1,r1,q1⟩=>vc pins s1 σ H1 x v Q I1 r1 q1) (he _)
def u9:OpR X (binaryOp .Add) (fun x y H Q=>∃ i j,x=.str i/\y=.str j/\i.length+j.length<=sizeLine/\Q (.str (i++j)) H):=by
 intro pins s σ H x y v u Q I rx ry h;obtain⟨i,j,rfl,rfl,hz,q⟩:=h;obtain⟨t,rfl⟩:=rx;obtain⟨t',rfl⟩:=ry;exact add_str (fun t' tk=>⟨.str (i++j),H,I.tok _,⟨_,rfl⟩,q⟩) hz
def vals1(r:Vals [x] us):∃ u,us=[u]/\RelV x u:=by
 cases r with
 | cons r1 r2=>cases r2;exact⟨_,rfl,r1⟩
def vals2(r:Vals [x,y] us):∃ u w',us=[u,w']/\RelV x u/\RelV y w':=by
 cases r with
 |cons r1 r2=>
  cases r2 with
  | cons r3 r4=>cases r4;exact⟨_,_,rfl,r1,r3⟩
def wg(hc:X.calm=true):aZ X (.builtin "max") (fun xs H Q=>∃ i j,xs=[.int i,.int j]/\Q (.int (if j > i then j else i)) H):=by
 intro pins s σ H xs us Q I r h;obtain⟨i,j,rfl,q⟩:=h;obtain⟨u,w',rfl,⟨t,rfl⟩,⟨t',rfl⟩⟩:=vals2 r
 refine max_two_ints (I.ok.hd.1 hc) fun h' tk k=>⟨_,H,I.kept k,?_,q⟩
 by_cases hj:j > i
 ·rw[if_pos hj,if_pos hj];exact⟨_,rfl⟩
 ·rw[if_neg hj,if_neg hj];exact⟨_,rfl⟩
def xy(hc:X.calm=true):aZ X (.builtin "min") (fun xs H Q=>∃ i j,xs=[.int i,.int j]/\Q (.int (if j<i then j else i)) H):=by
 intro pins s σ H xs us Q I r h;obtain⟨i,j,rfl,q⟩:=h;obtain⟨u,w',rfl,⟨t,rfl⟩,⟨t',rfl⟩⟩:=vals2 r
 refine min_two_ints (I.ok.hd.1 hc) fun h' tk k=>⟨_,H,I.kept k,?_,q⟩
 by_cases hj:j<i
 ·rw[if_pos hj,if_pos hj];exact⟨_,rfl⟩
 ·rw[if_neg hj,if_neg hj];exact⟨_,rfl⟩
def xu:aZ X (.type "int") (fun xs H Q=>(∃ i,xs=[.int i]/\Q (.int i) H)\/∃ k,xs=[.bl k]/\Q (.int (if k then 1 else 0)) H):=by
 intro pins s σ H xs us Q I r h
 rcases h with⟨i,rfl,q⟩ | ⟨k,rfl,q⟩
 ·obtain⟨u,rfl,t,rfl⟩:=vals1 r;exact call_int_int ⟨.int i,H,I,⟨_,rfl⟩,q⟩
 ·obtain⟨u,rfl,r1⟩:=vals1 r;cases r1;exact call_int_bool ⟨.int (if k then 1 else 0),H,I.tok _,⟨_,rfl⟩,q⟩
abbrev Co(K:PySem.W.Frag)(x:V)(H:Hp)(n:Nat):Prop :=
 match x with
 | .str y=>y.length<=sizeLine/\n=y.length
 | .byt y=>y.size<=sizeLine/\n=y.size
 | .ref p=>(∃ xs,SqL K H p xs/\n=xs.length)\/∃ xs,SqT K H p xs/\n=xs.length
 | _=>False
def yE:aZ X (.builtin "len") (fun xs H Q=>∃ x n,xs=[x]/\Co X.K x H n/\Q (.int n) H):=by
 intro pins s σ H xs us Q I r h;obtain⟨x,n,rfl,e,q⟩:=h;obtain⟨u,rfl,rx⟩:=vals1 r;have hl:=iC;have hs:sizeLine=16777216:=sizeLine_eq
 cases x with
 |str y=>
  obtain⟨t,rfl⟩:=rx;obtain⟨hy,e'⟩:y.length<=sizeLine/\n=y.length:=e;subst e';exact len_str (by omega) ⟨.int _,H,I.tok _,⟨_,rfl⟩,q⟩
 |byt y=>
  obtain⟨t,rfl⟩:=rx;obtain⟨hy,e'⟩:y.size<=sizeLine/\n=y.size:=e;subst e';exact PySem.W.len_bytes (by omega) ⟨.int _,H,I.tok _,⟨_,rfl⟩,q⟩
 |ref p=>
  cases rx;have e':(∃ xs,SqL X.K H p xs/\n=xs.length)\/∃ xs,SqT X.K H p xs/\n=xs.length:=e
  rcases e' with⟨xs,hx,e'⟩ | ⟨xs,hx,e'⟩
  ·subst e';obtain⟨its,r',pl,hz⟩:=I.list hx;have hlen:=r'.length;exact Calls.call_len_list pl.isList (by simp only[List.size_toArray];omega) ⟨.int xs.length,H,I.tok _,⟨_,by simp only[List.size_toArray];rw[hlen]⟩,q⟩
  ·subst e';obtain⟨its,r',pl,hz⟩:=I.tuple hx;have hlen:=r'.length;exact len_tuple pl (by simp only[List.size_toArray];omega) ⟨.int xs.length,H,I.tok _,⟨_,by simp only[List.size_toArray];rw[hlen]⟩,q⟩
 | _=>exact(show False from e).elim
end
structure yC(h:Heap)(x dx C:Addr)(mA:Str->Option Value):Prop where
 obj:h.get? x=some (PySem.W.instObj C dx)
 ns:h.Ns1 dx mA
 ne:dx≠x
def wo{h:Heap}(n:h.Ns1 dx mA):∃ od,h.get? dx=some od/\∀ name,PySem.W.lookIn name od=some (mA name):=by
 obtain⟨o,es,ep,ho,hd,hk,_,hm⟩:=n;refine⟨o,ho,fun name=>?_⟩;have e:=hm name;unfold nsFind findBy at e;rw[<-Array.find?_toList]at e;unfold PySem.W.lookIn;rw[hd];dsimp only;split
 ·rename_i y q;rw[q]at e;exact congrArg some e
 ·rename_i q;rw[q]at e
  have a:es.toList.any (·.refKey)=false:=by
   rw[List.any_eq_false];intro y hy;obtain⟨z,t,hkey⟩:=hk y (Array.mem_toList_iff.mp hy);simp[DictEntry.refKey,hkey]
  have a':¬ es.toList.any (·.refKey)=true:=by rw[a];exact Bool.false_ne_true
  rw[if_neg a'];exact congrArg some e
def yC.look(I:yC h x dx C mA):∃ od,PySem.W.InstAt h x (PySem.W.instObj C dx) C (some od)/\∀ name,PySem.W.lookIn name od=some (mA name) :=
 let ⟨od,ho,hl⟩:=wo I.ns
 ⟨od,⟨I.obj,rfl,rfl,ho⟩,hl⟩
section
variable{prog:Program}{w:World}{A:Around}{E:Value->Shared->Prop}{s:Shared}{K:PySem.W.Frag}{x dx C f:Addr}{mA:Str->Option Value}{name:Str}{v:Value}
end
def gY.some_of(r:gY (some v) o):∃ u,o=some u/\RelV v u:=by
 cases o with
 | none=>exact(show False from r).elim
 | some u=>exact⟨u,rfl,r⟩
section
variable{P:Program}{w:World}{H H':Hp}{h h':Heap}{a C dx:Addr}{fs fs':List (Str × V)}
def AX(hok:HOk P w H h)(e:H a=some (.ins C dx fs)):∃ mA,yC h a dx C mA/\(∀ f,gY (fs.lookup f) (mA f))/\PySem.Within mA (fs.map (·.1))/\fs.length<=1000/\H dx=some (.own a):=by
 obtain⟨d,z,ne,ob,mA,n,r,q⟩:=(show bj P w H h a (.ins C dx fs)from hok a _ e)
 exact⟨mA,⟨ob,n,ne⟩,r,q,z,d⟩
end
structure Cls(K:PySem.W.Frag)(C:Addr):Prop where
 pg:PySem.W.plainGet K C Str.empty=true
 hd:PySem.W.hasDictIn K C=true
 po:PySem.W.plainOver K C=true
 sa:PySem.W.findIn K (.ref C) "__setattr__" = some (some (.builtin "object.__setattr__"))
def Cls.get{K:PySem.W.Frag}(c:Cls K C)(f:Str):PySem.W.plainGet K C f=true:=c.pg
section
variable{X:Cx}{pins:List (Addr × Obj)}{σ:St}{H:Hp}{s:Shared}{a C dx:Addr}{fs:List (Str × V)}{f:Str}{v:V}{A:Around}{E:Value->Shared->Prop}
end
section
variable{X:Cx}{o e value:Expr}{f:Str}{pos pos' tpos:Pos}{ta tv:TE}
end
section
variable{X:Cx}{pins:List (Addr × Obj)}{σ:St}{H:Hp}{s:Shared}{A:Around}{E:Value->Shared->Prop}{Q:Value->Shared->Prop}{c:Value}{b:Bool}
inductive eG (K:PySem.W.Frag) (H:Hp):V->Value->Prop where
 | non:eG K H .non (.type "NoneType")
 | bl (x:Bool):eG K H (.bl x) (.type "bool")
 | int (i:Int):eG K H (.int i) (.type "int")
 | str (x:Str):eG K H (.str x) (.type "str")
 | flt (x:UInt64):eG K H (.flt x) (.type "float")
 | lst {a:Addr} {xs:List V} (e:H a=some (.lst xs)):eG K H (.ref a) (.type "list")
 | frz {a:Addr} {o:Obj} {xs:List V} (e:H a=some (.frz o (.lst xs))):eG K H (.ref a) (.type "list")
 | tup {a:Addr} {xs:List V} (e:H a=some (.tup xs)):eG K H (.ref a) (.type "tuple")
 | dK {a:Addr} {kvs:List (Key × V)} (e:H a=some (.dK kvs)):eG K H (.ref a) (.type "dict")
 | dT {a:Addr} {kvs:List (List Key × V)} (e:H a=some (.dT kvs)):eG K H (.ref a) (.type "dict")
 | ins {a C dx:Addr} {fs:List (Str × V)} (e:H a=some (.ins C dx fs)) (cl:Cls K C) (ha:PySem.W.findIn K (.ref C) "__class__" = some (some (.builtin "object.__class__")))
   (hn:PySem.W.specialIn K (.builtin "object.__class__") "__get__" = some (some (.builtin "getset_descriptor.__get__"))) (htk:PySem.W.takesIn K (.builtin "object.__class__")=some true)
   (hm:PySem.W.mroIn K C (.type "object")=some true):eG K H (.ref a) (.ref C)
def wt(I:Inv X pins σ H s)(rx:RelV x u)(ty:eG X.K H x t)(e:PySem.W.kitOne X.K t c=some b)(h:∀ tk,Q (.bool b) { s with toks:=tk }) :
  wpAny (model X.prog X.w) A (call (.builtin "isinstance") [u,c]) Q E s:=by
 cases ty with
 | non=>cases(show u=Value.none from rx);exact PySem.W.kia_one PySem.W.kitx_none I.kIn True.intro e (fun z=>nomatch z) h
 | bl y=>cases(show u=Value.bool y from rx);exact PySem.W.kia_one PySem.W.kitx_bool I.kIn True.intro e (fun z=>nomatch z) h
 | int i=>obtain⟨t,q⟩:=(show ∃ t,u=Value.int i t from rx);cases q;exact PySem.W.kia_one PySem.W.kitx_int I.kIn True.intro e (fun z=>nomatch z) h
 | str y=>obtain⟨t,q⟩:=(show ∃ t,u=Value.str y t from rx);cases q;exact PySem.W.kia_one PySem.W.kitx_str I.kIn True.intro e (fun z=>nomatch z) h
 | flt y=>obtain⟨t,q⟩:=(show ∃ t,u=Value.float y t from rx);cases q;exact PySem.W.kia_one PySem.W.kitx_float I.kIn True.intro e (fun z=>nomatch z) h
 |@lst a xs ea=>
  cases(show u=Value.ref a from rx)
  obtain⟨_,_,n,_,h1⟩:=(show bj X.prog X.w H s.heap a (.lst xs)from I.hok a _ ea)
  exact PySem.W.kia_one PySem.W.kitx_list I.kIn ⟨_,h1,rfl⟩ e (fun z=>nomatch z) h
 |@frz a ob xs ea=>
  cases(show u=Value.ref a from rx)
  obtain⟨_,_,_,n,_,h1⟩:=(show bj X.prog X.w H s.heap a (.frz ob (.lst xs))from I.hok a _ ea)
  exact PySem.W.kia_one PySem.W.kitx_list I.kIn ⟨_,h1,rfl⟩ e (fun z=>nomatch z) h
 |@tup a xs ea=>
  cases(show u=Value.ref a from rx)
  obtain⟨_,_,_,p⟩:=(show bj X.prog X.w H s.heap a (.tup xs)from I.hok a _ ea)
  obtain⟨o,h1,h2,_⟩:=p;exact PySem.W.kia_one PySem.W.kitx_tuple I.kIn ⟨o,h1,h2⟩ e (fun z=>nomatch z) h
 |@dK a kvs ea=>
  cases(show u=Value.ref a from rx)
  obtain⟨_,_,vs,_,p⟩:=(show bj X.prog X.w H s.heap a (.dK kvs)from I.hok a _ ea)
  obtain⟨o,es,ep,h1,h2,_⟩:=p;exact PySem.W.kia_one PySem.W.kitx_dict I.kIn ⟨o,h1,h2.1⟩ e (fun z=>nomatch z) h
 |@dT a kvs ea=>
  cases(show u=Value.ref a from rx)
  obtain⟨_,_,xs,_,o,es,ep,h1,h2,_⟩:=(show bj X.prog X.w H s.heap a (.dT kvs)from I.hok a _ ea)
  exact PySem.W.kia_one PySem.W.kitx_dict I.kIn ⟨o,h1,h2.1⟩ e (fun z=>nomatch z) h
 |@ins a C dx fs ea cl ha hn htk hm=>
  cases(show u=Value.ref a from rx);obtain⟨mA,O,_⟩:=AX I.hok ea;obtain⟨od,J,_⟩:=O.look;exact PySem.W.kia_one (PySem.W.kitx_own (cl.get _) cl.hd ha hn htk hm) I.kIn J e (fun z=>nomatch z) h
end
structure dN(k:Nat)(A:Around):Prop where
 hd:A.handled=none
 dp:A.depth+3*k+5<recursionLimit
 un:A.units+16*k+200<cLine
def dN.deeper(r:dN (k+1) A)(env:Env):dN k (A.deeper env) :=
 ⟨r.hd,by have:=r.dp;show A.depth+1+3*k+5<_;omega,by have:=r.un;show A.units+3+16*k+200<_;omega⟩
def dN.depth(r:dN k A):A.depth<recursionLimit:=by have:=r.dp;omega
abbrev ue:TA:=fun _ H Q=>Q [] H
abbrev iX(ta:TE)(tr:TA):TA:=fun σ H Q=>ta σ H fun x H1=>tr σ H1 fun xs H2=>Q (x::xs) H2
section
variable{X:Cx}{e:Expr}{es:List Expr}{te:TE}{t:TA}{pos:Pos}
def cP:PA X [] ue:=fun _ _ _ _ H Q I h=>Calls.spliced_nil ⟨[],H,I,.nil,h⟩
def bx(ha:PE X e te)(hr:PA X es t)(hs:starEach (e::es) X.env=(false,eval e X.env)::starEach es X.env):PA X (e::es) (iX te t):=by
 intro pos pins s σ H Q I h;rw[hs];show wpAny _ _ (spliced ((false,eval e X.env)::backTo pos (starEach es X.env))) _ _ s;refine Calls.spliced_cons (thn (ha pins s σ H _ I h) fun u s1 ⟨x,H1,I1,r1,q1⟩=>?_)
 exact thn (hr pos pins s1 σ H1 _ I1 q1) fun us s2 ⟨xs,H2,I2,r2,q2⟩=>⟨x::xs,H2,I2,.cons r1 r2,q2⟩
abbrev Ht(t:TA):TE:=fun σ H Q=>t σ H fun xs H1=>xs.length<=sizeLine/\∀ p,H1 p=none->Q (.ref p) (upd H1 p (.tup xs))
abbrev HE(t:TA):TE:=fun σ H Q=>t σ H fun xs H1=>xs.length<=sizeLine/\∀ p,H1 p=none->Q (.ref p) (upd H1 p (.lst xs))
def CW(h:PA X es t):PE X (.Tuple es x1 pos) (Ht t):=by
 intro pins s σ H Q I hq;refine wpAny_Tuple_spliced (thn (h pos pins s σ H _ I hq) fun us s1 ⟨xs,H1,I1,r,z,q⟩=>⟨by rw[<-r.length];exact z,?_⟩);have hf:H1 s1.heap.objs.size=none:=I1.hok.fresh (Nat.le_refl _);refine⟨.ref s1.heap.objs.size,upd H1 s1.heap.objs.size (.tup xs),I1.laid (t':=s1.toks) (fun b u e=>Heap.get?_push_of_some _ e) (Nat.le_refl _) ?_,rfl,q _ hf⟩;exact⟨z,us,r,⟨_,Heap.get?_push_size _ rfl,rfl,_,rfl⟩⟩
def DT(h:PA X es t):PE X (.List es pos) (HE t):=by
 intro pins s σ H Q I hq;refine wpAny_List_spliced (thn (h pos pins s σ H _ I hq) fun us s1 ⟨xs,H1,I1,r,z,q⟩=>⟨by rw[<-r.length];exact z,?_⟩);have hf:H1 s1.heap.objs.size=none:=I1.hok.fresh (Nat.le_refl _);refine⟨.ref s1.heap.objs.size,upd H1 s1.heap.objs.size (.lst xs),I1.laid (t':=s1.toks) (fun b u e=>Heap.get?_push_of_some _ e) (Nat.le_refl _) ?_,rfl,q _ hf⟩;exact⟨z,us,0,r,Heap.get?_push_size _ rfl⟩
end
@[reducible]noncomputable def Sp:=List V->Hp->VK->XK->Prop
@[reducible]noncomputable def CXT:=List Env->Hp->Shared->XK->Value->Shared->Prop
structure uy(P:Program)(w:World)(K:PySem.W.Frag)(mg:Str->Option Value)(base:Heap)(A:Around)(outer:List Env)(s:Shared)(H:Hp):Prop where
 frames:A.frames=some outer
 mod:Mod K mg base
 bs:∀ b o,base.get? b=some o->s.heap.get? b=some o/\H b=none
 bsz:base.objs.size<=s.heap.objs.size
 hU:s.heap.FunFrames base outer
 frf:∀ b∈frs outer,H b=none
 hok:HOk P w H s.heap
 bare:AllBare s.gens
abbrev CE(outer:List Env)(P:Program)(w:World)(H:Hp)(s:Shared)(Q:VK)(u:Value)(s':Shared):Prop :=
 ∃ v H',s'.os=s.os/\AllBare s'.gens/\Un (frs outer) [] H H' s.heap s'.heap/\HOk P w H' s'.heap/\RelV v u/\Q v H'
abbrev CR(CX:CXT)(outer:List Env)(P:Program)(w:World)(H:Hp)(s:Shared)(Q:VK)(E:XK)(r:Result)(s':Shared):Prop :=
 match r with
 | .ok (.ret u)=>CE outer P w H s Q u s'
 | .ok _=>False
 | .error e=>CX outer H s E e s'
structure iA(P:Program)(w:World)(K:PySem.W.Frag)(mg:Str->Option Value)(base:Heap)(CX:CXT)(k:Nat)(f:Addr)(fd:FuncData)(ps:List Str)(sp:Sp):Prop where
 len:∀ vs H Q E,sp vs H Q E->vs.length=ps.length
 run:∀ (A:Around) (outer:List Env) (s:Shared) (H:Hp) (args:Args) (us:List Value) (vs:List V) (Q:VK) (E:XK),dN k A->uy P w K mg base A outer s H->BindsTo s fd args (ps.zip us)->Vals vs us->sp vs H Q E ->
  codeAny (model P w) A (.call (.ref f) args) (CR CX outer P w H s Q E) s
section
variable{X:Cx}{pins:List (Addr × Obj)}{σ:St}{H:Hp}{s s':Shared}
def Inv.Ie(I:Inv X pins σ H s):uy X.prog X.w X.K X.mg X.base X.A X.stack s H :=
 ⟨I.ok.frames,I.ok.mod,I.bs,Nat.le_trans I.ok.bsz I.sz,I.stack,I.t5,I.hok,I.bare⟩
def Inv.after(I:Inv X pins σ H s)(h:CE X.stack X.prog X.w H s Q u s'):EP X pins σ Q u s':=by
 obtain⟨v,H',os,bare,un,hok,r,q⟩:=h;obtain⟨hh,g,d,t,os'⟩:=s';obtain rfl:os'=s.os:=os;exact⟨v,H',I.call (h':=hh) (g':=g) (d':=d) (t':=t) (ch:=[]) un hok bare (fun b z=>absurd z (by simp)),r,q⟩
end
abbrev zQ(sp:Sp)(dvs:List V)(E:XK)(t:TA):TE:=fun σ H Q=>t σ H fun vs H1=>sp (vs++dvs) H1 Q E
abbrev Binds(K:PySem.W.Frag)(fd:FuncData)(ps:List Str)(ds:List Value):Prop :=
 ∀ (s:Shared) (us:List Value),K.In s.heap->(us++ds).length=ps.length->BindsTo s fd ⟨us,[]⟩ (ps.zip (us++ds))
def Binds.all{K:PySem.W.Frag}(h:∀ us:List Value,us.length=ps.length->bindArgs fd ⟨us,[]⟩=pure (ps.zip us)):Binds K fd ps []:=fun s us _ hl=>by
 rw[List.append_nil]at hl ⊢;exact .of_eq (h us hl)
abbrev Passes(CX:CXT)(X:Cx)(E:XK):Prop:=∀ (pins:List (Addr × Obj)) (σ:St) (H:Hp) (s:Shared) (e:Value) (s':Shared),Inv X pins σ H s->CX X.stack H s E e s'->X.xe e s'
section
variable{X:Cx}{CX:CXT}{k:Nat}{f C:Addr}{fd:FuncData}{ps:List Str}{sp:Sp}{dvs:List V}{ds:List Value}{E:XK}{x m:Str}{p pos apos:Pos}{e o:Expr}{es:List Expr}{ta:TE}{t:TA}
def DD(F:iA X.prog X.w X.K X.mg X.base CX k f fd ps sp)(hr:dN k X.A)(hb:Binds X.K fd ps ds)(hd:Vals dvs ds)(hx:Passes CX X E)
 (I:Inv X pins σ H s)(r:Vals vs us)(h:sp (vs++dvs) H Q E):wpAny (model X.prog X.w) X.A (call (.ref f) us) (EP X pins σ Q) X.xe s:=by
 have r2:Vals (vs++dvs) (us++ds):=r.append hd
 have hl:(us++ds).length=ps.length:=by rw[<-r2.length];exact F.len _ _ _ _ h
 refine wpAny_call (codeAny_mono (F.run X.A X.stack s H ⟨us,[]⟩ (us++ds) (vs++dvs) Q E hr I.Ie (hb s us I.kIn hl) r2 h) fun r s' hq=>?_)
 cases r with
 | error e=>exact hx pins σ H s e s' I hq
 |ok fl=>
  cases fl with
  | ret u=>exact I.after hq
  | next=>exact False.elim hq
  | brk=>exact False.elim hq
  | cont=>exact False.elim hq
def sv(F:iA X.prog X.w X.K X.mg X.base CX k f fd ps sp)(hr:dN k X.A)(hg:Gl X x)(hm:X.mg x=some (.ref f))(hk:PySem.W.keepIn X.K (.ref f)=true)(hb:Binds X.K fd ps ds)(hd:Vals dvs ds)(hx:Passes CX X E)
 (ha:PA X (e::es) t)(hdb:(x == ("__debug__" : Str))=false)(he:starEach (e::es) X.env=(false,eval e X.env)::starEach es X.env)(hpl:(backTo pos (starEach es X.env)).any (·.1)=false) :
  PE X (.Call (.Name x p) (e::es) [] pos) (zQ sp dvs E t):=by
 intro pins s σ H Q I h;refine wpAny_Call_Name_kw (sN I hg hm ?_ hdb);refine PySem.W.callWith_K (h₀:=X.base) I.ok.mod.kin hk (thn (ha pos pins s σ H _ I h) fun us s1 ⟨vs,H1,I1,r,q⟩=>⟨I1.kIn,?_⟩) he hpl;exact DD F hr hb hd hx I1 r q
end
section
variable{X:Cx}{CX:CXT}{k:Nat}{f C:Addr}{fd:FuncData}{ps ks:List Str}{sp:Sp}{E:XK}{x m:Str}{p pos apos kpos:Pos}{e o:Expr}{es:List Expr}{kws:List Keyword}{te ta:TE}{t tk:TA}{nm:Option Str}
variable{g:List Value->List Value->List Value}{gV:List V->List V->List V}
end
structure kH(N P:List Str)(sc:Scope):Prop where
 kind:sc.kind=.function
 co:sc.isCoroutine=false
 gen:sc.isGenerator=false
 nd:N.Nodup
 pre:N.take P.length=P
 par:∀ x∈P,sc.names.lookup x=some .local\/sc.names.lookup x=some .cell
 Fc:∀ y∈sc.names,y.2≠.free
def oi{kindOf:Str->Option NameKind}:∀ {binds:List (Str × Value)} {m:Str->Option Value},(∀ v,(x,v)∉binds)->bindL kindOf binds m x=m x
 | [],_,_=>rfl
 | (n,v)::r,m,h=>by
  unfold bindL;rw[oi fun w hw=>h w (List.mem_cons_of_mem _ hw)];split
  ·have:x≠n:=by rintro rfl;exact h v List.mem_cons_self
   simp[this]
  ·rfl
def oa{kindOf:Str->Option NameKind}:∀ {binds:List (Str × Value)} {m:Str->Option Value},(∀ v,(x,v)∉binds)->bindC kindOf binds m x=m x
 | [],_,_=>rfl
 | (n,v)::r,m,h=>by
  unfold bindC;rw[oa fun w hw=>h w (List.mem_cons_of_mem _ hw)];split
  ·rfl
  ·have:x≠n:=by rintro rfl;exact h v List.mem_cons_self
   simp[this]
def nI{kindOf:Str->Option NameKind}:∀ {P:List Str} {vs:List Value} {i:Nat} {m:Str->Option Value},P.Nodup->P[i]?=some x->vs[i]?=some v->kindOf x=some .local ->
  bindL kindOf (P.zip vs) m x=some v
 | [],_,_,_,_,h,_,_=>by simp at h
 | _::_,[],_,_,_,_,h,_=>by simp at h
 | p::P,w::vs,0,m,nd,h1,h2,hk=>by
  simp at h1 h2;subst h1;subst h2;show bindL kindOf ((p,w)::P.zip vs) m p=_;unfold bindL;rw[oi fun v hv=>(List.nodup_cons.mp nd).1 (List.of_mem_zip hv).1,if_pos hk];simp
 | p::P,w::vs,i+1,m,nd,h1,h2,hk=>by
  show bindL kindOf ((p,w)::P.zip vs) m x=_;unfold bindL;exact nI (i:=i) (List.nodup_cons.mp nd).2 (by simpa using h1) (by simpa using h2) hk
def nM{kindOf:Str->Option NameKind}:∀ {P:List Str} {vs:List Value} {i:Nat} {m:Str->Option Value},P.Nodup->P[i]?=some x->vs[i]?=some v->kindOf x≠some .local ->
  bindC kindOf (P.zip vs) m x=some v
 | [],_,_,_,_,h,_,_=>by simp at h
 | _::_,[],_,_,_,_,h,_=>by simp at h
 | p::P,w::vs,0,m,nd,h1,h2,hk=>by
  simp at h1 h2;subst h1;subst h2;show bindC kindOf ((p,w)::P.zip vs) m p=_;unfold bindC;rw[oa fun v hv=>(List.nodup_cons.mp nd).1 (List.of_mem_zip hv).1,if_neg hk];simp
 | p::P,w::vs,i+1,m,nd,h1,h2,hk=>by
  show bindC kindOf ((p,w)::P.zip vs) m x=_;unfold bindC;exact nM (i:=i) (List.nodup_cons.mp nd).2 (by simpa using h1) (by simpa using h2) hk
abbrev start(N:List Str)(vs:List V):St:=vs.map some++List.replicate (N.length-vs.length) none
abbrev lC(CX:CXT)(P:Program)(w:World)(K:PySem.W.Frag)(mg:Str->Option Value)(base:Heap)(N:List Str)(qual:Str)(scope:Scope)(f:Addr)(cd:Value)(A:Around)(outer:List Env)(s:Shared)(H:Hp)(E:XK):Cx where
 prog:=P
 w:=w
 K:=K
 mg:=mg
 base:=base
 A:=A.deeper (envOfC qual scope s.heap.objs.size f cd)
 N:=N
 s₀:=s
 H₀:=H
 env:=envOfC qual scope s.heap.objs.size f cd
 outer:=outer
 stack:=envOfC qual scope s.heap.objs.size f cd::outer
 ex:=[]
 calm:=true
 fn:=fun _=>true
 pn:=[]
 xe:=fun e s'=>wpAny (model P w) (A.deeper (envOfC qual scope s.heap.objs.size f cd)) (leaving (envOfC qual scope s.heap.objs.size f cd) e) (fun _ s''=>CX outer H s E e s'') (fun e' s''=>CX outer H s E e' s'') s'
def qf{sc:Scope}(h:sc.names.lookup x=some .cell):∃ c,(cellsFrom n sc.names []).lookup x=some c:=by
 have q:=PySem.W.cellsFrom_some sc.names n [] (.inl h);exact Option.isSome_iff_exists.mp q
def vP{CX:CXT}{P:Program}{w:World}{K:PySem.W.Frag}{mg:Str->Option Value}{base:Heap}{N ps:List Str}{qual:Str}{scope:Scope}{f:Addr}{cd:Value}{A:Around}{outer:List Env}{s s1:Shared}{H:Hp}{E:XK}{us:List Value}{vs:List V}
 (S:kH N ps scope)(hd:A.handled=none)(e0:uy P w K mg base A outer s H)(hl:vs.length=ps.length)(r:Vals vs us)
 (x:InCallC s s.heap.objs.size (bindL (envOfC qual scope s.heap.objs.size f cd).kindOf (ps.zip us) fun _=>none) (cellsFrom (s.heap.objs.size+1) scope.names []) (bindC (envOfC qual scope s.heap.objs.size f cd).kindOf (ps.zip us) fun _=>none) s1) :
  Inv (lC CX P w K mg base N qual scope f cd A outer s H E) [] (start N vs) H s1:=by
 have hpl:ps.length<=N.length:=by have:=congrArg List.length S.pre;rw[List.length_take]at this;omega
 obtain⟨h1,tk,rfl,hk⟩:=x.done;have noA:∀ b:Addr,b∉(lC CX P w K mg base N qual scope f cd A outer s H E).ex:=fun b z=>absurd (show b∈([]:List Addr)from z) (by simp)
 refine⟨⟨e0.mod,S.kind,rfl,rfl,Nat.le_refl _,fun y z c h1 h2=>?_,fun y hy=>?_,fun y c _ h=>?_,⟨fun _=>hd,.inl hd⟩,Around.frames_deeper e0.frames,.inr ⟨rfl,rfl⟩,fun b z=>absurd z (noA b),e0.bs,e0.bsz,fun b _ _=>noA b,fun b z=>absurd z (noA b),e0.hU,e0.frf⟩,
  rfl,e0.bare,Un.kept hk,⟨_,x.toInCall.ns,fun i y v h1 h2 h3=>?_⟩,fun y c h=>⟨_,x.cell y c h⟩,e0.hok.fresh (Nat.le_refl _),fun y c h=>?_,fun p hp=>absurd (show p∈([]:List (Addr × Obj))from hp) (by simp),e0.hok.kept hk,?_⟩
 ·exact name_of_addr x.apart (PySem.mem_of_lookup h1) (PySem.mem_of_lookup h2)
 ·have hy:scope.names.lookup y=some .cell\/scope.names.lookup y=some .free:=hy;rcases hy with hy | hy
  ·exact qf hy
  ·exact absurd rfl (S.Fc _ (PySem.mem_of_lookup hy))
 ·exact Nat.le_of_lt (x.above y c (PySem.mem_of_lookup h))
 ·have hi:i<vs.length:=by
   unfold start at h2;by_cases hi:i<vs.length
   ·exact hi
   ·rw[List.getElem?_append_right (by simpa using hi)]at h2;rw[List.getElem?_replicate]at h2;split at h2<;>cases h2
  have ha:vs[i]?=some v:=by
   unfold start at h2;rw[List.getElem?_append_left (by simpa using hi),List.getElem?_map]at h2
   cases e:vs[i]? with
   | none=>rw[e]at h2;cases h2
   | some a=>rw[e]at h2;cases h2;rfl
  obtain⟨u,hu,rv⟩:=r.get ha
  have hp:ps[i]?=some y:=by
   rw[<-S.pre,List.getElem?_take_of_lt (by omega)];exact h1
  have ndP:ps.Nodup:=by rw[<-S.pre];exact S.nd.sublist (List.take_sublist _ _)
  refine⟨u,rv,?_⟩;rcases S.par y (List.mem_of_getElem? hp)with k | k
  ·exact .inl ⟨k,nI ndP hp hu k⟩
  ·obtain⟨c,e⟩:=qf (n:=s.heap.objs.size+1) k;refine .inr ⟨.inl k,c,e,?_⟩;have q:=x.cell y c e;rw[nM ndP hp hu (by show scope.names.lookup y≠_;rw[k];decide)]at q;exact q
 ·exact e0.hok.fresh (Nat.le_of_lt (x.above y c (PySem.mem_of_lookup h)))
 ·unfold start;show _=N.length;rw[List.length_append,List.length_map,List.length_replicate];omega
def Gg{CX:CXT}{P:Program}{w:World}{K:PySem.W.Frag}{mg:Str->Option Value}{base:Heap}{k:Nat}{f:Addr}{name qual:Str}{params:Arguments}{body:List Stmt}{scope:Scope}{dV kV doc pm cdv ct oc:Value}{an od:Option Addr}
 {osl:Array (Option Value)}{N ps:List Str}{sp:Sp}(lk:K.lookup f=some ⟨oc,od,.func (PySem.W.fnOf name qual params body scope dV kV doc pm an cdv ct),osl⟩)(hcd:PySem.W.codeIn K cdv qual=true)(S:kH N ps scope)
 (len:∀ vs H Q E,sp vs H Q E->vs.length=ps.length)
 (hbody:∀ (A:Around) (outer:List Env) (s:Shared) (H:Hp) (vs:List V) (Q:VK) (E:XK),dN k (A.deeper (envOfC qual scope s.heap.objs.size f cdv))->sp vs H Q E ->
   ∃ t,PSs (lC CX P w K mg base N qual scope f cdv A outer s H E) body t/\t { nx:=fun _ H'=>Q .non H',rt:=Q } (start N vs) H) :
  iA P w K mg base CX (k+1) f (PySem.W.fnOf name qual params body scope dV kV doc pm an cdv ct) ps sp:=by
 refine⟨len,fun A outer s H args us vs Q E hr e0 hb r hsp=>?_⟩;have hl:=len _ _ _ _ hsp;have KX:K.In s.heap:=e0.mod.kin.keeps fun b o e=>(e0.bs b o e).1;have lim:s.heap.NoLimit:=e0.mod.nolimit.keeps fun b o e=>(e0.bs b o e).1
 have hkind:∀ y∈ps.zip us,scope.names.lookup y.1=some .local\/(scope.names.lookup y.1=some .cell/\((cellsFrom (s.heap.objs.size+1) scope.names []).lookup y.1).isSome=true):=fun⟨n,v⟩ hy=>by
  rcases S.par n (List.of_mem_zip hy).1 with q | q
  ·exact .inl q
  ·exact .inr ⟨q,PySem.W.cellsFrom_some _ _ _ (.inl q)⟩
 refine codeAny_call_function hr.depth (KX _ _ lk) rfl S.co S.gen rfl (PySem.W.codeRec_of KX hcd) (hb _ _ _ _ ?_);refine wpAny_newFunctionEnv_cells S.kind hkind fun env he s1 x=>?_;subst he;refine⟨lim.keeps x.toInCall.keep,codeAny_func ?_⟩;obtain⟨t,ht,hq⟩:=hbody A outer s H vs Q E (hr.deeper _) hsp;have I:Inv (lC CX P w K mg base N qual scope f cdv A outer s H E) [] (start N vs) H s1:=vP S hr.hd e0 hl r x;refine wpAny_mono (ht [] s1 (start N vs) H _ I hq) (fun fl s' hs=>?_) fun e s' hs=>hs
 have fin:∀ {σ':St} {H':Hp} {v:V} {u:Value},Inv (lC CX P w K mg base N qual scope f cdv A outer s H E) [] σ' H' s'->RelV v u->Q v H'->CE outer P w H s Q u s' :=
  fun {σ' H' v u} J rv q=>⟨v,H',J.os,J.bare,J.base,J.hok,rv,q⟩
 cases fl with
 |ret u=>
  obtain⟨v,σ',H',J,rv,q⟩:=hs;exact fin J rv q
 |next=>
  obtain⟨σ',H',J,q⟩:=hs;exact fin (v:=V.non) (u:=Value.none) J rfl q
 |brk=>
  obtain⟨_,_,_,q⟩:=hs;exact False.elim q
 |cont=>
  obtain⟨_,_,_,q⟩:=hs;exact False.elim q
section
variable{X:Cx}{x:Str}{p pos:Pos}{e:Expr}{es:List Expr}{t:TA}{id T:String}{r:List V->Hp->VK->Prop}
abbrev tCB(r:List V->Hp->VK->Prop)(t:TA):TE:=fun σ H Q=>t σ H fun vs H1=>r vs H1 Q
def fg(hc:aZ X (.builtin id) r)(hg:Gl X x)(hm:X.mg x=none)(hv:bootBuiltins x=some (.builtin id))(ha:PA X (e::es) t)(hn:x ≠ "__name__")(hdb:(x == ("__debug__" : Str))=false)
 (he:starEach (e::es) X.env=(false,eval e X.env)::starEach es X.env)(hpl:(backTo pos (starEach es X.env)).any (·.1)=false):PE X (.Call (.Name x p) (e::es) [] pos) (tCB r t):=by
 intro pins s σ H Q I h;refine wpAny_Call_Name_kw (gG I hg hm hv ?_ hn hdb);exact PyProof.Rows.callWith_builtin1 (thn (ha pos pins s σ H _ I h) fun us s1 ⟨vs,H1,I1,r1,q1⟩=>hc pins s1 σ H1 vs us Q I1 r1 q1) he hpl
def bV(hc:aZ X (.type T) r)(hg:Gl X x)(hm:X.mg x=none)(hv:bootBuiltins x=some (.type T))(ha:PA X (e::es) t)(hn:x ≠ "__name__")(hdb:(x == ("__debug__" : Str))=false)
 (he:starEach (e::es) X.env=(false,eval e X.env)::starEach es X.env)(hpl:(backTo pos (starEach es X.env)).any (·.1)=false):PE X (.Call (.Name x p) (e::es) [] pos) (tCB r t):=by
 intro pins s σ H Q I h;refine wpAny_Call_Name_kw (gG I hg hm hv ?_ hn hdb);exact PyProof.Rows.callWith_type1 (thn (ha pos pins s σ H _ I h) fun us s1 ⟨vs,H1,I1,r1,q1⟩=>hc pins s1 σ H1 vs us Q I1 r1 q1) he hpl
end
end L2
namespace HT
open PySem PyProof.Rows
section
open PySem.SeqAt
open PySem.AutoSeq1 (wpAny_loadPart')
open PySem.MeetsSeq PySem.MeetsSeq2 PySem.MeetsSeq3
end
section
variable{prog:Program}{w:World}{A:Around}{E:Value->Shared->Prop}{s:Shared}
def B5(ht:IsTup s.heap t vs.toArray)(hb:IsTup s.heap b ws.toArray)(hv:vs≠[])
 (h1:ws=[]->Q (.ref t) s)(h2:ws≠[]->Q (.ref s.heap.objs.size) { s with heap:=s.heap.push { cls:=.type "tuple",data:=.seq (vs++ws).toArray } })
 (hsz:vs.length+ws.length<=sizeLine):wpAny (model prog w) A (binaryOp .Add (.ref t) (.ref b)) Q E s:=by
 obtain⟨⟨cls,dd,data,sl⟩,ho,hc,n,hd⟩:=id ht;obtain⟨⟨cls2,dd2,data2,sl2⟩,ho2,hc2,n2,hd2⟩:=id hb;simp only at hc hd hc2 hd2;subst hc hd hc2 hd2
 have e:vs.toArray++ws.toArray=(vs++ws).toArray:=by simp
 by_cases hw:ws=[]
 ·exact concat_meets ⟨_,ho,rfl⟩ ⟨_,ho2,rfl⟩ noFill_tuple_add seq_tuple_add PySem.F.slot_tuple_add PySem.F.entry_tuple_add (PySem.F.args_tuple_add_2 _ _)
   (tuple_addW1 t b vs.toArray ws.toArray n n2 dd dd2 sl sl2 (by simpa using hv) (by simp[hw])) ⟨ho,ho2,h1 hw⟩
 ·refine concat_meets ⟨_,ho,rfl⟩ ⟨_,ho2,rfl⟩ noFill_tuple_add seq_tuple_add PySem.F.slot_tuple_add PySem.F.entry_tuple_add (PySem.F.args_tuple_add_2 _ _)
   (tuple_addW2 t b vs.toArray ws.toArray n n2 dd dd2 sl sl2 (by simpa using hv) (by simpa using hw) (by rw[List.size_toArray,List.size_toArray];exact hsz)) ⟨ho,ho2,?_⟩
  rw[e];exact h2 hw
abbrev sIx(n d:Nat):Option Int->Nat
 | none=>d
 | some v=>if v<0 then(v+(n:Int)).toNat else min v.toNat n
def zh(n d:Nat):sIx n d none=d:=rfl
def Cp(n d:Nat)(hd:d<=n)(o:Option Int):sIx n d o<=n:=by
 cases o with
 | none=>exact hd
 |some v=>
  show(if v<0 then(v+(n:Int)).toNat else min v.toNat n)<=n;by_cases hv:v<0
  ·rw[if_pos hv];omega
  ·rw[if_neg hv];exact Nat.min_le_right _ _
def k7(v:Int)(n d:Nat):(if v<0 then max (v+(n:Int)) 0 else min v (n:Int))=((sIx n d (some v):Nat):Int):=by
 show(if v<0 then max (v+(n:Int)) 0 else min v (n:Int))=(((if v<0 then(v+(n:Int)).toNat else min v.toNat n):Nat):Int);by_cases hv:v<0
 ·simp only[if_pos hv];omega
 ·simp only[if_neg hv];omega
def t9(lo hi:Option Int)(n:Nat):Builtin.Slice.sliceAdjust lo hi 1 (n:Int)=(((sIx n 0 lo:Nat):Int),((sIx n n hi:Nat):Int)):=by
 have h1:¬ ((1:Int)<0):=by omega
 unfold Builtin.Slice.sliceAdjust;simp only[h1,if_false];refine Prod.ext ?_ ?_
 ·cases lo with
  | none=>rfl
  | some v=>exact k7 v n 0
 ·cases hi with
  | none=>rfl
  | some v=>exact k7 v n n
def u7(i j:Nat):Builtin.Slice.slicePlaces (i:Int) (j:Int) 1=j-i:=by
 unfold Builtin.Slice.slicePlaces
 have h1:(1:Int) > 0:=by omega
 simp only[h1,if_true,Int.ediv_one];split<;>omega
def lP(p:IsPart v o)(h:Q o s):wpAny (model prog w) A (Builtin.Slice.slicePartIndex v) Q E s:=by
 cases p with
 | none=>exact slicePart_none h
 | int i t=>exact slicePart_int h
def kW{sl:Addr}{vl vu:Value}{lo hi:Option Int}{n:Nat}{Q:Int × Int × Nat->Shared->Prop}(hs:s.heap.IsSliceOf sl vl vu .none)(pl:IsPart vl lo)(pu:IsPart vu hi)
 (h:Q (((sIx n 0 lo:Nat):Int),1,sIx n n hi-sIx n 0 lo) s):wpAny (model prog w) A (Builtin.Slice.sliceApplied (.ref sl) (pure (n:Int))) Q E s:=by
 obtain⟨os,hos,hcs,hds⟩:=id hs;unfold Builtin.Slice.sliceApplied Builtin.Slice.sliceFields;refine wpAny_bind (wpAny_bind (wpAny_field hos hds (x:=vl) rfl (wpAny_bind (wpAny_field hos hds (x:=vu) rfl (wpAny_bind (wpAny_field hos hds (x:=.none) rfl (wpAny_pure ?_)))))));refine wpAny_bind (slicePart_none ?_);show wpAny _ _ (if((1:Int) == 0)=true then _ else _) _ _ s;rw[if_neg (by decide)];refine wpAny_bind (lP pl (wpAny_bind (lP pu (wpAny_bind (wpAny_pure ?_)))));show wpAny _ _ (match Builtin.Slice.sliceAdjust lo hi 1 (n:Int)with | (lo,hi)=>pure (lo,(1:Int),Builtin.Slice.slicePlaces lo hi 1)) _ _ s;rw[t9 lo hi n];show wpAny _ _ (pure (((sIx n 0 lo:Nat):Int),(1:Int),Builtin.Slice.slicePlaces ((sIx n 0 lo:Nat):Int) ((sIx n n hi:Nat):Int) 1)) _ _ s;rw[u7];exact wpAny_pure h
def yc(xs:Array Value)(i k:Nat):((List.range k).filterMap fun(m:Nat)=>xs[((i:Int)+(m:Int)*1).toNat]?).toArray=((xs.toList.drop i).take k).toArray:=by
 have e:(fun(m:Nat)=>xs[((i:Int)+(m:Int)*1).toNat]?)=fun m=>xs[i+m]?:=by
  funext m
  have:((i:Int)+(m:Int)*1).toNat=i+m:=by omega
  rw[this]
 rw[e];have:=pick_run xs i k;rw[List.filterMap_map]at this;have e2:((fun x=>xs[x]?) ∘ fun x=>i+x)=fun m=>xs[i+m]?:=rfl;rw[e2]at this;rw[this]
def kJ{t sl:Addr}{items:Array Value}{vl vu:Value}{lo hi:Option Int}{Q:Value->Shared->Prop}(ht:IsTup s.heap t items)(hs:s.heap.IsSliceOf sl vl vu .none)(pl:IsPart vl lo)(pu:IsPart vu hi)
 (hw:¬ (sIx items.size 0 lo=0/\sIx items.size items.size hi=items.size))
 (h:Q (.ref s.heap.objs.size) { s with heap:=s.heap.push { cls:=.type "tuple",data:=.seq ((items.toList.drop (sIx items.size 0 lo)).take (sIx items.size items.size hi-sIx items.size 0 lo)).toArray } })
 (hsz:items.size<=sizeLine):wpAny (model prog w) A (getItem (.ref t) (.ref sl)) Q E s:=by
 have htake:sizeOk (.seq ((items.toList.drop (sIx items.size 0 lo)).take (sIx items.size items.size hi-sIx items.size 0 lo)).toArray):=by
  show((items.toList.drop (sIx items.size 0 lo)).take (sIx items.size items.size hi-sIx items.size 0 lo)).toArray.size<=sizeLine;rw[List.size_toArray,List.length_take,List.length_drop,Array.length_toList];omega
 have hj:sIx items.size items.size hi<=items.size:=Cp _ _ (Nat.le_refl _) hi;obtain⟨os,hos,hcs,hds⟩:=id hs
 have hTs:s.TypeIs (.ref sl) "slice" := ⟨os,hos,hcs⟩
 unfold getItem
 try with_reducible refine wpAny_holding ?_
 first | refine wpAny_bind (wpAny_pure ?_) | skip
 refine wpAny_bind (wpAny_sequenceKey ht.typeIs (by decide) ?_)
 refine wpAny_bind (wpAny_callSpecial?_slot (name:=Str.ofString "__getitem__") ht.typeIs PyProof.Rows.slot_tuple_getitem
  (wpAny_call_entry PyProof.Rows.slot_tuple_getitem ht.typeIs entry_tuple_getitem ?_ (args_tuple_getitem _ _)))
 show wpAny _ _ (Builtin.Tuple.tupleItemsOf (.ref t) >>= _) _ _ s;refine wpAny_bind (tupleItemsOf_ ht ?_);refine wpAny_bind (wpAny_typeOf hTs ?_);rw[if_pos (by decide)];refine wpAny_bind (kW hs pl pu ?_)
 have hno:¬ ((((sIx items.size 0 lo:Nat):Int) == 0&&(1:Int) == 1&&(sIx items.size items.size hi-sIx items.size 0 lo) == items.size)=true):=by
  intro q;rw[Bool.and_eq_true,Bool.and_eq_true]at q;have q1:((sIx items.size 0 lo:Nat):Int)=0:=eq_of_beq q.1.1;have q2:sIx items.size items.size hi-sIx items.size 0 lo=items.size:=eq_of_beq q.2;exact hw ⟨by omega,by omega⟩
 show wpAny _ _ (if(((sIx items.size 0 lo:Nat):Int) == 0&&(1:Int) == 1&&(sIx items.size items.size hi-sIx items.size 0 lo) == items.size)=true then _ else _) _ _ s;rw[if_neg hno,yc]
 first
  | exact wpAny_bind (m:=Builtin.Tuple.tupleExact _) (wpAny_newObj_type (wpAny_pure ⟨_,rfl,wpAny_pure h⟩) htake)
  | exact wpAny_bind (m:=Builtin.Tuple.tupleExact _) (wpAny_newObj_type (wpAny_bind (wpAny_pure (wpAny_pure ⟨_,rfl,wpAny_pure h⟩))) htake)
  | exact wpAny_bind (wpAny_bind (m:=Builtin.Tuple.tupleExact _) (wpAny_newObj_type (wpAny_pure (wpAny_pure ⟨_,rfl,wpAny_pure h⟩)) htake))
  | exact wpAny_bind (wpAny_bind (m:=Builtin.Tuple.tupleExact _) (wpAny_newObj_type (wpAny_pure ⟨_,rfl,wpAny_pure h⟩) htake))
end
end HT
namespace L2
open PySem PySem.Spec PyProof.Rows
@[reducible]noncomputable def TO:=St->Hp->(Option Int->Hp->Prop)->Prop
abbrev PO(X:Cx)(e:Option Expr)(t:TO):Prop :=
 ∀ (pins:List (Addr × Obj)) (s:Shared) (σ:St) (H:Hp) (Q:Option Int->Hp->Prop),Inv X pins σ H s->t σ H Q ->
  wpAny (model X.prog X.w) X.A (evalPart e X.env) (fun u s'=>∃ o H',Inv X pins σ H' s'/\IsPart u o/\Q o H') X.xe s
abbrev AA:TO:=fun _ H Q=>Q none H
abbrev Gy(t:TE):TO:=fun σ H Q=>t σ H fun x H1=>∃ i,x=.int i/\Q (some i) H1
def intsAre_of:∀ {us:List Value},Vals (ns.map V.int) us->IntsAre us ns:=by
 induction ns with
 | nil=>intro us r;rw[List.map_nil]at r;cases r;exact .nil
 |cons n ns ih=>
  intro us r;rw[List.map_cons]at r
  cases r with
  |cons r1 r2=>
   obtain⟨t,e⟩:=r1;subst e;exact .cons n t (ih r2)
section
variable{X:Cx}{e:Expr}{te:TE}{lo hi:Option Expr}{tl th:TO}{pos p2:Pos}
def AB:PO X none AA:=by
 intro pins s σ H Q I h;rw[evalPart_none];exact wpAny_pure ⟨none,H,I,.none,h⟩
def BJ(h:PE X e te):PO X (some e) (Gy te):=by
 intro pins s σ H Q I hw;rw[evalPart_some];refine thn (h pins s σ H _ I hw) fun u s1 ⟨x,H1,I1,r1,q1⟩=>?_;obtain⟨i,rfl,q⟩:=q1;obtain⟨t,rfl⟩:=r1;exact⟨some i,H1,I1,.int i t,q⟩
abbrev SlR(X:Cx)(r:V->Option Int->Option Int->Hp->VK->Prop):Prop :=
 ∀ (pins:List (Addr × Obj)) (s:Shared) (σ:St) (H:Hp) (x:V) (v vl vu:Value) (lo hi:Option Int) (sl:Addr) (Q:VK),Inv X pins σ H s->RelV x v->s.heap.IsSliceOf sl vl vu .none->IsPart vl lo->IsPart vu hi->r x lo hi H Q ->
  ∃ T id,typeLookup (.type T) "__getitem__" = pure (some (.builtin id))/\s.TypeIs v T/\wpAny (model X.prog X.w) X.A (getItem v (.ref sl)) (EP X pins σ Q) X.xe s
def SlR.or(h:SlR X r)(h':SlR X r'):SlR X (fun x lo hi H Q=>r x lo hi H Q\/r' x lo hi H Q):=by
 intro pins s σ H x v vl vu lo hi sl Q I rx hs pl pu q;rcases q with q | q
 ·exact h pins s σ H x v vl vu lo hi sl Q I rx hs pl pu q
 ·exact h' pins s σ H x v vl vu lo hi sl Q I rx hs pl pu q
abbrev tSl(r:V->Option Int->Option Int->Hp->VK->Prop)(te:TE)(tl th:TO):TE:=fun σ H Q=>te σ H fun x H1=>tl σ H1 fun l H2=>th σ H2 fun u H3=>r x l u H3 Q
def zl(hr:SlR X r)(he:PE X e te)(hl:PO X lo tl)(hu:PO X hi th):PE X (.Subscript e (.Slice lo hi none p2) pos) (tSl r te tl th):=by
 intro pins s σ H Q I h;refine Subscript_ (thn (he pins s σ H _ I h) fun v s1 ⟨x,H1,I1,r1,q1⟩=>?_);refine wpAny_Slice (thn (hl pins s1 σ H1 _ I1 q1) fun vl s2 ⟨l,H2,I2,pl,q2⟩=>thn (hu pins s2 σ H2 _ I2 q2) fun vu s3 ⟨u,H3,I3,pu,q3⟩=>?_);rw[evalPart_none];refine wpAny_pure ?_;have I4:Inv X pins σ H3 { s3 with heap:=s3.heap.push { cls:=.type "slice",data:=.fields #[vl,vu,.none] } }:=I3.kept (t':=s3.toks) fun b ob q=>Heap.get?_push_of_some _ q;obtain⟨T,id,hT,ht,hg⟩:=hr pins { s3 with heap:=s3.heap.push { cls:=.type "slice",data:=.fields #[vl,vu,.none] } } σ H3 x v vl vu l u s3.heap.objs.size Q I4 r1 (Heap.IsSliceOf.new ..) pl pu q3;show wpAny (model X.prog X.w) X.A (subscriptTail e (.Slice lo hi none p2) v (.ref s3.heap.objs.size)) (EP X pins σ Q) X.xe { s3 with heap:=s3.heap.push { cls:=.type "slice",data:=.fields #[vl,vu,.none] } };exact tail_any (ops:=[.ref s3.heap.objs.size,v]) ht hT hg (by with_unfolding_all rfl)
abbrev jz(xs:List V)(lo hi:Option Int):List V:=(xs.drop (HT.sIx xs.length 0 lo)).take (HT.sIx xs.length xs.length hi-HT.sIx xs.length 0 lo)
def kN(xs:List V)(lo hi:Option Int):(jz xs lo hi).length<=xs.length:=by
 unfold jz;rw[List.length_take,List.length_drop];omega
abbrev Hg(K:PySem.W.Frag):V->Option Int->Option Int->Hp->VK->Prop:=fun x lo hi H Q=>∃ a xs,x=.ref a/\SqT K H a xs /\
 ¬ (HT.sIx xs.length 0 lo=0/\HT.sIx xs.length xs.length hi=xs.length)/\∀ p,H p=none->Q (.ref p) (upd H p (.tup (jz xs lo hi)))
def CJ:SlR X (Hg X.K):=by
 intro pins s σ H x v vl vu lo hi sl Q I rx hs pl pu h;obtain⟨a,xs,rfl,hx,hw,q⟩:=h;cases rx;obtain⟨its,r,ht,hz⟩:=I.tuple hx
 have hlen:its.toArray.size=xs.length:=by rw[List.size_toArray];exact r.length.symm
 refine⟨"tuple",_,PyProof.Rows.slot_tuple_getitem.lookup,ht.typeIs,?_⟩;refine HT.kJ ht hs pl pu (by rw[hlen];exact hw) ?_ (by rw[hlen];exact hz);rw[hlen];refine⟨.ref s.heap.objs.size,_,I.laid (t':=s.toks) (o:=.tup (jz xs lo hi)) (fun b ob q=>Heap.get?_push_of_some _ q) (Nat.le_refl _) ?_,rfl,q _ (I.hok.fresh (Nat.le_refl _))⟩;exact⟨Nat.le_trans (kN xs lo hi) hz,_,(r.drop (HT.sIx xs.length 0 lo)).take (HT.sIx xs.length xs.length hi-HT.sIx xs.length 0 lo),IsTup.new _ _⟩
abbrev Gs(K:PySem.W.Frag):R2:=fun x y H Q=>∃ a b xs ys,x=.ref a/\y=.ref b/\SqT K H a xs/\SqT K H b ys/\xs≠[]/\xs.length+ys.length<=sizeLine /\
 (ys=[]->Q (.ref a) H)/\(ys≠[]->∀ p,H p=none->Q (.ref p) (upd H p (.tup (xs++ys))))
def Vals.nj(r:Vals xs us):us=[]↔xs=[]:=by
 cases r with
 | nil=>simp
 | cons _ _=>simp
def Bz:OpR X (binaryOp .Add) (Gs X.K):=by
 intro pins s σ H x y v u Q I rx ry h;obtain⟨a,b,xs,ys,rfl,rfl,ha,hb,hx,hz,q1,q2⟩:=h;cases rx;cases ry;obtain⟨its,r1,p1,_⟩:=I.tuple ha;obtain⟨its2,r2,p2,_⟩:=I.tuple hb;refine HT.B5 p1 p2 (fun z=>hx (r1.nj.mp z)) (fun z=>⟨.ref a,H,I,rfl,q1 (r2.nj.mp z)⟩) (fun z=>?_) (by rw[<-r1.length,<-r2.length];exact hz);refine⟨.ref s.heap.objs.size,_,I.laid (t':=s.toks) (o:=.tup (xs++ys)) (fun b ob q=>Heap.get?_push_of_some _ q) (Nat.le_refl _) ?_,rfl,q2 (fun w=>z (r2.nj.mpr w)) _ (I.hok.fresh (Nat.le_refl _))⟩;exact⟨by rw[List.length_append];exact hz,_,r1.append r2,IsTup.new _ _⟩
end
abbrev ixN(n:Nat)(i:Int):Option Nat:=if 0<=i then(if i<n then some i.toNat else none)else if -(n:Int)<=i then some (i+n).toNat else none
abbrev atI(xs:List α)(i:Int):Option α:=(ixN xs.length i).bind fun j=>xs[j]?
def sM(h:ixN n i=some j):seqIndex? i n=some j/\j<n/\-(n:Int)<=i/\i<n:=by
 unfold ixN at h;by_cases h0:0<=i
 ·rw[if_pos h0]at h;by_cases h1:i<n
  ·rw[if_pos h1]at h;have e:i.toNat=j:=Option.some.inj h;exact⟨by rw[seqIndex_of h0 h1,e],by omega,by omega,h1⟩
  ·rw[if_neg h1]at h;cases h
 ·rw[if_neg h0]at h;by_cases h1:-(n:Int)<=i
  ·rw[if_pos h1]at h;have e:(i+n).toNat=j:=Option.some.inj h;exact⟨by rw[seqIndex_neg (by omega) h1,e],by omega,h1,by omega⟩
  ·rw[if_neg h1]at h;cases h
def mY(h:atI xs i=some v):∃ j,seqIndex? i xs.length=some j/\xs[j]?=some v/\j<xs.length/\-(xs.length:Int)<=i/\i<xs.length:=by
 unfold atI at h
 cases e:ixN xs.length i with
 | none=>rw[e]at h;cases h
 |some j=>
  rw[e]at h;obtain⟨h1,h2,h3,h4⟩:=sM e;exact⟨j,h1,h,h2,h3,h4⟩
abbrev sE(b:Expr):Prop:=∀ o i,subscripted b false o i=operate [o,i] (getItem o i)
abbrev IxR(X:Cx)(r:R2):Prop :=
 ∀ (value slice:Expr) (pins:List (Addr × Obj)) (s:Shared) (σ:St) (H:Hp) (x y:V) (v u:Value) (Q:VK),Inv X pins σ H s->RelV x v->RelV y u->r x y H Q ->
  subscripted slice false v u=operate [v,u] (getItem v u)->wpAny (model X.prog X.w) X.A (subscriptTail value slice v u) (EP X pins σ Q) X.xe s
abbrev MtR(X:Cx)(id:String)(r:V->List V->Hp->VK->Prop):Prop :=
 ∀ (pins:List (Addr × Obj)) (s:Shared) (σ:St) (H:Hp) (x:V) (xs:List V) (v:Value) (us:List Value) (Q:VK),Inv X pins σ H s->RelV x v->Vals xs us->r x xs H Q ->
  wpAny (model X.prog X.w) X.A (call (.builtin id) (v::us)) (EP X pins σ Q) X.xe s
section
variable{X:Cx}{a b:Expr}{ta tb:TE}{pos:Pos}
def IxR.or(h:IxR X r)(h':IxR X r'):IxR X (fun x y H Q=>r x y H Q\/r' x y H Q):=by
 intro value slice pins s σ H x y v u Q I rx ry q hs;rcases q with q | q
 ·exact h value slice pins s σ H x y v u Q I rx ry q hs
 ·exact h' value slice pins s σ H x y v u Q I rx ry q hs
def FD{r:R2}(hr:IxR X r)(ha:PE X a ta)(hb:PE X b tb)(hs:sE b):PE X (.Subscript a b pos) (tOp r ta tb):=by
 intro pins s σ H Q I h;exact Subscript_ (yZ ha hb I h fun v u s2 x y H2 I2 rx ry q=>hr a b pins s2 σ H2 x y v u Q I2 rx ry q (hs _ _))
abbrev Ei(K:PySem.W.Frag):R2:=fun x y H Q=>∃ p xs i v,x=.ref p/\y=.int i/\SqL K H p xs/\atI xs i=some v/\Q v H
abbrev Fm(K:PySem.W.Frag):R2:=fun x y H Q=>∃ p xs i v,x=.ref p/\y=.int i/\SqT K H p xs/\atI xs i=some v/\Q v H
abbrev Fq:R2:=fun x y H Q=>∃ z i c,x=.str z/\y=.int i/\z.length<=sizeLine/\atI z.cps.toList i=some c/\Q (.str ⟨#[c]⟩) H
def A9:IxR X (Ei X.K):=by
 intro value slice pins s σ H x y v u Q I rx ry h hs;obtain⟨p,xs,i,z,rfl,rfl,hq,he,q⟩:=h;cases rx;obtain⟨t,rfl⟩:=ry;obtain⟨its,r,pl,hz⟩:=I.list hq;obtain⟨j,h1,h2,h3,h4,h5⟩:=mY he;obtain⟨w,ew,rw'⟩:=r.get h2;have hl:=r.length;have hn:=iC
 have fin:EP X pins σ Q w s:=⟨z,H,I,rw',q⟩
 by_cases h0:0<=i
 ·have hj:i.toNat=j:=by
   rw[seqIndex_of h0 h5]at h1;exact Option.some.inj h1
  exact item_listR pl.isList h0 (by omega) (by rw[hj];simpa using ew) fin hs
 ·have hj:(i+(its.toArray.size:Int)).toNat=j:=by
   rw[seqIndex_neg (by omega) h4]at h1;rw[List.size_toArray,<-hl];exact Option.some.inj h1
  exact subscriptTail_builtinR (x:=w) pl.isList.typeIs slot_list_getitem.lookup
   (wpAny_getItem_list_neg (Q:=fun r s'=>r=w/\EP X pins σ Q r s') pl.isList (by omega) (by rw[List.size_toArray]<;>omega) (by omega) (by rw[hj];simpa using ew) ⟨rfl,fin⟩) hs
def dR:IxR X (Fm X.K):=by
 intro value slice pins s σ H x y v u Q I rx ry h hs;obtain⟨p,xs,i,z,rfl,rfl,hq,he,q⟩:=h;cases rx;obtain⟨t,rfl⟩:=ry;obtain⟨its,r,pl,hz⟩:=I.tuple hq;obtain⟨j,h1,h2,h3,h4,h5⟩:=mY he;obtain⟨w,ew,rw'⟩:=r.get h2;have hl:=r.length;have hn:=iC
 have fin:EP X pins σ Q w s:=⟨z,H,I,rw',q⟩
 exact subscriptTail_builtinR (x:=w) pl.typeIs slot_tuple_getitem.lookup
  (getItem_tuple (j:=j) (Q:=fun r s'=>r=w/\EP X pins σ Q r s') pl (by omega) (by omega) (by rw[List.size_toArray,<-hl];exact h1) (by simpa using ew) ⟨rfl,fin⟩) hs
def Ek:IxR X Fq:=by
 intro value slice pins s σ H x y v u Q I rx ry h hs;obtain⟨z,i,c,rfl,rfl,hz,he,q⟩:=h;obtain⟨t,rfl⟩:=rx;obtain⟨t',rfl⟩:=ry;obtain⟨j,h1,h2,h3,h4,h5⟩:=mY he
 have hl:z.cps.toList.length=z.length:=by simp[Str.length]
 rw[hl]at h1 h4 h5;have hn:=iC
 exact tail_any (typeIs_str s z t) slot_str_getitem.lookup (getItem_str (c:=c) (by
  have e1:decide (i < -(2 ^ 63:Int))=false:=decide_eq_false (by omega);have e2:decide (i≥2 ^ 63)=false:=decide_eq_false (by omega)
  rw[e1,e2,Bool.or_false]) (by rw[h1];simpa using h2) ⟨.str ⟨#[c]⟩,H,I.tok _,⟨_,rfl⟩,q⟩) hs
abbrev rIx(K:PySem.W.Frag):R2:=fun x y H Q=>Ei K x y H Q\/Fm K x y H Q\/Fq x y H Q
def Fv:IxR X (rIx X.K):=A9.or (dR.or Ek)
def t8(its:List Value)(n j:Nat)(u:Value):Obj.mapSeq (·.setIfInBounds j u) { cls:=.type "list",data:=.seq its.toArray n }={ cls:=.type "list",data:=.seq (its.set j u).toArray n }:=by
 simp[Obj.mapSeq]
def Inv.lst{pins:List (Addr × Obj)}{σ:St}{H:Hp}{s:Shared}{p:Addr}{xs:List V}(I:Inv X pins σ H s)(h:H p=some (.lst xs)) :
  ∃ (its:List Value) (n:Nat),Vals xs its/\s.heap.get? p=some { cls:=.type "list",data:=.seq its.toArray n }/\xs.length<=sizeLine:=by
 obtain⟨z,its,n,r,e⟩:=I.hok p _ h;exact⟨its,n,r,e,z⟩
def Inv.D7{pins:List (Addr × Obj)}{σ:St}{H:Hp}{s:Shared}{p:Addr}{xs ys:List V}{its its':List Value}{n n':Nat}{f:Obj->Obj}(I:Inv X pins σ H s)(h:H p=some (.lst xs))
 (ho:s.heap.get? p=some { cls:=.type "list",data:=.seq its.toArray n })(hf:f { cls:=.type "list",data:=.seq its.toArray n }={ cls:=.type "list",data:=.seq its'.toArray n' })(r:Vals ys its')(hz:ys.length<=sizeLine)(t:Nat) :
  Inv X pins σ (upd H p (.lst ys)) { s with heap:=s.heap.update p f,toks:=t }:=by
 have e:(s.heap.update p f).get? p=some { cls:=.type "list",data:=.seq its'.toArray n' }:=by
  rw[Heap.get?_update_self f ho (by rw[hf]<;>rfl),hf]
 refine I.write (x:=p) (e:=p) (by rw[h];trivial) (.inl rfl) (fun b u hb q=>(Heap.get?_update_other _ _ (Ne.symm hb)).trans q) ⟨_,e⟩ ?_;exact⟨hz,its',n',r,e⟩
abbrev uK:V->V->V->Hp->(Hp->Prop)->Prop:=fun o i v H Q=>∃ p xs k j,o=.ref p/\i=.int k/\H p=some (.lst xs)/\ixN xs.length k=some j/\Q (upd H p (.lst (xs.set j v)))
def set_list:Et X uK:=by
 intro pins s σ H o i v ov iv u Q I ro ri rv h;obtain⟨p,xs,k,j,rfl,rfl,hp,hj,q⟩:=h;cases ro;obtain⟨t,rfl⟩:=ri;obtain⟨its,n,r,ho,hz⟩:=I.lst hp;obtain⟨h1,h2,h3,h4⟩:=sM hj;have hl:=r.length;have hn:=iC
 have I':Inv X pins σ (upd H p (.lst (xs.set j v))) { s with heap:=s.heap.update p (Obj.mapSeq (·.setIfInBounds j u)) } :=
  I.D7 hp ho (t8 its n j u) (r.set rv j) (by rw[List.length_set];exact hz) s.toks
 by_cases h0:0<=k
 ·have hk:k.toNat=j:=by
   rw[seqIndex_of h0 h4]at h1;exact Option.some.inj h1
  exact PySem.W.ki_setAt ho h0 (by omega) (by rw[List.size_toArray,<-hl];exact h4) (by rw[hk];exact⟨_,I',q⟩)
 ·have hk:(k+(its.toArray.size:Int)).toNat=j:=by
   rw[seqIndex_neg (by omega) h3]at h1;rw[List.size_toArray,<-hl];exact Option.some.inj h1
  exact PySem.W.ki_setBack ho (by omega) (by rw[List.size_toArray,<-hl];exact h3) (by omega) (by rw[hk];exact⟨_,I',q⟩)
def pQ(lo hi:Option Int)(n:Nat):(sliceBounds lo hi none n).1=((HT.sIx n 0 lo:Nat):Int)/\(sliceBounds lo hi none n).2.1=((HT.sIx n n hi:Nat):Int)/\(sliceBounds lo hi none n).2.2=1:=by
 refine⟨?_,?_,rfl⟩
 ·cases lo with
  | none=>simp[sliceBounds,HT.sIx]
  |some i=>
   simp only[sliceBounds,HT.sIx,Option.getD_none,show(1:Int) > 0 by decide,if_true];by_cases h:i<0
   ·simp only[h,if_true]<;>omega
   ·simp only[h,if_false]<;>omega
 ·cases hi with
  | none=>simp[sliceBounds,HT.sIx]
  |some i=>
   simp only[sliceBounds,HT.sIx,Option.getD_none,show(1:Int) > 0 by decide,if_true];by_cases h:i<0
   ·simp only[h,if_true]<;>omega
   ·simp only[h,if_false]<;>omega
def oy(its:List Value)(lo hi:Option Int):slicePick its.toArray lo hi none=((its.drop (HT.sIx its.length 0 lo)).take (HT.sIx its.length its.length hi-HT.sIx its.length 0 lo)).toArray:=by
 obtain⟨h1,h2,h3⟩:=pQ lo hi its.toArray.size;unfold slicePick;rw[h1,h2,h3];simp only[sliceRange_one,pick_run,List.size_toArray]<;>rfl
abbrev HP(K:PySem.W.Frag):V->Option Int->Option Int->Hp->VK->Prop:=fun x lo hi H Q=>∃ a xs,x=.ref a/\SqL K H a xs/\∀ p,H p=none->Q (.ref p) (upd H p (.lst (jz xs lo hi)))
def BH:SlR X (HP X.K):=by
 intro pins s σ H x v vl vu lo hi sl Q I rx hs pl pu h;obtain⟨a,xs,rfl,hx,q⟩:=h;cases rx;obtain⟨its,r,ht,hz⟩:=I.list hx;have hlen:=r.length;refine⟨"list",_,slot_list_getitem.lookup,ht.isList.typeIs,?_⟩;refine wpAny_getItem_list_slice ht.isList hs pl pu .none (by simp) ?_ (by rw[List.size_toArray]<;>omega);rw[oy,<-hlen];refine⟨.ref s.heap.objs.size,_,I.laid (t':=s.toks) (o:=.lst (jz xs lo hi)) (fun b ob q=>Heap.get?_push_of_some _ q) (Nat.le_refl _) ?_,rfl,q _ (I.hok.fresh (Nat.le_refl _))⟩;exact⟨Nat.le_trans (kN xs lo hi) hz,_,0,(r.drop (HT.sIx xs.length 0 lo)).take (HT.sIx xs.length xs.length hi-HT.sIx xs.length 0 lo),Heap.get?_push_size _ rfl⟩
abbrev fz:V->Bool
 | .non=>true
 | .bl _=>true
 | .int _=>true
 | .str _=>true
 | _=>false
abbrev eqV:V->V->Bool
 | .non,.non=>true
 | .bl a,.bl b=>a == b
 | .bl a,.int b=>(if a then 1 else 0) == b
 | .int a,.bl b=>a == (if b then 1 else 0)
 | .int a,.int b=>a == b
 | .str a,.str b=>a == b
 | _,_=>false
def Dq(ry:RelV y u)(rx:RelV x v)(fy:fz y=true)(fx:fz x=true):SeqAt.EqAt A s u v (eqV y x):=by
 cases y with
 |non=>
  cases ry
  cases x with
  | non=>cases rx;exact SeqAt.EqAt.same _
  | bl b=>cases rx;exact SeqAt.EqAt.none_bool b
  | int b=>obtain⟨t,rfl⟩:=rx;exact SeqAt.EqAt.none_int b t
  | str b=>obtain⟨t,rfl⟩:=rx;exact SeqAt.EqAt.none_str b t
  | _=>exact absurd (show false=true from fx) Bool.false_ne_true
 |bl a=>
  cases ry
  cases x with
  | non=>cases rx;exact SeqAt.EqAt.bool_none a
  | bl b=>cases rx;exact SeqAt.EqAt.bool_bool a b
  | int b=>obtain⟨t,rfl⟩:=rx;exact SeqAt.EqAt.bool_int a b t
  | str b=>obtain⟨t,rfl⟩:=rx;exact SeqAt.EqAt.bool_str a b t
  | _=>exact absurd (show false=true from fx) Bool.false_ne_true
 |int a=>
  obtain⟨t',rfl⟩:=ry
  cases x with
  | non=>cases rx;exact SeqAt.EqAt.int_none a t'
  | bl b=>cases rx;exact SeqAt.EqAt.int_bool a t' b
  | int b=>obtain⟨t,rfl⟩:=rx;exact SeqAt.EqAt.int_int a t' b t
  | str b=>obtain⟨t,rfl⟩:=rx;exact SeqAt.EqAt.int_str a t' b t
  | _=>exact absurd (show false=true from fx) Bool.false_ne_true
 |str a=>
  obtain⟨t',rfl⟩:=ry
  cases x with
  | non=>cases rx;exact SeqAt.EqAt.str_none a t'
  | bl b=>cases rx;exact SeqAt.EqAt.str_bool a t' b
  | int b=>obtain⟨t,rfl⟩:=rx;exact SeqAt.EqAt.str_int a t' b t
  | str b=>obtain⟨t,rfl⟩:=rx;exact SeqAt.EqAt.str_str a t' b t
  | _=>exact absurd (show false=true from fx) Bool.false_ne_true
 | _=>exact absurd (show false=true from fy) Bool.false_ne_true
abbrev eqU(x:V)(u:Value):Bool:=match u with
 | .none=>eqV .non x
 | .bool b=>eqV (.bl b) x
 | .int i _=>eqV (.int i) x
 | .str z _=>eqV (.str z) x
 | _=>false
def xq(r:RelV y u)(f:fz y=true):eqU x u=eqV y x:=by
 cases y with
 | non=>cases r;rfl
 | bl b=>cases r;rfl
 | int i=>obtain⟨t,rfl⟩:=r;rfl
 | str z=>obtain⟨t,rfl⟩:=r;rfl
 | _=>exact absurd (show false=true from f) Bool.false_ne_true
def iL:∀ {xs:List V} {us:List Value},Vals xs us->xs.all fz=true->us.any (eqU x)=xs.any fun y=>eqV y x
 | _,_,.nil,_=>rfl
 | y::xs,u::us,.cons r t,f=>by
  rw[List.all_cons,Bool.and_eq_true]at f;rw[List.any_cons,List.any_cons,xq r f.1,iL t f.2]
def gO(rx:RelV x v)(fx:fz x=true):∀ {xs:List V} {us:List Value},Vals xs us->xs.all fz=true->∀ u∈us,SeqAt.EqAt A s u v (eqU x u)
 | _,_,.nil,_=>fun u hu=>by cases hu
 | y::xs,u::us,.cons r t,f=>fun u' hu=>by
  rw[List.all_cons,Bool.and_eq_true]at f;rcases List.mem_cons.mp hu with rfl | hu
  ·rw[xq r f.1];exact Dq r rx f.1 fx
  ·exact gO rx fx t f.2 u' hu
abbrev inV(x:V)(xs:List V):Bool:=xs.any fun y=>eqV y x
abbrev rIn(K:PySem.W.Frag)(neg:Bool):R2:=fun x y H Q=>∃ p xs,y=.ref p/\(SqL K H p xs\/SqT K H p xs)/\fz x=true/\xs.all fz=true/\Q (.bl (if neg then !inV x xs else inV x xs)) H
def we:OpR X (compareOp .In) (rIn X.K false):=by
 intro pins s σ H x y v u Q I rx ry h;obtain⟨p,xs,rfl,hq,fx,fs,q⟩:=h;cases ry;rcases hq with hq | hq
 ·obtain⟨its,r,pl,hz⟩:=I.list hq;refine SeqAt.in_listAt (eqU x) pl.isList (fun w hw=>gO rx fx r fs w (by simpa using hw)) ⟨.bl _,H,I,rfl,?_⟩;rw[show its.toArray.any (eqU x)=its.any (eqU x) by simp,iL r fs];exact q
 ·obtain⟨its,r,pl,hz⟩:=I.tuple hq;refine SeqAt.in_tupleAt (eqU x) pl (fun w hw=>gO rx fx r fs w (by simpa using hw)) ⟨.bl _,H,I,rfl,?_⟩;rw[show its.toArray.any (eqU x)=its.any (eqU x) by simp,iL r fs];exact q
def pR:OpR X (compareOp .NotIn) (rIn X.K true):=by
 intro pins s σ H x y v u Q I rx ry h;obtain⟨p,xs,rfl,hq,fx,fs,q⟩:=h;cases ry;rcases hq with hq | hq
 ·obtain⟨its,r,pl,hz⟩:=I.list hq;refine SeqAt.notIn_listAt (eqU x) pl.isList (fun w hw=>gO rx fx r fs w (by simpa using hw)) ⟨.bl _,H,I,rfl,?_⟩;rw[show its.toArray.any (eqU x)=its.any (eqU x) by simp,iL r fs];exact q
 ·obtain⟨its,r,pl,hz⟩:=I.tuple hq;refine SeqAt.notIn_tupleAt (eqU x) pl (fun w hw=>gO rx fx r fs w (by simpa using hw)) ⟨.bl _,H,I,rfl,?_⟩;rw[show its.toArray.any (eqU x)=its.any (eqU x) by simp,iL r fs];exact q
def aZ.or(h:aZ X f r)(h':aZ X f r'):aZ X f (fun xs H Q=>r xs H Q\/r' xs H Q):=by
 intro pins s σ H xs us Q I rs q;rcases q with q | q
 ·exact h pins s σ H xs us Q I rs q
 ·exact h' pins s σ H xs us Q I rs q
def qJ:aZ X (.type "list") (fun xs H Q=>∃ p ys,xs=[.ref p]/\(SqL X.K H p ys\/SqT X.K H p ys)/\∀ l,H l=none->Q (.ref l) (upd H l (.lst ys))):=by
 intro pins s σ H xs us Q I r h;obtain⟨p,ys,rfl,hq,q⟩:=h;obtain⟨u,rfl,rx⟩:=vals1 r;cases rx
 have fin:∀ (its:List Value),Vals ys its->ys.length<=sizeLine->∀ (h':Heap) (c':Nat),(∀ b o',s.heap.get? b=some o'->h'.get? b=some o') ->
   h'.get? s.heap.objs.size=some { cls:=.type "list",dict:=none,data:=.seq its.toArray c',slots:=#[] }->EP X pins σ Q (.ref s.heap.objs.size) { s with heap:=h' }:=fun its r' hz h' c' kp e =>
  ⟨.ref s.heap.objs.size,_,I.laid (t':=s.toks) kp (Nat.le_refl _) (show bj X.prog X.w _ h' _ (.lst ys)from⟨hz,its,c',r',e⟩),rfl,q _ (I.hok.fresh (Nat.le_refl _))⟩
 rcases hq with hq | hq
 ·obtain⟨its,r',pl,hz⟩:=I.list hq;have hlen:=r'.length;obtain⟨o,ho,hc,n,hd⟩:=pl.isList;exact call_list_seq p (.inl rfl) ho hc hd (fun h' c' kp e=>fin its r' hz h' c' kp e) (by simp only[List.size_toArray]<;>omega)
 ·obtain⟨its,r',pl,hz⟩:=I.tuple hq;have hlen:=r'.length;obtain⟨o,ho,hc,n,hd⟩:=pl;exact call_list_seq p (.inr rfl) ho hc hd (fun h' c' kp e=>fin its r' hz h' c' kp e) (by simp only[List.size_toArray]<;>omega)
def oD:aZ X (.type "tuple") (fun xs H Q=>∃ p ys,xs=[.ref p]/\((SqL X.K H p ys/\∀ l,H l=none->Q (.ref l) (upd H l (.tup ys)))\/(SqT X.K H p ys/\Q (.ref p) H))):=by
 intro pins s σ H xs us Q I r h;obtain⟨p,ys,rfl,h⟩:=h;obtain⟨u,rfl,rx⟩:=vals1 r;cases rx
 rcases h with⟨hq,q⟩ | ⟨hq,q⟩
 ·obtain⟨its,r',pl,hz⟩:=I.list hq;have hlen:=r'.length;refine call_tuple_list pl.isList (fun h' kp=>?_) (by simp only[List.size_toArray]<;>omega);have I1:Inv X pins σ H { s with heap:=h' }:=I.kept (t':=s.toks) kp
  have I2:Inv X pins σ (upd H h'.objs.size (.tup ys)) { s with heap:=h'.push { cls:=.type "tuple",data:=.seq its.toArray } } :=
   I1.laid (t':=s.toks) (fun b o e=>Heap.get?_push_of_some _ e) (Nat.le_refl _) (show bj X.prog X.w _ _ _ (.tup ys)from⟨hz,its,r',IsTup.new _ _⟩)
  exact⟨.ref h'.objs.size,_,I2,rfl,q _ (I1.hok.fresh (Nat.le_refl _))⟩
 ·obtain⟨its,r',pl,hz⟩:=I.tuple hq;exact call_tuple_same pl ⟨.ref p,H,I,rfl,q⟩
abbrev tyV(K:PySem.W.Frag)(T:String)(x:V)(H:Hp):Prop:=match x with
 | .str _=>T = "str"
 | .int _=>T = "int"
 | .ref p=>(T = "list" /\ ∃ xs,SqL K H p xs)\/(T = "tuple" /\ ∃ o,K.lookup p=some o/\o.cls=.type "tuple" /\ o.dict=none) \/
   (T = "dict" /\ ((∃ kvs,H p=some (.dK kvs))\/∃ kvs,H p=some (.dT kvs)))\/(T = "set" /\ ∃ S n,H p=some (.set S n))
 | _=>False
def vE(I:Inv X pins σ H s)(r:RelV x v)(ty:tyV X.K T x H) :
  s.TypeIs v T/\∀ a,v=.ref a->∃ ob,s.heap.get? a=some ob/\ob.dict=none:=by
 cases x with
 |str z=>
  obtain⟨t,rfl⟩:=r;cases(show T = "str" from ty);exact⟨typeIs_str s z t,fun _ e=>nomatch e⟩
 |int i=>
  obtain⟨t,rfl⟩:=r;cases(show T = "int" from ty);exact⟨typeIs_int s i t,fun _ e=>nomatch e⟩
 |ref p=>
  cases r
  rcases ty with⟨rfl,xs,hq⟩ | ⟨rfl,o,hk,hc,hd⟩ | ⟨rfl,hk⟩ | ⟨rfl,S,n,hk⟩
  ·obtain⟨its,_,pl,_⟩:=I.list hq;refine⟨pl.isList.typeIs,fun a e=>?_⟩;cases e;obtain⟨o,n,e,c,hd,_⟩:=pl;exact⟨o,e,hd⟩
  ·refine⟨⟨o,I.kIn p o hk,hc⟩,fun a e=>?_⟩;cases e;exact⟨o,I.kIn _ o hk,hd⟩
  ·have z:∃ o,s.heap.get? p=some o/\o.ExactDict:=by
    rcases hk with⟨kvs,hk⟩ | ⟨kvs,hk⟩
    ·obtain⟨_,_,_,_,o,_,_,e,ex,_⟩:=I.hok p _ hk;exact⟨o,e,ex⟩
    ·obtain⟨_,_,_,_,o,_,_,e,ex,_⟩:=I.hok p _ hk;exact⟨o,e,ex⟩
   obtain⟨o,e,ex⟩:=z;refine⟨⟨o,e,ex.1⟩,fun a e2=>?_⟩;cases e2;exact⟨o,e,ex.2.1⟩
  ·obtain⟨o,_,_,_,e,ex,_⟩:=I.hok p _ hk;refine⟨⟨o,e,ex.1⟩,fun a e2=>?_⟩;cases e2;exact⟨o,e,ex.2.1⟩
 | _=>exact False.elim ty
abbrev tM(K:PySem.W.Frag)(T:String)(r:V->List V->Hp->VK->Prop)(to:TE):TE:=fun σ H Q=>to σ H fun x H1=>tyV K T x H1/\r x [] H1 Q
abbrev tBM(K:PySem.W.Frag)(T:String)(r:V->List V->Hp->VK->Prop)(to:TE)(t:TA):TE:=fun σ H Q=>to σ H fun x H1=>tyV K T x H1/\t σ H1 fun xs H2=>r x xs H2 Q
variable{o e:Expr}{es:List Expr}{to:TE}{t:TA}{name:Str}{apos cpos:Pos}{T id:String}{r:V->List V->Hp->VK->Prop}
def pB(pa:PlainAttrs T)(slot:Slot T name id)(hty:typeOf (.builtin id)=pure (.type "method_descriptor"))(hm:MtR X id r)(ho:PE X o to)
 (hbase:attributeBase o name X.env (eval o X.env)=eval o X.env)(hline:(apos.endLine == cpos.line)=true):PE X (.Call (.Attribute o name apos) [] [] cpos) (tM X.K T r to):=by
 intro pins s σ H Q I h;refine wpAny_Call_method0_late hbase hline (thn (ho pins s σ H _ I h) fun v s1 ⟨x,H1,I1,r1,ty,q1⟩=>?_);obtain⟨h1,h2⟩:=vE I1 r1 ty;exact⟨T,id,pa,slot,hty,h1,h2,Calls.callWith_builtin rfl (PySem.evalArgs_none (hm pins s1 σ H1 x [] v [] Q I1 r1 .nil q1))⟩
def tG(pa:PlainAttrs T)(slot:Slot T name id)(hty:typeOf (.builtin id)=pure (.type "method_descriptor"))(hm:MtR X id r)(ho:PE X o to)(ha:PA X (e::es) t)
 (hbase:attributeBase o name X.env (eval o X.env)=eval o X.env)
 (hfew:((backTo cpos (starEach (e::es) X.env)).all (fun x=>!x.1)&&(backToKw cpos (keywordEach [] X.env)).all (fun x=>x.1.isSome)
   && decide ((e::es).length+([]:List Keyword).length+(if([]:List Keyword).isEmpty then 0 else 1)<30))=true:=by rfl)
 (hline:(apos.endLine == cpos.line)=true)(hs:starEach (e::es) X.env=(false,eval e X.env)::starEach es X.env)(hplain:(backTo cpos (starEach es X.env)).any (·.1)=false) :
  PE X (.Call (.Attribute o name apos) (e::es) [] cpos) (tBM X.K T r to t):=by
 intro pins s σ H Q I h;refine wpAny_Call_method_late hbase hfew hline rfl (thn (ho pins s σ H _ I h) fun v s1 ⟨x,H1,I1,r1,ty,q1⟩=>?_);obtain⟨h1,h2⟩:=vE I1 r1 ty;refine⟨T,id,pa,slot,hty,h1,h2,?_⟩;have hA:=ha cpos pins s1 σ H1 _ I1 q1;rw[hs]at hA ⊢;refine Calls.callWith_builtin (by show(false || (backTo cpos (starEach es X.env)).any (·.1))=false;rw[hplain]<;>rfl) (Calls.evalArgs_plain ?_);exact thn hA fun us s2 ⟨vs,H2,I2,r2,q2⟩=>hm pins s2 σ H2 x vs v us Q I2 r1 r2 q2
end
abbrev MtM(X:Cx)(id:String)(r:V->List V->Hp->VK->Prop):Prop :=
 ∀ (pins:List (Addr × Obj)) (s:Shared) (σ:St) (H:Hp) (x:V) (xs:List V) (v:Value) (us:List Value) (Q:VK),Inv X pins σ H s->RelV x v->Vals xs us->r x xs H Q ->
  wpAny (model X.prog X.w) X.A (call (.builtin id) (v::us)) (EP X pins σ Q) X.xe s
def Vals.one:∀ {x:V} {us:List Value},Vals [x] us->∃ u,us=[u]/\RelV x u
 | _,_,.cons r .nil=>⟨_,rfl,r⟩
def Vals.zero:∀ {us:List Value},Vals [] us->us=[]
 | _,.nil=>rfl
def Vals.dropLast(h:Vals xs us):Vals xs.dropLast us.dropLast:=by
 induction h with
 | nil=>exact .nil
 |cons r t ih=>
  cases t with
  | nil=>exact .nil
  | cons q t'=>exact .cons r ih
def Vals.rep(h:Vals xs us):∀ k:Nat,Vals (List.replicate k xs).flatten (List.replicate k us).flatten
 | 0=>.nil
 | k+1=>by
  rw[List.replicate_succ,List.replicate_succ,List.flatten_cons,List.flatten_cons];exact Vals.append h (Vals.rep h k)
def t7(l:List α):l.eraseIdx (l.length-1)=l.dropLast:=by
 induction l with
 | nil=>rfl
 |cons a r ih=>
  cases r with
  | nil=>rfl
  |cons b r=>
   have e:(a::b::r).length-1=((b::r).length-1)+1:=by
    have h1:(a::b::r).length=r.length+2:=rfl;have h2:(b::r).length=r.length+1:=rfl;omega
   rw[e,List.eraseIdx_cons_succ,ih]
   all_goals rfl
def foldl_rep(its:List Value):∀ (k:Nat) (acc:List Value),
  List.foldl (fun x1 x2=>x1++x2) acc.toArray (List.replicate k its.toArray)=(acc++(List.replicate k its).flatten).toArray
 | 0,acc=>by simp
 | k+1,acc=>by
  have e:acc.toArray++its.toArray=(acc++its).toArray:=by simp
  have e2:(acc++its)++(List.replicate k its).flatten=acc++(List.replicate (k+1) its).flatten:=by
   rw[List.replicate_succ,List.flatten_cons,List.append_assoc]
  rw[<-e2,<-foldl_rep its k (acc++its),<-e,List.replicate_succ,List.foldl_cons]
section
variable{X:Cx}{pins:List (Addr × Obj)}{σ:St}{H:Hp}{s:Shared}{l b:Addr}{xs ys zs:List V}
def Inv.ER{its its':List Value}{n:Nat}{f:Array Value->Array Value}{t':Nat}(I:Inv X pins σ H s)(hH:H l=some (.lst xs))
 (e:s.heap.get? l=some { cls:=.type "list",data:=.seq its.toArray n })(hf:f its.toArray=its'.toArray)(hv:Vals ys its')(hz:ys.length<=sizeLine) :
  Inv X pins σ (upd H l (.lst ys)) { s with heap:=s.heap.update l (Obj.mapSeq f),toks:=t' }:=by
 have q:=PySem.IsL.update e f;rw[hf]at q;refine I.write (x:=l) (e:=l) (by rw[hH];exact trivial) (.inl rfl) (fun b' u hb hu=>(Heap.get?_update_other s.heap (Obj.mapSeq f) (Ne.symm hb)).trans hu) ⟨_,q⟩ ?_;exact⟨hz,its',_,hv,q⟩
def Inv.EU(I:Inv X pins σ H s)(hv:Vals ys its)(hz:ys.length<=sizeLine) :
  Inv X pins σ (upd H s.heap.objs.size (.lst ys)) { s with heap:=s.heap.push { cls:=.type "list",data:=.seq its.toArray },toks:=t' } :=
 I.laid (fun _ _ q=>Heap.get?_push_of_some _ q) (Nat.le_refl _) ⟨hz,its,0,hv,Heap.get?_push_size _ rfl⟩
def Inv.fresh(I:Inv X pins σ H s):H s.heap.objs.size=none:=I.hok.fresh (Nat.le_refl _)
def Inv.qz(I:Inv X pins σ H s)(hH:H l=some (.lst xs)):xs.length<=sizeLine/\∃ (its:List Value) (n:Nat),Vals xs its/\xs.length=its.length/\s.heap.get? l=some { cls:=.type "list",data:=.seq its.toArray n }:=by
 obtain⟨z,its,n,r,e⟩:=I.hok l _ hH;exact⟨z,its,n,r,r.length,e⟩
def zo(h:n<=sizeLine):Builtin.List.listTooLong n=false:=by
 unfold Builtin.List.listTooLong;exact decide_eq_false (by omega)
end
section
variable{X:Cx}
abbrev sG:V->List V->Hp->VK->Prop:=fun x vs H Q=>∃ l xs y,x=.ref l/\vs=[y]/\H l=some (.lst xs)/\xs.length<sizeLine/\Q .non (upd H l (.lst (xs++[y])))
def nY:MtM X "list.append" sG:=by
 intro pins s σ H x vs v us Q I rx rv h;obtain⟨l,xs,y,rfl,rfl,hH,hz,q⟩:=h;cases rx;obtain⟨u,rfl,ru⟩:=rv.one;obtain⟨z,its,n,r,hl,e⟩:=I.qz hH;refine call_meets F.slot_list_append ⟨_,e,rfl⟩ F.entry_list_append (F.args_list_append_2 _ _) (PySem.list_append l its.toArray n u (by rw[List.size_toArray];omega)) ⟨e,?_⟩;refine⟨.non,_,I.ER (its':=its++[u]) hH e (by simp) (r.append (.cons ru .nil)) ?_,rfl,q⟩;rw[List.length_append,List.length_singleton];omega
abbrev tP:V->List V->Hp->VK->Prop:=fun x vs H Q=>∃ l xs y,x=.ref l/\vs=[]/\H l=some (.lst xs)/\xs[xs.length-1]?=some y/\Q y (upd H l (.lst xs.dropLast))
def pf:MtM X "list.pop" tP:=by
 intro pins s σ H x vs v us Q I rx rv h;obtain⟨l,xs,y,rfl,rfl,hH,hy,q⟩:=h;cases rx;have hus:=rv.zero;subst hus;obtain⟨z,its,n,r,hl,e⟩:=I.qz hH;obtain⟨u,hu,ru⟩:=r.get hy
 have hy':its.toArray[its.toArray.size-1]?=some u:=by
  show its.toArray[its.length-1]?=some u;rw[<-Array.getElem?_toList,<-hl];exact hu
 refine call_meets F.slot_list_pop ⟨_,e,rfl⟩ F.entry_list_pop (F.args_list_pop_1 _) (MeetsSeq.list_pop_last l its.toArray n u hy' (by rw[List.size_toArray];omega)) ⟨e,?_⟩;refine⟨y,_,I.ER (its':=its.dropLast) hH e ?_ r.dropLast ?_,ru,q⟩
 ·show its.toArray.eraseIdxIfInBounds (its.toArray.size-1)=its.dropLast.toArray;rw[List.size_toArray,List.eraseIdxIfInBounds_toArray,t7]
 ·rw[List.length_dropLast];omega
abbrev Hf:R2:=fun x y H Q=>∃ l b xs zs,x=.ref l/\y=.ref b/\H l=some (.lst xs)/\H b=some (.lst zs)/\xs.length+zs.length<=sizeLine/\∀ p,H p=none->Q (.ref p) (upd H p (.lst (xs++zs)))
def Ex:OpR X (binaryOp .Add) Hf:=by
 intro pins s σ H x y v u Q I rx ry h;obtain⟨l,b,xs,zs,rfl,rfl,hH,hB,hz,q⟩:=h;cases rx;cases ry;obtain⟨z,its,n,r,hl,e⟩:=I.qz hH;obtain⟨z2,its2,n2,r2,hl2,e2⟩:=I.qz hB;refine PySem.P.add_list e e2 ?_ (by rw[List.size_toArray,List.size_toArray];omega)
 have ea:its.toArray++its2.toArray=(its++its2).toArray:=by simp
 rw[ea];exact⟨.ref _,_,I.EU (t':=s.toks) (r.append r2) (by rw[List.length_append];omega),rfl,q _ I.fresh⟩
abbrev GP:R2:=fun x y H Q=>∃ l k xs,x=.ref l/\y=.int k/\H l=some (.lst xs)/\-(2 ^ 63)<=k/\k<2 ^ 63/\xs.length*k.toNat<=sizeLine /\
 ∀ p,H p=none->Q (.ref p) (upd H p (.lst (List.replicate k.toNat xs).flatten))
def len_rep(xs:List α)(k:Nat):(List.replicate k xs).flatten.length=k*xs.length:=by
 induction k with
 | zero=>simp
 | succ k ih=>rw[List.replicate_succ,List.flatten_cons,List.length_append,ih,Nat.succ_mul,Nat.add_comm]
def Ew:OpR X (binaryOp .Mult) GP:=by
 intro pins s σ H x y v u Q I rx ry h;obtain⟨l,k,xs,rfl,rfl,hH,h1,h2,hz,q⟩:=h;cases rx;obtain⟨t,rfl⟩:=ry;obtain⟨z,its,n,r,hl,e⟩:=I.qz hH
 have hlen:its.toArray.size*k.toNat<=sizeLine:=by rw[List.size_toArray,<-hl];exact hz
 have hcap:¬ its.toArray.size*k.toNat > (2 ^ 63-1) / 8:=by
  have:(sizeLine:Nat)<=(2 ^ 63-1) / 8:=by decide
  omega
 have hfit:¬ (!Builtin.List.listFitsIndex k)=true:=by
  rw[fitsIndex_both h1 h2];exact Bool.false_ne_true
 have hlong:¬ Builtin.List.listTooLong (its.toArray.size*k.toNat)=true:=by
  rw[zo hlen];exact Bool.false_ne_true
 have hnew:List.foldl (fun x1 x2=>x1++x2) #[] (List.replicate (if its.toArray.isEmpty=true then 0 else k.toNat) its.toArray)=(List.replicate k.toNat its).flatten.toArray:=by
  have f0:∀ m:Nat,List.foldl (fun x1 x2=>x1++x2) #[] (List.replicate m its.toArray)=(List.replicate m its).flatten.toArray:=fun m=>by
   have:=foldl_rep its m [];rw[List.nil_append]at this;exact this
  rw[f0]
  cases its with
  | nil=>simp
  | cons a r'=>rw[if_neg (by simp)]
 refine wpAny_binaryOp_repeat_ref (T := "list") (U := "int") (by decide) ⟨_,e,rfl⟩ (fun s'=>typeIs_int s' k t) noFill_list_mul F.fills_int_mul F.slot_int_rmul repeat_list F.slot_int_index.lookup
  (call_meets F.slot_int_rmul (typeIs_int s k t) F.entry_int_rmul (F.args_int_rmul_2 _ _) (int___rmul___int_list k t l its.toArray n)
   ⟨e,rfl,⟨_,e,rfl⟩,call_meets F.slot_list_mul ⟨_,e,rfl⟩ F.entry_list_mul (F.args_list_mul_2 _ _) (AutoListH.list___mul___list_int_3 l its.toArray n k t hfit hcap hlong) ⟨e,?_⟩⟩)
 rw[hnew];exact⟨.ref _,_,I.EU (t':=s.toks) (r.rep k.toNat) (by rw[len_rep,Nat.mul_comm];exact hz),rfl,q _ I.fresh⟩
end
section
variable{prog:Program}{w:World}{A:Around}{E:Value->Shared->Prop}{s:Shared}
end
section
variable{X:Cx}
end
section
variable{κ:Type} [DecidableEq κ]
abbrev dM(kvs:List (κ × V))(k:κ):Option V:=(kvs.find? fun kv=>decide (kv.1=k)).map (·.2)
abbrev putK(kvs:List (κ × V))(k:κ)(v:V):List (κ × V) :=
 if(kvs.any fun kv=>decide (kv.1=k))=true then kvs.map (fun kv=>if kv.1=k then(kv.1,v)else kv)else kvs++[(k,v)]
def gJ{p:κ × V}{r:List (κ × V)}{k:κ}(e:p.1=k):dM (p::r) k=some p.2:=by simp[dM,List.find?_cons,e]
def gB{p:κ × V}{r:List (κ × V)}{k:κ}(e:¬ p.1=k):dM (p::r) k=dM r k:=by simp[dM,List.find?_cons,e]
def qv(k:κ):∀ kvs:List (κ × V),(kvs.any fun kv=>decide (kv.1=k))=(dM kvs k).isSome
 | []=>rfl
 | p::r=>by
  rw[List.any_cons];by_cases e:p.1=k
  ·simp only[gJ e,decide_eq_true e,Bool.true_or,Option.isSome_some]
  ·rw[gB e,decide_eq_false e,Bool.false_or];exact qv k r
def kM(kvs:List (κ × V))(k:κ)(v:V):(putK kvs k v).length<=kvs.length+1:=by
 unfold putK;split
 ·rw[List.length_map];omega
 ·rw[List.length_append,List.length_cons,List.length_nil];omega
def gY.fK(r:gY o u):o.isSome=u.isSome:=by
 cases o with
 | none=>cases u with
  | none=>rfl
  | some _=>exact(show False from r).elim
 | some _=>cases u with
  | none=>exact(show False from r).elim
  | some _=>rfl
def KV.val{kvs:List (κ × V)}{vs:List (κ × Value)}(r:KV kvs vs)(k:κ):gY (dM kvs k) (valueAt vs k):=by
 unfold KV at r
 induction r with
 | nil=>exact True.intro
 |@cons p q ps qs h t ih=>
  obtain⟨h1,h2⟩:=h;by_cases e:p.1=k
  ·have e':q.1=k:=h1.symm.trans e
   have b:valueAt (q::qs) k=some q.2:=by simp[valueAt,List.find?_cons,e']
   rw[gJ e,b];exact h2
  ·have e':¬ q.1=k:=fun z=>e (h1.trans z)
   have b:valueAt (q::qs) k=valueAt qs k:=by simp[valueAt,List.find?_cons,e']
   rw[gB e,b];exact ih
def KV.any(r:KV kvs vs)(k:κ):(kvs.any fun kv=>decide (kv.1=k))=vs.any fun kv=>decide (kv.1=k):=by
 unfold KV at r
 induction r with
 | nil=>rfl
 | cons h t ih=>rw[List.any_cons,List.any_cons,ih,h.1]
def KV.yR(r:KV kvs vs)(k:κ)(ry:RelV y u) :
  KV (kvs.map fun kv=>if kv.1=k then(kv.1,y)else kv) (vs.map fun kv=>if kv.1=k then(kv.1,u)else kv):=by
 unfold KV at r ⊢
 induction r with
 | nil=>exact .nil
 |@cons p q ps qs h t ih=>
  rw[List.map_cons,List.map_cons];refine .cons ?_ ih;obtain⟨h1,h2⟩:=h;by_cases e:p.1=k
  ·rw[if_pos e,if_pos (h1.symm.trans e)];exact⟨h1,ry⟩
  ·rw[if_neg e,if_neg (fun z=>e (h1.trans z))];exact⟨h1,h2⟩
def KV.put(r:KV kvs vs)(k:κ)(ry:RelV y u):KV (putK kvs k y) (stored vs k u):=by
 unfold putK stored;rw[r.any k];by_cases e:(vs.any fun kv=>decide (kv.1=k))=true
 ·rw[if_pos e,if_pos e];exact r.yR k ry
 ·rw[if_neg e,if_neg e];exact Paired.snoc r ⟨rfl,ry⟩
def KV.length(r:KV kvs vs):kvs.length=vs.length:=Paired.length r
end
def mz(r:RelV (kV k) u):(bQ P w).is k u=true:=by
 cases k with
 | inl i=>obtain⟨t,e⟩:=(show ∃ t,u=Value.int i t from r);subst e;exact rG P w i t
 | inr x=>obtain⟨t,e⟩:=(show ∃ t,u=Value.str x t from r);subst e;exact rD P w x t
def nJ:∀ {ks:List Key} {us:List Value},Vals (ks.map kV) us->ItemsAre (bQ P w) ks us
 | [],_,r=>by rw[List.map_nil]at r;cases r;exact .nil
 | k::ks,_,r=>by
  rw[List.map_cons]at r
  cases r with
  | cons h t=>exact .cons (mz h) (nJ t)
@[reducible]noncomputable def KT(H:Hp):List (List Key × V)->List (List Key × Addr × Value)->Prop:=Paired fun p q=>p.1=q.1/\H q.2.1=some (.tup (p.1.map kV))/\RelV p.2 q.2.2
def KT.val{H:Hp}{kvs:List (List Key × V)}{xs:List (List Key × Addr × Value)}(r:KT H kvs xs)(k:List Key):gY (dM kvs k) ((atKey xs k).map (·.2)):=by
 induction r with
 | nil=>exact True.intro
 |@cons p q ps qs h t ih=>
  obtain⟨h1,_,h2⟩:=h;by_cases e:p.1=k
  ·have e':q.1=k:=h1.symm.trans e
   have b:atKey (q::qs) k=some q.2:=by simp[atKey,List.find?_cons,e']
   rw[gJ e,b];exact h2
  ·have e':¬ q.1=k:=fun z=>e (h1.trans z)
   have b:atKey (q::qs) k=atKey qs k:=by simp[atKey,List.find?_cons,e']
   rw[gB e,b];exact ih
def KT.yR(r:KT H kvs xs)(k:List Key)(ry:RelV y u) :
  KT H (kvs.map fun kv=>if kv.1=k then(kv.1,y)else kv) (xs.map (putAt k u)):=by
 induction r with
 | nil=>exact .nil
 |@cons p q ps qs h t ih=>
  rw[List.map_cons,List.map_cons];refine .cons ?_ ih;obtain⟨h1,h2,h3⟩:=h;unfold putAt;by_cases e:p.1=k
  ·rw[if_pos e,if_pos (h1.symm.trans e)];exact⟨h1,h2,ry⟩
  ·rw[if_neg e,if_neg (fun z=>e (h1.trans z))];exact⟨h1,h2,h3⟩
def KT.put(r:KT H kvs xs)(k:List Key)(hb:H b=some (.tup (k.map kV)))(ry:RelV y u) :
  KT H (putK kvs k y) (storedH xs k b u):=by
 have e:(kvs.any fun kv=>decide (kv.1=k))=(atKey xs k).isSome:=by
  rw[qv,(r.val k).fK,Option.isSome_map]
 unfold putK storedH;rw[e];by_cases q:(atKey xs k).isSome=true
 ·rw[if_pos q,if_pos q];exact r.yR k ry
 ·rw[if_neg q,if_neg q];exact Paired.snoc r ⟨rfl,hb,ry⟩
def KT.keeps(r:KT H kvs xs)(ht:∀ b ys,H b=some (.tup ys)->H' b=some (.tup ys)):KT H' kvs xs :=
 Paired.yJ r fun _ _ z=>⟨z.1,ht _ _ z.2.1,z.2.2⟩
section
variable{P:Program}{w:World}{H:Hp}{h:Heap}{a:Addr}
def zU(ok:HOk P w H h)(e:Rd H a u):bj P w H h a u:=e.ok ok
def kg(ok:HOk P w H h)(e:Rd H a (.dK kvs)):kvs.length<=sizeLine/\(a == sysModules)=false/\∃ vs,KV kvs vs/\h.DictOf (bQ P w) a vs :=
 show bj P w H h a (.dK kvs)from zU ok e
def GI(ok:HOk P w H h)(e:H a=some (.dK kvs)):kvs.length<=sizeLine/\(a == sysModules)=false/\∃ vs,KV kvs vs/\h.DictOf (bQ P w) a vs:=kg ok (.inl e)
def jZ(ok:HOk P w H h)(e:H a=some (.tup (ks.map kV))):(tupleKind (bQ P w)).is h ks a:=by
 obtain⟨_,its,r,o,h1,h2,n,h3⟩:=(show bj P w H h a (.tup (ks.map kV))from ok a _ e)
 exact⟨o,its.toArray,n,h1,h2,h3,by simpa using nJ r⟩
def lJ(ok:HOk P w H h)(e:Rd H a (.dT kvs)):kvs.length<=sizeLine/\(a == sysModules)=false /\
  ∃ xs,KT H kvs xs/\h.DictOfH (tupleKind (bQ P w)) a xs:=by
 obtain⟨z,y,xs,r,o,es,ep,h1,h2,h3,h4,h5⟩:=(show bj P w H h a (.dT kvs)from zU ok e)
 refine⟨z,y,xs,r,o,es,ep,h1,h2,h3,h4,fun x hx=>?_,h5⟩
 have all:∀ {l:List (List Key × V)} {m:List (List Key × Addr × Value)},KT H l m->∀ x∈m,(tupleKind (bQ P w)).is h x.1 x.2.1:=by
  intro l m q
  induction q with
  | nil=>intro x hx;exact nomatch hx
  |@cons p q ps qs hq t ih=>
   intro x hx;rcases List.mem_cons.mp hx with e | hx
   ·subst e;exact jZ ok (by rw[<-hq.1];exact hq.2.1)
   ·exact ih x hx
 exact all r x hx
def zD(ok:HOk P w H h)(e:H a=some (.dT kvs)):kvs.length<=sizeLine/\(a == sysModules)=false /\
  ∃ xs,KT H kvs xs/\h.DictOfH (tupleKind (bQ P w)) a xs:=lJ ok (.inl e)
end
abbrev dD(H:Hp)(a:Addr)(y:V)(r:Option V):Prop :=
 (∃ kvs k,Rd H a (.dK kvs)/\y=kV k/\r=dM kvs k)\/∃ kvs k b,Rd H a (.dT kvs)/\y=.ref b/\H b=some (.tup (k.map kV))/\r=dM kvs k
abbrev jO(H:Hp)(a:Addr)(y v:V)(H':Hp):Prop :=
 (∃ kvs k,H a=some (.dK kvs)/\y=kV k/\kvs.length<sizeLine/\H'=upd H a (.dK (putK kvs k v))) \/
 ∃ kvs k b,H a=some (.dT kvs)/\y=.ref b/\H b=some (.tup (k.map kV))/\kvs.length<sizeLine/\H'=upd H a (.dT (putK kvs k v))
def dD.k{H:Hp}{a:Addr}{kvs:List (Key × V)}{k:Key}(e:H a=some (.dK kvs)):dD H a (kV k) (dM kvs k):=.inl ⟨kvs,k,.inl e,rfl,rfl⟩
def dD.t{H:Hp}{a b:Addr}{kvs:List (List Key × V)}{k:List Key}(e:H a=some (.dT kvs))(eb:H b=some (.tup (k.map kV))):dD H a (.ref b) (dM kvs k):=.inr ⟨kvs,k,b,.inl e,rfl,eb,rfl⟩
def jO.k{H:Hp}{a:Addr}{kvs:List (Key × V)}{k:Key}{v:V}(e:H a=some (.dK kvs))(hl:kvs.length<sizeLine):jO H a (kV k) v (upd H a (.dK (putK kvs k v))):=.inl ⟨kvs,k,e,rfl,hl,rfl⟩
def jO.t{H:Hp}{a b:Addr}{kvs:List (List Key × V)}{k:List Key}{v:V}(e:H a=some (.dT kvs))(eb:H b=some (.tup (k.map kV)))(hl:kvs.length<sizeLine) :
  jO H a (.ref b) v (upd H a (.dT (putK kvs k v))):=.inr ⟨kvs,k,b,e,rfl,eb,hl,rfl⟩
section
variable{X:Cx}{pins:List (Addr × Obj)}{σ:St}{H:Hp}{s:Shared}{a:Addr}{y v:V}{u r:Value}{o:Option V}{A:Around}{E:Value->Shared->Prop}
def Inv.big(I:Inv X pins σ H s):sysModules<s.heap.objs.size:=by
 have h:mainGlobals<s.heap.objs.size:=(I.mod.glob.keeps I.bk).lt;exact Nat.lt_trans (by decide) h
def wa(hu:A.units+1<cLine)(I:Inv X pins σ H s)(g:dD H a y (some v))(ry:RelV y u)(h:∀ w' s',Inv X pins σ H s'->RelV v w'->Q w' s') :
  wpAny (model X.prog X.w) A (getItem (.ref a) u) Q E s:=by
 rcases g with⟨kvs,k,e,ey,l⟩ | ⟨kvs,k,b,e,ey,eb,l⟩
 ·subst ey;obtain⟨z,hd,vs,rel,dd⟩:=kg I.hok e;obtain⟨w',hw,rw'⟩:=gY.some_of (v:=v) (o:=valueAt vs k) (by rw[l];exact rel.val k);exact wpAny_getItem_of (mz ry) dd.mapOf hw (h w' _ (I.tok _) rw')
 ·subst ey;cases(show u=Value.ref b from ry);obtain⟨z,hd,xs,rel,dd⟩:=lJ I.hok e;obtain⟨w',hw,rw'⟩:=gY.some_of (v:=v) (o:=(atKey xs k).map (·.2)) (by rw[l];exact rel.val k);obtain⟨p,hp,hp2⟩:=Option.map_eq_some_iff.mp hw;refine wpAny_getItem_heap (tupleKind_room_in1 hu) (jZ I.hok eb) dd hp ?_;rw[hp2];exact h w' _ (I.tok _) rw'
def Hs(hu:A.units+1<cLine)(I:Inv X pins σ H s)(g:dD H a y o)(ry:RelV y u)(h:∀ s',Inv X pins σ H s'->Q (.bool o.isSome) s') :
  wpAny (model X.prog X.w) A (compareOp .In u (.ref a)) Q E s:=by
 rcases g with⟨kvs,k,e,ey,l⟩ | ⟨kvs,k,b,e,ey,eb,l⟩
 ·subst ey;obtain⟨z,hd,vs,rel,dd⟩:=kg I.hok e;refine wpAny_in_of (mz ry) hd dd.mapOf ?_;rw[<-(rel.val k).fK,<-l];exact h _ (I.tok _)
 ·subst ey;cases(show u=Value.ref b from ry);obtain⟨z,hd,xs,rel,dd⟩:=lJ I.hok e;refine wpAny_in_heap (tupleKind_room_in1 hu) (jZ I.hok eb) hd dd ?_;have q:=(rel.val k).fK;rw[Option.isSome_map]at q;rw[<-q,<-l];exact h _ (I.tok _)
def Bf(hu:A.units+1<cLine)(I:Inv X pins σ H s)(g:dD H a y o)(ry:RelV y u)(h:∀ s',Inv X pins σ H s'->Q (.bool (!o.isSome)) s') :
  wpAny (model X.prog X.w) A (compareOp .NotIn u (.ref a)) Q E s:=by
 rcases g with⟨kvs,k,e,ey,l⟩ | ⟨kvs,k,b,e,ey,eb,l⟩
 ·subst ey;obtain⟨z,hd,vs,rel,dd⟩:=kg I.hok e;refine wpAny_notIn_of (mz ry) hd dd.mapOf ?_;rw[<-(rel.val k).fK,<-l];exact h _ (I.tok _)
 ·subst ey;cases(show u=Value.ref b from ry);obtain⟨z,hd,xs,rel,dd⟩:=lJ I.hok e;refine wpAny_notIn_heap (tupleKind_room_in1 hu) (jZ I.hok eb) hd dd ?_;have q:=(rel.val k).fK;rw[Option.isSome_map]at q;rw[<-q,<-l];exact h _ (I.tok _)
def sR(I:Inv X pins σ H s)(mu:Mut (H a))(hs:Heap.SameBut a s.heap h')(he:∃ q,h'.get? a=some q)(new:bj X.prog X.w (upd H a ob) h' a ob) :
  Inv X pins σ (upd H a ob) { s with heap:=h',toks:=t' } :=
 I.write (x:=a) (e:=a) mu (.inl rfl) (fun b q hb z=>(hs.2 b hb).trans z) he new
def DR(z:kvs.length<=sizeLine)(hd:(a == sysModules)=false)(rel:KV kvs vs)(dd:h'.DictOf (bQ P w) a vs) :
  bj P w H' h' a (.dK kvs):=⟨z,hd,vs,rel,dd⟩
def vv(hu:A.units+1<cLine)(I:Inv X pins σ H s)(g:jO H a y v H')(ry:RelV y u)(rv:RelV v r)(h:∀ s',Inv X pins σ H' s'->Q () s') :
  wpAny (model X.prog X.w) A (setItem (.ref a) u r) Q E s:=by
 rcases g with⟨kvs,k,e,ey,l,eH⟩ | ⟨kvs,k,b,e,ey,eb,l,eH⟩
 ·subst ey eH;obtain⟨z,hd,vs,rel,dd⟩:=GI I.hok e
  have hz:vs.length<=sizeLine:=by rw[<-rel.length];exact z
  have hl:(putK kvs k v).length<=sizeLine:=by have:=kM kvs k v;omega
  refine wpAny_setItem_pairs (hsz:=hz) (mz ry) dd fun h' dd' hs=>h _ ?_;have he:∃ q,h'.get? a=some q:=let ⟨q,_,_,hq,_⟩:=dd';⟨q,hq⟩;exact sR I (by rw[e];exact True.intro) hs he (DR hl hd (rel.put k rv) dd')
 ·subst ey eH;cases(show u=Value.ref b from ry);obtain⟨z,hd,xs,rel,dd⟩:=zD I.hok e
  have hz:xs.length<=sizeLine:=by rw[<-Paired.length rel];exact z
  have hl:(putK kvs k v).length<=sizeLine:=by have:=kM kvs k v;omega
  refine wpAny_setItem_heap (hsz:=hz) (tupleKind_room_in1 hu) (jZ I.hok eb) dd fun h' dd' hs=>h _ ?_;obtain⟨q,es,ep,hq,h2,h3,h4,_,h5⟩:=dd';refine sR I (by rw[e];exact True.intro) hs ⟨q,hq⟩ ⟨hl,hd,_,(rel.put k eb rv).keeps fun c ys ec=>?_,q,es,ep,hq,h2,h3,h4,h5⟩;rw[aI (kI ec e (fun z=>nomatch z))];exact ec
end
section
variable{X:Cx}{pins:List (Addr × Obj)}{σ:St}{H:Hp}{s:Shared}{a:Addr}{kvs:List (Key × V)}{k:Key}{u:Value}{A:Around}{E:Value->Shared->Prop}
def GK(I:Inv X pins σ H s)(e:Rd H a (.dK kvs))(h:∀ t s',Inv X pins σ H s'->Q (.int kvs.length t) s'):wpAny (model X.prog X.w) A (call (.builtin "len") [.ref a]) Q E s:=by
 obtain⟨z,hd,vs,rel,dd⟩:=kg I.hok e;refine call_len_dict hd dd (by rw[<-rel.length];rw[sizeLine_eq]at z;omega) ?_;rw[<-rel.length];exact h _ _ (I.tok _)
end
abbrev uh(i:Expr):Prop:=∀ ov iv,subscripted i false ov iv=operate [ov,iv] (getItem ov iv)
def AJ{prog:Program}{w:World}{A:Around}{E:Value->Shared->Prop}{s:Shared}{env:Env}{value slice:Expr}{pos:Pos}{T id:String}{Q:Value->Shared->Prop}
 (hl:typeLookup (.type T) "__getitem__" = pure (some (.builtin id)))(hs:uh slice)
 (h:wpAny (model prog w) A (eval value env) (fun o s₁=>wpAny (model prog w) A (eval slice env) (fun i s₂=>s₂.TypeIs o T/\wpAny (model prog w) A (getItem o i) Q E s₂) E s₁) E s) :
  wpAny (model prog w) A (eval (.Subscript value slice pos) env) Q E s:=by
 refine Subscript_ (wpAny_mono h (fun o s₁ h₁=>wpAny_mono h₁ (fun i s₂ h₂=>?_) fun _ _ x=>x) fun _ _ x=>x);obtain⟨hT,h₂⟩:=h₂;unfold subscriptTail;refine wpAny_bind ?_;rw[getitemInPython_of_ne hT.not_modules];refine wpAny_bind (wpAny_specialOf hT hl ?_)
 have fin:wpAny (model prog w) A (subscripted slice false o i) (fun r s₃=>wpAny (model prog w) A (letTemporaryGo value o r >>= fun _=>pure r) Q E s₃) E s₂:=by
  rw[hs o i];exact wpAny_operating (wpAny_mono h₂ (fun r s₃ h₃=>wpAny_bind (wpAny_letTemporaryGo (wpAny_pure h₃))) fun _ _ x=>x)
 first
  | exact wpAny_pure (wpAny_bind fin)
  | exact wpAny_bind (wpAny_pure (wpAny_bind fin))
  | exact wpAny_bind fin
def rK(I:Inv X pins σ H s)(g:dD H a y o):s.TypeIs (.ref a) "dict" := by
 rcases g with⟨kvs,k,e,_,_⟩ | ⟨kvs,k,b,e,_,_,_⟩
 ·obtain⟨_,_,vs,_,dd⟩:=kg I.hok e;exact dd.typeIs
 ·obtain⟨_,_,xs,_,dd⟩:=lJ I.hok e;exact dd.typeIs
abbrev Gb(td ty:TE):TE:=fun σ H Q=>td σ H fun x H1=>ty σ H1 fun y H2=>∃ a v,x=.ref a/\dD H2 a y (some v)/\Q v H2
abbrev Ef(ty td:TE):TE:=fun σ H Q=>ty σ H fun y H1=>td σ H1 fun x H2=>∃ a o,x=.ref a/\dD H2 a y o/\Q (.bl o.isSome) H2
abbrev sJ(ty td:TE):TE:=fun σ H Q=>ty σ H fun y H1=>td σ H1 fun x H2=>∃ a o,x=.ref a/\dD H2 a y o/\Q (.bl (!o.isSome)) H2
abbrev tZ(td ty tv:TE):TS:=fun D σ H=>tv σ H fun v H1=>td σ H1 fun x H2=>ty σ H2 fun y H3=>∃ a H4,x=.ref a/\jO H3 a y v H4/\D.nx σ H4
section
variable{X:Cx}{o i e value:Expr}{pos pos' tpos:Pos}{td ty tv:TE}
def B9(hu:X.A.units+1<cLine)(ho:PE X o td)(hi:PE X i ty)(hs:uh i):PE X (.Subscript o i pos) (Gb td ty):=by
 intro pins s σ H Q I h;refine AJ PySem.F.slot_dict_getitem.lookup hs (thn (ho pins s σ H _ I h) fun u s1 ⟨x,H1,I1,rx,q1⟩=>thn (hi pins s1 σ H1 _ I1 q1) fun iv s2 ⟨y,H2,I2,ry,a,v,ex,g,q2⟩=>?_);subst ex;obtain rfl:u=Value.ref a:=rx;exact⟨rK I2 g,wa hu I2 g ry fun w' s3 I3 rw'=>⟨v,H2,I3,rw',q2⟩⟩
def E3(hu:X.A.units+1<cLine)(hi:PE X i ty)(ho:PE X o td):PC X .In i o (Ef ty td):=by
 intro pins s σ H Q I h;refine thn (hi pins s σ H _ I h) fun iv s1 ⟨y,H1,I1,ry,q1⟩=>thn (ho pins s1 σ H1 _ I1 q1) fun u s2 ⟨x,H2,I2,rx,a,ov,ex,g,q2⟩=>?_;subst ex;obtain rfl:u=Value.ref a:=rx
 exact Hs hu I2 g ry fun s3 I3=>⟨.bl ov.isSome,H2,I3,rfl,q2⟩
def xk(hu:X.A.units+1<cLine)(hi:PE X i ty)(ho:PE X o td):PC X .NotIn i o (sJ ty td):=by
 intro pins s σ H Q I h;refine thn (hi pins s σ H _ I h) fun iv s1 ⟨y,H1,I1,ry,q1⟩=>thn (ho pins s1 σ H1 _ I1 q1) fun u s2 ⟨x,H2,I2,rx,a,ov,ex,g,q2⟩=>?_;subst ex;obtain rfl:u=Value.ref a:=rx
 exact Bf hu I2 g ry fun s3 I3=>⟨.bl (!ov.isSome),H2,I3,rfl,q2⟩
def AQ(hu:X.A.units+1<cLine)(ho:PE X o td)(hi:PE X i ty)(hv:PE X value tv)(hs:swapsWith value (some (.Subscript o i pos')) pos.line X.env=pure false) :
  PS X (.Assign [.Subscript o i pos'] value pos) (tZ td ty tv):=by
 intro pins s σ H D I h;refine wpAny_Assign_Subscript (thn (hv pins s σ H _ I h) fun r s1 ⟨v,H1,I1,rv,q1⟩=>thn (ho pins s1 σ H1 _ I1 q1) fun u s2 ⟨x,H2,I2,rx,q2⟩=>thn (hi pins s2 σ H2 _ I2 q2) fun iv s3 ⟨y,H3,I3,ry,a,H4,ex,g,q3⟩=>?_) hs;subst ex;obtain rfl:u=Value.ref a:=rx
 exact vv hu I3 g ry rv fun s4 I4=>⟨σ,H4,I4,q3⟩
end
def xN(h:Heap)(hb:sysModules<h.objs.size):bj P w H (h.push { cls:=.type "dict",data:=.dict #[] }) h.objs.size (.dK []) :=
 ⟨Nat.zero_le _,beq_eq_false_iff_ne.mpr (Ne.symm (Nat.ne_of_lt hb)),[],.nil,Heap.DictOf.new h⟩
def yL(h:Heap)(hb:sysModules<h.objs.size):bj P w H (h.push { cls:=.type "dict",data:=.dict #[] }) h.objs.size (.dT []) :=
 ⟨Nat.zero_le _,beq_eq_false_iff_ne.mpr (Ne.symm (Nat.ne_of_lt hb)),[],.nil,_,#[],0,Heap.get?_push_size _ rfl,⟨rfl,rfl,rfl⟩,rfl,rfl,List.nodup_nil⟩
abbrev D5:TE:=fun _ H Q=>∀ p,H p=none->Q (.ref p) (upd H p (.dK []))
abbrev F2:TE:=fun _ H Q=>∀ p,H p=none->Q (.ref p) (upd H p (.dT []))
section
variable{X:Cx}{pos:Pos}
def yY:PE X (.Dict [] [] pos) D5:=fun pins s σ H Q I h =>
 wpAny_Dict_empty ⟨.ref s.heap.objs.size,_,I.laid (a:=s.heap.objs.size) (o:=.dK []) (t':=s.toks) (fun _ _ q=>Heap.get?_push_of_some _ q) (Nat.le_refl _) (xN s.heap I.big),rfl,h _ (I.hok.fresh (Nat.le_refl _))⟩
def zm:PE X (.Dict [] [] pos) F2:=fun pins s σ H Q I h =>
 wpAny_Dict_empty ⟨.ref s.heap.objs.size,_,I.laid (a:=s.heap.objs.size) (o:=.dT []) (t':=s.toks) (fun _ _ q=>Heap.get?_push_of_some _ q) (Nat.le_refl _) (yL s.heap I.big),rfl,h _ (I.hok.fresh (Nat.le_refl _))⟩
end
section
variable{X:Cx}{pins:List (Addr × Obj)}{σ:St}{H:Hp}{s:Shared}{a:Addr}{y d:V}{u r:Value}{o:Option V}{A:Around}{E:Value->Shared->Prop}
end
section
variable{X:Cx}{o e f:Expr}{apos cpos:Pos}{td ty tx:TE}
end
section
variable{X:Cx}{pins:List (Addr × Obj)}{σ:St}{H:Hp}{s:Shared}{a:Addr}{kvs:List (Key × V)}{A:Around}{E:Value->Shared->Prop}
end
section
variable{X:Cx}{pins:List (Addr × Obj)}{σ:St}{H:Hp}{s:Shared}{a:Addr}{y:V}{u:Value}{A:Around}{E:Value->Shared->Prop}
end
end L2
namespace Att
open PySem PySem.W PySem.Calls PyProof.Rows
def lR:∀ (ns:List Int) (vs:List Value),WellAll P h vs (ns.map WData.int)->IntsAre vs ns:=by
 intro ns
 induction ns with
 |nil=>
  intro vs w;rw[List.map_nil]at w;cases w;exact .nil
 |cons n ns ih=>
  intro vs w;rw[List.map_cons]at w
  cases w with
  |cons a b=>
   cases a;exact .cons _ _ (ih _ b)
def vz{l:OpenLaw}{n:Nat}(hn:l.most=some n){P:Params}{h:Heap}{args:List WData}{vals:List Value}
 (hpre:l.row.toRowW.claim.pre args=true)(hwl:WellAll P h vals args) :
  ∃ a vs ns,vals=[Value.ref a]/\args=[WData.list (ns.map WData.int)]/\h.get? a=some { cls:=.type "list",data:=.seq vs.toArray }/\IntsAre vs ns/\ns.length<=n:=by
 have hsh:WShape.hasAll [] args [.list .int]=true:=(pre_splitW hpre).1;have hc:l.pre.holds [] { args:=args }=true:=(pre_splitW hpre).2;obtain⟨d,r,rfl,h1,h2⟩:=hasAllW_cons hsh;obtain rfl:=hasAllW_nil h2;obtain⟨xs,rfl,h3⟩:=hasW_list h1;obtain⟨ns,rfl⟩:=items_int h3
 have hlen:ns.length<=n:=by
  unfold OpenLaw.pre at hc
  have h4:(WTm.not (.lt (.lit (.int (n:Int))) (.len (.arg 0)))).holds [] { args:=[.list (ns.map .int)] }=true:=by
   have h4:=(holds_andW hc).1;rw[hn]at h4;exact h4
  have h5:=condW_of h4 (w_not (w_lt w_lit (w_len_list (w_arg rfl))));rw[List.length_map]at h5;refine Nat.le_of_not_lt fun q=>?_
  have q':(n:Int)<((ns.length:Nat):Int):=by omega
  first
   | (rw[decide_eq_true q']at h5;exact absurd h5 (by decide))
   | (simp at h5;omega)
 cases hwl with
 |cons w1 w2=>
  cases w2
  cases w1 with
  | list ho hall=>exact⟨_,_,ns,rfl,rfl,ho,lR ns _ hall,hlen⟩
def wc(l:OpenLaw)(args:List WData):l.row.toRowW.claim.post args (.bool true) args=true :=
 postW_of (r:=l.row.toRowW) (X:=(true == true))
  (show WShape.has [] (.bool true) .bool=true by first | rfl | decide | simp[WShape.has,WShape.arms,WShape.armsAll])
  (show(WTm.eq .res (.lit (.bool true))).value [] { args:=args,res:=some (.bool true),after:=args }=some (.bool (true == true))from w_eq_bool (w_res rfl) w_lit) rfl
def rN{l:OpenLaw}{n:Nat}{q:Program}{loose:List Str}{XP:(Str->Option Value)->Heap->Prop}{YP:World->Heap->Prop}{d:DefRec}
 (hn:l.most=some n)(hdf:d.params.defaults=[])
 (call:∀ (w:World) (s₀ s₁:Shared) (mg mb:Str->Option Value) (fa:Addr) (o:Obj) (pm cd doc:Value) (a:Addr) (vs:List Value) (ns:List Int),
   Ground q loose [] XP w s₀ mg mb s₁.heap->YP w s₁.heap ->
   s₁.heap.get? fa=some o->o.data=.func (docDef d.name d.params d.body d.scope pm cd doc)->s₁.heap.CodeRec cd d.name->mg d.name=some (.ref fa) ->
   s₁.heap.get? a=some { cls:=.type "list",data:=.seq vs.toArray }->IntsAre vs ns->ns.length<=n->s₁.gens=#[] ->
   codeAny (model l.prog w) callerA (.call (.ref fa) ⟨[.ref a],[]⟩) (fun r s'=>r=.ok (.ret (.bool true))/\OldK s₁.heap s'.heap/\s'.os=s₁.os/\AllBare s'.gens) s₁) :
  WalkO q loose XP YP l.row.toRowW d [] (fun f vs=>PySem.call f vs):=by
 intro w s₀ s₁ mg mb G Y fa o pm cd doc dV kV ho hd hcd hD hmg hg args vals as hpre hlay hrd hwl hlo;obtain rfl:dV=.none:=Dflts.none hD hdf;obtain rfl:kV=.none:=Dflts.noKw hD;obtain⟨a,vs,ns,rfl,rfl,hobj,hints,hlen⟩:=vz hn hpre hwl;refine enter_call (codeAny_mono (call w s₀ s₁ mg mb fa o pm cd doc a vs ns G Y ho (fd_plain hd) hcd hmg hobj hints hlen hg) fun r s' hq=>?_);obtain⟨rfl,h2,h3,h4⟩:=hq;exact⟨.inl ⟨.bool true,.bool true,[],rfl,fun _=>rfl,.bool true,wc l _,fun _=>⟨List.Pairwise.nil,fun _ hm=>(nomatch hm)⟩⟩,h2,h3,h4⟩
section
variable{prog:Program}{w:World}{A:Around}{E:Value->Shared->Prop}{s:Shared}{K:Frag}
end
end Att
namespace L2
open PySem PySem.Spec PyProof.Rows
def iq:∀ {vs:List Value} {ns:List Int},IntsAre vs ns->Vals (ns.map V.int) vs
 | _,_,.nil=>.nil
 | _,_,.cons n t h=>.cons ⟨t,rfl⟩ (iq h)
abbrev pD(H:Hp):Prop:=∀ b,H b=none\/∃ o xs,H b=some (.frz o (.lst xs))
def zy{P:Program}{w:World}{K:PySem.W.Frag}{mg mb:Str->Option Value}{CX:CXT}{k:Nat}{fa a:Addr}{fd:FuncData}{x:Str}{sp:Sp}{s₁:Shared}{vs:List Value}{ns:List Int}
 (KX:K.In s₁.heap)(hns:s₁.heap.Ns mainGlobals mg)(hb:s₁.heap.Ns builtinsNs mb)(hbb:∀ x:Str,x ≠ "__name__" -> mb x=bootBuiltins x)(hlim:s₁.heap.NoLimit)(hg:s₁.gens=#[])
 (ha:s₁.heap.get? a=some { cls:=.type "list",data:=.seq vs.toArray })(hi:IntsAre vs ns)(hl:ns.length<=sizeLine)(hr:dN k callerA)
 (F:∀ base:Heap,K.In base->base.Ns mainGlobals mg->iA P w K mg base CX k fa fd [x] sp)(hbind:∀ (s:Shared) (u:Value),BindsTo s fd ⟨[u],[]⟩ [(x,u)])
 (hsp:∀ H:Hp,pD H->SqL K H a (ns.map V.int)->sp [.ref a] H (fun v _=>v=.bl true) fun _ _ _=>False)
 (hCX:∀ H e s',CX [] H s₁ (fun _ _ _=>False) e s'->False) :
  codeAny (model P w) callerA (.call (.ref fa) ⟨[.ref a],[]⟩) (fun r s'=>r=.ok (.ret (.bool true))/\OldK s₁.heap s'.heap/\s'.os=s₁.os/\AllBare s'.gens) s₁:=by
 have rv:=iq hi;have lenV:=hi.length
 have core:∀ H:Hp,pD H->SqL K H a (ns.map V.int)->HOk P w H s₁.heap->(∀ b,H b≠none->b=a)->(H a≠none->K.lookup a=none) ->
   codeAny (model P w) callerA (.call (.ref fa) ⟨[.ref a],[]⟩) (fun r s'=>r=.ok (.ret (.bool true))/\OldK s₁.heap s'.heap/\s'.os=s₁.os/\AllBare s'.gens) s₁:=by
  intro H hO hS hok hA hK;have base_of:∀ {b:Addr} {o:Obj},s₁.heap.get? b=some o->H b=none->(jv s₁.heap H).get? b=some o:=fun e n=>xP e n
  have noA:∀ {b:Addr} {o:Obj} {es:Array DictEntry} {ep:Nat},s₁.heap.get? b=some o->o.data=.dict es ep->H b=none:=fun {b o es ep} e d=>by
   cases q:H b with
   | none=>rfl
   |some u=>
    have e':b=a:=hA b (by rw[q];simp);subst e';rw[ha]at e;cases e;have d':Data.seq vs.toArray _=Data.dict es ep:=d;cases d'
  have nsK:∀ {b:Addr} {m:Str->Option Value},s₁.heap.Ns b m->(jv s₁.heap H).Ns b m:=fun {b m} ⟨o,es,ep,e,d,r⟩=>⟨o,es,ep,base_of e (noA e d),d,r⟩
  have hKb:K.In (jv s₁.heap H):=fun b o e=>base_of (KX b o e) (by
   cases q:H b with
   | none=>rfl
   |some u=>
    have e':b=a:=hA b (by rw[q];simp);subst e'
    rw[hK (by rw[q];simp)]at e;cases e)
  have hM:Mod K mg (jv s₁.heap H):=⟨hKb,nsK hns,⟨mb,nsK hb,hbb⟩,let ⟨mc,h1,h2⟩:=hlim;⟨mc,nsK h1,h2⟩⟩
  have e0:uy P w K mg (jv s₁.heap H) callerA [] s₁ H:=⟨rfl,hM,fun b o e=>Bx e,Nat.le_of_eq (vF _ _),trivial,fun b hb=>absurd (show b∈([]:List Addr)from hb) (by simp),hok,.of_eq hg⟩
  refine codeAny_mono ((F _ hKb (nsK hns)).run callerA [] s₁ H ⟨[.ref a],[]⟩ [.ref a] [.ref a] _ _ hr e0 (hbind s₁ (.ref a)) (.cons rfl .nil) (hsp H hO hS)) fun r s' h=>?_
  cases r with
  | error e=>exact(hCX H e s' h).elim
  |ok fl=>
   cases fl with
   | next=>exact False.elim h
   | brk=>exact False.elim h
   | cont=>exact False.elim h
   |ret u=>
    obtain⟨v,H',os,bare,un,hok',r',q⟩:=h;have q':v=.bl true:=q;subst q';obtain rfl:u=Value.bool true:=r';refine⟨rfl,OldK.of_keep fun b o e=>?_,os,bare⟩
    cases q:H b with
    | none=>exact un.keep b o e q (by intro z;exact absurd (show b∈([]:List Addr)from z) (by simp)) (by simp)
    |some u=>
     rcases hO b with z | ⟨ob,xs,z⟩
     ·rw[q]at z;cases z
     ·have z2:=un.gZ b ob _ z;obtain⟨e1,_⟩:=hok b _ z;obtain⟨e2,_⟩:=hok' b _ z2;rw[e]at e1;cases e1;exact e2
 cases hk:K.lookup a with
 |some o=>
  have e:=KX a o hk;rw[ha]at e;cases e;refine core (fun _=>none) (fun _=>.inl rfl) (.inr ⟨_,vs.toArray,_,hk,rfl,rfl,rfl,by rw[List.size_toArray,lenV];exact hl,by simpa using rv⟩) (fun b u z=>by have z':(none:Option HO)=some u:=z;cases z') (fun b z=>absurd rfl z) fun z=>absurd rfl z
 |none=>
  refine core (fun b=>if b=a then some (.frz { cls:=.type "list",data:=.seq vs.toArray } (.lst (ns.map V.int)))else none) (fun b=>?_) (.inl (.inr ⟨{ cls:=.type "list",data:=.seq vs.toArray },if_pos rfl⟩)) (fun b u z=>?_) (fun b z=>?_) fun _=>hk
  ·by_cases hb:b=a
   ·exact .inr ⟨_,_,if_pos hb⟩
   ·exact .inl (if_neg hb)
  ·by_cases hb:b=a
   ·have z':=(if_pos hb).symm.trans z;cases z';subst hb;exact⟨ha,by rw[List.length_map];exact hl,vs,_,rv,ha⟩
   ·have z':=(if_neg hb).symm.trans z;cases z'
  ·by_cases hb:b=a
   ·exact hb
   ·exact absurd (if_neg hb) z
@[reducible]noncomputable def KOf{K:PySem.W.Frag}{h:Heap}(_:K.In h):PySem.W.Frag:=K
def sA{l:PySem.W.OpenLaw}{n k:Nat}{q:Program}{loose:List Str}{XP:(Str->Option Value)->Heap->Prop}{YP:World->Heap->Prop}{d:DefRec}{K:Params->PySem.W.Frag}{CX:World->CXT}{sp:World->Sp}{x:Str}
 (hn:l.most=some n)(hn2:n<=sizeLine)(hdf:d.params.defaults=[])(hr:dN k callerA)
 (hY:∀ (w:World) (h:Heap),YP w h->(K w.params).In h)
 (F:∀ (w:World) (mg:Str->Option Value) (fa:Addr) (h:Heap),(K w.params).In h->h.Ns mainGlobals mg->mg d.name=some (.ref fa) ->
   ∃ fd:FuncData,(∀ (s:Shared) (u:Value),BindsTo s fd ⟨[u],[]⟩ [(x,u)]) /\
    ∀ base:Heap,(K w.params).In base->base.Ns mainGlobals mg->iA l.prog w (K w.params) mg base (CX w) k fa fd [x] (sp w))
 (hsp:∀ (w:World) (H:Hp) (a:Addr) (ns:List Int),ns.length<=n->pD H->SqL (K w.params) H a (ns.map V.int)->sp w [.ref a] H (fun v _=>v=.bl true) fun _ _ _=>False)
 (hCX:∀ (w:World) (H:Hp) (s:Shared) (e:Value) (s':Shared),CX w [] H s (fun _ _ _=>False) e s'->False) :
  PySem.W.WalkO q loose XP YP l.row.toRowW d [] (fun f vs=>PySem.call f vs):=by
 refine Att.rN hn hdf fun w s₀ s₁ mg mb fa o pm cd doc a vs ns G Y ho hd hcd hmg hobj hints hlen hg=>?_;have KX:=hY w _ Y;obtain⟨fd,hb,hF⟩:=F w mg fa _ KX G.T.g hmg;exact zy KX G.T.g G.T.b G.T.builtins G.T.nolimit hg hobj hints (Nat.le_trans hlen hn2) hr hF hb (fun H hO hS=>hsp w H a ns hlen hO hS) fun H e s'=>hCX w H s₁ e s'
def yk{l:PySem.W.OpenLaw}{n k:Nat}{q:Program}{loose:List Str}{XP:(Str->Option Value)->Heap->Prop}{YP:World->Heap->Prop}{d:DefRec}{K:Params->PySem.W.Frag}{CX:CXT}{sp:PySem.W.Frag->Sp}{x:Str}
 (hn:l.most=some n)(hn2:n<=sizeLine)(hdf:d.params.defaults=[])(hr:dN k callerA)
 (hY:∀ (w:World) (h:Heap),YP w h->(K w.params).In h)
 (F:∀ (w:World) (mg:Str->Option Value) (fa:Addr) (h:Heap),(K w.params).In h->h.Ns mainGlobals mg->mg d.name=some (.ref fa) ->
   ∃ fd:FuncData,(∀ (s:Shared) (u:Value),BindsTo s fd ⟨[u],[]⟩ [(x,u)]) /\
    ∀ base:Heap,(K w.params).In base->base.Ns mainGlobals mg->iA l.prog w (K w.params) mg base CX k fa fd [x] (sp (K w.params)))
 (hsp:∀ (K:PySem.W.Frag) (H:Hp) (a:Addr) (ns:List Int),ns.length<=n->pD H->SqL K H a (ns.map V.int)->sp K [.ref a] H (fun v _=>v=.bl true) fun _ _ _=>False)
 (hCX:∀ (H:Hp) (s:Shared) (e:Value) (s':Shared),CX [] H s (fun _ _ _=>False) e s'->False) :
  PySem.W.WalkO q loose XP YP l.row.toRowW d [] (fun f vs=>PySem.call f vs) :=
 sA (K:=K) (CX:=fun _=>CX) (sp:=fun w=>sp (K w.params)) hn hn2 hdf hr hY F (fun w H a ns h1 h2 h3=>hsp (K w.params) H a ns h1 h2 h3) fun _ H s e s'=>hCX H s e s'
abbrev gr(s:Stmt):Arguments:=match s with
 | .FunctionDef _ a _ _ _ _ _ _ _ _=>a
 | _=>{ posonlyargs:=[],args:=[],vararg:=none,kwonlyargs:=[],kw_defaults:=[],kwarg:=none,defaults:=[] }
abbrev dQ(s:Stmt):List Stmt:=match s with
 | .FunctionDef _ _ b _ _ _ _ _ _ _=>b
 | _=>[]
abbrev bT(s:Stmt):Scope:=match s with
 | .FunctionDef _ _ _ _ _ _ sc _ _ _=>sc
 | _=>{ kind:=.function,names:=[],isGenerator:=false,isCoroutine:=false }
@[reducible]noncomputable def CX0:CXT:=fun _ _ _ _ _ _=>False
@[reducible]noncomputable def E0:XK:=fun _ _ _=>False
def An:Passes CX0 X E0:=fun _ _ _ _ _ _ _ h=>h.elim
structure Fun(K:PySem.W.Frag)(x qual:Str)(st:Stmt)(f:Addr)(fd:FuncData):Prop where
 ex:∃ (oc:Value) (od:Option Addr) (kV doc pm:Value) (an:Option Addr) (cdv ct:Value) (osl:Array (Option Value)),
  fd=PySem.W.fnOf x qual (gr st) (dQ st) (bT st) .none kV doc pm an cdv ct/\K.lookup f=some ⟨oc,od,.func fd,osl⟩/\PySem.W.codeIn K cdv qual=true
 kp:PySem.W.keepIn K (.ref f)=true
section
variable{P:Program}{w:World}{K:PySem.W.Frag}{mg:Str->Option Value}{base:Heap}
def Fun.ok{x qual:Str}{st:Stmt}{f:Addr}{fd:FuncData}{N ps:List Str}{k:Nat}{sp:Sp}(F:Fun K x qual st f fd)(S:kH N ps (bT st))(len:∀ vs H Q E,sp vs H Q E->vs.length=ps.length)
 (hbody:∀ (cdv:Value) (A:Around) (outer:List Env) (s:Shared) (H:Hp) (vs:List V) (Q:VK) (E:XK),dN k (A.deeper (envOfC qual (bT st) s.heap.objs.size f cdv))->sp vs H Q E ->
   ∃ t,PSs (lC CX0 P w K mg base N qual (bT st) f cdv A outer s H E).nox (dQ st) t/\t { nx:=fun _ H'=>Q .non H',rt:=Q } (start N vs) H):iA P w K mg base CX0 (k+1) f fd ps sp:=by
 obtain⟨oc,od,kV,doc,pm,an,cdv,ct,osl,rfl,lk,hcd⟩:=F.ex;refine Gg lk hcd S len fun A outer s H vs Q E hr hsp=>?_;obtain⟨t,h,q⟩:=hbody cdv A outer s H vs Q E hr hsp;exact⟨t,h.nox,q⟩
def Fun.binds{x qual:Str}{st:Stmt}{f:Addr}{fd:FuncData}{ps:List Str}(F:Fun K x qual st f fd)
 (h:∀ (kV doc pm:Value) (an:Option Addr) (cdv ct:Value) (us:List Value),us.length=ps.length->bindArgs (PySem.W.fnOf x qual (gr st) (dQ st) (bT st) .none kV doc pm an cdv ct) ⟨us,[]⟩=pure (ps.zip us)):Binds K fd ps []:=by
 obtain⟨oc,od,kV,doc,pm,an,cdv,ct,osl,rfl,lk,hcd⟩:=F.ex;exact .all (h kV doc pm an cdv ct)
def wG{x qual:Str}{st:Stmt}{f:Addr}{oc:Value}{od an:Option Addr}{osl:Array (Option Value)}{kV doc pm cdv ct:Value}(l:K.lookup f=some ⟨oc,od,.func (PySem.W.fnOf x qual (gr st) (dQ st) (bT st) .none kV doc pm an cdv ct),osl⟩)
 (c:PySem.W.codeIn K cdv qual=true)(k:PySem.W.keepIn K (.ref f)=true):Fun K x qual st f (PySem.W.fnOf x qual (gr st) (dQ st) (bT st) .none kV doc pm an cdv ct):=⟨⟨oc,od,kV,doc,pm,an,cdv,ct,osl,rfl,l,c⟩,k⟩
end
def nQ(h:n<=1000):n<sizeLine:=Nat.lt_of_le_of_lt h (by decide)
section
variable{X:Cx}
end
def eF{A B:Prop}(h:B):if false=true then A else B:=by
 rw[if_neg Bool.false_ne_true];exact h
def dJ{A B:Prop}(h:A):if true=true then A else B:=by
 rw[if_pos rfl];exact h
abbrev aw(H H':Hp):Prop:=∀ b o,H b=some o->H' b=some o
def aw.refl(H:Hp):aw H H:=fun _ _ h=>h
def aw.trans(a:aw H H1)(b:aw H1 H2):aw H H2:=fun c o h=>b c o (a c o h)
def aw.free(e:aw H H')(h:H' l=Option.none):H l=Option.none:=by
 cases q:H l with
 | none=>rfl
 |some o=>
  rw[e l o q]at h;cases h
section
variable{X:Cx}
def wJ:aZ X (.builtin "len") (fun xs H Q=>∃ a kvs,xs=[V.ref a]/\H a=some (.dK kvs)/\Q (.int kvs.length) H):=by
 intro pins s σ H xs us Q I r h;obtain⟨a,kvs,rfl,ha,q⟩:=h;obtain⟨u,rfl,ru⟩:=vals1 r;cases ru
 exact GK I (.inl ha) fun t s' I'=>⟨.int kvs.length,H,I',⟨t,rfl⟩,q⟩
end
section
variable{κ:Type} [DecidableEq κ]
end
end L2
namespace RS
open PySem PySem.Spec PyProof.Rows L2
@[reducible]def VE:List Value:=[.type "ValueError",.type "Exception",.type "BaseException",.type "object"]
abbrev yS:List Str:=["RibbonError", "BadPegs", "BadFrame", "BadHalf", "BadHook", "BadName", "NoNumber", "NoFrame", "NoStack", "NoPlace", "Taken", "Full", "NothingThere", "BadTrade", "Hangs", "BadPage"]
abbrev Cw(f:Option PySem.Builtin.ObjectAttr.Found):Bool:=match f with
 | some (.bind (.builtin a) (.builtin b))=>a == "getset_descriptor.__get__" && b == "object.__class__"
 | _=>false
abbrev FA(K:PySem.W.Frag)(x:Str)(C:Addr):Bool :=
 PySem.W.excIn K C VE "ValueError.__new__" && PySem.W.findIn K (.ref C) "__getattribute__" == some (some (.builtin "BaseException.__getattribute__"))&&PySem.W.findIn K (.ref C) "__getattr__" == some none&&Cw (PySem.W.findObj K C none "__class__") &&
 PySem.W.mroIn K C (.type "object") == some true&&PySem.W.subIn K (.ref C) (.type "BaseException") == some true&&(PySem.W.clsIn K C).isSome&&PySem.W.kitOne K (.ref C) (.type "ValueError") == some true &&
 yS.all fun c=>match PySem.W.nsIn K mainGlobals c with
  | some (some (.ref D))=>PySem.W.kitOne K (.ref C) (.ref D) == some (RL.zV x c)&&PySem.W.subIn K (.ref C) (.ref D) == some (RL.zV x c)
  | _=>true
structure Cls(K:PySem.W.Frag)(x:Str)(C:Addr):Prop where
 ns:PySem.W.nsIn K mainGlobals x=some (some (.ref C))
 ok:FA K x C=true
section
variable{K:PySem.W.Frag}
end
abbrev nP:Addr->Prop:=fun _=>False
abbrev jP(K:PySem.W.Frag)(H:Hp)(a:Addr)(xs:List V):Prop:=(∃ o,H a=some (.frz o (.lst xs)))\/SqL K (fun _=>none) a xs
def jP.seq{K:PySem.W.Frag}(h:jP K H a xs):SqL K H a xs:=by
 rcases h with⟨o,h⟩ | (h | ⟨o,h⟩) | h
 ·exact .inl (.inr ⟨o,h⟩)
 ·cases h
 ·cases h
 ·exact .inr h
def jP.same{K:PySem.W.Frag}(e:aw H H')(h:jP K H a xs):jP K H' a xs:=by
 rcases h with⟨o,h⟩ | h
 ·exact .inl ⟨o,e _ _ h⟩
 ·exact .inr h
abbrev ExV(K:PySem.W.Frag)(H:Hp)(c:Str)(v:V):Prop:=∃ a o u D vs,v=.ref a/\H a=some (.frz o u)/\(o.cls=.ref D/\o.dict=none)/\o.data=.fields vs/\vs[2]?=some .none/\Cls K c D
def ExV.keep{K:PySem.W.Frag}(h:ExV K H c v)(k:∀ b o u,H b=some (.frz o u)->H' b=some (.frz o u)):ExV K H' c v :=
 let ⟨a,o,u,D,vs,h1,h2,r⟩:=h;⟨a,o,u,D,vs,h1,k _ _ _ h2,r⟩
mutual
noncomputable def Rep(P:Addr->Prop)(K:PySem.W.Frag)(H:Hp):RL.D->V->Prop
 | .non,v=>v=.non
 | .bl b,v=>v=.bl b
 | .int i,v=>v=.int i
 | .str x,v=>v=.str x
 | .tup ds,v=>∃ a xs,v=.ref a/\H a=some (.tup xs)/\ab P K H ds xs
 | .lst ds,v=>∃ a xs,v=.ref a/\¬ P a/\H a=some (.lst xs)/\ab P K H ds xs
 | .dK ks ds,v=>∃ a xs,v=.ref a/\¬ P a/\H a=some (.dK (ks.zip xs))/\ks.length=ds.length/\ab P K H ds xs
 | .dT ks ds,v=>∃ a xs,v=.ref a/\¬ P a/\H a=some (.dT (ks.zip xs))/\ks.length=ds.length/\ab P K H ds xs
 | .scr ds,v=>∃ a xs,v=.ref a/\jP K H a xs/\ab P K H ds xs
 | .exc c,v=>ExV K H c v
 | .fT ks,v=>∃ a o kvs,v=.ref a/\H a=some (.frz o (.dT kvs))/\kvs.map (·.1)=ks
noncomputable def ab(P:Addr->Prop)(K:PySem.W.Frag)(H:Hp):List RL.D->List V->Prop
 | [],xs=>xs=[]
 | d::r,xs=>∃ x t,xs=x::t/\Rep P K H d x/\ab P K H r t
end
mutual
theorem Rep.same{P:Addr->Prop}{K:PySem.W.Frag}{H H':Hp}(e:aw H H'):∀ {d:RL.D} {v:V},Rep P K H d v->Rep P K H' d v
 | .non,v,h=>by simpa[Rep]using h
 | .bl _,v,h=>by simpa[Rep]using h
 | .int _,v,h=>by simpa[Rep]using h
 | .str _,v,h=>by simpa[Rep]using h
 | .tup ds,v,h=>by
  rw[Rep]at h ⊢;obtain⟨a,xs,e1,e2,e3⟩:=h;exact⟨a,xs,e1,e _ _ e2,ab.same e e3⟩
 | .lst ds,v,h=>by
  rw[Rep]at h ⊢;obtain⟨a,xs,e1,e0,e2,e3⟩:=h;exact⟨a,xs,e1,e0,e _ _ e2,ab.same e e3⟩
 | .dK ks ds,v,h=>by
  rw[Rep]at h ⊢;obtain⟨a,xs,e1,e0,e2,el,e3⟩:=h;exact⟨a,xs,e1,e0,e _ _ e2,el,ab.same e e3⟩
 | .dT ks ds,v,h=>by
  rw[Rep]at h ⊢;obtain⟨a,xs,e1,e0,e2,el,e3⟩:=h;exact⟨a,xs,e1,e0,e _ _ e2,el,ab.same e e3⟩
 | .scr ds,v,h=>by
  rw[Rep]at h ⊢;obtain⟨a,xs,e1,e2,e3⟩:=h;exact⟨a,xs,e1,jP.same e e2,ab.same e e3⟩
 | .exc c,v,h=>by rw[Rep]at h ⊢;exact h.keep fun _ _ _ q=>e _ _ q
 | .fT ks,v,h=>by rw[Rep]at h ⊢;obtain⟨a,o,kvs,e1,e2,e3⟩:=h;exact⟨a,o,kvs,e1,e _ _ e2,e3⟩
theorem ab.same{P:Addr->Prop}{K:PySem.W.Frag}{H H':Hp}(e:aw H H'):∀ {ds:List RL.D} {xs:List V},ab P K H ds xs->ab P K H' ds xs
 | [],xs,h=>by rw[ab]at h ⊢;exact h
 | d::r,xs,h=>by
  rw[ab]at h ⊢;obtain⟨x,t,e1,e2,e3⟩:=h;exact⟨x,t,e1,Rep.same e e2,ab.same e e3⟩
end
mutual
theorem Rep.weak{P P':Addr->Prop}{K:PySem.W.Frag}{H:Hp}(e:∀ a,P' a->P a):∀ {d:RL.D} {v:V},Rep P K H d v->Rep P' K H d v
 | .non,v,h=>by simpa[Rep]using h
 | .bl _,v,h=>by simpa[Rep]using h
 | .int _,v,h=>by simpa[Rep]using h
 | .str _,v,h=>by simpa[Rep]using h
 | .tup ds,v,h=>by
  rw[Rep]at h ⊢;obtain⟨a,xs,e1,e2,e3⟩:=h;exact⟨a,xs,e1,e2,ab.weak e e3⟩
 | .lst ds,v,h=>by
  rw[Rep]at h ⊢;obtain⟨a,xs,e1,e0,e2,e3⟩:=h;exact⟨a,xs,e1,fun z=>e0 (e a z),e2,ab.weak e e3⟩
 | .dK ks ds,v,h=>by
  rw[Rep]at h ⊢;obtain⟨a,xs,e1,e0,e2,el,e3⟩:=h;exact⟨a,xs,e1,fun z=>e0 (e a z),e2,el,ab.weak e e3⟩
 | .dT ks ds,v,h=>by
  rw[Rep]at h ⊢;obtain⟨a,xs,e1,e0,e2,el,e3⟩:=h;exact⟨a,xs,e1,fun z=>e0 (e a z),e2,el,ab.weak e e3⟩
 | .scr ds,v,h=>by
  rw[Rep]at h ⊢;obtain⟨a,xs,e1,e2,e3⟩:=h;exact⟨a,xs,e1,e2,ab.weak e e3⟩
 | .exc c,v,h=>by rw[Rep]at h ⊢;exact h
 | .fT ks,v,h=>by rw[Rep]at h ⊢;exact h
theorem ab.weak{P P':Addr->Prop}{K:PySem.W.Frag}{H:Hp}(e:∀ a,P' a->P a):∀ {ds:List RL.D} {xs:List V},ab P K H ds xs->ab P' K H ds xs
 | [],xs,h=>by rw[ab]at h ⊢;exact h
 | d::r,xs,h=>by
  rw[ab]at h ⊢;obtain⟨x,t,e1,e2,e3⟩:=h;exact⟨x,t,e1,Rep.weak e e2,ab.weak e e3⟩
end
def Rep.none{P:Addr->Prop}{K:PySem.W.Frag}(h:Rep P K H d v):Rep nP K H d v:=h.weak fun _ z=>z.elim
mutual
theorem Rep.imm{P P':Addr->Prop}{K:PySem.W.Frag}{H:Hp}:∀ {d:RL.D} {v:V},d.imm=true->Rep P K H d v->Rep P' K H d v
 | .non,v,_,h=>by simpa[Rep]using h
 | .bl _,v,_,h=>by simpa[Rep]using h
 | .int _,v,_,h=>by simpa[Rep]using h
 | .str _,v,_,h=>by simpa[Rep]using h
 | .tup ds,v,i,h=>by
  rw[Rep]at h ⊢;rw[RL.D.imm]at i;obtain⟨a,xs,e1,e2,e3⟩:=h;exact⟨a,xs,e1,e2,ab.imm i e3⟩
 | .lst ds,v,i,h=>by rw[RL.D.imm]at i;cases i
 | .dK ks ds,v,i,h=>by rw[RL.D.imm]at i;cases i
 | .dT ks ds,v,i,h=>by rw[RL.D.imm]at i;cases i
 | .scr ds,v,i,h=>by
  rw[Rep]at h ⊢;rw[RL.D.imm]at i;obtain⟨a,xs,e1,e2,e3⟩:=h;exact⟨a,xs,e1,e2,ab.imm i e3⟩
 | .exc c,v,i,h=>by rw[Rep]at h ⊢;exact h
 | .fT ks,v,i,h=>by rw[Rep]at h ⊢;exact h
theorem ab.imm{P P':Addr->Prop}{K:PySem.W.Frag}{H:Hp}:∀ {ds:List RL.D} {xs:List V},RL.ao ds=true->ab P K H ds xs->ab P' K H ds xs
 | [],xs,_,h=>by rw[ab]at h ⊢;exact h
 | d::r,xs,i,h=>by
  rw[ab]at h ⊢;rw[RL.ao,Bool.and_eq_true]at i;obtain⟨x,t,e1,e2,e3⟩:=h;exact⟨x,t,e1,Rep.imm i.1 e2,ab.imm i.2 e3⟩
end
abbrev cx(o:HO):Prop:=(∃ xs,o=.lst xs)\/(∃ kvs,o=.dK kvs)\/(∃ kvs,o=.dT kvs)
mutual
theorem Rep.upd{P:Addr->Prop}{K:PySem.W.Frag}{H:Hp}{a:Addr}{o o':HO}(ha:H a=some o)(m:cx o)(p:P a):∀ {d:RL.D} {v:V},Rep P K H d v->Rep P K (upd H a o') d v
 | .non,v,h=>by simpa[Rep]using h
 | .bl _,v,h=>by simpa[Rep]using h
 | .int _,v,h=>by simpa[Rep]using h
 | .str _,v,h=>by simpa[Rep]using h
 | .tup ds,v,h=>by
  rw[Rep]at h ⊢;obtain⟨b,xs,e1,e2,e3⟩:=h;have n:b≠a:=kI e2 ha (by rcases m with⟨z,rfl⟩ | ⟨z,rfl⟩ | ⟨z,rfl⟩<;>(intro q;cases q));exact⟨b,xs,e1,by rw[L2.aI n];exact e2,ab.upd ha m p e3⟩
 | .lst ds,v,h=>by
  rw[Rep]at h ⊢;obtain⟨b,xs,e1,e0,e2,e3⟩:=h;have n:b≠a:=fun z=>e0 (z▸p);exact⟨b,xs,e1,e0,by rw[L2.aI n];exact e2,ab.upd ha m p e3⟩
 | .dK ks ds,v,h=>by
  rw[Rep]at h ⊢;obtain⟨b,xs,e1,e0,e2,el,e3⟩:=h;have n:b≠a:=fun z=>e0 (z▸p);exact⟨b,xs,e1,e0,by rw[L2.aI n];exact e2,el,ab.upd ha m p e3⟩
 | .dT ks ds,v,h=>by
  rw[Rep]at h ⊢;obtain⟨b,xs,e1,e0,e2,el,e3⟩:=h;have n:b≠a:=fun z=>e0 (z▸p);exact⟨b,xs,e1,e0,by rw[L2.aI n];exact e2,el,ab.upd ha m p e3⟩
 | .scr ds,v,h=>by
  rw[Rep]at h ⊢;obtain⟨b,xs,e1,e2,e3⟩:=h;refine⟨b,xs,e1,?_,ab.upd ha m p e3⟩;rcases e2 with⟨q,e2⟩ | e2
  ·have n:b≠a:=kI e2 ha (by rcases m with⟨z,rfl⟩ | ⟨z,rfl⟩ | ⟨z,rfl⟩<;>(intro q;cases q));exact .inl ⟨q,by rw[L2.aI n];exact e2⟩
  ·exact .inr e2
 | .exc c,v,h=>by
  rw[Rep]at h ⊢;refine h.keep fun b ob u q=>?_;have n:b≠a:=kI q ha (by rcases m with⟨z,rfl⟩ | ⟨z,rfl⟩ | ⟨z,rfl⟩<;>(intro q;cases q));rw[L2.aI n];exact q
 | .fT ks,v,h=>by
  rw[Rep]at h ⊢;obtain⟨b,ob,kvs,e1,e2,e3⟩:=h;have n:b≠a:=kI e2 ha (by rcases m with⟨z,rfl⟩ | ⟨z,rfl⟩ | ⟨z,rfl⟩<;>(intro q;cases q));exact⟨b,ob,kvs,e1,by rw[L2.aI n];exact e2,e3⟩
theorem ab.upd{P:Addr->Prop}{K:PySem.W.Frag}{H:Hp}{a:Addr}{o o':HO}(ha:H a=some o)(m:cx o)(p:P a):∀ {ds:List RL.D} {xs:List V},ab P K H ds xs->ab P K (upd H a o') ds xs
 | [],xs,h=>by rw[ab]at h ⊢;exact h
 | d::r,xs,h=>by
  rw[ab]at h ⊢;obtain⟨x,t,e1,e2,e3⟩:=h;exact⟨x,t,e1,Rep.upd ha m p e2,ab.upd ha m p e3⟩
end
section lists
variable{K:PySem.W.Frag}
def ab.nil:ab P K H [] []:=by rw[ab]
def ab.cons{d:RL.D}{ds:List RL.D}{x:V}{xs:List V}(h:Rep P K H d x)(t:ab P K H ds xs):ab P K H (d::ds) (x::xs):=by rw[ab];exact⟨x,xs,rfl,h,t⟩
def ab.length:∀ {ds:List RL.D} {xs:List V},ab P K H ds xs->ds.length=xs.length
 | [],xs,h=>by rw[ab]at h;rw[h];rfl
 | d::r,xs,h=>by
  rw[ab]at h;obtain⟨x,t,rfl,_,e3⟩:=h;rw[List.length_cons,List.length_cons,ab.length e3]
def ab.append:∀ {ds es:List RL.D} {xs ys:List V},ab P K H ds xs->ab P K H es ys->ab P K H (ds++es) (xs++ys)
 | [],_,xs,_,h,k=>by rw[ab]at h;rw[h];exact k
 | d::r,_,xs,_,h,k=>by
  rw[ab]at h;obtain⟨x,t,rfl,e2,e3⟩:=h;exact ab.cons e2 (ab.append e3 k)
def ab.get:∀ {ds:List RL.D} {xs:List V} {i:Nat} {d:RL.D},ab P K H ds xs->ds[i]?=some d->∃ x,xs[i]?=some x/\Rep P K H d x
 | [],_,i,d,_,e=>by simp at e
 | d::r,xs,0,d',h,e=>by
  rw[ab]at h;obtain⟨x,t,rfl,e2,_⟩:=h;simp at e;subst e;exact⟨x,rfl,e2⟩
 | d::r,xs,i+1,d',h,e=>by
  rw[ab]at h;obtain⟨x,t,rfl,_,e3⟩:=h;obtain⟨y,h1,h2⟩:=ab.get (i:=i) e3 (by simpa using e);exact⟨y,by simpa using h1,h2⟩
def ab.set:∀ {ds:List RL.D} {xs:List V} (i:Nat) {d:RL.D} {x:V},ab P K H ds xs->Rep P K H d x->ab P K H (ds.set i d) (xs.set i x)
 | [],xs,_,_,_,h,_=>by rw[ab]at h;rw[h];exact ab.nil
 | d::r,xs,0,_,_,h,k=>by
  rw[ab]at h;obtain⟨x,t,rfl,_,e3⟩:=h;exact ab.cons k e3
 | d::r,xs,i+1,_,_,h,k=>by
  rw[ab]at h;obtain⟨x,t,rfl,e2,e3⟩:=h;exact ab.cons e2 (ab.set i e3 k)
def ab.take:∀ {ds:List RL.D} {xs:List V} (n:Nat),ab P K H ds xs->ab P K H (ds.take n) (xs.take n)
 | _,_,0,_=>by simpa using ab.nil
 | [],xs,n+1,h=>by rw[ab]at h;rw[h];simpa using ab.nil
 | d::r,xs,n+1,h=>by
  rw[ab]at h;obtain⟨x,t,rfl,e2,e3⟩:=h;exact ab.cons e2 (ab.take n e3)
def ab.rep(h:ab P K H ds xs):∀ n:Nat,ab P K H (List.replicate n ds).flatten (List.replicate n xs).flatten
 | 0=>ab.nil
 | n+1=>by
  rw[List.replicate_succ,List.replicate_succ,List.flatten_cons,List.flatten_cons];exact ab.append h (ab.rep h n)
end lists
abbrev RV0(K:PySem.W.Frag)(σD:RL.St)(σ:L2.St)(H:Hp):Prop:=σD.length<=σ.length/\∀ (i:Nat) (d:RL.D),σD[i]?=some (some d)->∃ v,σ[i]?=some (some v)/\Rep nP K H d v
def RV0.same{K:PySem.W.Frag}(h:RV0 K σD σ H)(e:aw H H'):RV0 K σD σ H':=⟨h.1,fun i d q=>by
 obtain⟨v,h1,h2⟩:=h.2 i d q
 exact⟨v,h1,h2.same e⟩⟩
abbrev lh:RL.D->Bool
 | .lst _=>true
 | .dK _ _=>true
 | .dT _ _=>true
 | _=>false
structure Res(K:PySem.W.Frag)(σD:RL.St)(σ:L2.St)(H:Hp)(e:RL.E)(d:RL.D)(v:V)(H':Hp):Prop where
 same:aw H H'
 rep:Rep nP K H' d v
 fresh:RL.aD e=true->lh d=true->∀ a,v=.ref a->H a=none
 av:∀ M,RL.avE M e=true->∀ P:Addr->Prop,(∀ a,P a->H a≠none)->(∀ (j:Nat) (dj:RL.D) (vj:V),M.contains j=false->σD[j]?=some (some dj)->σ[j]?=some (some vj)->Rep P K H dj vj)->Rep P K H' d v
abbrev tE(K:PySem.W.Frag)(cl:RL.Cl)(e:RL.E):TE:=fun σ H Q=>∃ σD d,RV0 K σD σ H/\RL.ev cl σD e=some d/\∀ v H',Res K σD σ H e d v H'->Q v H'
abbrev SE(X:Cx)(cl:RL.Cl)(e:Expr)(e':RL.E):Prop:=PE X e (tE X.K cl e')
def PE.weak(h:PE X e t)(w:∀ σ H Q,t' σ H Q->t σ H Q):PE X e t':=fun pins s σ H Q I q=>h pins s σ H Q I (w σ H Q q)
abbrev tEs(K:PySem.W.Frag)(cl:RL.Cl)(es:RL.Es):TA:=fun σ H Q=>∃ σD ds,RV0 K σD σ H/\RL.evs cl σD es=some ds/\∀ vs H',aw H H'->ab nP K H' ds vs->Q vs H'
abbrev SEs(X:Cx)(cl:RL.Cl)(es:List Expr)(es':RL.Es):Prop:=PA X es (tEs X.K cl es')
section rules
variable{X:Cx}
def two{σD:RL.St}{σ:L2.St}{H:Hp}{x y:RL.D}{R:V->V->Hp->Prop}(rv:RV0 X.K σD σ H)(ea:RL.ev cl σD a'=some x)(eb:RL.ev cl σD b'=some y)
 (k:∀ v u H1 H2,aw H H1->aw H1 H2->Rep nP X.K H2 x v->Rep nP X.K H2 y u->Res X.K σD σ H a' x v H1->Res X.K σD σ H1 b' y u H2->R v u H2) :
  tE X.K cl a' σ H fun v H1=>tE X.K cl b' σ H1 fun u H2=>R v u H2 :=
 ⟨σD,x,rv,ea,fun v H1 r1=>⟨σD,y,rv.same r1.same,eb,fun u H2 r2=>k v u H1 H2 r1.same r2.same (r1.rep.same r2.same) r2.rep r1 r2⟩⟩
def bind_some(h:o.bind f=some y):∃ x,o=some x/\f x=some y:=by
 cases o with
 | none=>cases h
 | some x=>exact⟨x,rfl,h⟩
def map_some(h:o.map f=some y):∃ x,o=some x/\f x=y:=by
 cases o with
 | none=>cases h
 | some x=>exact⟨x,rfl,Option.some.inj h⟩
def bM:RL.most<=sizeLine:=by decide
def aw.bE(hn:H p=none):aw H (upd H p o):=fun b u e=>by rw[aI (aH e hn)];exact e
def Em(hN:X.N[i]?=some x)(hv:Vis X.env.scope x)(hd:(x == ("__debug__" : Str))=false)(hcd:(x == ("__classdict__" : Str))=false):SE X cl (.Name x pos) (.var i):=by
 refine PE.weak (eB hN hv hd hcd) fun σ H Q h=>?_;obtain⟨σD,d,rv,e,k⟩:=h
 have e':σD[i]?=some (some d):=by
  obtain⟨o,h1,h2⟩:=bind_some e
  cases o with
  | none=>cases h2
  | some z=>cases h2;exact h1
 obtain⟨v,h1,h2⟩:=rv.2 i d e';refine⟨v,h1,k v H ⟨aw.refl H,h2,fun z=>(by cases z),fun M z P hP av=>?_⟩⟩;rw[RL.Ho]at z;exact av i d v (by simpa using z) e' h1
def lG(h:PE X (.Constant k j pos) (tC v))(r:∀ P H,Rep P X.K H d v)(hm:lh d=false):SE X cl (.Constant k j pos) (.cst d):=by
 refine PE.weak h fun σ H Q q=>?_;obtain⟨σD,d',rv,e,k⟩:=q;cases e;exact k v H ⟨aw.refl H,r _ _,fun z=>(by cases z),fun M z=>nomatch (show false=true from z)⟩
def CO{x:Str}{i:Int}{u:Value}(h:PE X (.Name x pos) (tC (.int i))):SE X cl (.Name x pos) (.glb x i):=by
 refine PE.weak h fun σ H Q q=>?_;obtain⟨σD,d',rv,e,k⟩:=q;cases e;exact k _ H ⟨aw.refl H,(by rw[Rep]),fun z=>(by cases z),fun M z=>nomatch (show false=true from z)⟩
end rules
section rules
variable{X:Cx}
def bU(sm:aw H H')(r:Rep nP X.K H' d v)(im:d.imm=true):Res X.K σD σ H e d v H' where
 same:=sm
 rep:=r
 fresh:=fun _ m=>by
  cases d with
  | lst _=>cases im
  | dK _ _=>cases im
  | dT _ _=>cases im
  | _=>cases m
 av:=fun M _ P _ _=>r.imm im
def xG:OpR X (binaryOp .FloorDiv) (rI (fun _ j=>0<j/\j<2 ^ 200) fun i j=>.int (i / j)):=opI fun i j _ _ _ _ _ hc q=>by
 refine floordiv_int (by lia) ?_ (.inl (PyProof.noPylong_of_log2 ?_))
 ·rw[Int.fdiv_eq_ediv_of_nonneg _ (by lia)];exact q
 ·have h0:j.natAbs≠0:=by lia
  have h1:j.natAbs<2 ^ 200:=by
   have:=hc.2;omega
  have h2:j.natAbs.log2<200:=(Nat.log2_lt h0).mpr h1;lia
def cT(sm:aw H H1)(hn:H1 p=none)(r:ab nP X.K H1 ds xs)(hav:∀ M,RL.avE M e=false):Res X.K σD σ H e (.lst ds) (.ref p) (upd H1 p (.lst xs)) where
 same:=sm.trans (aw.bE hn)
 rep:=by
  rw[Rep];exact⟨p,xs,rfl,fun z=>z,aW,r.same (aw.bE hn)⟩
 fresh:=fun _ _ a z=>by
  cases z;exact sm.free hn
 av:=fun M z=>by rw[hav M]at z;cases z
def jf(sm:aw H H1)(hn:H1 p=none)(r:ab nP X.K H1 ds xs)(hav:∀ M,RL.avE M e=false):Res X.K σD σ H e (.tup ds) (.ref p) (upd H1 p (.tup xs)) where
 same:=sm.trans (aw.bE hn)
 rep:=by
  rw[Rep];exact⟨p,xs,rfl,aW,r.same (aw.bE hn)⟩
 fresh:=fun _ m=>by cases m
 av:=fun M z=>by rw[hav M]at z;cases z
abbrev pN:RL.Bop->Operator
 | .add=>.Add
 | .sub=>.Sub
 | .mul=>.Mult
 | .fdiv=>.FloorDiv
 | .mod=>.Mod
 | .pow=>.Pow
def aM{P:Addr->Prop}{K:PySem.W.Frag}:Rep P K H (.int i) (.int i):=by rw[Rep]
def lN{P:Addr->Prop}{K:PySem.W.Frag}:Rep P K H (.bl i) (.bl i):=by rw[Rep]
def dP{P:Addr->Prop}{K:PySem.W.Frag}:Rep P K H (.str i) (.str i):=by rw[Rep]
def ai{P:Addr->Prop}{K:PySem.W.Frag}(h:Rep P K H (.int i) v):v=.int i:=by rw[Rep]at h;exact h
def aR{P:Addr->Prop}{K:PySem.W.Frag}(h:Rep P K H (.bl i) v):v=.bl i:=by rw[Rep]at h;exact h
def a7{P:Addr->Prop}{K:PySem.W.Frag}(h:Rep P K H (.str i) v):v=.str i:=by rw[Rep]at h;exact h
abbrev lO(X:Cx)(o:RL.Bop)(r:R2):Prop :=
 ∀ (σD:RL.St) (σ:L2.St) (H H2:Hp) (e:RL.E) (x y d:RL.D) (v u:V) (Q:VK),aw H H2->Rep nP X.K H2 x v->Rep nP X.K H2 y u->RL.a5 o x y=some d->(∀ M,RL.avE M e=false) ->
  (∀ w H',Res X.K σD σ H e d w H'->Q w H')->r v u H2 Q
def gn(ho:OpR X (binaryOp (pN o)) r)(ok:lO X o r)(ha:SE X cl a a')(hb:SE X cl b b'):SE X cl (.BinOp a (pN o) b pos) (.bin o a' b'):=by
 refine PE.weak (G8 ho ha hb) fun σ H Q h=>?_;obtain⟨σD,d,rv,e,k⟩:=h;obtain⟨x,ea,e⟩:=bind_some e;obtain⟨y,eb,e⟩:=bind_some e;refine two rv ea eb fun v u H1 H2 s1 s2 rx ry _ _=>?_;exact ok σD σ H H2 _ x y d v u Q (s1.trans s2) rx ry e (fun _=>rfl) k
end rules
section rules
variable{X:Cx}{cl:RL.Cl}{a b c:Expr}{a' b' c':RL.E}{pos:Pos}
def cK{α:Type}{c:Prop} [Decidable c]{a d:α}(h:(if c then some a else none)=some d):c/\d=a:=by
 by_cases hc:c
 ·rw[if_pos hc]at h;exact⟨hc,(Option.some.inj h).symm⟩
 ·rw[if_neg hc]at h;cases h
def noN{α:Type}{o:Option α}{d:α}{p:Prop}(e:o=none)(h:o=some d):p:=by rw[e]at h;cases h
def zB{x y d:RL.D}(h:RL.a5 .add x y=some d):(∃ i j,x=.int i/\y=.int j/\d=.int (i+j))\/(∃ i j:Str,x=.str i/\y=.str j/\i.length+j.length<=RL.most/\d=.str (i++j)) \/
  (∃ i j,x=.lst i/\y=.lst j/\i.length+j.length<=RL.most/\d=.lst (i++j)) \/
  (∃ i j,x=.tup i/\y=.tup j/\(i.length+j.length<=RL.most/\0<i.length)/\d=.tup (i++j)):=by
 cases x with
 | int i=>cases y with
  | int j=>cases h;exact .inl ⟨i,j,rfl,rfl,rfl⟩
  | _=>exact noN rfl h
 | str i=>cases y with
  |str j=>
   obtain⟨hc,e⟩:=cK h;exact .inr (.inl ⟨i,j,rfl,rfl,hc,e⟩)
  | _=>exact noN rfl h
 | lst i=>cases y with
  |lst j=>
   obtain⟨hc,e⟩:=cK h;exact .inr (.inr (.inl ⟨i,j,rfl,rfl,hc,e⟩))
  | _=>exact noN rfl h
 | tup i=>cases y with
  |tup j=>
   obtain⟨hc,e⟩:=cK h;exact .inr (.inr (.inr ⟨i,j,rfl,rfl,hc,e⟩))
  | _=>exact noN rfl h
 | _=>exact noN rfl h
def yo{x y d:RL.D}(h:RL.a5 .mul x y=some d):(∃ i j,x=.int i/\y=.int j/\tD i j/\d=.int (i*j)) \/
  (∃ i j,x=.lst i/\y=.int j/\(0<=j/\j<=RL.most/\i.length*j.toNat<=RL.most)/\d=.lst (List.replicate j.toNat i).flatten):=by
 cases x with
 | int i=>cases y with
  |int j=>
   obtain⟨hc,e⟩:=cK h;exact .inl ⟨i,j,rfl,rfl,hc,e⟩
  | _=>exact noN rfl h
 | lst i=>cases y with
  |int j=>
   obtain⟨hc,e⟩:=cK h;exact .inr ⟨i,j,rfl,rfl,hc,e⟩
  | _=>exact noN rfl h
 | _=>exact noN rfl h
def ig{o:RL.Bop}{x y d:RL.D}(h:RL.a5 o x y=some d)(ho:o≠.add)(hm:o≠.mul):∃ i j,x=.int i/\y=.int j/\RL.a5 o (.int i) (.int j)=some d:=by
 have no:∀ {a b:RL.D},RL.a5 .sub a b=none->RL.a5 .fdiv a b=none->RL.a5 .mod a b=none->RL.a5 .pow a b=none->RL.a5 o a b=some d->False:=fun e1 e2 e3 e4 h=>by
  cases o with
  | add=>exact ho rfl
  | mul=>exact hm rfl
  | sub=>rw[e1]at h;cases h
  | fdiv=>rw[e2]at h;cases h
  | mod=>rw[e3]at h;cases h
  | pow=>rw[e4]at h;cases h
 cases x with
 | int i=>cases y with
  | int j=>exact⟨i,j,rfl,rfl,h⟩
  | _=>exact(no rfl rfl rfl rfl h).elim
 | _=>exact(no rfl rfl rfl rfl h).elim
def yv{x y d:RL.D}(h:RL.a5 .sub x y=some d):∃ i j,x=.int i/\y=.int j/\d=.int (i-j):=by
 obtain⟨i,j,e1,e2,h⟩:=ig h (by decide) (by decide);cases h;exact⟨i,j,e1,e2,rfl⟩
def vf{x y d:RL.D}(h:RL.a5 .fdiv x y=some d):∃ i j,x=.int i/\y=.int j/\(0<j/\j<2 ^ 200)/\d=.int (i / j):=by
 obtain⟨i,j,e1,e2,h⟩:=ig h (by decide) (by decide);obtain⟨hc,e⟩:=cK h;exact⟨i,j,e1,e2,hc,e⟩
def yX{x y d:RL.D}(h:RL.a5 .mod x y=some d):∃ i j,x=.int i/\y=.int j/\0<j/\d=.int (i%j):=by
 obtain⟨i,j,e1,e2,h⟩:=ig h (by decide) (by decide);obtain⟨hc,e⟩:=cK h;exact⟨i,j,e1,e2,hc,e⟩
def zu{x y d:RL.D}(h:RL.a5 .pow x y=some d):∃ i j,x=.int i/\y=.int j/\(0<=j/\j<=1000/\i.natAbs<2 ^ 64)/\d=.int (i ^ j.toNat):=by
 obtain⟨i,j,e1,e2,h⟩:=ig h (by decide) (by decide);obtain⟨hc,e⟩:=cK h;exact⟨i,j,e1,e2,hc,e⟩
def az{P:Addr->Prop}{K:PySem.W.Frag}{H:Hp}{ds:List RL.D}{v:V}(h:Rep P K H (.lst ds) v):∃ a xs,v=.ref a/\¬ P a/\H a=some (.lst xs)/\ab P K H ds xs:=by rw[Rep]at h;exact h
def bg{P:Addr->Prop}{K:PySem.W.Frag}{H:Hp}{ds:List RL.D}{v:V}(h:Rep P K H (.tup ds) v):∃ a xs,v=.ref a/\H a=some (.tup xs)/\ab P K H ds xs:=by rw[Rep]at h;exact h
def C7:lO X .sub (rI0 fun i j=>.int (i-j)):=by
 intro σD σ H H2 e x y d v u Q sm rx ry h hav k;obtain⟨i,j,rfl,rfl,rfl⟩:=yv h;exact⟨i,j,ai rx,ai ry,k _ _ (bU sm aM rfl)⟩
def AV:lO X .fdiv (rI (fun _ j=>0<j/\j<2 ^ 200) fun i j=>.int (i / j)):=by
 intro σD σ H H2 e x y d v u Q sm rx ry h hav k;obtain⟨i,j,rfl,rfl,hc,rfl⟩:=vf h;exact⟨i,j,ai rx,ai ry,hc,k _ _ (bU sm aM rfl)⟩
def F1:lO X .mod (rI (fun _ j=>0<j) fun i j=>.int (i%j)):=by
 intro σD σ H H2 e x y d v u Q sm rx ry h hav k;obtain⟨i,j,rfl,rfl,hc,rfl⟩:=yX h;exact⟨i,j,ai rx,ai ry,hc,k _ _ (bU sm aM rfl)⟩
def F5:lO X .pow (rI C1 fun i j=>.int (i ^ j.toNat)):=by
 intro σD σ H H2 e x y d v u Q sm rx ry h hav k;obtain⟨i,j,rfl,rfl,hc,rfl⟩:=zu h;exact⟨i,j,ai rx,ai ry,⟨hc.1,Int.le_trans hc.2.1 (by decide),hc.2.2⟩,k _ _ (bU sm aM rfl)⟩
def Cf(ha:SE X cl a a')(hb:SE X cl b b'):SE X cl (.BinOp a .Add b pos) (.bin .add a' b'):=by
 refine gn (o:=.add) (CV.or (u9.or (Ex.or Bz))) ?_ ha hb;intro σD σ H H2 e x y d v u Q sm rx ry h hav k
 rcases zB h with⟨i,j,rfl,rfl,rfl⟩ | ⟨i,j,rfl,rfl,hc,rfl⟩ | ⟨i,j,rfl,rfl,hc,rfl⟩ | ⟨i,j,rfl,rfl,⟨hc,ha⟩,rfl⟩
 ·exact .inl ⟨i,j,ai rx,ai ry,k _ _ (bU sm aM rfl)⟩
 ·exact .inr (.inl ⟨i,j,a7 rx,a7 ry,Nat.le_trans hc bM,k _ _ (bU sm dP rfl)⟩)
 ·obtain⟨p,xs,e1,_,e2,e3⟩:=az rx;obtain⟨q,ys,f1,_,f2,f3⟩:=az ry;refine .inr (.inr (.inl ⟨p,q,xs,ys,e1,f1,e2,f2,?_,fun l hl=>k _ _ (cT sm hl (e3.append f3) hav)⟩));rw[<-e3.length,<-f3.length];exact Nat.le_trans hc bM
 ·obtain⟨p,xs,e1,e2,e3⟩:=bg rx;obtain⟨q,ys,f1,f2,f3⟩:=bg ry;refine .inr (.inr (.inr ⟨p,q,xs,ys,e1,f1,SqT.of e2,SqT.of f2,fun z=>?_,?_,fun z=>?_,fun _ l hl=>k _ _ (jf sm hl (e3.append f3) hav)⟩))
  ·rw[e3.length,z]at ha;exact absurd ha (by decide)
  ·rw[<-e3.length,<-f3.length];exact Nat.le_trans hc bM
  ·have hj:j=[]:=by
    have:=f3.length;rw[z]at this;exact List.length_eq_zero_iff.mp this
   subst hj;rw[List.append_nil]at k;exact k _ _ ⟨sm,e1▸rx,fun _ m=>(by cases m),fun M z=>by rw[hav M]at z;cases z⟩
def CD(ha:SE X cl a a')(hb:SE X cl b b'):SE X cl (.BinOp a .Mult b pos) (.bin .mul a' b'):=by
 refine gn (o:=.mul) (DJ.or Ew) ?_ ha hb;intro σD σ H H2 e x y d v u Q sm rx ry h hav k
 rcases yo h with⟨i,j,rfl,rfl,hc,rfl⟩ | ⟨i,j,rfl,rfl,hc,rfl⟩
 ·exact .inl ⟨i,j,ai rx,ai ry,hc,k _ _ (bU sm aM rfl)⟩
 ·obtain⟨p,xs,e1,_,e2,e3⟩:=az rx;refine .inr ⟨p,j,xs,e1,ai ry,e2,?_,?_,?_,fun l hl=>k _ _ (cT sm hl (e3.rep _) hav)⟩
  ·exact Int.le_trans (by decide) hc.1
  ·exact Int.lt_of_le_of_lt hc.2.1 (by decide)
  ·rw[<-e3.length];exact Nat.le_trans hc.2.2 bM
def EG{o:RL.Bop}(ha:SE X cl a a')(hb:SE X cl b b'):SE X cl (.BinOp a (pN o) b pos) (.bin o a' b'):=by
 cases o with
 | add=>exact Cf ha hb
 | mul=>exact CD ha hb
 | sub=>exact gn (o:=.sub) DG C7 ha hb
 | fdiv=>exact gn (o:=.fdiv) xG AV ha hb
 | mod=>exact gn (o:=.mod) DP F1 ha hb
 | pow=>exact gn (o:=.pow) DC F5 ha hb
def cm{σD:RL.St}{σ:L2.St}{H H':Hp}{e:RL.E}{k:Bool}(sm:aw H H'):Res X.K σD σ H e (.bl k) (.bl k) H':=bU sm lN rfl
def E2{rest:List Expr}(ha:SE X cl a a')(hb:SE X cl (.BoolOp .And (b::rest) pos) b'):SE X cl (.BoolOp .And (a::b::rest) pos) (.and a' b'):=by
 refine PE.weak (EY ha hb) fun σ H Q h=>?_;obtain⟨σD,d,rv,e,k⟩:=h;obtain⟨x,ea,e⟩:=bind_some e;refine⟨σD,x,rv,ea,fun v H1 r1=>?_⟩
 cases x with
 |bl t=>
  refine⟨t,aR r1.rep,?_⟩
  cases t with
  |true=>
   refine dJ ?_;refine⟨σD,d,rv.same r1.same,e,fun w H2 r2=>k w H2 ?_⟩;exact⟨r1.same.trans r2.same,r2.rep,fun z=>(by cases z),fun M z=>nomatch (show false=true from z)⟩
  |false=>
   refine eF ?_;cases e;exact k _ _ (cm r1.same)
 | _=>cases e
def Gj{rest:List Expr}(ha:SE X cl a a')(hb:SE X cl (.BoolOp .Or (b::rest) pos) b'):SE X cl (.BoolOp .Or (a::b::rest) pos) (.or a' b'):=by
 refine PE.weak (Gk ha hb) fun σ H Q h=>?_;obtain⟨σD,d,rv,e,k⟩:=h;obtain⟨x,ea,e⟩:=bind_some e;refine⟨σD,x,rv,ea,fun v H1 r1=>?_⟩
 cases x with
 |bl t=>
  refine⟨t,aR r1.rep,?_⟩
  cases t with
  |false=>
   refine eF ?_;refine⟨σD,d,rv.same r1.same,e,fun w H2 r2=>k w H2 ?_⟩;exact⟨r1.same.trans r2.same,r2.rep,fun z=>(by cases z),fun M z=>nomatch (show false=true from z)⟩
  |true=>
   refine dJ ?_;cases e;exact k _ _ (cm r1.same)
 | _=>cases e
def vN{op}(ha:SE X cl a a'):SE X cl (.BoolOp op [a] pos) a':=Dn ha
abbrev tT(K:PySem.W.Frag)(cl:RL.Cl)(e:RL.E):TT:=fun σ H Q=>∃ σD k,RV0 K σD σ H/\(RL.ev cl σD e).bind RL.truth=some k/\∀ H',aw H H'->Q k H'
abbrev ST(X:Cx)(cl:RL.Cl)(e:Expr)(e':RL.E):Prop:=PT X e (tT X.K cl e')
abbrev SW(X:Cx)(cl:RL.Cl)(e:Expr)(e':RL.E):Prop:=PW X e (tT X.K cl e')
def PT.weak{e:Expr}{t t':TT}(h:PT X e t)(w:∀ σ H Q,t' σ H Q->t σ H Q):PT X e t':=fun pins s σ H Q I q=>h pins s σ H Q I (w σ H Q q)
def PW.weak{e:Expr}{t t':TT}(h:PW X e t)(w:∀ σ H Q,t' σ H Q->t σ H Q):PW X e t':=fun wh pins s σ H Q I q=>h wh pins s σ H Q I (w σ H Q q)
def ab.isEmpty{P:Addr->Prop}{K:PySem.W.Frag}{H:Hp}{ds:List RL.D}{xs:List V}(h:ab P K H ds xs):ds.isEmpty=xs.isEmpty:=by
 cases ds with
 | nil=>rw[ab]at h;rw[h];rfl
 |cons d r=>
  rw[ab]at h;obtain⟨x,t,rfl,_⟩:=h;rfl
def EW{K:PySem.W.Frag}{H:Hp}{d:RL.D}{v:V}{k:Bool}(r:Rep nP K H d v)(h:RL.truth d=some k):tL K v H k:=by
 cases d<;>simp only[RL.truth]at h<;>first | (cases h;done) | skip
 case bl t=>cases h;rw[aR r];exact rfl
 case int t =>
  cases h;rw[ai r];simp[tL]
 case tup ds =>
  obtain⟨a,xs,rfl,e,rs⟩:=bg r;cases h;exact .inr (.inl ⟨xs,SqT.of e,by rw[rs.isEmpty]⟩)
 case lst ds =>
  obtain⟨a,xs,rfl,_,e,rs⟩:=az r;cases h;exact .inl ⟨xs,SqL.of e,by rw[rs.isEmpty]⟩
def yQ(ha:SE X cl a a')(he:∀ whole,isTrue a X.env whole=(do let v <- whole;standAt a.pos;holding [v] (truthy v))):ST X cl a a':=by
 refine PT.weak (ym ha he) fun σ H Q h=>?_;obtain⟨σD,k,rv,e,q⟩:=h;obtain⟨d,e1,e2⟩:=bind_some e;exact⟨σD,d,rv,e1,fun v H1 r1=>⟨k,EW r1.rep e2,q H1 r1.same⟩⟩
def xf{op:BoolOp}(ha:ST X cl a a'):SW X cl (.BoolOp op [a] pos) a':=by
 cases op with
 | And=>exact AL ha
 | Or=>exact Dt ha
def wM{σD:RL.St}{k:Bool}(h:(RL.ev cl σD (.and a' b')).bind RL.truth=some k):∃ t,(RL.ev cl σD a').bind RL.truth=some t/\(if t=true then(RL.ev cl σD b').bind RL.truth=some k else k=false):=by
 rw[RL.m8]at h
 cases ea:RL.ev cl σD a' with
 | none=>rw[ea]at h;cases h
 |some x=>
  rw[ea]at h
  cases x with
  |bl t=>
   cases t with
   | true=>exact⟨true,rfl,dJ h⟩
   | false=>exact⟨false,rfl,eF (by cases h;rfl)⟩
  | _=>exact noN rfl h
def xF{σD:RL.St}{k:Bool}(h:(RL.ev cl σD (.or a' b')).bind RL.truth=some k):∃ t,(RL.ev cl σD a').bind RL.truth=some t/\(if t=true then k=true else(RL.ev cl σD b').bind RL.truth=some k):=by
 rw[RL.uE]at h
 cases ea:RL.ev cl σD a' with
 | none=>rw[ea]at h;cases h
 |some x=>
  rw[ea]at h
  cases x with
  |bl t=>
   cases t with
   | true=>exact⟨true,rfl,dJ (by cases h;rfl)⟩
   | false=>exact⟨false,rfl,eF h⟩
  | _=>exact noN rfl h
def EI{rest:List Expr}(ha:ST X cl a a')(hb:SW X cl (.BoolOp .And (b::rest) pos) b'):SW X cl (.BoolOp .And (a::b::rest) pos) (.and a' b'):=by
 refine PW.weak (Ec ha hb) fun σ H Q h=>?_;obtain⟨σD,k,rv,e,q⟩:=h;obtain⟨t,e1,e2⟩:=wM e;refine⟨σD,t,rv,e1,fun H1 s1=>?_⟩
 cases t with
 | true=>exact dJ ⟨σD,k,rv.same s1,e2,fun H2 s2=>q H2 (s1.trans s2)⟩
 |false=>
  have e2:k=false:=e2;subst e2;exact eF (q H1 s1)
def FZ{rest:List Expr}(ha:ST X cl a a')(hb:SW X cl (.BoolOp .Or (b::rest) pos) b'):SW X cl (.BoolOp .Or (a::b::rest) pos) (.or a' b'):=by
 refine PW.weak (FP ha hb) fun σ H Q h=>?_;obtain⟨σD,k,rv,e,q⟩:=h;obtain⟨t,e1,e2⟩:=xF e;refine⟨σD,t,rv,e1,fun H1 s1=>?_⟩
 cases t with
 |true=>
  have e2:k=true:=e2;subst e2;exact dJ (q H1 s1)
 | false=>exact eF ⟨σD,k,rv.same s1,e2,fun H2 s2=>q H2 (s1.trans s2)⟩
def Ce(ha:ST X cl a a'):ST X cl (.UnaryOp .Not a pos) (.not a'):=by
 refine PT.weak (DM ha) fun σ H Q h=>?_;obtain⟨σD,k,rv,e,q⟩:=h;obtain⟨d,e1,e2⟩:=bind_some e;obtain⟨t,e3,e4⟩:=map_some e1;subst e4;cases e2;exact⟨σD,t,rv,e3,fun H1 s1=>q H1 s1⟩
def E7(hc:ST X cl c c')(ha:SE X cl a a')(hb:SE X cl b b'):SE X cl (.IfExp c a b pos) (.ifx c' a' b'):=by
 refine PE.weak (xQ hc ha hb) fun σ H Q h=>?_;obtain⟨σD,d,rv,e,q⟩:=h;obtain⟨t,e1,e2⟩:=bind_some e;refine⟨σD,t,rv,e1,fun H1 s1=>?_⟩;have fin:∀ (a':RL.E) (v:V) (H2:Hp),(∀ M,RL.avE M (.ifx c' a' b')=true->RL.avE M a'=true)->True:=fun _ _ _ _=>trivial
 cases t with
 |true=>
  refine dJ ⟨σD,d,rv.same s1,e2,fun v H2 r2=>q v H2 ⟨s1.trans r2.same,r2.rep,fun z=>(by cases z),fun M z P hP av=>?_⟩⟩;have z:(RL.avE M a'&&RL.avE M b')=true:=z;rw[Bool.and_eq_true]at z;exact r2.av M z.1 P (fun a p=>(Option.ne_none_iff_exists'.mpr (by obtain⟨o,ho⟩:=Option.ne_none_iff_exists'.mp (hP a p);exact⟨o,s1 _ _ ho⟩))) fun j dj vj h1 h2 h3=>(av j dj vj h1 h2 h3).same s1
 |false=>
  refine eF ⟨σD,d,rv.same s1,e2,fun v H2 r2=>q v H2 ⟨s1.trans r2.same,r2.rep,fun z=>(by cases z),fun M z P hP av=>?_⟩⟩;have z:(RL.avE M a'&&RL.avE M b')=true:=z;rw[Bool.and_eq_true]at z;exact r2.av M z.2 P (fun a p=>(Option.ne_none_iff_exists'.mpr (by obtain⟨o,ho⟩:=Option.ne_none_iff_exists'.mp (hP a p);exact⟨o,s1 _ _ ho⟩))) fun j dj vj h1 h2 h3=>(av j dj vj h1 h2 h3).same s1
end rules
section rules
variable{X:Cx}
def Ff(ha:SE X cl a a'):SE X cl (.UnaryOp .Not a pos) (.not a'):=by
 intro pins s σ H Q I h;obtain⟨σD,d,rv,e,k⟩:=h;obtain⟨t,e1,e2⟩:=map_some e;obtain⟨x,e3,e4⟩:=bind_some e1;subst e2;refine UnaryOp_ (thn (ha pins s σ H (fun v H1=>aw H H1/\Rep nP X.K H1 x v) I ⟨σD,x,rv,e3,fun v H1 r1=>⟨r1.same,r1.rep⟩⟩) fun v s1 ⟨y,H1,I1,r1,sm,rp⟩=>?_);refine not_of (thn (vc pins s1 σ H1 y v (fun k H2=>k=t/\H2=H1) I1 r1 ⟨t,EW rp e4,rfl,rfl⟩) fun k2 s2 ⟨H2,I2,q1,q2⟩=>?_);subst q1;subst q2;exact⟨.bl (!k2),H2,I2,rfl,k _ _ (cm sm)⟩
abbrev noStar:Expr->Bool
 | .Starred _ _=>false
 | _=>true
def ax(es:List Expr)(h:noStar e=true):starEach (e::es) X.env=(false,eval e X.env)::starEach es X.env:=by
 cases e<;>first | rfl | (cases h)
def dI:∀ {es:List Expr} {pos:Pos},es.all noStar=true->(backTo pos (starEach es X.env)).any (·.1)=false
 | [],_,_=>rfl
 | e::es,pos,h=>by
  rw[List.all_cons,Bool.and_eq_true]at h;rw[ax es h.1];show(false || (backTo pos (starEach es X.env)).any (·.1))=false;rw[dI h.2];rfl
def bP:SEs X cl [] .nil:=by
 intro pos pins s σ H Q I h;obtain⟨σD,ds,rv,e,k⟩:=h;cases e;exact cP pos pins s σ H Q I (k [] H (aw.refl H) ab.nil)
def ba(he:SE X cl e e')(hr:SEs X cl es es')(hn:noStar e=true):SEs X cl (e::es) (.cons e' es'):=by
 intro pos pins s σ H Q I h;refine bx he hr (ax es hn) pos pins s σ H Q I ?_;obtain⟨σD,ds,rv,e,k⟩:=h;obtain⟨d,e1,e2⟩:=bind_some e;obtain⟨r,e3,e4⟩:=map_some e2;subst e4;refine⟨σD,d,rv,e1,fun v H1 r1=>⟨σD,r,rv.same r1.same,e3,fun vs H2 s2 r2=>k (v::vs) H2 (r1.same.trans s2) (ab.cons (r1.rep.same s2) r2)⟩⟩
abbrev eI:RL.Es->Nat
 | .nil=>0
 | .cons _ r=>eI r+1
def l3:∀ {es:RL.Es} {ds:List RL.D},RL.evs cl σD es=some ds->ds.length=eI es
 | .nil,ds,h=>by rw[RL.evs]at h;cases h;rfl
 | .cons e r,ds,h=>by
  obtain⟨d,e1,e2⟩:=bind_some h;obtain⟨t,e3,e4⟩:=map_some e2;subst e4;rw[List.length_cons,l3 e3,eI]
def C2(h:SEs X cl es es')(hl:eI es'<=1000):SE X cl (.Tuple es x1 pos) (.tup es'):=by
 refine PE.weak (CW h) fun σ H Q q=>?_;obtain⟨σD,d,rv,e,k⟩:=q;obtain⟨ds,e1,e2⟩:=map_some e;subst e2;refine⟨σD,ds,rv,e1,fun vs H1 s1 r1=>⟨?_,fun p hp=>k _ _ (jf s1 hp r1 fun _=>rfl)⟩⟩;rw[<-r1.length,l3 e1];exact Nat.le_of_lt (nQ hl)
def Fd(h:SEs X cl es es')(hl:eI es'<=1000):SE X cl (.List es pos) (.lst es'):=by
 refine PE.weak (DT h) fun σ H Q q=>?_;obtain⟨σD,d,rv,e,k⟩:=q;obtain⟨ds,e1,e2⟩:=map_some e;subst e2;refine⟨σD,ds,rv,e1,fun vs H1 s1 r1=>⟨?_,fun p hp=>k _ _ (cT s1 hp r1 fun _=>rfl)⟩⟩;rw[<-r1.length,l3 e1];exact Nat.le_of_lt (nQ hl)
def mG(h:RL.cW xs i=some x):atI xs i=some x:=by
 unfold RL.cW at h;unfold atI ixN;by_cases h0:0<=i
 ·rw[if_pos h0]at h;rw[if_pos h0];obtain⟨h1,_⟩:=List.getElem?_eq_some_iff.mp h;rw[if_pos (by lia)];exact h
 ·rw[if_neg h0]at h;rw[if_neg h0];by_cases h1:-(xs.length:Int)<=i
  ·rw[if_pos h1]at h;rw[if_pos h1];exact h
  ·rw[if_neg h1]at h;cases h
def ie{P:Addr->Prop}{K:PySem.W.Frag}(r:ab P K H ds xs)(h:RL.cW ds i=some d):∃ x,RL.cW xs i=some x/\Rep P K H d x:=by
 unfold RL.cW at h ⊢;rw[<-r.length];by_cases h0:0<=i
 ·rw[if_pos h0]at h ⊢;exact r.get h
 ·rw[if_neg h0]at h ⊢;by_cases h1:-(ds.length:Int)<=i
  ·rw[if_pos h1]at h ⊢;exact r.get h
  ·rw[if_neg h1]at h;cases h
abbrev lA:Expr->Bool
 | .Slice _ _ _ _=>false
 | _=>true
def BQ(h:lA b=true):sE b:=by
 intro o i
 cases b<;>first | rfl | (cases h)
def uV(h:RL.ixV x y=some d):(∃ xs i,x=.lst xs/\y=.int i/\RL.cW xs i=some d)\/(∃ xs i,x=.tup xs/\y=.int i/\RL.cW xs i=some d) \/
  (∃ (z:Str) (i:Int) (c:Nat),x=.str z/\y=.int i/\z.length<=RL.most/\RL.cW z.cps.toList i=some c/\d=.str ⟨#[c]⟩):=by
 have no:∀ {o:Option RL.D},o=none->o=some d->False:=fun e h=>by rw[e]at h;cases h
 cases x with
 | lst xs=>cases y with
  | int i=>exact .inl ⟨xs,i,rfl,rfl,h⟩
  | _=>exact(no rfl h).elim
 | tup xs=>cases y with
  | int i=>exact .inr (.inl ⟨xs,i,rfl,rfl,h⟩)
  | _=>exact(no rfl h).elim
 | str z=>cases y with
  |int i=>
   by_cases hc:z.length<=RL.most
   ·obtain⟨c,e1,e2⟩:=map_some (show(RL.cW z.cps.toList i).map (fun c=>RL.D.str ⟨#[c]⟩)=some d from(if_pos hc).symm.trans h);exact .inr (.inr ⟨z,i,c,rfl,rfl,hc,e1,e2.symm⟩)
   ·exact(no (if_neg hc) h).elim
  | _=>exact(no rfl h).elim
 | _=>exact(no rfl h).elim
def FE(ha:SE X cl a a')(hb:SE X cl b b')(hs:lA b=true):SE X cl (.Subscript a b pos) (.ix a' b'):=by
 refine PE.weak (FD Fv ha hb (BQ hs)) fun σ H Q h=>?_;obtain⟨σD,d,rv,e,k⟩:=h;obtain⟨x,ea,e⟩:=bind_some e;obtain⟨y,eb,e⟩:=bind_some e;refine two rv ea eb fun v u H1 H2 s1 s2 rx ry ra rb=>?_
 have fin:∀ (w:V),Rep nP X.K H2 d w->(∀ P:Addr->Prop,Rep P X.K H2 x v->Rep P X.K H2 d w)->Res X.K σD σ H (.ix a' b') d w H2:=fun w h1 h2=>{
  same:=s1.trans s2
  rep:=h1
  fresh:=fun z=>by cases z
  av:=fun M z P hP av=>h2 P ((ra.av M z P hP av).same s2) }
 rcases uV e with⟨xs,i,rfl,rfl,hd⟩ | ⟨xs,i,rfl,rfl,hd⟩ | ⟨z,i,c,rfl,rfl,hz,hd,rfl⟩
 ·obtain⟨p,ys,rfl,_,e2,e3⟩:=az rx;obtain⟨w,h1,h2⟩:=ie e3 hd;refine .inl ⟨p,ys,i,w,rfl,ai ry,SqL.of e2,mG h1,k _ _ (fin w h2 fun P rp=>?_)⟩;obtain⟨p',ys',q1,_,q2,q3⟩:=az rp;cases q1;rw[e2]at q2;cases q2;obtain⟨w',h3,h4⟩:=ie q3 hd;rw[h1]at h3;cases h3;exact h4
 ·obtain⟨p,ys,rfl,e2,e3⟩:=bg rx;obtain⟨w,h1,h2⟩:=ie e3 hd;refine .inr (.inl ⟨p,ys,i,w,rfl,ai ry,SqT.of e2,mG h1,k _ _ (fin w h2 fun P rp=>?_)⟩);obtain⟨p',ys',q1,q2,q3⟩:=bg rp;cases q1;rw[e2]at q2;cases q2;obtain⟨w',h3,h4⟩:=ie q3 hd;rw[h1]at h3;cases h3;exact h4
 ·exact .inr (.inr ⟨z,i,c,a7 rx,ai ry,Nat.le_trans hz bM,mG hd,k _ _ (fin _ dP fun P _=>dP)⟩)
end rules
section rules
def gw:∀ {as bs:List RL.D} {k:Bool},RL.eqs f as bs=some k ->
  ∃ e:Nat->Bool,k=(List.range (min as.length bs.length)).all e/\∀ j x y,as[j]?=some x->bs[j]?=some y->f x y=some (e j)
 | [],bs,k,h=>by
  have h:some true=some k:=by simpa[RL.eqs]using h
  cases h;exact⟨fun _=>true,by simp,fun j x y h1=>by simp at h1⟩
 | a::r,[],k,h=>by
  have h:some true=some k:=by simpa[RL.eqs]using h
  cases h;exact⟨fun _=>true,by simp,fun j x y h1 h2=>by simp at h2⟩
 | a::r,b::s,k,h=>by
  rw[RL.eqs]at h;obtain⟨e0,h1,h2⟩:=bind_some h;obtain⟨k',h3,h4⟩:=map_some h2;obtain⟨e,h5,h6⟩:=gw h3;refine⟨fun j=>match j with | 0=>e0 | j+1=>e j,?_,fun j x y hx hy=>?_⟩
  ·rw[<-h4,h5,List.length_cons,List.length_cons,Nat.succ_min_succ,List.range_succ_eq_map,List.all_cons,List.all_map];rfl
  ·cases j with
   |zero=>
    simp at hx hy;subst hx hy;exact h1
   | succ j=>exact h6 j x y (by simpa using hx) (by simpa using hy)
def fN(h:RL.eqD n x y=some k):(∃ i j,x=.bl i/\y=.bl j/\(i == j)=k)\/(∃ i j,x=.int i/\y=.int j/\(i == j)=k)\/(∃ i j,x=.str i/\y=.str j/\(i == j)=k) \/
  (∃ m i j,n=m+1/\x=.tup i/\y=.tup j/\Option.map (fun k=>k&&i.length == j.length) (RL.eqs (RL.eqD m) i j)=some k)\/(∃ m i j,n=m+1/\x=.lst i/\y=.lst j/\Option.map (fun k=>k&&i.length == j.length) (RL.eqs (RL.eqD m) i j)=some k):=by
 cases n with
 | zero=>cases x with
  | bl i=>cases y with
   | bl j=>exact .inl ⟨i,j,rfl,rfl,Option.some.inj h⟩
   | _=>exact noN rfl h
  | int i=>cases y with
   | int j=>exact .inr (.inl ⟨i,j,rfl,rfl,Option.some.inj h⟩)
   | _=>exact noN rfl h
  | str i=>cases y with
   | str j=>exact .inr (.inr (.inl ⟨i,j,rfl,rfl,Option.some.inj h⟩))
   | _=>exact noN rfl h
  | _=>exact noN rfl h
 | succ m=>cases x with
  | bl i=>cases y with
   | bl j=>exact .inl ⟨i,j,rfl,rfl,Option.some.inj h⟩
   | _=>exact noN rfl h
  | int i=>cases y with
   | int j=>exact .inr (.inl ⟨i,j,rfl,rfl,Option.some.inj h⟩)
   | _=>exact noN rfl h
  | str i=>cases y with
   | str j=>exact .inr (.inr (.inl ⟨i,j,rfl,rfl,Option.some.inj h⟩))
   | _=>exact noN rfl h
  | tup i=>cases y with
   | tup j=>exact .inr (.inr (.inr (.inl ⟨m,i,j,rfl,rfl,rfl,h⟩)))
   | _=>exact noN rfl h
  | lst i=>cases y with
   | lst j=>exact .inr (.inr (.inr (.inr ⟨m,i,j,rfl,rfl,rfl,h⟩)))
   | _=>exact noN rfl h
  | _=>exact noN rfl h
def oh{K:PySem.W.Frag}:∀ (n:Nat) (x y:RL.D) (v:V) (k:Bool),Rep nP K H x v->Rep nP K H y v->RL.eqD n x y=some k->k=true:=by
 intro n
 induction n with
 |zero=>
  intro x y v k rx ry h
  rcases fN h with⟨i,j,rfl,rfl,rfl⟩ | ⟨i,j,rfl,rfl,rfl⟩ | ⟨i,j,rfl,rfl,rfl⟩ | ⟨m,i,j,hn,hx,hy,h⟩ | ⟨m,i,j,hn,hx,hy,h⟩
  ·have:=aR rx;rw[aR ry]at this;cases this;simp
  ·have:=ai rx;rw[ai ry]at this;cases this;simp
  ·have:=a7 rx;rw[a7 ry]at this;cases this;simp
  ·cases hn
  ·cases hn
 |succ n ih=>
  intro x y v k rx ry h
  have seq:∀ (i j:List RL.D) (xs:List V) (k:Bool),ab nP K H i xs->ab nP K H j xs->Option.map (fun k=>k&&i.length == j.length) (RL.eqs (RL.eqD n) i j)=some k->k=true:=by
   intro i j xs k e3 f3 h;obtain⟨k',h1,h2⟩:=map_some h;obtain⟨e,h3,h4⟩:=gw h1;have hl:i.length=j.length:=e3.length.trans f3.length.symm
   have hk:k'=true:=by
    rw[h3,List.all_eq_true];intro m hm;rw[List.mem_range]at hm;obtain⟨w,w1,w2⟩:=e3.get (i:=m) (d:=i[m]'(by lia)) (by simp);obtain⟨w',w1',w2'⟩:=f3.get (i:=m) (d:=j[m]'(by lia)) (by simp);rw[w1]at w1';cases w1';exact ih _ _ w (e m) w2 w2' (h4 m _ _ (by simp) (by simp))
   rw[<-h2,hk,hl];simp
  rcases fN h with⟨i,j,rfl,rfl,rfl⟩ | ⟨i,j,rfl,rfl,rfl⟩ | ⟨i,j,rfl,rfl,rfl⟩ | ⟨m,i,j,hn,hx,hy,h⟩ | ⟨m,i,j,hn,hx,hy,h⟩
  ·have:=aR rx;rw[aR ry]at this;cases this;simp
  ·have:=ai rx;rw[ai ry]at this;cases this;simp
  ·have:=a7 rx;rw[a7 ry]at this;cases this;simp
  ·cases hn;subst hx;subst hy;obtain⟨p,xs,rfl,e2,e3⟩:=bg rx;obtain⟨q,ys,q1,f2,f3⟩:=bg ry;cases q1;rw[e2]at f2;cases f2;exact seq i j xs k e3 f3 h
  ·cases hn;subst hx;subst hy;obtain⟨p,xs,rfl,_,e2,e3⟩:=az rx;obtain⟨q,ys,q1,_,f2,f3⟩:=az ry;cases q1;rw[e2]at f2;cases f2;exact seq i j xs k e3 f3 h
open SeqAt in
def deep(I:Inv X pins σ H s):∀ (n:Nat) (A:Around) (x y:RL.D) (v u:V) (va ua:Value) (k:Bool),A.units+n<cLine->Rep nP X.K H x v->Rep nP X.K H y u->RelV v va->RelV u ua ->
  RL.eqD n x y=some k->RcAt A s va ua k/\EqAt A s va ua k:=by
 intro n
 induction n with
 |zero=>
  intro A x y v u va ua k hu rx ry qx qy h
  rcases fN h with⟨i,j,rfl,rfl,rfl⟩ | ⟨i,j,rfl,rfl,rfl⟩ | ⟨i,j,rfl,rfl,rfl⟩ | ⟨m,i,j,hn,hx,hy,h⟩ | ⟨m,i,j,hn,hx,hy,h⟩
  ·rw[aR rx]at qx;rw[aR ry]at qy;cases qx;cases qy;exact⟨RcAt.bool_bool i j,EqAt.bool_bool i j⟩
  ·rw[ai rx]at qx;rw[ai ry]at qy;obtain⟨t,rfl⟩:=qx;obtain⟨t',rfl⟩:=qy;exact⟨RcAt.int_int i t j t',EqAt.int_int i t j t'⟩
  ·rw[a7 rx]at qx;rw[a7 ry]at qy;obtain⟨t,rfl⟩:=qx;obtain⟨t',rfl⟩:=qy;exact⟨RcAt.str_str i t j t',EqAt.str_str i t j t'⟩
  ·cases hn
  ·cases hn
 |succ n ih=>
  intro A x y v u va ua k hu rx ry qx qy h
  rcases fN h with⟨i,j,rfl,rfl,rfl⟩ | ⟨i,j,rfl,rfl,rfl⟩ | ⟨i,j,rfl,rfl,rfl⟩ | ⟨m,i,j,hn,hx,hy,h⟩ | ⟨m,i,j,hn,hx,hy,h⟩
  ·rw[aR rx]at qx;rw[aR ry]at qy;cases qx;cases qy;exact⟨RcAt.bool_bool i j,EqAt.bool_bool i j⟩
  ·rw[ai rx]at qx;rw[ai ry]at qy;obtain⟨t,rfl⟩:=qx;obtain⟨t',rfl⟩:=qy;exact⟨RcAt.int_int i t j t',EqAt.int_int i t j t'⟩
  ·rw[a7 rx]at qx;rw[a7 ry]at qy;obtain⟨t,rfl⟩:=qx;obtain⟨t',rfl⟩:=qy;exact⟨RcAt.str_str i t j t',EqAt.str_str i t j t'⟩
  ·cases hn;subst hx;subst hy;obtain⟨p,xs,rfl,e2,e3⟩:=bg rx;obtain⟨q,ys,rfl,f2,f3⟩:=bg ry;cases qx;cases qy;obtain⟨its,r1,t1,z1⟩:=I.tuple (SqT.of e2);obtain⟨jts,r2,t2,z2⟩:=I.tuple (SqT.of f2);obtain⟨k',h1,h2⟩:=map_some h;obtain⟨e,h3,h4⟩:=gw h1;have l1:i.length=its.length:=e3.length.trans r1.length;have l2:j.length=jts.length:=f3.length.trans r2.length
   have he:∀ m (g1:m<its.toArray.size) (g2:m<jts.toArray.size),EqAt A.in1 s its.toArray[m] jts.toArray[m] (e m):=fun m g1 g2=>by
    rw[List.size_toArray]at g1 g2;obtain⟨w,w1,w2⟩:=e3.get (i:=m) (d:=i[m]'(by lia)) (by simp);obtain⟨w',w1',w2'⟩:=f3.get (i:=m) (d:=j[m]'(by lia)) (by simp);obtain⟨uu,b1,b2⟩:=r1.get w1;obtain⟨uu',b1',b2'⟩:=r2.get w1'
    have c1:its.toArray[m]=uu:=by simpa using(List.getElem?_eq_some_iff.mp b1).2
    have c2:jts.toArray[m]=uu':=by simpa using(List.getElem?_eq_some_iff.mp b1').2
    rw[c1,c2];exact(ih A.in1 _ _ w w' uu uu' (e m) (by show A.units+1+n<cLine;lia) w2 w2' b2 b2' (h4 m _ _ (by simp) (by simp))).2
   have main:RcAt A s (.ref p) (.ref q) k:=by
    have z:=RcAt.tuples (e:=e) t1 t2 (by lia) he;rw[List.size_toArray,List.size_toArray,<-l1,<-l2,<-h3,h2]at z;exact z
   refine⟨main,?_⟩;by_cases z:p=q
   ·subst z;rw[oh (n+1) _ _ _ k rx ry h];exact EqAt.same _
   ·exact EqAt.of_refs z main
  ·cases hn;subst hx;subst hy;obtain⟨p,xs,rfl,_,e2,e3⟩:=az rx;obtain⟨q,ys,rfl,_,f2,f3⟩:=az ry;cases qx;cases qy;obtain⟨its,r1,t1,z1⟩:=I.list (SqL.of e2);obtain⟨jts,r2,t2,z2⟩:=I.list (SqL.of f2);obtain⟨k',h1,h2⟩:=map_some h;obtain⟨e,h3,h4⟩:=gw h1;have l1:i.length=its.length:=e3.length.trans r1.length;have l2:j.length=jts.length:=f3.length.trans r2.length
   have he:∀ m (g1:m<its.toArray.size) (g2:m<jts.toArray.size),EqAt A.in1 s its.toArray[m] jts.toArray[m] (e m):=fun m g1 g2=>by
    rw[List.size_toArray]at g1 g2;obtain⟨w,w1,w2⟩:=e3.get (i:=m) (d:=i[m]'(by lia)) (by simp);obtain⟨w',w1',w2'⟩:=f3.get (i:=m) (d:=j[m]'(by lia)) (by simp);obtain⟨uu,b1,b2⟩:=r1.get w1;obtain⟨uu',b1',b2'⟩:=r2.get w1'
    have c1:its.toArray[m]=uu:=by simpa using(List.getElem?_eq_some_iff.mp b1).2
    have c2:jts.toArray[m]=uu':=by simpa using(List.getElem?_eq_some_iff.mp b1').2
    rw[c1,c2];exact(ih A.in1 _ _ w w' uu uu' (e m) (by show A.units+1+n<cLine;lia) w2 w2' b2 b2' (h4 m _ _ (by simp) (by simp))).2
   have main:RcAt A s (.ref p) (.ref q) k:=by
    by_cases hl:its.length=jts.length
    ·have z:=RcAt.lists (e:=e) t1.isList t2.isList (by rw[List.size_toArray,List.size_toArray];exact hl) (by lia) he;rw[List.size_toArray]at z
     have hk:k=(List.range its.length).all e:=by
      rw[<-h2,h3,l1,l2,hl];simp
     rw[hk];exact z
    ·have hk:k=false:=by
      rw[<-h2,l1,l2];simp[hl]
     rw[hk];exact RcAt.lists_lengths t1.isList t2.isList (by rw[List.size_toArray,List.size_toArray];simpa using hl) (by lia)
   refine⟨main,?_⟩;by_cases z:p=q
   ·subst z;rw[oh (n+1) _ _ _ k rx ry h];exact EqAt.same _
   ·exact EqAt.of_refs z main
end rules
section rules
variable{X:Cx}
open SeqAt in
def EO(I:Inv X pins σ H s)(n:Nat)(A:Around)(x y:RL.D)(v u:V)(va ua:Value)(k:Bool)(hu:A.units+n<cLine)(rx:Rep nP X.K H x v)(ry:Rep nP X.K H y u)(qx:RelV v va)(qy:RelV u ua)
 (h:RL.eqD n x y=some k):RcNeAt A s va ua (!k):=by
 rcases fN h with⟨i,j,rfl,rfl,rfl⟩ | ⟨i,j,rfl,rfl,rfl⟩ | ⟨i,j,rfl,rfl,rfl⟩ | ⟨nn,i,j,hn,hx,hy,h⟩ | ⟨nn,i,j,hn,hx,hy,h⟩
 ·rw[aR rx]at qx;rw[aR ry]at qy;cases qx;cases qy;exact RcNeAt.bool_bool i j
 ·rw[ai rx]at qx;rw[ai ry]at qy;obtain⟨t,rfl⟩:=qx;obtain⟨t',rfl⟩:=qy;exact RcNeAt.int_int i t j t'
 ·rw[a7 rx]at qx;rw[a7 ry]at qy;obtain⟨t,rfl⟩:=qx;obtain⟨t',rfl⟩:=qy;exact RcNeAt.str_str i t j t'
 ·subst hn;subst hx;subst hy;obtain⟨p,xs,rfl,e2,e3⟩:=bg rx;obtain⟨q,ys,rfl,f2,f3⟩:=bg ry;cases qx;cases qy;obtain⟨its,r1,t1,z1⟩:=I.tuple (SqT.of e2);obtain⟨jts,r2,t2,z2⟩:=I.tuple (SqT.of f2);obtain⟨k',h1,h2⟩:=map_some h;obtain⟨e,h3,h4⟩:=gw h1;have l1:i.length=its.length:=e3.length.trans r1.length;have l2:j.length=jts.length:=f3.length.trans r2.length
  have he:∀ m (g1:m<its.toArray.size) (g2:m<jts.toArray.size),EqAt A.in1 s its.toArray[m] jts.toArray[m] (e m):=fun m g1 g2=>by
   rw[List.size_toArray]at g1 g2;obtain⟨w,w1,w2⟩:=e3.get (i:=m) (d:=i[m]'(by lia)) (by simp);obtain⟨w',w1',w2'⟩:=f3.get (i:=m) (d:=j[m]'(by lia)) (by simp);obtain⟨uu,b1,b2⟩:=r1.get w1;obtain⟨uu',b1',b2'⟩:=r2.get w1'
   have c1:its.toArray[m]=uu:=by simpa using(List.getElem?_eq_some_iff.mp b1).2
   have c2:jts.toArray[m]=uu':=by simpa using(List.getElem?_eq_some_iff.mp b1').2
   rw[c1,c2];exact(deep I nn A.in1 _ _ w w' uu uu' (e m) (by show A.units+1+nn<cLine;lia) w2 w2' b2 b2' (h4 m _ _ (by simp) (by simp))).2
  have z:=RcNeAt.tuples (e:=e) t1 t2 (by lia) he;rw[List.size_toArray,List.size_toArray,<-l1,<-l2,<-h3,h2]at z;exact z
 ·subst hn;subst hx;subst hy;obtain⟨p,xs,rfl,_,e2,e3⟩:=az rx;obtain⟨q,ys,rfl,_,f2,f3⟩:=az ry;cases qx;cases qy;obtain⟨its,r1,t1,z1⟩:=I.list (SqL.of e2);obtain⟨jts,r2,t2,z2⟩:=I.list (SqL.of f2);obtain⟨k',h1,h2⟩:=map_some h;obtain⟨e,h3,h4⟩:=gw h1;have l1:i.length=its.length:=e3.length.trans r1.length;have l2:j.length=jts.length:=f3.length.trans r2.length
  have he:∀ m (g1:m<its.toArray.size) (g2:m<jts.toArray.size),EqAt A.in1 s its.toArray[m] jts.toArray[m] (e m):=fun m g1 g2=>by
   rw[List.size_toArray]at g1 g2;obtain⟨w,w1,w2⟩:=e3.get (i:=m) (d:=i[m]'(by lia)) (by simp);obtain⟨w',w1',w2'⟩:=f3.get (i:=m) (d:=j[m]'(by lia)) (by simp);obtain⟨uu,b1,b2⟩:=r1.get w1;obtain⟨uu',b1',b2'⟩:=r2.get w1'
   have c1:its.toArray[m]=uu:=by simpa using(List.getElem?_eq_some_iff.mp b1).2
   have c2:jts.toArray[m]=uu':=by simpa using(List.getElem?_eq_some_iff.mp b1').2
   rw[c1,c2];exact(deep I nn A.in1 _ _ w w' uu uu' (e m) (by show A.units+1+nn<cLine;lia) w2 w2' b2 b2' (h4 m _ _ (by simp) (by simp))).2
  by_cases hl:its.length=jts.length
  ·have z:=RcNeAt.lists (e:=e) t1.isList t2.isList (by rw[List.size_toArray,List.size_toArray];exact hl) (by lia) he;rw[List.size_toArray]at z
   have hk:k=(List.range its.length).all e:=by
    rw[<-h2,h3,l1,l2,hl];simp
   rw[hk];exact z
  ·have hk:k=false:=by
    rw[<-h2,l1,l2];simp[hl]
   rw[hk];exact RcNeAt.lists_lengths t1.isList t2.isList (by rw[List.size_toArray,List.size_toArray];simpa using hl) (by lia)
abbrev bA:RL.Cop->CmpOp
 | .lt=>.Lt
 | .le=>.LtE
 | .gt=>.Gt
 | .ge=>.GtE
 | .eq=>.Eq
 | .ne=>.NotEq
abbrev tJ(K:PySem.W.Frag)(c:RL.Cop):R2:=fun v u H Q=>∃ x y k,Rep nP K H x v/\Rep nP K H y u/\RL.aO c x y=some k/\Q (.bl k) H
def iU{c:RL.Cop}(hc:c≠.eq)(hc2:c≠.ne)(h:RL.aO c x y=some k):∃ i j,x=.int i/\y=.int j:=by
 have no:∀ {a b:RL.D},RL.aO .lt a b=none->RL.aO .le a b=none->RL.aO .gt a b=none->RL.aO .ge a b=none->RL.aO c a b=some k->False:=fun e1 e2 e3 e4 h=>by
  cases c with
  | eq=>exact hc rfl
  | ne=>exact hc2 rfl
  | lt=>rw[e1]at h;cases h
  | le=>rw[e2]at h;cases h
  | gt=>rw[e3]at h;cases h
  | ge=>rw[e4]at h;cases h
 cases x with
 | int i=>cases y with
  | int j=>exact⟨_,_,rfl,rfl⟩
  | _=>exact(no rfl rfl rfl rfl h).elim
 | _=>exact(no rfl rfl rfl rfl h).elim
def eD{c:RL.Cop}(hu:X.A.units+100<cLine):OpR X (compareOp (bA c)) (tJ X.K c):=by
 intro pins s σ H x y v u Q I rx ry h;obtain⟨dx,dy,k,ex,ey,e,q⟩:=h
 have fin:EP X pins σ Q (.bool k) s:=⟨.bl k,H,I,rfl,q⟩
 cases c with
 |eq=>
  have e:RL.eqD 8 dx dy=some k:=e;exact(deep I 8 X.A dx dy x y v u k (by lia) ex ey rx ry e).1 X.prog X.w X.xe _ fin
 |ne=>
  obtain⟨k',e1,e2⟩:=map_some (show(RL.eqD 8 dx dy).map not=some k from e);subst e2;exact EO I 8 X.A dx dy x y v u k' (by lia) ex ey rx ry e1 X.prog X.w X.xe _ fin
 |lt=>
  obtain⟨i,j,rfl,rfl⟩:=iU (by decide) (by decide) e;cases e;rw[ai ex]at rx;rw[ai ey]at ry;obtain⟨t,rfl⟩:=rx;obtain⟨t',rfl⟩:=ry;exact lt_int fin
 |le=>
  obtain⟨i,j,rfl,rfl⟩:=iU (by decide) (by decide) e;cases e;rw[ai ex]at rx;rw[ai ey]at ry;obtain⟨t,rfl⟩:=rx;obtain⟨t',rfl⟩:=ry;exact le_int fin
 |gt=>
  obtain⟨i,j,rfl,rfl⟩:=iU (by decide) (by decide) e;cases e;rw[ai ex]at rx;rw[ai ey]at ry;obtain⟨t,rfl⟩:=rx;obtain⟨t',rfl⟩:=ry;exact gt_int fin
 |ge=>
  obtain⟨i,j,rfl,rfl⟩:=iU (by decide) (by decide) e;cases e;rw[ai ex]at rx;rw[ai ey]at ry;obtain⟨t,rfl⟩:=rx;obtain⟨t',rfl⟩:=ry;exact ge_int fin
def gh{c:RL.Cop}(b:Expr):behindInMarks (bA c) b=false:=by cases c<;>exact qX b (by decide) (by decide)
def wL{c:RL.Cop}(h:∃ σD d,RV0 X.K σD σ H/\RL.ev cl σD (.cmp c a' b')=some d/\∀ H',aw H H'->∃ k,d=.bl k/\Q (.bl k) H'):tOp (tJ X.K c) (tE X.K cl a') (tE X.K cl b') σ H Q:=by
 obtain⟨σD,d,rv,e,k⟩:=h;obtain⟨x,ea,e⟩:=bind_some e;obtain⟨y,eb,e⟩:=bind_some e;obtain⟨t,e1,e2⟩:=map_some e;refine two rv ea eb fun v u H1 H2 s1 s2 rx ry _ _=>?_;obtain⟨k',h1,h2⟩:=k H2 (s1.trans s2);rw[h1]at e2;cases e2;exact⟨x,y,t,rx,ry,e1,h2⟩
def nU{c:RL.Cop}(e:RL.ev cl σD (.cmp c a' b')=some d):∃ k,d=.bl k:=by
 obtain⟨x,ea,e⟩:=bind_some e;obtain⟨y,eb,e⟩:=bind_some e;obtain⟨t,e1,e2⟩:=map_some e;exact⟨t,e2.symm⟩
def CH{c:RL.Cop}(hu:X.A.units+100<cLine)(ha:SE X cl a a')(hb:SE X cl b b'):SE X cl (.Compare a [bA c] [b] pos) (.cmp c a' b'):=by
 refine PE.weak (nh (eD hu) ha hb (gh b)) fun σ H Q h=>?_;obtain⟨σD,d,rv,e,k⟩:=h;obtain⟨t,rfl⟩:=nU e;exact wL ⟨σD,_,rv,e,fun H' sm=>⟨t,rfl,k _ _ (cm sm)⟩⟩
def ES{c:RL.Cop}(hu:X.A.units+100<cLine)(ha:SE X cl a a')(hb:SE X cl b b'):ST X cl (.Compare a [bA c] [b] pos) (.cmp c a' b'):=by
 refine PT.weak (ke (eD hu) ha hb (gh b)) fun σ H Q h=>?_;obtain⟨σD,k,rv,e,q⟩:=h;obtain⟨d,e1,e2⟩:=bind_some e;obtain⟨t,rfl⟩:=nU e1;cases e2;exact wL ⟨σD,_,rv,e1,fun H' sm=>⟨k,rfl,k,rfl,q H' sm⟩⟩
def Am{c c':RL.Cop}(b e:Expr):lastMarks [bA c,bA c'] [b,e]=false:=by
 show behindInMarks (bA c') e=false;exact gh e
def kL{c c':RL.Cop}(h:RL.ev cl σD (.chain c c' a' b' e')=some d):∃ k,d=.bl k:=by
 obtain⟨x,ea,h⟩:=bind_some h;obtain⟨y,eb,h⟩:=bind_some h;obtain⟨t,e1,h⟩:=bind_some h
 cases t with
 |true=>
  obtain⟨z,ec,h⟩:=bind_some (show(RL.ev cl σD e').bind _=some d from h);obtain⟨t,e1,e2⟩:=map_some h;exact⟨t,e2.symm⟩
 | false=>exact⟨false,(Option.some.inj (show some (RL.D.bl false)=some d from h)).symm⟩
def qZ{c c':RL.Cop}(h:∃ σD k,RV0 X.K σD σ H/\RL.ev cl σD (.chain c c' a' b' e')=some (.bl k)/\∀ H',aw H H'->Q (.bl k) H') :
  pO (tJ X.K c) (tJ X.K c') (tE X.K cl a') (tE X.K cl b') (tE X.K cl e') σ H Q:=by
 obtain⟨σD,k,rv,h,q⟩:=h;obtain⟨x,ea,h⟩:=bind_some h;obtain⟨y,eb,h⟩:=bind_some h;obtain⟨t,e1,h⟩:=bind_some h;refine two rv ea eb fun v u H1 H2 s1 s2 rx ry _ _=>?_;refine⟨x,y,t,rx,ry,e1,t,rfl,?_⟩;have sm:=s1.trans s2
 cases t with
 |true=>
  rw[if_pos rfl]at h;obtain⟨z,ec,h⟩:=bind_some h;obtain⟨t,e3,e2⟩:=map_some h;cases e2;exact dJ ⟨σD,z,rv.same sm,ec,fun w H3 r3=>⟨y,z,k,ry.same r3.same,r3.rep,e3,q H3 (sm.trans r3.same)⟩⟩
 |false=>
  rw[if_neg (by decide)]at h;cases h;exact eF (q H2 sm)
def xC{c c':RL.Cop}(hu:X.A.units+100<cLine)(ha:SE X cl a a')(hb:SE X cl b b')(he:SE X cl e e'):SE X cl (.Compare a [bA c,bA c'] [b,e] pos) (.chain c c' a' b' e'):=by
 refine PE.weak (yx (eD hu) (eD hu) ha hb he (Am b e)) fun σ H Q h=>?_;obtain⟨σD,d,rv,h,k⟩:=h;obtain⟨t,rfl⟩:=kL h;exact qZ ⟨σD,t,rv,h,fun H' sm=>k _ _ (cm sm)⟩
def yG{c c':RL.Cop}(hu:X.A.units+100<cLine)(ha:SE X cl a a')(hb:SE X cl b b')(he:SE X cl e e'):ST X cl (.Compare a [bA c,bA c'] [b,e] pos) (.chain c c' a' b' e'):=by
 refine PT.weak (xK (eD hu) (eD hu) ha hb he (Am b e)) fun σ H Q h=>?_;obtain⟨σD,k,rv,h,q⟩:=h;obtain⟨d,e1,e2⟩:=bind_some h;obtain⟨t,rfl⟩:=kL e1;cases e2;exact qZ ⟨σD,k,rv,e1,fun H' sm=>⟨k,rfl,q H' sm⟩⟩
end rules
section rules
variable{X:Cx}
def nL{neg:Bool}(b:Expr):behindInMarks (if neg then .IsNot else .Is) b=false:=by cases neg<;>exact qX b (by decide) (by decide)
def tf{neg:Bool}:OpR X (compareOp (if neg then .IsNot else .Is)) (fun x y H Q=>y=.non/\Q (.bl (if neg then !decide (x=.non)else decide (x=.non))) H):=by
 cases neg with
 | true=>exact Bc
 | false=>exact DF
def vo(h:RL.ev cl σD (.isN neg a')=some d):∃ x,RL.ev cl σD a'=some x/\∀ v (H:Hp),Rep nP X.K H x v->d=.bl (if neg then !decide (v=.non)else decide (v=.non)):=by
 obtain⟨x,ea,h⟩:=bind_some h;refine⟨x,ea,fun v H r=>?_⟩
 cases x with
 | non=>cases h;rw[Rep]at r;subst r;cases neg<;>rfl
 | bl k=>cases h;rw[aR r];cases neg<;>rfl
 | int k=>cases h;rw[ai r];cases neg<;>rfl
 | str k=>cases h;rw[a7 r];cases neg<;>rfl
 | tup k=>cases h;obtain⟨p,xs,rfl,_⟩:=bg r;cases neg<;>rfl
 | lst k=>cases h;obtain⟨p,xs,rfl,_⟩:=az r;cases neg<;>rfl
 | scr k=>cases h;rw[Rep]at r;obtain⟨p,xs,rfl,_⟩:=r;cases neg<;>rfl
 | exc k=>cases h;rw[Rep]at r;obtain⟨p,_,_,_,_,rfl,_⟩:=r;cases neg<;>rfl
 | dK _ _=>cases h
 | dT _ _=>cases h
 | fT _=>cases h
def Ci(ha:SE X cl a a'):SE X cl (.Compare a [if neg then .IsNot else .Is] [.Constant .none j p] pos) (.isN neg a'):=by
 refine PE.weak (nh tf ha pX (nL _)) fun σ H Q h=>?_;obtain⟨σD,d,rv,e,q⟩:=h;obtain⟨x,ea,hx⟩:=vo (X:=X) e;refine⟨σD,_,rv,ea,fun v H1 r1=>⟨rfl,?_⟩⟩;have hd:=hx v H1 r1.rep;subst hd;exact q _ _ (cm r1.same)
def Fp(ha:SE X cl a a'):ST X cl (.Compare a [if neg then .IsNot else .Is] [.Constant .none j p] pos) (.isN neg a'):=by
 refine PT.weak (ke tf ha pX (nL _)) fun σ H Q h=>?_;obtain⟨σD,k,rv,e,q⟩:=h;obtain⟨d,e1,e2⟩:=bind_some e;obtain⟨x,ea,hx⟩:=vo (X:=X) e1;refine⟨σD,_,rv,ea,fun v H1 r1=>⟨rfl,?_⟩⟩;have hd:=hx v H1 r1.rep;subst hd;cases e2;exact⟨_,rfl,q _ r1.same⟩
def eX{P:Addr->Prop}{K:PySem.W.Frag}(h:RL.items d=some ds)(r:Rep P K H d v):∃ p xs,v=.ref p/\((H p=some (.lst xs)/\d=.lst ds)\/(H p=some (.tup xs)/\d=.tup ds))/\ab P K H ds xs:=by
 cases d<;>simp only[RL.items]at h<;>first | (cases h;done) | skip
 case lst ys=>cases h;obtain⟨p,xs,e1,_,e2,e3⟩:=az r;exact⟨p,xs,e1,.inl ⟨e2,rfl⟩,e3⟩
 case tup ys=>cases h;obtain⟨p,xs,e1,e2,e3⟩:=bg r;exact⟨p,xs,e1,.inr ⟨e2,rfl⟩,e3⟩
def sf{P:Addr->Prop}{K:PySem.W.Frag}(h:RL.flat d=true)(r:Rep P K H d v):fz v=true/\∀ d' v',RL.flat d'=true->Rep P K H d' v'->RL.eqF d d'=eqV v v':=by
 cases d<;>simp only[RL.flat]at h<;>first | (cases h;done) | skip
 case int i =>
  rw[ai r];refine⟨rfl,fun d' v' h' r'=>?_⟩
  cases d'<;>simp only[RL.flat]at h'<;>first | (cases h';done) | skip
  case int j=>rw[ai r'];simp[RL.eqF,eqV]
  case str j=>rw[a7 r'];simp[RL.eqF,eqV]
 case str i =>
  rw[a7 r];refine⟨rfl,fun d' v' h' r'=>?_⟩
  cases d'<;>simp only[RL.flat]at h'<;>first | (cases h';done) | skip
  case int j=>rw[ai r'];simp[RL.eqF,eqV]
  case str j=>rw[a7 r'];simp[RL.eqF,eqV]
def qR{P:Addr->Prop}{K:PySem.W.Frag}(hf:RL.flat d=true)(r:Rep P K H d v):∀ {ds:List RL.D} {xs:List V},ds.all RL.flat=true->ab P K H ds xs->xs.all fz=true/\(ds.any fun x=>RL.eqF x d)=inV v xs
 | [],xs,_,h=>by rw[ab]at h;subst h;exact⟨rfl,rfl⟩
 | e::t,xs,ha,h=>by
  rw[ab]at h;obtain⟨x,ys,rfl,e2,e3⟩:=h;rw[List.all_cons,Bool.and_eq_true]at ha;obtain⟨h1,h2⟩:=qR hf r ha.2 e3;obtain⟨h3,h4⟩:=sf ha.1 e2;refine⟨by rw[List.all_cons,h3,h1];rfl,?_⟩;rw[List.any_cons,h2,h4 d v hf r];rfl
def uR:OpR X (compareOp (if neg then .NotIn else .In)) (rIn X.K neg):=by
 cases neg with
 | true=>exact pR
 | false=>exact we
def xw(rv:RV0 X.K σD σ H)(e:RL.ev cl σD (.inn neg a' b')=some d)(k:∀ t H',d=.bl t->aw H H'->Q (.bl t) H'):tOp (rIn X.K neg) (tE X.K cl a') (tE X.K cl b') σ H Q:=by
 obtain⟨x,ea,e⟩:=bind_some e;obtain⟨y,eb,e⟩:=bind_some e;obtain⟨t,e1,e2⟩:=map_some e;unfold RL.inV at e1;obtain⟨ds,e3,e4⟩:=bind_some e1;by_cases hc:(RL.flat x&&ds.all RL.flat)=true
 ·rw[if_pos hc]at e4;cases e4;rw[Bool.and_eq_true]at hc;refine two rv ea eb fun v u H1 H2 s1 s2 rx ry _ _=>?_;obtain⟨p,xs,rfl,hp,rs⟩:=eX e3 ry;obtain⟨h1,h2⟩:=qR hc.1 rx hc.2 rs;refine⟨p,xs,rfl,?_,(sf hc.1 rx).1,h1,?_⟩
  ·rcases hp with⟨z,_⟩ | ⟨z,_⟩
   ·exact .inl (SqL.of z)
   ·exact .inr (SqT.of z)
  ·refine k _ _ ?_ (s1.trans s2);rw[<-e2,h2]
 ·rw[if_neg hc]at e4;cases e4
abbrev kY:Expr->Bool
 | .Set _ _ _=>false
 | _=>true
def hX(h:kY b=true):behindInMarks op b=false:=by
 cases b<;>first | rfl | (cases h)
def BS(ha:SE X cl a a')(hb:SE X cl b b')(hm:kY b=true):SE X cl (.Compare a [if neg then .NotIn else .In] [b] pos) (.inn neg a' b'):=by
 refine PE.weak (nh uR ha hb (hX hm)) fun σ H Q h=>?_;obtain⟨σD,d,rv,e,q⟩:=h
 exact xw rv e fun t H' hd sm=>by subst hd;exact q _ _ (cm sm)
def Cu(ha:SE X cl a a')(hb:SE X cl b b')(hm:kY b=true):ST X cl (.Compare a [if neg then .NotIn else .In] [b] pos) (.inn neg a' b'):=by
 refine PT.weak (ke uR ha hb (hX hm)) fun σ H Q h=>?_;obtain⟨σD,k,rv,e,q⟩:=h;obtain⟨d,e1,e2⟩:=bind_some e;refine xw rv e1 fun t H' hd sm=>?_;subst hd;cases e2;exact⟨_,rfl,q _ sm⟩
abbrev spF(K:PySem.W.Frag)(cl:RL.Cl)(f:Nat):Sp:=fun vs H Q _=>∃ ds d,ab nP K H ds vs/\cl f ds=some d/\∀ v H',aw H H'->Rep (fun p=>H p≠none) K H' d v->Q v H'
def A8(F:iA X.prog X.w X.K X.mg X.base CX0 k fa fd ps (spF X.K cl f))(hr:dN k X.A)(hg:Gl X x)
 (hm:X.mg x=some (.ref fa))(hk:PySem.W.keepIn X.K (.ref fa)=true)(hb:Binds X.K fd ps [])(he:SEs X cl (e::es) (.cons e' es'))(hdb:(x == ("__debug__" : Str))=false)(hn:noStar e=true)(hns:es.all noStar=true) :
  SE X cl (.Call (.Name x p) (e::es) [] pos) (.call f (.cons e' es')):=by
 refine PE.weak (sv F hr hg hm hk hb .nil An he hdb (ax es hn) (dI hns)) fun σ H Q h=>?_;obtain⟨σD,d,rv,ev,q⟩:=h;obtain⟨ds,e1,e2⟩:=bind_some ev;refine⟨σD,ds,rv,e1,fun vs H1 s1 r1=>?_⟩;show spF X.K cl f (vs++[]) H1 Q E0;rw[List.append_nil];refine⟨ds,d,r1,e2,fun v H2 s2 r2=>q v H2 ⟨s1.trans s2,r2.none,fun _ m a z=>?_,fun M _ P hP _=>?_⟩⟩
 ·subst z
  have hh:H1 a=none:=by
   cases d with
   | lst ds=>obtain⟨p,xs,e1,e2,_⟩:=az r2;cases e1;exact Classical.byContradiction e2
   | dK ks ds=>rw[Rep]at r2;obtain⟨p,xs,e1,e2,_⟩:=r2;cases e1;exact Classical.byContradiction e2
   | dT ks ds=>rw[Rep]at r2;obtain⟨p,xs,e1,e2,_⟩:=r2;cases e1;exact Classical.byContradiction e2
   | _=>cases m
  exact s1.free hh
 ·refine r2.weak fun a z=>?_;obtain⟨o,ho⟩:=Option.ne_none_iff_exists'.mp (hP a z);rw[s1 _ _ ho]
  exact fun q=>nomatch q
end rules
abbrev Off(P:Addr->Prop)(H H':Hp):Prop:=∀ b o,¬ P b->H b=some o->H' b=some o
def Off.same{H H':Hp}(h:aw H H'){P:Addr->Prop}:Off P H H':=fun b o _ e=>h b o e
mutual
theorem Rep.off{P:Addr->Prop}{K:PySem.W.Frag}{H H':Hp}(hm:∀ b o,P b->H b=some o->cx o)(k:Off P H H'):∀ {d:RL.D} {v:V},Rep P K H d v->Rep P K H' d v
 | .non,v,h=>by simpa[Rep]using h
 | .bl _,v,h=>by simpa[Rep]using h
 | .int _,v,h=>by simpa[Rep]using h
 | .str _,v,h=>by simpa[Rep]using h
 | .tup ds,v,h=>by
  rw[Rep]at h ⊢;obtain⟨b,xs,e1,e2,e3⟩:=h
  have n:¬ P b:=fun p=>by rcases hm b _ p e2 with⟨z,q⟩ | ⟨z,q⟩ | ⟨z,q⟩<;>cases q
  exact⟨b,xs,e1,k _ _ n e2,ab.off hm k e3⟩
 | .lst ds,v,h=>by
  rw[Rep]at h ⊢;obtain⟨b,xs,e1,e0,e2,e3⟩:=h;exact⟨b,xs,e1,e0,k _ _ e0 e2,ab.off hm k e3⟩
 | .dK ks ds,v,h=>by
  rw[Rep]at h ⊢;obtain⟨b,xs,e1,e0,e2,el,e3⟩:=h;exact⟨b,xs,e1,e0,k _ _ e0 e2,el,ab.off hm k e3⟩
 | .dT ks ds,v,h=>by
  rw[Rep]at h ⊢;obtain⟨b,xs,e1,e0,e2,el,e3⟩:=h;exact⟨b,xs,e1,e0,k _ _ e0 e2,el,ab.off hm k e3⟩
 | .scr ds,v,h=>by
  rw[Rep]at h ⊢;obtain⟨b,xs,e1,e2,e3⟩:=h;refine⟨b,xs,e1,?_,ab.off hm k e3⟩;rcases e2 with⟨q,e2⟩ | e2
  ·have n:¬ P b:=fun p=>by rcases hm b _ p e2 with⟨z,q⟩ | ⟨z,q⟩ | ⟨z,q⟩<;>cases q
   exact .inl ⟨q,k _ _ n e2⟩
  ·exact .inr e2
 | .exc c,v,h=>by
  rw[Rep]at h ⊢;exact h.keep fun b ob u q=>k _ _ (fun p=>by rcases hm b _ p q with⟨z,y⟩ | ⟨z,y⟩ | ⟨z,y⟩<;>cases y) q
 | .fT ks,v,h=>by
  rw[Rep]at h ⊢;obtain⟨b,ob,kvs,e1,e2,e3⟩:=h;exact⟨b,ob,kvs,e1,k _ _ (fun p=>by rcases hm b _ p e2 with⟨z,y⟩ | ⟨z,y⟩ | ⟨z,y⟩<;>cases y) e2,e3⟩
theorem ab.off{P:Addr->Prop}{K:PySem.W.Frag}{H H':Hp}(hm:∀ b o,P b->H b=some o->cx o)(k:Off P H H'):∀ {ds:List RL.D} {xs:List V},ab P K H ds xs->ab P K H' ds xs
 | [],xs,h=>by rw[ab]at h ⊢;exact h
 | d::r,xs,h=>by
  rw[ab]at h ⊢;obtain⟨x,t,e1,e2,e3⟩:=h;exact⟨x,t,e1,Rep.off hm k e2,ab.off hm k e3⟩
end
structure iB(K:PySem.W.Frag)(J:L2.It)(ds:List RL.D)(P:Addr->Prop)(H:Hp):Prop where
 go:∀ H' i,Off P H H'->i<ds.length->J.go i H'
 stop:∀ H',Off P H H'->J.stop ds.length H'
 yld:∀ H' i d x H2,Off P H H'->ds[i]?=some d->J.yld i H' x H2->aw H' H2/\(d.imm=true\/aw H H'->Rep nP K H2 d x)
abbrev Ag(K:PySem.W.Frag)(σD:RL.St)(σ:L2.St)(H:Hp)(it:RL.It)(J:L2.It)(ds:List RL.D)(H1:Hp):Prop :=
 iB K J ds nP H1/\∀ (M:List Nat) (P:Addr->Prop),RL.uL M it=true->(∀ b,P b->∃ o,H b=some o/\cx o)->(∀ (j:Nat) (dj:RL.D) (vj:V),M.contains j=false->σD[j]?=some (some dj)->σ[j]?=some (some vj)->Rep P K H dj vj)->iB K J ds P H1
abbrev tI(K:PySem.W.Frag)(cl:RL.Cl)(it:RL.It):TI:=fun σ H R=>∃ σD ds,RV0 K σD σ H/\RL.aU cl σD it=some ds/\∀ J H1,aw H H1->Ag K σD σ H it J ds H1->R J H1
abbrev SI(X:Cx)(cl:RL.Cl)(tg iter:Expr)(it:RL.It):Prop:=PI X tg iter (tI X.K cl it)
def PI.weak{X:Cx}{tg iter:Expr}{t t':TI}(h:PI X tg iter t)(w:∀ σ H R,t' σ H R->t σ H R):PI X tg iter t':=fun pins s σ H R I q=>h pins s σ H R I (w σ H R q)
def gE{K:PySem.W.Frag}{P:Addr->Prop}{H H':Hp}{d:RL.D}{v:V}(hm:∀ b o,P b->H b=some o->cx o)(k:Off P H H')(r:Rep nP K H d v)(i:d.imm=true):Rep nP K H' d v :=
 ((r.imm i).off hm k).imm i
def sr{K:PySem.W.Frag}{H:Hp}{a:Addr}{ds:List RL.D}{xs:List V}{P:Addr->Prop}(h:H a=some (.lst xs))(r:ab nP K H ds xs)(hp:¬ P a)(hm:∀ b o,P b->H b=some o->cx o):iB K (Itl K a) ds P H where
 go:=fun H' i k hi=>by
  obtain⟨x,e,_⟩:=r.get (i:=i) (d:=ds[i]) (by simp[hi]);exact⟨xs,x,SqL.of (k _ _ hp h),e⟩
 stop:=fun H' k=>⟨xs,SqL.of (k _ _ hp h),by rw[r.length];exact Nat.le_refl _⟩
 yld:=fun H' i d x H2 k e y=>by
  obtain⟨z,y⟩:=y;subst z;have hx:=y xs (SqL.of (k _ _ hp h));obtain⟨x',e1,e2⟩:=r.get e;rw[hx]at e1;cases e1;refine⟨aw.refl _,fun q=>?_⟩;rcases q with q | q
  ·exact gE hm k e2 q
  ·exact e2.same q
def wj{K:PySem.W.Frag}{H:Hp}{a:Addr}{ds:List RL.D}{xs:List V}{P:Addr->Prop}(h:H a=some (.tup xs))(r:ab nP K H ds xs)(hm:∀ b o,P b->H b=some o->cx o):iB K (Itt K a) ds P H:=by
 have hp:¬ P a:=fun p=>by rcases hm a _ p h with⟨z,q⟩ | ⟨z,q⟩ | ⟨z,q⟩<;>cases q
 exact {
  go:=fun H' i k hi=>by
   obtain⟨x,e,_⟩:=r.get (i:=i) (d:=ds[i]) (by simp[hi]);exact⟨xs,x,SqT.of (k _ _ hp h),e⟩
  stop:=fun H' k=>⟨xs,SqT.of (k _ _ hp h),by rw[r.length];exact Nat.le_refl _⟩
  yld:=fun H' i d x H2 k e y=>by
   obtain⟨z,y⟩:=y;subst z;have hx:=y xs (SqT.of (k _ _ hp h));obtain⟨x',e1,e2⟩:=r.get e;rw[hx]at e1;cases e1;refine⟨aw.refl _,fun q=>?_⟩;rcases q with q | q
   ·exact gE hm k e2 q
   ·exact e2.same q }
def mh:∀ (n:Nat) (lo:Int) (i:Nat) (d:RL.D),(RL.cu lo n)[i]?=some d->d=.int (lo+i)
 | 0,lo,i,d,h=>by simp[RL.cu]at h
 | n+1,lo,0,d,h=>by simp[RL.cu]at h;simp[h]
 | n+1,lo,i+1,d,h=>by
  rw[RL.cu,List.getElem?_cons_succ]at h;rw[mh n (lo+1) i d h];congr 1;lia
def jd:∀ (n:Nat) (lo:Int),(RL.cu lo n).length=n
 | 0,_=>rfl
 | n+1,lo=>by rw[RL.cu,List.length_cons,jd n]
def lH{K:PySem.W.Frag}{H:Hp}{lo:Int}{n:Nat}{P:Addr->Prop}:iB K (Itr lo n) (RL.cu lo n) P H where
 go:=fun H' i k hi=>by rw[jd]at hi;exact hi
 stop:=fun H' k=>by rw[jd];exact Nat.le_refl _
 yld:=fun H' i d x H2 k e y=>by
  obtain⟨z,y⟩:=y;subst z;refine⟨aw.refl _,fun _=>?_⟩;rw[mh n lo i d e,y];exact aM
section rules
variable{X:Cx}{cl:RL.Cl}{tg a b l:Expr}{a' b' e':RL.E}{pos p:Pos}
def Gp{t t':TE}{l:Expr}(hl:PE X l t):PI X tg l (fun σ H R=>t σ H fun x H1=>(∃ a,x=.ref a/\(∃ xs,SqL X.K H1 a xs)/\R (Itl X.K a) H1)\/(∃ a,x=.ref a/\(∃ xs,SqT X.K H1 a xs)/\R (Itt X.K a) H1)):=by
 intro pins s σ H R I h;refine thn (hl pins s σ H _ I h) fun v s1 ⟨x,H1,I1,r1,q1⟩=>?_
 rcases q1 with⟨a,e,⟨xs,hq⟩,q⟩ | ⟨a,e,⟨xs,hq⟩,q⟩
 ·subst e;cases r1;obtain⟨its,rv,p,hz⟩:=I1.list hq;refine wpAny_pyIter_list p.isList ⟨s1.heap.objs.size,[s1.heap.objs.size],_,_,H1,rfl,I1.kept (t':=s1.toks) fun b o e=>Heap.get?_push_of_some _ e,v7 a _,⟨_,Heap.get?_push_size _ rfl,rfl,rfl⟩,fun b hb=>?_,q⟩;rw[show b=s1.heap.objs.size by simpa using hb];exact I1.l6 (Nat.le_refl _) (I1.hok.fresh (Nat.le_refl _))
 ·subst e;cases r1;obtain⟨its,rv,p,hz⟩:=I1.tuple hq;refine wpAny_pyIter_tuple (show s1.heap.IsTuple a its.toArray from p) ⟨s1.heap.objs.size,[s1.heap.objs.size],_,_,H1,rfl,I1.kept (t':=s1.toks) fun b o e=>Heap.get?_push_of_some _ e,uw a _,⟨_,Heap.get?_push_size _ rfl,rfl,rfl⟩,fun b hb=>?_,q⟩;rw[show b=s1.heap.objs.size by simpa using hb];exact I1.l6 (Nat.le_refl _) (I1.hok.fresh (Nat.le_refl _))
def lF{σD:RL.St}{σ:L2.St}{H H1:Hp}{d:RL.D}{v:V}{M:List Nat}{P:Addr->Prop}(r1:Res X.K σD σ H e' d v H1)(z:(RL.avE M e' || RL.aD e')=true)(hP:∀ b,P b->∃ o,H b=some o/\cx o)
 (av:∀ (j:Nat) (dj:RL.D) (vj:V),M.contains j=false->σD[j]?=some (some dj)->σ[j]?=some (some vj)->Rep P X.K H dj vj):∀ ds a,d=.lst ds->v=.ref a->¬ P a:=by
 intro ds a hd hv;subst hd hv;rw[Bool.or_eq_true]at z;rcases z with z | z
 ·obtain⟨p,xs,e1,e2,_⟩:=az (r1.av M z P (fun b q=>by obtain⟨o,ho,_⟩:=hP b q;rw[ho];exact fun z=>nomatch z) av);cases e1;exact e2
 ·intro q;obtain⟨o,ho,_⟩:=hP a q;rw[r1.fresh z rfl a rfl]at ho;cases ho
def dH{P:Addr->Prop}{H H1:Hp}(s:aw H H1)(hP:∀ b,P b->∃ o,H b=some o/\cx o):∀ b o,P b->H1 b=some o->cx o:=fun b o q e=>by
 obtain⟨o',ho,m⟩:=hP b q;rw[s _ _ ho]at e;cases e;exact m
def gP{H1:Hp}:∀ b o,nP b->H1 b=some o->cx o:=fun b o q=>q.elim
def Cy(hl:SE X cl l e')(hs:True):PI X tg l (fun σ H R=>∃ σD d ds,RV0 X.K σD σ H/\RL.ev cl σD e'=some d/\RL.items d=some ds/\∀ J H1,aw H H1->Ag X.K σD σ H (.seq e') J ds H1->R J H1):=by
 refine PI.weak (Gp (t':=tE X.K cl e') hl) fun σ H R h=>?_;obtain⟨σD,d,ds,rv,e,ei,k⟩:=h;refine⟨σD,d,rv,e,fun v H1 r1=>?_⟩;obtain⟨p,xs,rfl,hp,rs⟩:=eX ei r1.rep
 rcases hp with⟨hp,rfl⟩ | ⟨hp,rfl⟩
 ·refine .inl ⟨p,rfl,⟨xs,SqL.of hp⟩,k _ _ r1.same ⟨sr hp rs (fun z=>z) gP,fun M P z hP av=>sr hp rs (lF r1 z hP av _ _ rfl rfl) (dH r1.same hP)⟩⟩
 ·exact .inr ⟨p,rfl,⟨xs,SqT.of hp⟩,k _ _ r1.same ⟨wj hp rs gP,fun M P z hP av=>wj hp rs (dH r1.same hP)⟩⟩
def lZ{x y:RL.D}{ds:List RL.D}(h:RL.dm x y=some ds):∃ i j:Int,x=.int i/\y=.int j/\(-(2 ^ 62)<=i/\i<2 ^ 62/\-(2 ^ 62)<=j/\j<2 ^ 62)/\(j-i).toNat<=RL.most/\ds=RL.cu i (j-i).toNat:=by
 have no:∀ {o:Option (List RL.D)},o=none->o=some ds->False:=fun e h=>by rw[e]at h;cases h
 cases x with
 | int i=>cases y with
  |int j=>
   obtain⟨hc,e⟩:=cK h
   have lo:-(2 ^ 62:Int)<=-(2 ^ 60):=by decide
   have hi:(2 ^ 60:Int)<2 ^ 62:=by decide
   exact⟨i,j,rfl,rfl,⟨Int.le_trans lo hc.2.1,Int.lt_trans hc.2.2.1 hi,Int.le_trans lo hc.2.2.2.1,Int.lt_trans hc.2.2.2.2 hi⟩,hc.1,e⟩
  | _=>exact(no rfl h).elim
 | _=>exact(no rfl h).elim
def AH(hg:Gl X "range")(hm:X.mg "range" = none)(ha:SE X cl a a')(hn:noStar a=true):SI X cl tg (.Call (.Name "range" p) [a] [] pos) (.rng1 a'):=by
 refine PI.weak (x6 hg hm (ba (cl:=cl) ha bP hn) (ax [] hn)) fun σ H R h=>?_;obtain⟨σD,ds,rv,e,k⟩:=h;obtain⟨x,ea,e⟩:=bind_some e;obtain⟨i,j,e1,rfl,hb,_,rfl⟩:=lZ e;cases e1;refine⟨σD,[.int j],rv,by rw[RL.evs,ea];rfl,fun vs H1 s1 r1=>?_⟩;rw[ab]at r1;obtain⟨v,t,rfl,r2,r3⟩:=r1;rw[ab]at r3;subst r3;refine⟨j,by rw[ai r2],hb.2.2.1,hb.2.2.2,?_⟩
 have hz:(j-0).toNat=j.toNat:=by simp
 rw[hz]at k;exact k _ _ s1 ⟨lH,fun _ _ _ _ _=>lH⟩
def A5(hg:Gl X "range")(hm:X.mg "range" = none)(ha:SE X cl a a')(hb:SE X cl b b')(hn:noStar a=true)(hn2:noStar b=true):SI X cl tg (.Call (.Name "range" p) [a,b] [] pos) (.rng2 a' b'):=by
 refine PI.weak (uY hg hm (ba (cl:=cl) ha (ba hb bP hn2) hn) (by rw[ax _ hn,ax _ hn2];rfl) (ax [] hn2)) fun σ H R h=>?_;obtain⟨σD,ds,rv,e,k⟩:=h;obtain⟨x,ea,e⟩:=bind_some e;obtain⟨y,eb,e⟩:=bind_some e;obtain⟨i,j,rfl,rfl,hb,_,rfl⟩:=lZ e;refine⟨σD,[.int i,.int j],rv,by rw[RL.evs,ea,RL.evs,eb];rfl,fun vs H1 s1 r1=>?_⟩;rw[ab]at r1;obtain⟨v,t,rfl,r2,r3⟩:=r1;rw[ab]at r3;obtain⟨u,t,rfl,r4,r5⟩:=r3;rw[ab]at r5;subst r5;exact⟨i,j,by rw[ai r2,ai r4],hb,k _ _ s1 ⟨lH,fun _ _ _ _ _=>lH⟩⟩
end rules
end RS
namespace L2
open PySem PySem.Spec PyProof.Rows
abbrev gC(ifs:List Expr)(env:Env):Sem Bool:=forIn ifs true fun c r=>if r=true then do let ok <- isTrue c env (eval c env);pure (ForInStep.yield ok)else pure (ForInStep.yield r)
section
def Cv(h:wpAny M A m P (fun _ _=>False) s):wpAny M A m P E s :=
 wpAny_mono h (fun _ _ q=>q) fun _ _ z=>z.elim
def cV(h:wpAny M A m (fun a s1=>wpAny M A (k a) P E s1) (fun _ _=>False) s):wpAny M A (m >>= k) P E s:=wpAny_bind (Cv h)
end
section
abbrev nX(prog:Program)(w:World)(A:Around)(elt tg:Expr)(ifs:List Expr)(it acc:Value)(env:Env)(stop next:Shared->Prop)(s:Shared):Prop :=
 wpAny (model prog w) A (pyNext it) (fun r s1=>match r with
  | none=>stop s1
  | some v=>wpAny (model prog w) A (letOwnedTupleGo tg it v) (fun _ s2=>wpAny (model prog w) A (assign tg env v) (fun _ s3=>wpAny (model prog w) A (gC ifs env) (fun ok s4 =>
     if ok=true then wpAny (model prog w) A (eval elt env) (fun x s5=>wpAny (model prog w) A (call (.builtin "list.append") [acc,x]) (fun _ s6=>next s6) (fun _ _=>False) s5) (fun _ _=>False) s4
     else next s4) (fun _ _=>False) s3) (fun _ _=>False) s2) (fun _ _=>False) s1) (fun _ _=>False) s
def zj(h:nX prog w A elt tg ifs it acc env stop next s) :
  wpAny (model prog w) A (compTurn (.ListComp elt [⟨tg,iter,ifs,0⟩] scope pos) 0 it acc env) (fun fin s'=>match fin with
   | .done f=>f=.next/\stop s'
   | .again c=>c=.compLoop (.ListComp elt [⟨tg,iter,ifs,0⟩] scope pos) 0 it acc env/\next s') E s:=by
 rw[compTurn_list];apply wpAny_bind;apply wpAny_standAt;apply cV;refine thn h fun r s1 h1=>?_
 cases r with
 |none=>
  apply wpAny_pure;exact⟨rfl,h1⟩
 |some v=>
  apply cV;refine thn h1 fun _ s2 h2=>?_;apply cV;refine thn h2 fun _ s3 h3=>?_;apply cV;refine thn h3 fun ok s4 h4=>?_;cases ok
  ·apply wpAny_pure;exact⟨rfl,h4⟩
  ·apply wpAny_bind;apply cV;refine thn h4 fun x s5 h5=>?_;apply cV;refine thn h5 fun _ s6 h6=>?_;apply wpAny_pure;apply wpAny_pure;exact⟨rfl,h6⟩
def wQ(I:Nat->Shared->Prop)(turn:∀ n s,I n s->nX prog w A elt tg ifs it acc env (R (.ok .next)) (fun s'=>∃ m,m<n/\I m s') s)
 (n:Nat)(h:I n s):codeAny (model prog w) A (.compLoop (.ListComp elt [⟨tg,iter,ifs,0⟩] scope pos) 0 it acc env) R s :=
 codeAny_loop (M:=model prog w) rfl I (fun n s hI=>wpAny_noted (thn (zj (turn n s hI)) fun fin s' q=>by
  cases fin with
  |done f=>
   obtain⟨rfl,q⟩:=q;exact q
  | again c=>exact q)) n h
end
def k8:∀ (names:List (Str × NameKind)) (n:Nat) (acc:List (Str × Addr)) (x:Str) (c:Addr),(cellsFrom n names acc).lookup x=some c->(acc.lookup x=some c/\(x,NameKind.cell)∉names)\/(n<=c/\(x,NameKind.cell)∈names)
 | [],n,acc,x,c,h=>.inl ⟨h,by simp⟩
 | (nm,k)::r,n,acc,x,c,h=>by
  unfold cellsFrom at h;by_cases hk:(k == NameKind.cell)=true
  ·rw[if_pos hk]at h
   have ek:k=.cell:=by simpa using hk
   subst ek
   rcases k8 r (n+1) ((nm,n)::acc) x c h with⟨a,b⟩ | ⟨a,b⟩
   ·rw[List.lookup_cons]at a
    cases hx:x == nm with
    |true=>
     rw[hx]at a;cases a
     have:x=nm:=by simpa using hx
     subst this;exact .inr ⟨Nat.le_refl _,List.mem_cons_self ..⟩
    |false=>
     rw[hx]at a;refine .inl ⟨a,fun z=>?_⟩;rcases List.mem_cons.mp z with z | z
     ·cases z;simp at hx
     ·exact b z
   ·exact .inr ⟨Nat.le_of_succ_le a,List.mem_cons_of_mem _ b⟩
  ·rw[if_neg hk]at h
   rcases k8 r n acc x c h with⟨a,b⟩ | ⟨a,b⟩
   ·refine .inl ⟨a,fun z=>?_⟩;rcases List.mem_cons.mp z with z | z
    ·cases z;exact hk (by simp)
    ·exact b z
   ·exact .inr ⟨a,List.mem_cons_of_mem _ b⟩
def nD:∀ (names:List (Str × NameKind)) (n:Nat) (acc:List (Str × Addr)) (x:Str),(x,NameKind.cell)∉names->(cellsFrom n names acc).lookup x=acc.lookup x
 | [],n,acc,x,_=>rfl
 | (nm,k)::r,n,acc,x,h=>by
  have hr:(x,NameKind.cell)∉r:=fun z=>h (List.mem_cons_of_mem _ z);unfold cellsFrom;by_cases hk:(k == NameKind.cell)=true
  ·rw[if_pos hk,nD r (n+1) _ x hr,List.lookup_cons]
   have ek:k=.cell:=by simpa using hk
   subst ek
   have:(x == nm)=false:=by
    rw[beq_eq_false_iff_ne];intro z;subst z;exact h (List.mem_cons_self ..)
   rw[this]
  ·rw[if_neg hk];exact nD r n acc x hr
def qd:∀ (names:List (Str × NameKind)) (n:Nat) (acc:List (Str × Addr)),(∀ x c,acc.lookup x=some c->c<n)->(∀ x y c,acc.lookup x=some c->acc.lookup y=some c->x=y)->∀ x y c,(cellsFrom n names acc).lookup x=some c->(cellsFrom n names acc).lookup y=some c->x=y
 | [],n,acc,_,hi,x,y,c,h1,h2=>hi x y c h1 h2
 | (nm,k)::r,n,acc,hl,hi,x,y,c,h1,h2=>by
  unfold cellsFrom at h1 h2;by_cases hk:(k == NameKind.cell)=true
  ·rw[if_pos hk]at h1 h2;refine qd r (n+1) ((nm,n)::acc) (fun x c e=>?_) (fun x y c e1 e2=>?_) x y c h1 h2
   ·rw[List.lookup_cons]at e
    cases hx:x == nm with
    | true=>rw[hx]at e;cases e;exact Nat.lt_succ_self _
    | false=>rw[hx]at e;exact Nat.lt_succ_of_lt (hl x c e)
   ·rw[List.lookup_cons]at e1 e2
    cases hx:x == nm with
    |true=>
     rw[hx]at e1;cases e1
     cases hy:y == nm with
     |true=>
      have a:x=nm:=by simpa using hx
      have b:y=nm:=by simpa using hy
      rw[a,b]
     |false=>
      rw[hy]at e2;exact absurd (hl y n e2) (Nat.lt_irrefl _)
    |false=>
     rw[hx]at e1
     cases hy:y == nm with
     |true=>
      rw[hy]at e2;cases e2;exact absurd (hl x n e1) (Nat.lt_irrefl _)
     |false=>
      rw[hy]at e2;exact hi x y c e1 e2
  ·rw[if_neg hk]at h1 h2;exact qd r n acc hl hi x y c h1 h2
def mH:∀ (names:List (Str × NameKind)) (h:Heap) (acc:List (Str × Addr)) (x:Str) (c:Addr),(cellsFrom h.objs.size names acc).lookup x=some c->acc.lookup x=some c\/(pushCells h names).IsCell c none
 | [],h,acc,x,c,e=>.inl e
 | (nm,k)::r,h,acc,x,c,e=>by
  unfold cellsFrom at e;unfold pushCells;by_cases hk:(k == NameKind.cell)=true
  ·rw[if_pos hk]at e ⊢
   have e':(cellsFrom (h.push { cls:=.type "cell",data:=.cell none }).objs.size r ((nm,h.objs.size)::acc)).lookup x=some c:=by rw[Heap.size_push];exact e
   rcases mH r (h.push { cls:=.type "cell",data:=.cell none }) ((nm,h.objs.size)::acc) x c e' with a | a
   ·rw[List.lookup_cons]at a
    cases hx:x == nm with
    |true=>
     rw[hx]at a;cases a;exact .inr ⟨_,pushCells_keeps r _ _ _ (Heap.get?_push_size _ rfl),rfl⟩
    |false=>
     rw[hx]at a;exact .inl a
   ·exact .inr a
  ·rw[if_neg hk]at e ⊢;exact mH r h acc x c e
def BN{M:Model}{A:Around}{E:Value->Shared->Prop}{s:Shared}{scope:Scope}{globals:Addr}{closure:List (Str × Addr)}{qual:Str}{func:Option Addr}{code:Value}{outer:Env}{builtins:Addr}{Q:Env->Shared->Prop}
 (hQ:Q (newEnv scope s.heap.objs.size globals (cellsFrom (s.heap.objs.size+1) scope.names closure) qual func code (some outer) builtins) { s with heap:=pushCells (s.heap.push { cls:=.type "dict",data:=.dict #[] }) scope.names }) :
  wpAny M A (newFunctionEnv scope globals closure [] qual func code (some outer) builtins) Q E s:=by
 simp only[newFunctionEnv,Option.isSome_some,if_true];refine wpAny_bind (wpAny_alloc ?_);refine wpAny_bind (wpAny_layCells _ (fun name kind cells=>by cases hkc:kind == NameKind.cell<;>simp[hkc]) _ _ _ _ ?_);rw[show({ s with heap:=s.heap.push { cls:=.type "dict",data:=.dict #[] } }:Shared).heap.objs.size=s.heap.objs.size+1 from Heap.size_push ..];refine wpAny_bind ?_;rw[List.forIn_nil];exact wpAny_pure (wpAny_pure hQ)
abbrev blk(X:Cx)(scope:Scope)(cls:List (Str × Addr))(C:Addr)(fp:List Addr)(s:Shared)(H:Hp):Cx where
 prog:=X.prog
 w:=X.w
 K:=X.K
 mg:=X.mg
 base:=X.base
 A:=X.A
 N:=X.N
 s₀:=s
 H₀:=H
 env:=compEnvC scope cls C X.env
 outer:=X.stack
 stack:=X.stack
 ex:=fp
 fn:=fun x=>scope.names.lookup x == some .cell
 calm:=X.calm
 pn:=[]
 xe:=fun _ _=>False
structure fM(scope:Scope)(sc:Scope)(cls:List (Str × Addr))(cells:List (Str × Addr)):Prop where
 kind:scope.kind=.function
 own:∀ x∈scope.names,x.2=.cell->scope.names.lookup x.1=some .cell
 loc:∀ x∈scope.names,x.2=.local->scope.names.lookup x.1=some .local
 sub:∀ x c,cls.lookup x=some c->cells.lookup x=some c
 has:∀ x,scope.names.lookup x=some .free->∃ c,cls.lookup x=some c
 vis:∀ x,scope.names.lookup x=some .free->sc.names.lookup x=some .cell\/sc.names.lookup x=some .free
def bH{env:Env}:∀ {names:List (Str × NameKind)} {x:Str} {k:NameKind},
  (names.map fun(n,k)=>if(k == NameKind.free&&env.scope.kind == .function&&env.kindOf n == some .cell)then(n,NameKind.cell)else(n,k)).lookup x=some k ->
  names.lookup x=some k\/(k=.cell/\names.lookup x=some .free/\env.kindOf x=some .cell)
 | [],x,k,h=>by simp at h
 | (n,k')::r,x,k,h=>by
  have ih:=@bH env r x k;rw[List.map_cons]at h
  cases hx:x == n with
  |true=>
   have en:x=n:=by simpa using hx
   subst en;by_cases hc:(k' == NameKind.free&&env.scope.kind == .function&&env.kindOf x == some .cell)=true
   ·simp only[hc,if_true]at h;rw[List.lookup_cons,hx]at h;cases h;simp only[Bool.and_eq_true,beq_iff_eq]at hc;refine .inr ⟨rfl,?_,hc.2⟩;rw[List.lookup_cons,hx,hc.1.1]
   ·simp only[Bool.not_eq_true]at hc;simp only[hc,Bool.false_eq_true,if_false]at h;rw[List.lookup_cons,hx]at h;cases h;exact .inl (by rw[List.lookup_cons,hx])
  |false=>
   have h':(r.map fun(n,k)=>if(k == NameKind.free&&env.scope.kind == .function&&env.kindOf n == some .cell)then(n,NameKind.cell)else(n,k)).lookup x=some k:=by
    by_cases hc:(k' == NameKind.free&&env.scope.kind == .function&&env.kindOf n == some .cell)=true
    ·simp only[hc,if_true]at h;rw[List.lookup_cons,hx]at h;exact h
    ·simp only[Bool.not_eq_true]at hc;simp only[hc,Bool.false_eq_true,if_false]at h;rw[List.lookup_cons,hx]at h;exact h
   rcases ih h' with q | ⟨q1,q2,q3⟩
   ·exact .inl (by rw[List.lookup_cons,hx];exact q)
   ·exact .inr ⟨q1,by rw[List.lookup_cons,hx];exact q2,q3⟩
abbrev zN(X:Cx)(scope:Scope)(σ σB:St):Prop:=σB.length=σ.length/\∀ (i:Nat) (x:Str) (v:V),X.N[i]?=some x->σB[i]?=some (some v)->σ[i]?=some (some v)/\scope.names.lookup x≠some .local/\scope.names.lookup x≠some .cell
section
def Inv.hxb(I:Inv X pins σ H s):HX (blk X scope cls C fp s H):=by
 rcases I.ok.hd.2 with z | ⟨h,o,u,vs,h1,h2,h3⟩
 ·exact .inl z
 ·exact .inr ⟨h,o,u,vs,h1,I.base.gZ _ _ _ h2,h3⟩
def AI(I:Inv X pins σ H s)(S:fM scope X.env.scope cls X.env.cells)(hf:∀ b∈fp,ja X pins H b/\b<s.heap.objs.size)(ho:zN X scope σ σB)
 (hns:h'.Ns s.heap.objs.size (fun _=>none))(hk:∀ b o,s.heap.get? b=some o->h'.get? b=some o)(hcl:∀ x c,(cellsFrom (s.heap.objs.size+1) scope.names cls).lookup x=some c->cls.lookup x=some c\/h'.IsCell c none) :
  Inv (blk X scope (cellsFrom (s.heap.objs.size+1) scope.names cls) s.heap.objs.size fp s H) [] σB H { s with heap:=h',toks:=t }:=by
 have hC:H s.heap.objs.size=none:=I.hok.fresh (Nat.le_refl _)
 have clt:∀ x c,cls.lookup x=some c->c<s.heap.objs.size:=fun x c e=>by
  obtain⟨v,q⟩:=I.cell x c (S.sub x c e);exact q.lt
 have cas:∀ x c,(cellsFrom (s.heap.objs.size+1) scope.names cls).lookup x=some c->(X.env.cells.lookup x=some c/\c<s.heap.objs.size)\/(s.heap.objs.size+1<=c/\scope.names.lookup x=some .cell):=fun x c e=>by
  rcases k8 _ _ _ _ _ e with⟨a,_⟩ | ⟨a,b⟩
  ·exact .inl ⟨S.sub x c a,clt x c a⟩
  ·exact .inr ⟨a,S.own _ b rfl⟩
 have fre:∀ x c,cls.lookup x=some c->scope.names.lookup x=some .free->(cellsFrom (s.heap.objs.size+1) scope.names cls).lookup x=some c:=fun x c e f=>by
  rw[nD _ _ _ _ fun z=>by rw[S.own _ z rfl]at f;cases f];exact e
 refine⟨⟨I.ok.mod,?_,I.ok.glob,I.ok.blt,Nat.le_refl _,fun x y c h1 h2=>qd _ _ _ (fun x c e=>Nat.lt_succ_of_lt (clt x c e)) (fun x y c e1 e2=>I.ok.inj x y c (S.sub x c e1) (S.sub y c e2)) x y c h1 h2,fun x hx=>?_,fun x c z e=>?_,⟨I.ok.hd.1,I.hxb⟩,I.ok.frames,.inl rfl,fun b hb=>?_,fun b o e=>I.bs b o e,Nat.le_trans I.ok.bsz I.sz,fun b o e hb=>?_,fun b hb=>?_,I.stack,I.t5⟩,
  rfl,I.bare,Un.kept hk,⟨_,hns,fun i x v h1 h2 h3=>?_⟩,fun x c e=>?_,hC,fun x c e=>?_,fun p hp=>absurd hp (by simp[blk]),I.hok.kept hk,ho.1.trans I.len⟩
 ·exact S.kind
 ·have hx:(relabel scope X.env).names.lookup x=some .cell\/(relabel scope X.env).names.lookup x=some .free:=hx
  have key:scope.names.lookup x=some .cell\/scope.names.lookup x=some .free:=by
   rcases hx with hx | hx
   ·rcases bH hx with q | ⟨_,q,_⟩
    ·exact .inl q
    ·exact .inr q
   ·rcases bH hx with q | ⟨q,_⟩
    ·exact .inr q
    ·cases q
  rcases key with q | q
  ·have:=PySem.W.cellsFrom_some scope.names (s.heap.objs.size+1) cls (.inl q);exact Option.isSome_iff_exists.mp this
  ·obtain⟨c,hc⟩:=S.has x q;exact⟨c,fre x c hc q⟩
 ·have z:(scope.names.lookup x == some .cell)=true:=z
  rcases k8 _ _ _ _ _ (show(cellsFrom (s.heap.objs.size+1) scope.names cls).lookup x=some c from e)with⟨_,b⟩ | ⟨b,_⟩
  ·exact absurd (PySem.mem_of_lookup (by simpa using z)) b
  ·exact Nat.le_of_succ_le b
 ·obtain⟨⟨f0,f1,f2,f3,f4,f5⟩,f6⟩:=hf b hb;refine⟨Nat.ne_of_lt f6,fun x c e=>?_⟩
  rcases cas x c e with⟨a,_⟩ | ⟨a,_⟩
  ·exact f4 x c a
  ·exact Nat.ne_of_gt (Nat.lt_trans f6 a)
 ·obtain⟨⟨f0,f1,f2,f3,f4,f5⟩,f6⟩:=hf b hb;rcases f3 with z | z
  ·exact I.ok.rh b o e z
  ·exact absurd (Nat.lt_of_lt_of_le (Heap.lt_size e) I.ok.bsz) (Nat.not_lt.mpr z)
 ·obtain⟨⟨f0,f1,f2,f3,f4,f5⟩,f6⟩:=hf b hb;intro z;rcases List.mem_cons.mp (I.qw b z)with e | e
  ·exact f1 e
  ·exact f2 e
 ·obtain⟨h4,h5,h6⟩:=ho.2 i x v h1 h2;have h3:(relabel scope X.env).names.lookup x=some .local\/(relabel scope X.env).names.lookup x=some .cell\/(relabel scope X.env).names.lookup x=some .free:=h3
  have key:scope.names.lookup x=some .free:=by
   rcases h3 with z | z | z
   ·rcases bH z with q | ⟨q,_⟩
    ·exact absurd q h5
    ·cases q
   ·rcases bH z with q | ⟨_,q,_⟩
    ·exact absurd q h6
    ·exact q
   ·rcases bH z with q | ⟨q,_⟩
    ·exact q
    ·cases q
  obtain⟨c,hc⟩:=S.has x key;have hcx:=S.sub x c hc;obtain⟨m,hn,hl⟩:=I.loc;have hv:Vis X.env.scope x:=.inr (S.vis x key);obtain⟨u,ru,lk⟩:=hl i x v h1 h4 hv;refine⟨u,ru,.inr ⟨?_,c,fre x c hc key,?_⟩⟩
  ·rcases h3 with z | z
   ·rcases bH z with q | ⟨q,_⟩
    ·exact absurd q h5
    ·cases q
   ·exact z
  ·rcases lk with⟨z,_⟩ | ⟨_,c',e',q⟩
   ·have z:X.env.scope.names.lookup x=some .local:=z;rcases S.vis x key with z' | z'<;>(rw[z]at z';cases z')
   ·rw[hcx]at e';cases e';obtain⟨o,g1,g2⟩:=q;exact⟨o,hk _ _ g1,g2⟩
 ·rcases hcl x c e with a | a
  ·obtain⟨v,q⟩:=I.cell x c (S.sub x c a);obtain⟨o,h1,h2⟩:=q;exact⟨v,o,hk _ _ h1,h2⟩
  ·exact⟨none,a⟩
 ·rcases cas x c e with⟨a,_⟩ | ⟨a,_⟩
  ·exact I.eO x c a
  ·exact I.hok.fresh (Nat.le_of_succ_le a)
abbrev iD(wi:TI)(clr:St->St)(g:TG)(tc:TT)(te:TE):TE:=fun σ H Q=>wi σ H fun J H1=>∀ l,H1 l=none->∃ W:Nat->Nat->List V->Hp->Prop,(∃ m,W 0 m [] (upd H1 l (.lst []))) /\
 ∀ i m ys H2,W i m ys H2->H2 l=some (.lst ys)/\((J.stop i H2/\Q (.ref l) H2)\/(J.go i H2/\∀ x H3,J.yld i H2 x H3->g x (clr σ) H3 fun σ4 H4=>tc σ4 H4 fun k H5 =>
  if k=true then te σ4 H5 fun y H6=>H6 l=some (.lst ys)/\ys.length<sizeLine/\∃ m',m'<m/\W (i+1) m' (ys++[y]) (upd H6 l (.lst (ys++[y])))else ∃ m',m'<m/\W (i+1) m' ys H5))
structure oY(X:Cx)(scope:Scope)(tg:Expr)(ifs:List Expr)(elt:Expr)(clr:St->St)(g:TG)(tc:TT)(te:TE):Prop where
 htg:∀ cls C fp s H,PG (blk X scope cls C fp s H) tg g
 htc:∀ cls C fp s H pins s' σ H' Q,Inv (blk X scope cls C fp s H) pins σ H' s'->tc σ H' Q->wpAny (model X.prog X.w) X.A (gC ifs (compEnvC scope cls C X.env)) (TP (blk X scope cls C fp s H) pins σ Q) (fun _ _=>False) s'
 hte:∀ cls C fp s H,PE (blk X scope cls C fp s H) elt te
 E9:∀ σ:St,σ.length=X.N.length->zN X scope σ (clr σ)
 Ak:∀ (x:V) (σ:St) (H:Hp) (Q:St->Hp->Prop),g x (clr σ) H Q->g x (clr σ) H fun σ2 H2=>Q σ2 H2/\(clr σ).length=σ2.length/\∀ (i:Nat) v,(clr σ)[i]?=some (some v)->σ2[i]?=some (some v)
def nH{elt tg iter:Expr}{ifs:List Expr}{pos:Pos}{wi:TI}{clr:St->St}{g:TG}{tc:TT}{te:TE}{Q:VK}{RR:Value->Addr->Result->Shared->Prop}{CM:Cx->Prop}(hc:∀ {pins:List (Addr × Obj)} {σ:St} {H:Hp} {s:Shared} (cls:List (Str × Addr)) (C:Addr) (fp:List Addr),Inv X pins σ H s->CM (blk X scope cls C fp s H))(S:fM scope X.env.scope cls X.env.cells)
 (hi:PI' CM X tg iter wi)(B:oY X scope tg ifs elt clr g tc te)(I:Inv X pins σ H s)(h:iD wi clr g tc te σ H Q)
 (hRR:∀ l C H' s',Inv X pins σ H' s'->(∃ m,s'.heap.Ns C m)->H' C=none->C≠X.env.locals->X.s₀.heap.objs.size<=C->(∀ x c,X.env.cells.lookup x=some c->c≠C)->(∀ p∈X.pn++pins,p.1≠C)->Q (.ref l) H'->RR (.ref l) C (.ok .next) s') :
  wpAny (model X.prog X.w) X.A (eval iter X.env) (fun x s1=>wpAny (model X.prog X.w) X.A (pyIter x) (fun it s2=>wpAny (model X.prog X.w) X.A (newList []) (fun acc s3 =>
   wpAny (model X.prog X.w) X.A (newFunctionEnv scope X.env.globals cls [] X.env.qual none .none (some X.env)) (fun cenv s4 =>
    codeAny (model X.prog X.w) X.A (.compStart (.ListComp elt [⟨tg,iter,ifs,0⟩] scope pos) 0 it acc { cenv with scope:=relabel scope X.env }) (RR acc cenv.locals) s4) X.xe s3) X.xe s2) X.xe s1) X.xe s:=by
 refine thn (hi pins s σ H _ I h) fun x s1 h1=>thn h1 fun itv s2 h2=>?_;obtain⟨it,fp,tn,J,H2,e,I2,T,st2,f2,h3⟩:=h2;subst e
 have flt:∀ b∈fp,b<s2.heap.objs.size:=fun b hb=>by
  obtain⟨o,e,_⟩:=T.obj _ _ st2 b hb;exact Heap.lt_size e
 refine wpAny_newObj_type ?_
 have I3:Inv X pins σ (upd H2 s2.heap.objs.size (.lst [])) { s2 with heap:=s2.heap.push { cls:=.type "list",dict:=none,data:=.seq ([]:List Value).toArray } } :=
  I2.laid (t':=s2.toks) (fun b u e=>Heap.get?_push_of_some _ e) (Nat.le_refl _) ⟨Nat.zero_le _,[],0,.nil,Heap.get?_push_size _ rfl⟩
 have hl2:H2 s2.heap.objs.size=none:=I2.hok.fresh (Nat.le_refl _);obtain⟨W,⟨m0,w0⟩,turn⟩:=h3 s2.heap.objs.size hl2
 have f3:∀ b∈fp,ja X pins (upd H2 s2.heap.objs.size (.lst [])) b/\b<(s2.heap.push { cls:=.type "list",dict:=none,data:=.seq ([]:List Value).toArray }).objs.size:=fun b hb=>by
  obtain⟨z0,z⟩:=f2 b hb;refine⟨⟨?_,z⟩,?_⟩
  ·rw[aI (Nat.ne_of_lt (flt b hb))];exact z0
  ·rw[Heap.size_push];exact Nat.lt_succ_of_lt (flt b hb)
 generalize hs3:({ s2 with heap:=s2.heap.push { cls:=.type "list",dict:=none,data:=.seq ([]:List Value).toArray } }:Shared)=s3 at I3
 have hs3h:s3.heap=s2.heap.push { cls:=.type "list",dict:=none,data:=.seq ([]:List Value).toArray }:=by rw[<-hs3]
 rw[<-hs3h]at f3
 have st3:tn 0 s3.heap:=T.keep _ _ _ st2 fun b hb o e=>by rw[hs3h];exact Heap.get?_push_of_some _ e
 refine BN ?_;have k4:∀ b o,s3.heap.get? b=some o->(pushCells (s3.heap.push { cls:=.type "dict",data:=.dict #[] }) scope.names).get? b=some o:=fun b o e=>pushCells_keeps _ _ b o (Heap.get?_push_of_some _ e);have hns4:(pushCells (s3.heap.push { cls:=.type "dict",data:=.dict #[] }) scope.names).Ns s3.heap.objs.size (fun _=>none):=(Heap.Ns.new s3.heap (.type "dict")).keeps (pushCells_keeps _ _);have hcl4:∀ x c,(cellsFrom (s3.heap.objs.size+1) scope.names cls).lookup x=some c->cls.lookup x=some c\/(pushCells (s3.heap.push { cls:=.type "dict",data:=.dict #[] }) scope.names).IsCell c none:=fun x c e=>mH scope.names (s3.heap.push { cls:=.type "dict",data:=.dict #[] }) cls x c (by rw[Heap.size_push];exact e);generalize pushCells (s3.heap.push { cls:=.type "dict",data:=.dict #[] }) scope.names=h4 at k4 hns4 hcl4
 have I4:Inv (blk X scope (cellsFrom (s3.heap.objs.size+1) scope.names cls) s3.heap.objs.size fp s3 (upd H2 s2.heap.objs.size (.lst []))) [] (clr σ) (upd H2 s2.heap.objs.size (.lst [])) { s3 with heap:=h4 } :=
  AI (t:=s3.toks) I3 S f3 (B.E9 σ I.len) hns4 k4 hcl4
 generalize hs4:({ s3 with heap:=h4 }:Shared)=s4 at I4
 have hs4h:s4.heap=h4:=by rw[<-hs4]
 generalize hH3:upd H2 s2.heap.objs.size (.lst [])=H3 at I3 I4 w0
 have st4:tn 0 s4.heap:=T.keep _ _ _ st3 fun b hb o e=>by rw[hs4h];exact k4 b o e
 have fn4:∀ b∈fp,H3 b=none:=fun b hb=>by rw[<-hH3];exact(f3 b hb).1.1
 have stat:∀ {H':Hp} {σ':St} {s':Shared},Inv (blk X scope (cellsFrom (s3.heap.objs.size+1) scope.names cls) s3.heap.objs.size fp s3 H3) [] σ' H' s'->(∀ b∈fp,H' b=none)->∀ b∈fp,ja (blk X scope (cellsFrom (s3.heap.objs.size+1) scope.names cls) s3.heap.objs.size fp s3 H3) [] H' b :=
  fun {H' σ' s'} J hn b hb=>⟨hn b hb,(J.ok.exf b hb).1,J.ok.pK b hb,.inl hb,(J.ok.exf b hb).2,fun p hp=>absurd hp (by simp[blk])⟩
 have fin:∀ {H':Hp} {s':Shared},Inv (blk X scope (cellsFrom (s3.heap.objs.size+1) scope.names cls) s3.heap.objs.size fp s3 H3) [] (clr σ) H' s'->Q (.ref s2.heap.objs.size) H'->RR (.ref s2.heap.objs.size) s3.heap.objs.size (.ok .next) s':=fun {H' s'} J q=>by
  obtain⟨m,hn,_⟩:=J.loc
  have J1:Inv X pins σ H' s':=I3.Ae (s':=s') (ch:=fp) (J.os.trans rfl) J.base J.hok J.bare fun b hb=>by
   obtain⟨⟨g0,g1,g2,g3,g4,g5⟩,_⟩:=f3 b hb;exact⟨g3,g1,g4,g5⟩
  refine hRR _ _ H' s' J1 ⟨m,hn⟩ J.free (Nat.ne_of_gt I3.lt) I3.sz (fun x c e=>?_) (fun p hp=>?_) q
  ·obtain⟨v,z⟩:=I3.cell x c e;exact Nat.ne_of_lt z.lt
  ·exact Nat.ne_of_lt (Heap.lt_size (I3.pin p hp).1)
 have loop:codeAny (model X.prog X.w) X.A (.compLoop (.ListComp elt [⟨tg,iter,ifs,0⟩] scope pos) 0 (.ref it) (.ref s2.heap.objs.size) (compEnvC scope (cellsFrom (s3.heap.objs.size+1) scope.names cls) s3.heap.objs.size X.env))
   (RR (.ref s2.heap.objs.size) s3.heap.objs.size) s4:=by
  refine wQ (fun n s'=>∃ i ys H',Inv (blk X scope (cellsFrom (s3.heap.objs.size+1) scope.names cls) s3.heap.objs.size fp s3 H3) [] (clr σ) H' s'/\tn i s'.heap/\(∀ b∈fp,H' b=none)/\W i n ys H') ?_ m0 ⟨0,[],H3,I4,st4,fn4,w0⟩;rintro n s5 ⟨i,ys,H5,I5,st5,fr5,w5⟩;obtain⟨hl5,tr⟩:=turn i n ys H5 w5
  rcases tr with⟨stop,qn⟩ | ⟨go,step⟩
  ·refine thn (T.done (blk X scope (cellsFrom (s3.heap.objs.size+1) scope.names cls) s3.heap.objs.size fp s3 H3) rfl rfl rfl (hc _ _ _ I3) i [] s5 (clr σ) H5 (fun _ _=>False) I5 (stat I5 fr5) st5 stop) fun r s6 ⟨hr,I6⟩=>?_;subst hr;exact fin I6 qn
  ·refine thn (T.item (blk X scope (cellsFrom (s3.heap.objs.size+1) scope.names cls) s3.heap.objs.size fp s3 H3) rfl rfl rfl (hc _ _ _ I3) i [] s5 (clr σ) H5 (fun _ _=>False) I5 (stat I5 fr5) st5 go) fun r s6 ⟨u,hr,h6⟩=>?_;subst hr;refine thn h6 fun _ s7 ⟨x,H7,I7,r7,y7,st7,fr7⟩=>?_;have I7':=I7.pinned (stat I7 fr7) (T.obj _ _ st7)
   have back:∀ {σ':St} {H':Hp} {s':Shared},Inv (blk X scope (cellsFrom (s3.heap.objs.size+1) scope.names cls) s3.heap.objs.size fp s3 H3) ([]++j9 fp s7.heap) σ' H' s'->(clr σ).length=σ'.length->(∀ (i:Nat) v,(clr σ)[i]?=some (some v)->σ'[i]?=some (some v))->(∃ m ys',m<n/\W (i+1) m ys' H') ->
     ∃ m,m<n/\∃ i ys H',Inv (blk X scope (cellsFrom (s3.heap.objs.size+1) scope.names cls) s3.heap.objs.size fp s3 H3) [] (clr σ) H' s'/\tn i s'.heap/\(∀ b∈fp,H' b=none)/\W i m ys H':=fun {σ' H' s'} J el ew hw=>by
    obtain⟨m,ys',hm,w8⟩:=hw;refine⟨m,hm,i+1,ys',H',J.iY.weak el ew,T.keep _ _ _ st7 fun b hb o e=>(J.pin (b,o) (List.mem_append_right _ (List.mem_append_right _ (gf hb e)))).1,fun b hb=>?_,w8⟩;obtain⟨o,e,d⟩:=T.obj _ _ st7 b hb;exact(J.pin (b,o) (List.mem_append_right _ (List.mem_append_right _ (gf hb e)))).2.1
   refine thn (B.htg _ s3.heap.objs.size fp s3 H3 _ s7 (clr σ) H7 x u _ I7' r7 (B.Ak x σ H7 _ (step x H7 y7))) fun _ s8 ⟨σ8,H8,I8,q8,el8,ew8⟩=>?_;refine thn (B.htc _ s3.heap.objs.size fp s3 H3 _ s8 σ8 H8 _ I8 q8) fun ok s9 ⟨H9,I9,q9⟩=>?_
   cases ok with
   |false=>
    have q9:∃ m',m'<n/\W (i+1) m' ys H9:=q9;obtain⟨m',hm,w9⟩:=q9;exact back I9 el8 ew8 ⟨m',ys,hm,w9⟩
   |true=>
    refine thn (B.hte _ s3.heap.objs.size fp s3 H3 _ s9 σ8 H9 _ I9 q9) fun v s10 ⟨y,H10,I10,r10,hl10,hz,m',hm,w10⟩=>?_;refine thn (nY (X:=blk X scope (cellsFrom (s3.heap.objs.size+1) scope.names cls) s3.heap.objs.size fp s3 H3) _ s10 σ8 H10 (.ref s2.heap.objs.size) [y] (.ref s2.heap.objs.size) [v] (fun _ H'=>H'=upd H10 s2.heap.objs.size (.lst (ys++[y]))) I10 rfl (.cons r10 .nil) ⟨_,ys,y,rfl,rfl,hl10,hz,rfl⟩) fun _ s11 ⟨_,H11,I11,_,e11⟩=>?_;subst e11;exact back I11 el8 ew8 ⟨m',_,hm,w10⟩
 exact codeAny_compStart_list loop (T.self _ 0 _ _ _ st4 loop)
def so{elt tg iter:Expr}{ifs:List Expr}{pos:Pos}{wi:TI}{clr:St->St}{g:TG}{tc:TT}{te:TE}{CM:Cx->Prop}(hc:∀ {pins:List (Addr × Obj)} {σ:St} {H:Hp} {s:Shared} (cls:List (Str × Addr)) (C:Addr) (fp:List Addr),Inv X pins σ H s->CM (blk X scope cls C fp s H))(S:fM scope X.env.scope cls X.env.cells)(hclos:closureFor scope X.env=pure cls)
 (hi:PI' CM X tg iter wi)(B:oY X scope tg ifs elt clr g tc te)(hs:∀ x,foldedSetIterable iter X.env x=pure x):PE X (.ListComp elt [⟨tg,iter,ifs,0⟩] scope pos) (iD wi clr g tc te):=by
 intro pins s σ H Q I h;rw[eval_ListComp];refine wpAny_comprehension_free (use:=none) rfl hs hclos S.kind S.loc (nH (RR:=fun acc C=>compPost (model X.prog X.w) X.A X.xe none (EP X pins σ Q) acc C) hc S hi B I h ?_);intro l C H' s' J hn c0 c1 c2 c3 c4 q;obtain⟨m,hn⟩:=hn;exact⟨m,hn,fun h' sb=>⟨.ref l,H',J.turned (it:=C) (h':=h') (t':=s'.toks) (fun b o hb e=>(sb.2 b hb).trans e) c0 (Ne.symm (Ne.symm c1)) (.inr c2) c3 c4,rfl,q⟩⟩
abbrev Ge(i:Nat)(t:TE):TS:=fun D σ H=>t σ H fun v H1=>D.nx (σ.set i (some v)) H1
def sO(hc:X.calm=true)(hN:X.N.Nodup)(hiy:X.N[i]?=some y)(hy:X.env.scope.names.lookup y=some .local)
 (S:fM scope X.env.scope cls X.env.cells)(hclos:closureFor scope X.env=pure cls)
 (hi:PI X tg iter wi)(B:oY X scope tg ifs elt clr g tc te)(hs:∀ x,foldedSetIterable iter X.env x=pure x)
 (hsw:swapsWith (.ListComp elt [⟨tg,iter,ifs,0⟩] scope pos) (some (.Name y py)) spos.line X.env=pure true) :
  PS X (.Assign [.Name y py] (.ListComp elt [⟨tg,iter,ifs,0⟩] scope pos) spos) (Ge i (iD wi clr g tc te)):=by
 intro pins s σ H D I h
 have back:∀ (l C:Addr) (H':Hp) (s':Shared),Inv X pins σ H' s'->(∃ m,s'.heap.Ns C m)->H' C=none->C≠X.env.locals->X.s₀.heap.objs.size<=C->(∀ x c,X.env.cells.lookup x=some c->c≠C)->(∀ p∈X.pn++pins,p.1≠C)->D.nx (σ.set i (some (.ref l))) H' ->
   compPost (model X.prog X.w) X.A X.xe (some (assign (.Name y py) X.env)) (fun _ s'=>SP X pins D .next s') (.ref l) C (.ok .next) s':=by
  intro l C H' s' J hn c0 c1 c2 c3 c4 q;obtain⟨m,hn⟩:=hn;show wpAny _ X.A (assign (.Name y py) X.env (.ref l)) _ _ s';refine wpAny_assign_Name (nS (v:=.ref l) J hN hiy (.inl hy) rfl (fun s2 J2 ⟨a,sb,ha⟩=>?_) (.inr hy))
  have hne:C≠a:=by
   rcases ha with z | z
   ·rw[z];exact c1
   ·exact(c3 _ _ z).symm
  exact⟨m,hn.sameBut sb hne,fun h' sb'=>⟨σ.set i (some (.ref l)),H',J2.turned (it:=C) (h':=h') (t':=s2.toks) (fun b o hb e=>(sb'.2 b hb).trans e) c0 c1 (.inr c2) c3 c4,q⟩⟩
 have core:=nH (RR:=fun acc C=>compPost (model X.prog X.w) X.A X.xe (some (assign (.Name y py) X.env)) (fun _ s'=>SP X pins D .next s') acc C) (pos:=pos) (fun _ _ _ _=>hc) S hi B I h back;have whole:=wpAny_comprehension_free (e:=.ListComp elt [⟨tg,iter,ifs,0⟩] scope pos) (newAcc:=newList []) (use:=some (assign (.Name y py) X.env)) (Q:=fun _ s'=>SP X pins D .next s') (pos:=iter.pos) rfl hs hclos S.kind S.loc core;rw[exec_Assign_Name_used (hs:=hsw)];apply wpAny_bind;apply wpAny_standAt;apply wpAny_bind;apply wpAny_bind;refine thn whole fun _ s' hq=>?_;apply wpAny_pure;apply wpAny_pure;exact hq
end
end L2
namespace RS
open PySem PySem.Spec PyProof.Rows L2
def jo:∀ (names:List (Str × NameKind)) (acc:List (Str × Addr)),(∀ x,(x,NameKind.free)∈names->∃ c,env.cells.lookup x=some c)->(∀ x c,acc.lookup x=some c->env.cells.lookup x=some c) ->
  ∃ cls,(forIn names acc fun(p:Str × NameKind) cs=>match p with | (name,kind)=>if(kind == NameKind.free)=true then do let c <- cellOf env name;pure (ForInStep.yield ((name,c)::cs))else pure (ForInStep.yield cs):Sem (List (Str × Addr)))=pure cls /\
   (∀ x c,cls.lookup x=some c->env.cells.lookup x=some c)/\(∀ x,(acc.lookup x).isSome=true\/(x,NameKind.free)∈names->∃ c,cls.lookup x=some c)
 | [],acc,_,ha=>⟨acc,rfl,ha,fun x hx=>by
   rcases hx with h | h
   ·exact Option.isSome_iff_exists.mp h
   ·simp at h⟩
 | (n,k)::r,acc,hn,ha=>by
  by_cases hk:k=.free
  ·subst hk;obtain⟨c,hc⟩:=hn n List.mem_cons_self
   have ha':∀ x c',((n,c)::acc).lookup x=some c'->env.cells.lookup x=some c':=fun x c' e=>by
    rw[List.lookup_cons]at e
    cases hx:x == n with
    |true=>
     rw[hx]at e;cases e;rw[show x=n by simpa using hx];exact hc
    |false=>
     rw[hx]at e;exact ha x c' e
   obtain⟨cls,h1,h2,h3⟩:=jo r ((n,c)::acc) (fun x hx=>hn x (List.mem_cons_of_mem _ hx)) ha';refine⟨cls,?_,h2,fun x hx=>h3 x ?_⟩
   ·rw[List.forIn_cons]
    have hcell:cellOf env n=pure c:=by unfold cellOf;rw[hc]
    simp only[beq_self_eq_true,if_true,hcell];exact h1
   ·rcases hx with h | h
    ·left;rw[List.lookup_cons];split<;>simp_all
    ·rcases List.mem_cons.mp h with e | e
     ·cases e;left;simp[List.lookup_cons]
     ·exact .inr e
  ·obtain⟨cls,h1,h2,h3⟩:=jo r acc (fun x hx=>hn x (List.mem_cons_of_mem _ hx)) ha;refine⟨cls,?_,h2,fun x hx=>h3 x ?_⟩
   ·rw[List.forIn_cons]
    have:(k == NameKind.free)=false:=by simpa using hk
    simp only[this,Bool.false_eq_true,if_false];exact h1
   ·rcases hx with h | h
    ·exact .inl h
    ·rcases List.mem_cons.mp h with e | e
     ·cases e;exact absurd rfl hk
     ·exact .inr e
def uq(h:∀ x,(x,NameKind.free)∈scope.names->∃ c,env.cells.lookup x=some c) :
  ∃ cls,closureFor scope env=pure cls/\(∀ x c,cls.lookup x=some c->env.cells.lookup x=some c)/\(∀ x,scope.names.lookup x=some .free->∃ c,cls.lookup x=some c):=by
 obtain⟨cls,h1,h2,h3⟩:=jo (env:=env) scope.names [] h (fun x c e=>by simp at e);refine⟨cls,?_,h2,fun x hx=>h3 x (.inr (PySem.mem_of_lookup hx))⟩;unfold closureFor;simp only[bind_pure_comp]at h1 ⊢;rw[h1];rfl
section
abbrev mR(K:PySem.W.Frag)(n:Nat)(t:TGs):TG:=fun v σ H Q=>∃ a xs,v=.ref a/\SqL K H a xs/\xs.length=n/\t xs σ H Q
def vi(hc:X.calm=true)(h:PGs X es t)(hn:(assignEach es X.env).length=n)(hst:(assignEach es X.env).findIdx? (·.1)=none):PG X (.Tuple es k pos) (mR X.K n t):=by
 intro pins s σ H v u Q I r hw;obtain⟨a,xs,e1,hq,hl,hw⟩:=hw;subst e1;cases r;obtain⟨its,rv,ht,hz⟩:=I.list hq
 have hsz:(assignEach es X.env).length=its.toArray.size:=by rw[hn,<-hl,rv.length,List.size_toArray]
 rw[PyProof.Rows.assign_Tuple];refine wpAny_bind (wpAny_standAt ?_);unfold unpack;rw[hsz,hst];refine wpAny_bind (wpAny_holding (PySem.W.kun_itemsOf (I.ok.hd.1 hc) ht.isList fun h' hx=>?_));have I1:Inv X pins σ H { s with heap:=h' }:=I.kept (t':=s.toks) fun b o e=>hx b o (Nat.ne_of_lt (Heap.lt_size e)) e;exact h pins _ σ H xs _ Q I1 (by simpa using rv) hw
end
section
def vX(h:PG X tgE t)(h':PG X tgE t'):PG X tgE (fun v σ H Q=>t v σ H Q\/t' v σ H Q):=by
 intro pins s σ H v u Q I r hw;rcases hw with q | q
 ·exact h pins s σ H v u Q I r q
 ·exact h' pins s σ H v u Q I r q
end
abbrev gs:List Nat->TGs
 | []=>Ft
 | i::r=>zL (lW i) (gs r)
abbrev gT(K:PySem.W.Frag):List Nat->TG
 | [i]=>lW i
 | is=>fun v σ H Q=>nc K is.length (gs is) v σ H Q\/mR K is.length (gs is) v σ H Q
abbrev cG:List Nat->List V->L2.St->L2.St
 | i::is,v::vs,σ=>cG is vs (σ.set i (some v))
 | _,_,σ=>σ
abbrev dF:List Nat->List RL.D->RL.St->RL.St
 | i::is,d::ds,σ=>dF is ds (σ.set i (some d))
 | _,_,σ=>σ
def ic:∀ {is:List Nat} {ds:List RL.D} {σ σ1:RL.St},RL.bG is ds σ=some σ1->is.length=ds.length/\σ1=dF is ds σ
 | [],[],σ,σ1,h=>by cases h;exact⟨rfl,rfl⟩
 | [],d::ds,σ,σ1,h=>by cases h
 | i::is,[],σ,σ1,h=>by cases h
 | i::is,d::ds,σ,σ1,h=>by
  obtain⟨h1,h2⟩:=ic (is:=is) (ds:=ds) (σ:=σ.set i (some d)) h;exact⟨by simp[h1],h2⟩
def jg:∀ {is:List Nat} {vs:List V} {σ:L2.St} {H:Hp} {Q:L2.St->Hp->Prop},is.length=vs.length->Q (cG is vs σ) H->gs is vs σ H Q
 | [],[],σ,H,Q,_,q=>⟨rfl,q⟩
 | [],_::_,_,_,_,h,_=>by simp at h
 | _::_,[],_,_,_,h,_=>by simp at h
 | i::is,v::vs,σ,H,Q,h,q=>⟨v,vs,rfl,jg (is:=is) (by simpa using h) q⟩
def Ao{K:PySem.W.Frag}(h:RL.aP tg d σD=some σD1)(r:Rep nP K H d v) :
  ∃ ds vs,σD1=dF tg ds σD/\tg.length=ds.length/\ab nP K H ds vs/\(d.imm=true->RL.ao ds=true)/\∀ (σ:L2.St) (Q:L2.St->Hp->Prop),Q (cG tg vs σ) H->gT K tg v σ H Q:=by
 unfold RL.aP at h;split at h
 ·rename_i i;cases h;exact⟨[d],[v],rfl,rfl,ab.cons r ab.nil,fun z=>by simp[RL.ao,z],fun σ Q q=>q⟩
 ·rename_i hne
  have key:gT K tg=fun v σ H Q=>nc K tg.length (gs tg) v σ H Q\/mR K tg.length (gs tg) v σ H Q:=by
   unfold gT;split
   ·rename_i i;exact absurd rfl (hne i)
   ·rfl
  rw[key];split at h
  ·rename_i ds;obtain⟨h1,h2⟩:=ic h;obtain⟨p,xs,rfl,e2,e3⟩:=bg r;exact⟨ds,xs,h2,h1,e3,fun z=>by rw[RL.D.imm]at z;exact z,fun σ Q q=>.inl ⟨p,xs,rfl,SqT.of e2,by rw[<-e3.length,h1],jg (h1.trans e3.length) q⟩⟩
  ·rename_i ds;obtain⟨h1,h2⟩:=ic h;obtain⟨p,xs,rfl,_,e2,e3⟩:=az r;exact⟨ds,xs,h2,h1,e3,fun z=>(by cases z),fun σ Q q=>.inr ⟨p,xs,rfl,SqL.of e2,by rw[<-e3.length,h1],jg (h1.trans e3.length) q⟩⟩
  ·cases h
def pj:∀ (is:List Nat) (vs:List V) (σ:L2.St),(cG is vs σ).length=σ.length
 | [],_,_=>rfl
 | _::_,[],_=>rfl
 | i::is,v::vs,σ=>by rw[cG,pj is vs,List.length_set]
def nq:∀ (is:List Nat) (vs:List V) (σ:L2.St) (j:Nat),is.contains j=false->(cG is vs σ)[j]?=σ[j]?
 | [],_,_,_,_=>rfl
 | _::_,[],_,_,_=>rfl
 | i::is,v::vs,σ,j,h=>by
  rw[List.contains_cons,Bool.or_eq_false_iff]at h;rw[cG,nq is vs _ j h.2,List.getElem?_set_ne (by intro e;subst e;simp at h)]
def l8:∀ (is:List Nat) (vs:List RL.D) (σ:RL.St),(dF is vs σ).length=σ.length
 | [],_,_=>rfl
 | _::_,[],_=>rfl
 | i::is,v::vs,σ=>by rw[dF,l8 is vs,List.length_set]
def kz:∀ (is:List Nat) (vs:List RL.D) (σ:RL.St) (j:Nat),is.contains j=false->(dF is vs σ)[j]?=σ[j]?
 | [],_,_,_,_=>rfl
 | _::_,[],_,_,_=>rfl
 | i::is,v::vs,σ,j,h=>by
  rw[List.contains_cons,Bool.or_eq_false_iff]at h;rw[dF,kz is vs _ j h.2,List.getElem?_set_ne (by intro e;subst e;simp at h)]
abbrev RVx(T:List Nat)(K:PySem.W.Frag)(σD:RL.St)(σ:L2.St)(H:Hp):Prop:=σD.length<=σ.length/\∀ (i:Nat) (d:RL.D),T.contains i=false->σD[i]?=some (some d)->∃ v,σ[i]?=some (some v)/\Rep nP K H d v
def RVx.set{K:PySem.W.Frag}(h:RVx (i::T) K σD σ H)(r:Rep nP K H d v):RVx T K (σD.set i (some d)) (σ.set i (some v)) H:=⟨by simpa using h.1,fun j dj hT e=>by
 by_cases hj:j=i
 ·subst hj
  have hlt:j<σD.length:=by
   have:=(List.getElem?_eq_some_iff.mp e).1;simpa using this
  rw[List.getElem?_set_self hlt]at e;cases e;exact⟨v,by rw[List.getElem?_set_self (Nat.lt_of_lt_of_le hlt h.1)],r⟩
 ·rw[List.getElem?_set_ne (Ne.symm hj)]at e ⊢
  exact h.2 j dj (by rw[List.contains_cons,hT,Bool.or_false];simpa using hj) e⟩
def RVx.bG{K:PySem.W.Frag}:∀ {is:List Nat} {ds:List RL.D} {vs:List V} {σD:RL.St} {σ:L2.St},RVx is K σD σ H->is.length=ds.length->ab nP K H ds vs->RV0 K (dF is ds σD) (cG is vs σ) H
 | [],_,_,_,_,h,_,_=>⟨h.1,fun i d e=>h.2 i d rfl e⟩
 | i::is,[],_,_,_,_,hl,_=>by simp at hl
 | i::is,d::ds,vs,σD,σ,h,hl,r=>by
  rw[ab]at r;obtain⟨v,t,rfl,r1,r2⟩:=r;rw[dF,cG];exact RVx.bG (h.set r1) (by simpa using hl) r2
def Du{K:PySem.W.Frag}(h:gT K tg v σ H Q):∃ vs,tg.length=vs.length/\Q (cG tg vs σ) H/\∀ Q':L2.St->Hp->Prop,Q' (cG tg vs σ) H->gT K tg v σ H Q':=by
 have inv:∀ (is:List Nat) (xs:List V) (σ:L2.St) (Q:L2.St->Hp->Prop),gs is xs σ H Q->is.length=xs.length/\Q (cG is xs σ) H:=by
  intro is
  induction is with
  | nil=>intro xs σ Q h;obtain⟨rfl,q⟩:=h;exact⟨rfl,q⟩
  |cons i r ih=>
   intro xs σ Q h;obtain⟨v,t,rfl,q⟩:=h;obtain⟨h1,h2⟩:=ih t _ Q q;exact⟨by simp[h1],h2⟩
 unfold gT at h;split at h
 ·rename_i i;exact⟨[v],rfl,h,fun Q' q=>q⟩
 ·rename_i hne
  have key:gT K tg=fun v σ H Q=>nc K tg.length (gs tg) v σ H Q\/mR K tg.length (gs tg) v σ H Q:=by
   unfold gT;split
   ·rename_i i;exact absurd rfl (hne i)
   ·rfl
  rw[key]
  rcases h with⟨a,xs,rfl,hq,hl,hg⟩ | ⟨a,xs,rfl,hq,hl,hg⟩
  ·obtain⟨h1,h2⟩:=inv _ _ _ _ hg;exact⟨xs,h1,h2,fun Q' q=>.inl ⟨a,xs,rfl,hq,hl,jg h1 q⟩⟩
  ·obtain⟨h1,h2⟩:=inv _ _ _ _ hg;exact⟨xs,h1,h2,fun Q' q=>.inr ⟨a,xs,rfl,hq,hl,jg h1 q⟩⟩
abbrev fR(tg:List Nat)(σ:L2.St):L2.St:=σ.mapIdx fun i o=>if tg.contains i then none else o
def pF(tg:List Nat)(σ:L2.St):(fR tg σ).length=σ.length:=by simp[fR]
def sY(h:tg.contains i=false):(fR tg σ)[i]?=σ[i]?:=by
 unfold fR;rw[List.getElem?_mapIdx]
 cases σ[i]? with
 | none=>rfl
 | some o=>simp only[Option.map_some,h,Bool.false_eq_true,if_false]
def sC(h:tg.contains i=true):(fR tg σ)[i]?≠some (some v):=by
 unfold fR;rw[List.getElem?_mapIdx]
 cases σ[i]? with
 | none=>simp
 | some o=>simp only[Option.map_some,h,if_true];intro z;cases z
section comp
variable{X:Cx}
structure kG(X:Cx)(cl:RL.Cl)(scope:Scope)(tgE:Expr)(tg:List Nat)(elt:Expr)(e':RL.E)(tcs:TT)(ifs:List Expr):Prop where
 htg:∀ cls C fp s H,PG (blk X scope cls C fp s H) tgE (gT X.K tg)
 htc:∀ cls C fp s H pins s' σ H' Q,Inv (blk X scope cls C fp s H) pins σ H' s'->tcs σ H' Q->wpAny (model X.prog X.w) X.A (gC ifs (compEnvC scope cls C X.env)) (TP (blk X scope cls C fp s H) pins σ Q) (fun _ _=>False) s'
 hte:∀ cls C fp s H,SE (blk X scope cls C fp s H) cl elt e'
 cover:∀ (i:Nat) (x:Str),X.N[i]?=some x->scope.names.lookup x=some .local\/scope.names.lookup x=some .cell->tg.contains i=true
def kG.blk{tcs:TT}(B:kG X cl scope tgE tg elt e' tcs ifs):oY X scope tgE ifs elt (fR tg) (gT X.K tg) tcs (tE X.K cl e') where
 htg:=B.htg
 htc:=B.htc
 hte:=B.hte
 E9:=fun σ hl=>⟨pF tg σ,fun i x v h1 h2=>by
  by_cases hc:tg.contains i=true
  ·exact absurd h2 (sC hc)
  ·simp only[Bool.not_eq_true]at hc;rw[sY hc]at h2;refine⟨h2,fun z=>?_,fun z=>?_⟩
   ·rw[B.cover i x h1 (.inl z)]at hc;cases hc
   ·rw[B.cover i x h1 (.inr z)]at hc
    cases hc⟩
 Ak:=fun x σ H Q h=>by
  obtain⟨vs,h1,h2,h3⟩:=Du h;refine h3 _ ⟨h2,(pj _ _ _).symm,fun i v e=>?_⟩;by_cases hc:tg.contains i=true
  ·exact absurd e (sC hc)
  ·simp only[Bool.not_eq_true]at hc;rw[nq _ _ _ _ hc];exact e
def wR(h:RL.cj f tg σ (d::r)=some ys):∃ σ1 y ys',RL.aP tg d σ=some σ1/\f σ1=some y/\RL.cj f tg σ r=some ys'/\RL.jS y ys'=some ys:=by
 rw[RL.cj]at h;obtain⟨σ1,h1,h⟩:=bind_some h;obtain⟨y,h2,h⟩:=bind_some h;obtain⟨ys',h3,h⟩:=bind_some h;exact⟨σ1,y,ys',h1,h2,h3,h⟩
def sF(rv:RV0 X.K σD σ H)(ei:RL.aU cl σD it=some ds)(hz:ds.length<=RL.most)(hm:RL.cj f tg σD ds=some total)
 (ht:∀ σ1 σV H y (Q:Bool->Hp->Prop),RV0 X.K σ1 σV H->f σ1=some y->(∀ k H',aw H H'->(if k=true then ∃ d,y=some d/\RL.ev cl σ1 e'=some d else y=none)->Q k H')->tcs σV H Q)
 (k:∀ l H',aw H H'->H l=none->(∃ xs,H' l=some (.lst xs)/\ab nP X.K H' total xs)->Q (.ref l) H'):iD (tI X.K cl it) (fR tg) (gT X.K tg) tcs (tE X.K cl e') σ H Q:=by
 refine⟨σD,ds,rv,ei,fun J H1 s1 src l hl=>?_⟩;obtain⟨ok,_⟩:=src
 refine⟨fun i m xs H2=>∃ don rest,m=ds.length-i/\i<=ds.length/\aw H1 H2/\H2 l=some (.lst xs)/\ab (fun p=>p=l) X.K H2 don xs/\RL.cj f tg σD (ds.drop i)=some rest/\don++rest=total/\don.length<=i,
  ⟨_,[],total,rfl,Nat.zero_le _,aw.bE hl,aW,ab.nil,hm,rfl,Nat.le_refl _⟩,?_⟩
 rintro i m xs H2 ⟨don,rest,rfl,hi,s2,hl2,rs,hr,htot,hdn⟩;refine⟨hl2,?_⟩;have off:Off nP H1 H2:=Off.same s2;by_cases hlt:i<ds.length
 ·refine .inr ⟨ok.go H2 i off hlt,fun x H3 y=>?_⟩
  have hd:ds[i]?=some ds[i]:=by simp[hlt]
  obtain⟨s3,rp⟩:=ok.yld H2 i ds[i] x H3 off hd y;have rp:=rp (.inr s2);rw[List.drop_eq_getElem_cons hlt]at hr;obtain⟨σ1,y1,ys',h1,h2,h3,h4⟩:=wR hr;obtain⟨dv,vs,e1,e2,e3,_,e5⟩:=Ao h1 rp;refine e5 _ _ ?_;have rv3:RV0 X.K σD σ H3:=rv.same ((s1.trans s2).trans s3)
  have rvx:RVx tg X.K σD (fR tg σ) H3:=⟨by rw[pF];exact rv3.1,fun j d hT e=>by rw[sY hT];exact rv3.2 j d e⟩
  have rv1:RV0 X.K σ1 (cG tg vs (fR tg σ)) H3:=by rw[e1];exact rvx.bG e2 e3
  refine ht σ1 _ H3 y1 _ rv1 h2 fun t H5 s5 hy=>?_;have hl5:H5 l=some (.lst xs):=s5 _ _ (s3 _ _ hl2);have rs5:ab (fun p=>p=l) X.K H5 don xs:=(rs.same s3).same s5
  cases t with
  |true=>
   obtain⟨d,rfl,hv⟩:=(show ∃ d,y1=some d/\RL.ev cl σ1 e'=some d from hy)
   have him:d.imm=true/\rest=d::ys':=by
    unfold RL.jS at h4;dsimp only at h4;split at h4
    ·rename_i hh;cases h4;exact⟨hh,rfl⟩
    ·cases h4
   refine dJ ⟨σ1,d,rv1.same s5,hv,fun v H6 r6=>⟨r6.same _ _ hl5,?_,ds.length-(i+1),by lia,don++[d],ys',rfl,hlt,?_,aW,?_,h3,?_,?_⟩⟩
   ·rw[<-rs.length];exact Nat.lt_of_lt_of_le (Nat.lt_of_le_of_lt hdn (Nat.lt_of_lt_of_le hlt hz)) (Nat.le_of_lt (by decide))
   ·intro b o e;have hb:b≠l:=aH e hl;rw[aI hb];exact r6.same _ _ (s5 _ _ (s3 _ _ (s2 _ _ e)))
   ·exact ab.upd (P:=fun p=>p=l) (r6.same _ _ hl5) (.inl ⟨_,rfl⟩) rfl (ab.append (rs5.same r6.same) (ab.cons (r6.rep.imm him.1) ab.nil))
   ·rw[<-htot,him.2,List.append_assoc];rfl
   ·rw[List.length_append,List.length_singleton];lia
  |false=>
   have hy:y1=none:=hy;subst hy
   have hr2:rest=ys':=by
    unfold RL.jS at h4;dsimp only at h4;cases h4;rfl
   refine eF ⟨ds.length-(i+1),by lia,don,ys',rfl,hlt,(s2.trans s3).trans s5,hl5,rs5,h3,by rw[<-htot,hr2],by lia⟩
 ·have e:i=ds.length:=by lia
  subst e;refine .inl ⟨ok.stop H2 off,k l H2 (s1.trans s2) (s1.free hl) ⟨xs,hl2,?_⟩⟩;rw[List.drop_length,RL.cj]at hr;cases hr;rw[List.append_nil]at htot;rw[<-htot];exact ab.weak (fun _ z=>z.elim) rs
end comp
section comp
variable{X:Cx}
structure mX(scope sc:Scope):Prop where
 kind:scope.kind=.function
 own:∀ x∈scope.names,x.2=.cell->scope.names.lookup x.1=some .cell
 loc:∀ x∈scope.names,x.2=.local->scope.names.lookup x.1=some .local
 vis:∀ x∈scope.names,x.2=.free->sc.names.lookup x.1=some .cell\/sc.names.lookup x.1=some .free
def gb(S:mX scope X.env.scope)(I:Inv X pins σ H s):∃ cls,closureFor scope X.env=pure cls/\fM scope X.env.scope cls X.env.cells:=by
 obtain⟨cls,h1,h2,h3⟩:=uq (env:=X.env) (scope:=scope) fun x hx=>I.ok.has x (S.vis _ hx rfl);exact⟨cls,h1,S.kind,S.own,S.loc,h2,h3,fun x hx=>S.vis _ (PySem.mem_of_lookup hx) rfl⟩
def pV(sm:aw H H')(hl:H l=none)(h:∃ xs,H' l=some (.lst xs)/\ab nP X.K H' total xs)(hav:∀ M,RL.avE M e=false):Res X.K σD σ H e (.lst total) (.ref l) H' where
 same:=sm
 rep:=by
  obtain⟨xs,h1,h2⟩:=h;rw[Rep];exact⟨l,xs,rfl,fun z=>z,h1,h2⟩
 fresh:=fun _ _ a z=>by cases z;exact hl
 av:=fun M z=>by rw[hav M]at z;cases z
abbrev me:TT:=fun _ H Q=>Q true H
def pW(h:tE X.K cl (.compA e' tg it) σ H Q):iD (tI X.K cl it) (fR tg) (gT X.K tg) me (tE X.K cl e') σ H Q:=by
 obtain⟨σD,d,rv,e,k⟩:=h;obtain⟨ds,e1,e⟩:=bind_some e;obtain⟨ds',e2,e⟩:=bind_some e;obtain⟨total,e3,e4⟩:=map_some e;unfold RL.fits at e2;split at e2
 ·rename_i hz;cases e2;subst e4;refine sF (f:=fun σ1=>(RL.ev cl σ1 e').map some) rv e1 hz e3 (fun σ1 σV H y Q rv1 hy q=>?_) fun l H' sm hl hx=>k _ _ (pV sm hl hx fun _=>rfl);obtain⟨d,h1,h2⟩:=map_some hy;exact q true H (aw.refl H) (dJ ⟨d,h2.symm,h1⟩)
 ·cases e2
def qG(h:tE X.K cl (.comp e' tg it c') σ H Q):iD (tI X.K cl it) (fR tg) (gT X.K tg) (tT X.K cl c') (tE X.K cl e') σ H Q:=by
 obtain⟨σD,d,rv,e,k⟩:=h;obtain⟨ds,e1,e⟩:=bind_some e;obtain⟨ds',e2,e⟩:=bind_some e;obtain⟨total,e3,e4⟩:=map_some e;unfold RL.fits at e2;split at e2
 ·rename_i hz;cases e2;subst e4;refine sF rv e1 hz e3 (fun σ1 σV H y Q rv1 hy q=>?_) fun l H' sm hl hx=>k _ _ (pV sm hl hx fun _=>rfl);obtain⟨t,h1,h2⟩:=bind_some hy;refine⟨σ1,t,rv1,h1,fun H' sm=>q t H' sm ?_⟩
  cases t with
  |true=>
   obtain⟨d,h3,h4⟩:=map_some (show(RL.ev cl σ1 e').map some=some y from h2);exact dJ ⟨d,h4.symm,h3⟩
  |false=>
   cases(show(some none:Option (Option RL.D))=some y from h2);exact eF rfl
 ·cases e2
def yl(hc:X.calm=true)(S:mX scope X.env.scope)(hi:SI X cl tgE iter it)(B:kG X cl scope tgE tg elt e' me [])(hs:∀ x,foldedSetIterable iter X.env x=pure x):SE X cl (.ListComp elt [⟨tgE,iter,[],0⟩] scope pos) (.compA e' tg it):=by
 intro pins s σ H Q I h;obtain⟨cls,h1,h2⟩:=gb S I;exact so (fun _ _ _ _=>hc) h2 h1 hi B.blk hs pins s σ H Q I (pW h)
def yU(hc:∀ {pins:List (Addr × Obj)} {σ:L2.St} {H:Hp} {s:Shared} (cls:List (Str × Addr)) (C:Addr) (fp:List Addr),Inv X pins σ H s->CM (blk X scope cls C fp s H))(S:mX scope X.env.scope)(hi:PI' CM X tgE iter (tI X.K cl it))(B:kG X cl scope tgE tg elt e' (tT X.K cl c') [c])(hs:∀ x,foldedSetIterable iter X.env x=pure x):SE X cl (.ListComp elt [⟨tgE,iter,[c],0⟩] scope pos) (.comp e' tg it c'):=by
 intro pins s σ H Q I h;obtain⟨cls,h1,h2⟩:=gb S I;exact so hc h2 h1 hi B.blk hs pins s σ H Q I (qG h)
abbrev SA(X:Cx)(cl:RL.Cl)(st:Stmt)(i:Nat)(e':RL.E):Prop:=PS X st (fun D σ H=>tE X.K cl e' σ H fun v H1=>D.nx (σ.set i (some v)) H1)
def PS.weak{st:Stmt}(h:PS X st t)(w:∀ D σ H,t' D σ H->t D σ H):PS X st t':=fun pins s σ H D I q=>h pins s σ H D I (w D σ H q)
def PSs.weak{st:List Stmt}(h:PSs X st t)(w:∀ D σ H,t' D σ H->t D σ H):PSs X st t':=fun pins s σ H D I q=>h pins s σ H D I (w D σ H q)
def xU(hc:X.calm=true)(hN:X.N.Nodup)(hiy:X.N[i]?=some y)(hy:X.env.scope.names.lookup y=some .local)(S:mX scope X.env.scope)(hi:SI X cl tgE iter it)(B:kG X cl scope tgE tg elt e' me [])(hs:∀ x,foldedSetIterable iter X.env x=pure x)
 (hsw:swapsWith (.ListComp elt [⟨tgE,iter,[],0⟩] scope pos) (some (.Name y py)) spos.line X.env=pure true):SA X cl (.Assign [.Name y py] (.ListComp elt [⟨tgE,iter,[],0⟩] scope pos) spos) i (.compA e' tg it):=by
 intro pins s σ H D I h;obtain⟨cls,h1,h2⟩:=gb S I;exact sO hc hN hiy hy h2 h1 hi B.blk hs hsw pins s σ H D I (pW h)
def yW(hc:X.calm=true)(hN:X.N.Nodup)(hiy:X.N[i]?=some y)(hy:X.env.scope.names.lookup y=some .local)(S:mX scope X.env.scope)(hi:SI X cl tgE iter it)(B:kG X cl scope tgE tg elt e' (tT X.K cl c') [c])(hs:∀ x,foldedSetIterable iter X.env x=pure x)
 (hsw:swapsWith (.ListComp elt [⟨tgE,iter,[c],0⟩] scope pos) (some (.Name y py)) spos.line X.env=pure true):SA X cl (.Assign [.Name y py] (.ListComp elt [⟨tgE,iter,[c],0⟩] scope pos) spos) i (.comp e' tg it c'):=by
 intro pins s σ H D I h;obtain⟨cls,h1,h2⟩:=gb S I;exact sO hc hN hiy hy h2 h1 hi B.blk hs hsw pins s σ H D I (qG h)
def yu(hN:X.N.Nodup)(hiy:X.N[i]?=some y)(hx:Loc X.env.scope y)(he:SE X cl e e')(hf:X.fn y=true\/X.env.scope.names.lookup y=some .local)(hs:swapsWith e (some (.Name y py)) spos.line X.env=pure false)(hf2:True):SA X cl (.Assign [.Name y py] e spos) i e':=by
 exact vS hN hiy hx he hs hf
end comp
abbrev bc(M:List Nat)(σ:L2.St):Addr->Prop:=fun a=>∃ i,M.contains i=true/\σ[i]?=some (some (.ref a))
abbrev Own(K:PySem.W.Frag)(H:Hp)(d:RL.D)(v:V):Prop:=lh d=true/\RL.aA d=true/\Rep nP K H d v
structure RVm(K:PySem.W.Frag)(M:List Nat)(σD:RL.St)(σ:L2.St)(H:Hp):Prop where
 len:σD.length=σ.length
 val:∀ (i:Nat) (d:RL.D),σD[i]?=some (some d)->∃ v,σ[i]?=some (some v)/\(if M.contains i=true then Own K H d v else Rep (bc M σ) K H d v)
 non:∀ (i:Nat) (v:V),σ[i]?=some (some v)->∃ d,σD[i]?=some (some d)
 sep:∀ (i j:Nat) (a:Addr),M.contains i=true->M.contains j=true->σ[i]?=some (some (.ref a))->σ[j]?=some (some (.ref a))->i=j
abbrev Fr'(M:List Nat)(σ:L2.St)(H:Hp)(σ':L2.St)(H':Hp):Prop:=(∀ b o,H b=some o->¬ bc M σ b->H' b=some o/\¬ bc M σ' b)/\∀ j,2<=M.count j->σ'[j]?=σ[j]?
def Fr'.trans(a:Fr' M σ H σ1 H1)(b:Fr' M σ1 H1 σ2 H2):Fr' M σ H σ2 H2:=⟨fun c o e n=>b.1 c o (a.1 c o e n).1 (a.1 c o e n).2,fun j hj=>(b.2 j hj).trans (a.2 j hj)⟩
def Fr'.same(s:aw H H1):Fr' M σ H σ H1:=⟨fun c o e n=>⟨s _ _ e,n⟩,fun _ _=>rfl⟩
def kA{M:List Nat}(h:2<=M.count j):M.contains j=true:=by
 have:0<M.count j:=by lia
 simpa using List.count_pos_iff.mp this
section st
variable{K:PySem.W.Frag}
def Own.ref(h:Own K H d v):∃ a o,v=.ref a/\H a=some o/\cx o:=by
 obtain⟨m,_,r⟩:=h
 cases d with
 | lst ds=>obtain⟨a,xs,e1,_,e2,_⟩:=az r;exact⟨a,_,e1,e2,.inl ⟨_,rfl⟩⟩
 | dK ks ds=>rw[Rep]at r;obtain⟨a,xs,e1,_,e2,_⟩:=r;exact⟨a,_,e1,e2,.inr (.inl ⟨_,rfl⟩)⟩
 | dT ks ds=>rw[Rep]at r;obtain⟨a,xs,e1,_,e2,_⟩:=r;exact⟨a,_,e1,e2,.inr (.inr ⟨_,rfl⟩)⟩
 | _=>cases m
def RVm.rv0(h:RVm K M σD σ H):RV0 K σD σ H:=⟨Nat.le_of_eq h.len,fun i d e=>by
 obtain⟨v,h1,h2⟩:=h.val i d e;refine⟨v,h1,?_⟩;by_cases hm:M.contains i=true
 ·rw[if_pos hm]at h2;exact h2.2.2
 ·rw[if_neg hm]at h2
  exact h2.none⟩
def RVm.xI(h:RVm K M σD σ H):∀ a,bc M σ a->∃ o,H a=some o/\cx o:=fun a ⟨i,hi,e⟩=>by
 obtain⟨d,hd⟩:=h.non i _ e;obtain⟨v,h1,h2⟩:=h.val i d hd;rw[if_pos hi]at h2;obtain⟨b,o,e1,e2,e3⟩:=h2.ref;rw[e]at h1;cases h1;cases e1;exact⟨o,e2,e3⟩
def RVm.uH(h:RVm K M σD σ H):∀ a,bc M σ a->H a≠none:=fun a p=>by
 obtain⟨o,e,_⟩:=h.xI a p;rw[e]
 exact fun z=>nomatch z
def Own.same(h:Own K H d v)(s:aw H H1):Own K H1 d v:=⟨h.1,h.2.1,h.2.2.same s⟩
def RVm.same(h:RVm K M σD σ H)(s:aw H H1):RVm K M σD σ H1:=⟨h.len,fun i d e=>by
 obtain⟨v,h1,h2⟩:=h.val i d e;refine⟨v,h1,?_⟩;by_cases hm:M.contains i=true
 ·rw[if_pos hm]at h2 ⊢;exact h2.same s
 ·rw[if_neg hm]at h2 ⊢
  exact h2.same s,h.non,h.sep⟩
def bc.set(hi:M.contains i=false):bc M (σ.set i (some v))=bc M σ:=by
 funext a;apply propext;constructor
 ·rintro⟨j,hj,e⟩
  have hne:i≠j:=fun z=>by subst z;rw[hi]at hj;cases hj
  rw[List.getElem?_set_ne hne]at e;exact⟨j,hj,e⟩
 ·rintro⟨j,hj,e⟩
  have hne:i≠j:=fun z=>by subst z;rw[hi]at hj;cases hj
  exact⟨j,hj,by rw[List.getElem?_set_ne hne];exact e⟩
def RVm.bind(h:RVm K M σD σ H)(hi:M.contains i=false)(r:Rep (bc M σ) K H d v):RVm K M (σD.set i (some d)) (σ.set i (some v)) H where
 len:=by simpa using h.len
 val:=fun j dj e=>by
  rw[bc.set hi];by_cases hj:j=i
  ·subst hj
   have hlt:j<σD.length:=by
    have:=(List.getElem?_eq_some_iff.mp e).1;simpa using this
   rw[List.getElem?_set_self hlt]at e;cases e;refine⟨v,by rw[List.getElem?_set_self (by rw[<-h.len];exact hlt)],?_⟩;rw[if_neg (by rw[hi];decide)];exact r
  ·rw[List.getElem?_set_ne (Ne.symm hj)]at e ⊢;exact h.val j dj e
 non:=fun j w e=>by
  by_cases hj:j=i
  ·subst hj
   have hlt:j<σ.length:=by
    have:=(List.getElem?_eq_some_iff.mp e).1;simpa using this
   exact⟨d,by rw[List.getElem?_set_self (by rw[h.len];exact hlt)]⟩
  ·rw[List.getElem?_set_ne (Ne.symm hj)]at e ⊢;exact h.non j w e
 sep:=fun j k a hj hk e1 e2=>by
  have n1:i≠j:=fun z=>by subst z;rw[hi]at hj;cases hj
  have n2:i≠k:=fun z=>by subst z;rw[hi]at hk;cases hk
  rw[List.getElem?_set_ne n1]at e1;rw[List.getElem?_set_ne n2]at e2;exact h.sep j k a hj hk e1 e2
def Fr'.bind{i:Nat}(hi:M.contains i=false)(s:aw H H1):Fr' M σ H (σ.set i (some v)) H1:=⟨fun b o e n=>⟨s _ _ e,by rw[bc.set hi];exact n⟩,fun j hj=>List.getElem?_set_ne (fun z=>by subst z;rw[kA hj]at hi;cases hi)⟩
end st
mutual
theorem Rep.d5{P:Addr->Prop}{K:PySem.W.Frag}{H:Hp}{a:Addr}(ha:H a=none):∀ {d:RL.D} {v:V},Rep P K H d v->Rep (fun p=>P p\/p=a) K H d v
 | .non,v,h=>by simpa[Rep]using h
 | .bl _,v,h=>by simpa[Rep]using h
 | .int _,v,h=>by simpa[Rep]using h
 | .str _,v,h=>by simpa[Rep]using h
 | .tup ds,v,h=>by
  rw[Rep]at h ⊢;obtain⟨b,xs,e1,e2,e3⟩:=h;exact⟨b,xs,e1,e2,ab.d5 ha e3⟩
 | .lst ds,v,h=>by
  rw[Rep]at h ⊢;obtain⟨b,xs,e1,e0,e2,e3⟩:=h;exact⟨b,xs,e1,fun z=>z.elim e0 (fun q=>aH e2 ha q),e2,ab.d5 ha e3⟩
 | .dK ks ds,v,h=>by
  rw[Rep]at h ⊢;obtain⟨b,xs,e1,e0,e2,el,e3⟩:=h;exact⟨b,xs,e1,fun z=>z.elim e0 (fun q=>aH e2 ha q),e2,el,ab.d5 ha e3⟩
 | .dT ks ds,v,h=>by
  rw[Rep]at h ⊢;obtain⟨b,xs,e1,e0,e2,el,e3⟩:=h;exact⟨b,xs,e1,fun z=>z.elim e0 (fun q=>aH e2 ha q),e2,el,ab.d5 ha e3⟩
 | .scr ds,v,h=>by
  rw[Rep]at h ⊢;obtain⟨b,xs,e1,e2,e3⟩:=h;exact⟨b,xs,e1,e2,ab.d5 ha e3⟩
 | .exc c,v,h=>by rw[Rep]at h ⊢;exact h
 | .fT ks,v,h=>by rw[Rep]at h ⊢;exact h
theorem ab.d5{P:Addr->Prop}{K:PySem.W.Frag}{H:Hp}{a:Addr}(ha:H a=none):∀ {ds:List RL.D} {xs:List V},ab P K H ds xs->ab (fun p=>P p\/p=a) K H ds xs
 | [],xs,h=>by rw[ab]at h ⊢;exact h
 | d::r,xs,h=>by
  rw[ab]at h ⊢;obtain⟨x,t,e1,e2,e3⟩:=h;exact⟨x,t,e1,Rep.d5 ha e2,ab.d5 ha e3⟩
end
section st
variable{K:PySem.W.Frag}
def RVm.own(h:RVm K M σD σ H)(s:aw H H1)(hi:M.contains i=true)(hi2:M.count i<2)(ha:H a=none)(r:Own K H1 d (.ref a)):RVm K M (σD.set i (some d)) (σ.set i (some (.ref a))) H1/\Fr' M σ H (σ.set i (some (.ref a))) H1:=by
 have sub:∀ b,bc M (σ.set i (some (.ref a))) b->bc M σ b\/b=a:=fun b ⟨j,hj,e⟩=>by
  by_cases hji:j=i
  ·subst hji
   have hlt:j<σ.length:=by
    have:=(List.getElem?_eq_some_iff.mp e).1;simpa using this
   rw[List.getElem?_set_self hlt]at e;cases e;exact .inr rfl
  ·rw[List.getElem?_set_ne (Ne.symm hji)]at e;exact .inl ⟨j,hj,e⟩
 have old:∀ b,bc M σ b->b≠a:=fun b p z=>h.uH b p (z▸ha);refine⟨⟨by simpa using h.len,fun j dj e=>?_,fun j w e=>?_,fun j k b hj hk e1 e2=>?_⟩,⟨fun b o e n=>⟨s _ _ e,fun z=>(sub b z).elim n fun q=>aH e ha q⟩,fun j hj=>List.getElem?_set_ne (fun z=>by subst z;lia)⟩⟩
 ·by_cases hj:j=i
  ·subst hj
   have hlt:j<σD.length:=by
    have:=(List.getElem?_eq_some_iff.mp e).1;simpa using this
   rw[List.getElem?_set_self hlt]at e;cases e;refine⟨.ref a,by rw[List.getElem?_set_self (by rw[<-h.len];exact hlt)],?_⟩;rw[if_pos hi];exact r
  ·rw[List.getElem?_set_ne (Ne.symm hj)]at e ⊢;obtain⟨v,h1,h2⟩:=h.val j dj e;refine⟨v,h1,?_⟩;by_cases hm:M.contains j=true
   ·rw[if_pos hm]at h2 ⊢;exact h2.same s
   ·rw[if_neg hm]at h2 ⊢;exact((h2.d5 ha).weak sub).same s
 ·by_cases hj:j=i
  ·subst hj
   have hlt:j<σ.length:=by
    have:=(List.getElem?_eq_some_iff.mp e).1;simpa using this
   exact⟨d,by rw[List.getElem?_set_self (by rw[h.len];exact hlt)]⟩
  ·rw[List.getElem?_set_ne (Ne.symm hj)]at e ⊢;exact h.non j w e
 ·by_cases h1:j=i
  ·by_cases h2:k=i
   ·rw[h1,h2]
   ·subst h1
    have hlt:j<σ.length:=by
     have:=(List.getElem?_eq_some_iff.mp e1).1;simpa using this
    rw[List.getElem?_set_self hlt]at e1;rw[List.getElem?_set_ne (Ne.symm h2)]at e2;cases e1;exact absurd rfl (old _ ⟨k,hk,e2⟩)
  ·rw[List.getElem?_set_ne (Ne.symm h1)]at e1;by_cases h2:k=i
   ·subst h2
    have hlt:k<σ.length:=by
     have:=(List.getElem?_eq_some_iff.mp e2).1;simpa using this
    rw[List.getElem?_set_self hlt]at e2;cases e2;exact absurd rfl (old _ ⟨j,hj,e1⟩)
   ·rw[List.getElem?_set_ne (Ne.symm h2)]at e2;exact h.sep j k b hj hk e1 e2
def RVm.gN(h:RVm K M σD σ H)(hi:M.contains i=true)(e:σ[i]?=some (some (.ref a)))(ha:H a=some o)(m:cx o)(r:Own K (upd H a o') d' (.ref a)):RVm K M (σD.set i (some d')) σ (upd H a o')/\Fr' M σ H σ (upd H a o'):=by
 have pa:bc M σ a:=⟨i,hi,e⟩
 refine⟨⟨by simpa using h.len,fun j dj e'=>?_,fun j w e'=>?_,h.sep⟩,⟨fun b u eb n=>⟨?_,n⟩,fun _ _=>rfl⟩⟩
 ·by_cases hj:j=i
  ·subst hj
   have hlt:j<σD.length:=by
    have:=(List.getElem?_eq_some_iff.mp e').1;simpa using this
   rw[List.getElem?_set_self hlt]at e';cases e';refine⟨.ref a,e,?_⟩;rw[if_pos hi];exact r
  ·rw[List.getElem?_set_ne (Ne.symm hj)]at e';obtain⟨v,h1,h2⟩:=h.val j dj e';refine⟨v,h1,?_⟩;by_cases hm:M.contains j=true
   ·rw[if_pos hm]at h2 ⊢;obtain⟨b,ob,rfl,hb,_⟩:=h2.ref
    have hne:b≠a:=fun z=>by subst z;exact hj (h.sep j i b hm hi h1 e)
    obtain⟨q1,q2,q3⟩:=h2;refine⟨q1,q2,?_⟩;have im:∀ {ds:List RL.D} {xs:List V},RL.ao ds=true->ab nP K H ds xs->ab nP K (L2.upd H a o') ds xs:=fun hi r=>(ab.upd (P:=fun p=>p=a) ha m rfl (r.imm hi)).imm hi
    cases dj with
    | lst ds=>obtain⟨b',xs,e1,e0,e2,e3⟩:=az q3;cases e1;rw[Rep];exact⟨b,xs,rfl,fun z=>z,by rw[L2.aI hne];exact e2,im q2 e3⟩
    | dK ks ds=>rw[Rep]at q3 ⊢;obtain⟨b',xs,e1,e0,e2,el,e3⟩:=q3;cases e1;exact⟨b,xs,rfl,fun z=>z,by rw[L2.aI hne];exact e2,el,im q2 e3⟩
    | dT ks ds=>rw[Rep]at q3 ⊢;obtain⟨b',xs,e1,e0,e2,el,e3⟩:=q3;cases e1;exact⟨b,xs,rfl,fun z=>z,by rw[L2.aI hne];exact e2,el,im q2 e3⟩
    | _=>cases q1
   ·rw[if_neg hm]at h2 ⊢;exact Rep.upd ha m pa h2
 ·obtain⟨dj,hd⟩:=h.non j w e';by_cases hj:j=i
  ·subst hj;have hlt:=(List.getElem?_eq_some_iff.mp hd).1;exact⟨d',by rw[List.getElem?_set_self hlt]⟩
  ·exact⟨dj,by rw[List.getElem?_set_ne (Ne.symm hj)];exact hd⟩
 ·have hb:b≠a:=fun z=>n (z▸pa);rw[L2.aI hb];exact eb
end st
abbrev qE(K:PySem.W.Frag)(M:List Nat)(D:Ends)(σ:L2.St)(H:Hp):RL.Out->RL.St->Prop
 | .nx,σD'=>∀ σ' H',RVm K M σD' σ' H'->Fr' M σ H σ' H'->D.nx σ' H'
 | .rt d,σD'=>∀ σ1 H1 v H',RVm K M σD' σ1 H1->Fr' M σ H σ1 H1->aw H1 H'->(∀ P:Addr->Prop,(∀ p,P p->H1 p≠none/\¬ bc M σ1 p)->Rep P K H' d v)->D.rt v H'
def qE.from{K:PySem.W.Frag}(h:qE K M D σ H r σD')(f:Fr' M σ H σ1 H1):qE K M D σ1 H1 r σD':=by
 cases r with
 | nx=>exact fun σ2 H2 rv2 fr2=>h σ2 H2 rv2 (f.trans fr2)
 | rt d=>exact fun σ1 H1 v H2 rv2 fr2 sm rp=>h σ1 H1 v H2 rv2 (f.trans fr2) sm rp
abbrev tS(K:PySem.W.Frag)(M:List Nat)(f:RL.St->Option (RL.Out × RL.St)):TS:=fun D σ H=>∃ σD r σD',RVm K M σD σ H/\f σD=some (r,σD')/\qE K M D σ H r σD'
abbrev SS(X:Cx)(cl:RL.Cl)(M:List Nat)(st:Stmt)(s:RL.S):Prop:=PS X st (tS X.K M (RL.evS cl M s))
abbrev SSs(X:Cx)(cl:RL.Cl)(M:List Nat)(st:List Stmt)(s:RL.Ss):Prop:=PSs X st (tS X.K M (RL.ah cl M s))
section rules
variable{st:Stmt}{i j:Nat}
def AF:SSs X cl M [] .nil:=by
 refine PSs.weak A0 fun D σ H h=>?_;obtain⟨σD,r,σD',rv,e,k⟩:=h;rw[RL.ah]at e;cases e;exact k σ H rv (Fr'.same (aw.refl H))
def xT(h1:SS X cl M st s)(h2:SSs X cl M sts r):SSs X cl M (st::sts) (.cons s r):=by
 refine PSs.weak (jw h1 h2) fun D σ H h=>?_;obtain⟨σD,o,σD',rv,e,k⟩:=h;rw[RL.ah]at e;obtain⟨p,e1,e2⟩:=bind_some e;obtain⟨o1,σ1⟩:=p;refine⟨σD,o1,σ1,rv,e1,?_⟩
 cases o1 with
 |rt d=>
  cases e2;exact k
 |nx=>
  exact fun σ' H' rv' fr'=>⟨σ1,o,σD',rv',e2,k.from fr'⟩
def CB(h:SA X cl st i e')(hi:M.contains i=false):SS X cl M st (.asg i e'):=by
 refine PS.weak h fun D σ H h=>?_;obtain⟨σD,o,σD',rv,e,k⟩:=h;obtain⟨d,e1,e2⟩:=bind_some e;split at e2
 ·rename_i ok;cases e2;refine⟨σD,d,rv.rv0,e1,fun v H1 r1=>k _ _ ?_ (Fr'.bind hi r1.same)⟩;refine(rv.same r1.same).bind hi ?_;unfold RL.bu at ok;rw[Bool.or_eq_true,Bool.or_eq_true,Bool.and_eq_true]at ok;rcases ok with(q | ⟨q1,q2⟩) | q
  ·exact r1.rep.imm q
  ·have rp:=r1.rep;have fr:lh d=true->∀ a,v=.ref a->¬ bc M σ a:=fun m a z p=>rv.uH a p (r1.fresh q2 m a z)
   cases d with
   | lst ds=>obtain⟨a,xs,e1,e0,e2,e3⟩:=az rp;rw[Rep];exact⟨a,xs,e1,fr rfl a e1,e2,e3.imm q1⟩
   | dK ks ds=>rw[Rep]at rp ⊢;obtain⟨a,xs,e1,e0,e2,el,e3⟩:=rp;exact⟨a,xs,e1,fr rfl a e1,e2,el,e3.imm q1⟩
   | dT ks ds=>rw[Rep]at rp ⊢;obtain⟨a,xs,e1,e0,e2,el,e3⟩:=rp;exact⟨a,xs,e1,fr rfl a e1,e2,el,e3.imm q1⟩
   | _=>cases q1
  ·refine r1.av M q _ rv.uH fun j dj vj hj h1 h2=>?_;obtain⟨v',h3,h4⟩:=rv.val j dj h1;rw[h2]at h3;cases h3;rw[if_neg (by rw[hj];decide)]at h4;exact h4
 ·cases e2
def C0(h:SA X cl st i e')(hi:M.contains i=true)(hi2:M.count i<2):SS X cl M st (.own i e'):=by
 refine PS.weak h fun D σ H h=>?_;obtain⟨σD,o,σD',rv,e,k⟩:=h;obtain⟨d,e1,e2⟩:=bind_some e;split at e2
 ·rename_i ok;cases e2;rw[Bool.and_eq_true]at ok;refine⟨σD,d,rv.rv0,e1,fun v H1 r1=>?_⟩
  have m:lh d=true:=by
   cases d with
   | lst _=>rfl
   | dK _ _=>rfl
   | dT _ _=>rfl
   | _=>cases ok.1
  have ow:Own X.K H1 d v:=⟨m,ok.1,r1.rep⟩
  obtain⟨a,ob,rfl,_,_⟩:=ow.ref;obtain⟨h1,h2⟩:=rv.own r1.same hi hi2 (r1.fresh ok.2 m a rfl) ow;exact k _ _ h1 h2
 ·cases e2
def Ga{c:Expr}(hc:ST X cl c c')(ha:SSs X cl M a a')(hb:SSs X cl M b b'):SS X cl M (.If c a b pos) (.ife c' a' b'):=by
 refine PS.weak (zX hc ha hb) fun D σ H h=>?_;obtain⟨σD,o,σD',rv,e,k⟩:=h;obtain⟨t,e1,e2⟩:=bind_some e;refine⟨σD,t,rv.rv0,e1,fun H1 s1=>?_⟩;have k1:=k.from (Fr'.same (σ:=σ) s1)
 cases t with
 | true=>exact dJ ⟨σD,o,σD',rv.same s1,e2,k1⟩
 | false=>exact eF ⟨σD,o,σD',rv.same s1,e2,k1⟩
def Ct(he:SE X cl e e')(hv:∀ i,e'=.var i->M.contains i=false):SS X cl M (.Return (some e) pos) (.ret e'):=by
 refine PS.weak (wK he) fun D σ H h=>?_;obtain⟨σD,o,σD',rv,ev,k⟩:=h;obtain⟨d,e1,e2⟩:=bind_some ev;split at e2
 ·rename_i ok;cases e2;refine⟨σD,d,rv.rv0,e1,fun v H1 r1=>k σ H v H1 rv (Fr'.same (aw.refl H)) r1.same fun P hP=>?_⟩;unfold RL.bo at ok;rw[Bool.or_eq_true,Bool.and_eq_true,Bool.or_eq_true]at ok
  rcases ok with q | ⟨q1,q2⟩
  ·exact r1.rep.imm q
  ·have rp:=r1.rep
   have fr:lh d=true->∀ a,v=.ref a->¬ P a:=fun m a z p=>by
    rcases q2 with q | q
    ·exact(hP a p).1 (r1.fresh q m a z)
    ·cases e' with
     |var i=>
      have hi:M.contains i=true:=q;rw[hv i rfl]at hi;cases hi
     | _=>cases q
   cases d with
   | lst ds=>obtain⟨a,xs,e1,e0,e2,e3⟩:=az rp;rw[Rep];exact⟨a,xs,e1,fr rfl a e1,e2,e3.imm q1⟩
   | dK ks ds=>rw[Rep]at rp ⊢;obtain⟨a,xs,e1,e0,e2,el,e3⟩:=rp;exact⟨a,xs,e1,fr rfl a e1,e2,el,e3.imm q1⟩
   | dT ks ds=>rw[Rep]at rp ⊢;obtain⟨a,xs,e1,e0,e2,el,e3⟩:=rp;exact⟨a,xs,e1,fr rfl a e1,e2,el,e3.imm q1⟩
   | _=>cases q1
 ·cases e2
def B2(hN:X.N[i]?=some x)(hv:Vis X.env.scope x)(hd:(x == ("__debug__" : Str))=false)(hcd:(x == ("__classdict__" : Str))=false)(hi:M.contains i=true):SS X cl M (.Return (some (.Name x p)) pos) (.ret (.var i)):=by
 refine PS.weak (wK (eB hN hv hd hcd)) fun D σ H h=>?_;obtain⟨σD,o,σD',rv,e,k⟩:=h;obtain⟨d,e1,e2⟩:=bind_some e;split at e2
 ·cases e2
  have e3:σD[i]?=some (some d):=by
   obtain⟨o,h1,h2⟩:=bind_some e1
   cases o with
   | none=>cases h2
   | some z=>cases h2;exact h1
  obtain⟨v,h1,h2⟩:=rv.val i d e3;rw[if_pos hi]at h2;refine⟨v,h1,k σ H v H rv (Fr'.same (aw.refl H)) (aw.refl H) fun P hP=>?_⟩;obtain⟨a,o,rfl,_,_⟩:=h2.ref;have np:¬ P a:=fun p=>(hP a p).2 ⟨i,hi,h1⟩;obtain⟨q1,q2,q3⟩:=h2
  cases d with
  | lst ds=>obtain⟨b,xs,e1,e0,e2,e3⟩:=az q3;cases e1;rw[Rep];exact⟨a,xs,rfl,np,e2,e3.imm q2⟩
  | dK ks ds=>rw[Rep]at q3 ⊢;obtain⟨b,xs,e1,e0,e2,el,e3⟩:=q3;cases e1;exact⟨a,xs,rfl,np,e2,el,e3.imm q2⟩
  | dT ks ds=>rw[Rep]at q3 ⊢;obtain⟨b,xs,e1,e0,e2,el,e3⟩:=q3;cases e1;exact⟨a,xs,rfl,np,e2,el,e3.imm q2⟩
  | _=>cases q1
 ·cases e2
def slot_get{σD:RL.St}(h:(σD[i]?).bind id=some d):σD[i]?=some (some d):=by
 obtain⟨o,h1,h2⟩:=bind_some h
 cases o with
 | none=>cases h2
 | some z=>cases h2;exact h1
def Dd(h:PS X st (oS (tBM X.K "list" sG (gK i) (tEs X.K cl (.cons e' .nil)))))(hi:M.contains i=true):SS X cl M st (.app i e'):=by
 refine PS.weak h fun D σ H h=>?_;obtain⟨σD,o,σD',rv,e,k⟩:=h;obtain⟨d,e1,e2⟩:=bind_some e;obtain⟨l,e3,e4⟩:=bind_some e2
 cases l with
 |lst ds=>
  dsimp only at e4;split at e4
  ·rename_i ok;cases e4;rw[Bool.and_eq_true,decide_eq_true_eq]at ok;obtain⟨v,h1,h2⟩:=rv.val i _ (slot_get e3);rw[if_pos hi]at h2;obtain⟨q1,q2,q3⟩:=h2;obtain⟨a,xs,rfl,_,f2,f3⟩:=az q3;refine⟨.ref a,h1,.inl ⟨rfl,xs,SqL.of f2⟩,σD,[d],rv.rv0,by rw[RL.evs,e1];rfl,fun vs H1 s1 r1=>?_⟩;rw[ab]at r1;obtain⟨y,t,rfl,r2,r3⟩:=r1;rw[ab]at r3;subst r3
   have hl:xs.length<sizeLine:=by rw[<-f3.length];exact Nat.lt_of_lt_of_le ok.2 bM
   refine⟨a,xs,y,rfl,rfl,s1 _ _ f2,hl,?_⟩
   have im:RL.ao (ds++[d])=true:=by
    have:∀ l:List RL.D,RL.ao l=true->RL.ao (l++[d])=true:=fun l=>by
     induction l with
     | nil=>intro _;simp[RL.ao,ok.1]
     | cons z r ih=>intro h;rw[RL.ao,Bool.and_eq_true]at h;rw[List.cons_append,RL.ao,h.1,ih h.2];rfl
    exact this ds q2
   have rs:ab nP X.K (upd H1 a (.lst (xs++[y]))) (ds++[d]) (xs++[y]):=(ab.upd (P:=fun p=>p=a) (s1 _ _ f2) (.inl ⟨_,rfl⟩) rfl ((ab.append (f3.same s1) (ab.cons r2 ab.nil)).imm im)).imm im;obtain⟨g1,g2⟩:=(rv.same s1).gN (d':=.lst (ds++[d])) (o':=.lst (xs++[y])) hi h1 (s1 _ _ f2) (.inl ⟨_,rfl⟩) ⟨rfl,im,by rw[Rep];exact⟨a,_,rfl,fun z=>z,aW,rs⟩⟩;exact k _ _ g1 ((Fr'.same s1).trans g2)
  ·cases e4
 | _=>cases e4
end rules
def RVm.bG{K:PySem.W.Frag}{M:List Nat}{H:Hp}:∀ {tg:List Nat} {ds:List RL.D} {vs:List V} {σD:RL.St} {σ:L2.St},RVm K M σD σ H->(∀ i∈tg,M.contains i=false)->tg.length=ds.length->RL.ao ds=true->ab nP K H ds vs ->
  RVm K M (dF tg ds σD) (cG tg vs σ) H/\bc M (cG tg vs σ)=bc M σ
 | [],_,_,_,_,h,_,_,_,_=>⟨h,rfl⟩
 | i::is,[],_,_,_,_,_,hl,_,_=>by simp at hl
 | i::is,d::ds,vs,σD,σ,h,hM,hl,him,r=>by
  rw[ab]at r;obtain⟨v,t,rfl,r1,r2⟩:=r;rw[RL.ao,Bool.and_eq_true]at him;rw[dF,cG];have hi:=hM i List.mem_cons_self;obtain⟨g1,g2⟩:=RVm.bG (h.bind hi (r1.imm him.1)) (fun j hj=>hM j (List.mem_cons_of_mem _ hj)) (by simpa using hl) him.2 r2;exact⟨g1,g2.trans (bc.set hi)⟩
def p8{M tg:List Nat}{vs:List V}{σ:L2.St}{j:Nat}(hM:∀ i∈tg,M.contains i=false)(hj:2<=M.count j):(cG tg vs σ)[j]?=σ[j]?:=by
 refine nq tg vs σ j ?_
 cases hc:tg.contains j with
 | false=>rfl
 |true=>
  have:=hM j (by simpa using hc);rw[kA hj]at this;cases this
section rules
variable{X:Cx}{cl:RL.Cl}{M:List Nat}{st:Stmt}{tgE iter:Expr}{body:List Stmt}{b:RL.Ss}{it:RL.It}{tg:List Nat}{e' k' a' b':RL.E}{i j:Nat}{pos:Pos}
def tX{f:RL.St->Option (RL.Out × RL.St)}{d:RL.D}{ds:List RL.D}{σ:RL.St}{p:RL.Out × RL.St}(h:RL.bb f tg (d::ds) σ=some p):d.imm=true/\∃ σ1 o σ2,RL.aP tg d σ=some σ1/\f σ1=some (o,σ2) /\
  (match o with | .nx=>RL.bb f tg ds σ2=some p | .rt d=>p=(.rt d,σ2)):=by
 rw[RL.bb]at h;split at h
 ·rename_i him;obtain⟨σ1,h1,h⟩:=bind_some h;obtain⟨⟨o,σ2⟩,h2,h⟩:=bind_some h;refine⟨him,σ1,o,σ2,h1,h2,?_⟩
  cases o with
  | nx=>exact h
  | rt d=>exact(Option.some.inj h).symm
 ·cases h
def CL(hx:X.xe=fun _ _=>False)(hc:X.calm=true)(hi:SI X cl tgE iter it)(hg:PG X tgE (gT X.K tg))(hb:SSs X cl M body b)(hs:∀ x,foldedSetIterable iter X.env x=pure x)(hav:RL.uL M it=true)(hM:∀ i∈tg,M.contains i=false) :
  SS X cl M (.For tgE iter body [] pos) (.forr tg it b):=by
 refine PS.weak (Dx (by rw[hx];exact PassesOwn.never) hc hi hg hb hs) fun D σ H h=>?_;obtain⟨σD,r,σD',rv,e,k⟩:=h;obtain⟨ds,e1,e2⟩:=bind_some e;refine⟨σD,ds,rv.rv0,e1,fun J H1 s1 src=>?_⟩
 have ok:iB X.K J ds (bc M σ) H1:=src.2 M (bc M σ) hav rv.xI fun j dj vj hj h1 h2=>by
  obtain⟨v',h3,h4⟩:=rv.val j dj h1;rw[h2]at h3;cases h3;rw[if_neg (by rw[hj];decide)]at h4;exact h4
 have k1:=k.from (Fr'.same (σ:=σ) s1);refine⟨fun i m σ2 H2=>∃ σD2,m=ds.length-i/\i<=ds.length/\RVm X.K M σD2 σ2 H2/\Fr' M σ H1 σ2 H2/\RL.bb (RL.ah cl M b) tg (ds.drop i) σD2=some (r,σD'),⟨_,σD,rfl,Nat.zero_le _,rv.same s1,Fr'.same (aw.refl _),e2⟩,?_⟩;rintro i m σ2 H2 ⟨σD2,rfl,hi2,rv2,fr2,hl⟩;have off:Off (bc M σ) H1 H2:=fun b o n e=>(fr2.1 b o e n).1;by_cases hlt:i<ds.length
 ·refine .inr ⟨ok.go H2 i off hlt,fun σ' H'=>∃ m',m'<ds.length-i/\∃ σD2,m'=ds.length-(i+1)/\i+1<=ds.length/\RVm X.K M σD2 σ' H'/\Fr' M σ H1 σ' H'/\RL.bb (RL.ah cl M b) tg (ds.drop (i+1)) σD2=some (r,σD'),fun σ' H' z=>z,fun x H3 y=>?_⟩;rw[List.drop_eq_getElem_cons hlt]at hl;obtain⟨him,σ3,o,σ4,h1,h2,h3⟩:=tX hl;obtain⟨s3,rp⟩:=ok.yld H2 i ds[i] x H3 off (by simp[hlt]) y;obtain⟨dv,vs,q1,q2,q3,q4,q5⟩:=Ao h1 (rp (.inl him));refine q5 _ _ ?_;obtain⟨rv3,as3⟩:=(rv2.same s3).bG hM q2 (q4 him) q3
  have fr3:Fr' M σ H1 (cG tg vs σ2) H3:=⟨fun b o e n=>⟨s3 _ _ (fr2.1 b o e n).1,by rw[as3];exact(fr2.1 b o e n).2⟩,fun j hj=>(p8 hM hj).trans (fr2.2 j hj)⟩
  refine⟨σ3,o,σ4,by rw[q1];exact rv3,h2,?_⟩
  cases o with
  | nx=>exact fun σ' H' rv' fr'=>⟨_,by lia,σ4,rfl,hlt,rv',fr3.trans fr',h3⟩
  |rt d=>
   cases h3;exact fun σ' H' v H4 rv' fr' sm rp=>k1 σ' H' v H4 rv' (fr3.trans fr') sm rp
 ·have e:i=ds.length:=by lia
  subst e;rw[List.drop_length,RL.bb]at hl;cases hl;exact .inl ⟨ok.stop H2 off,k1 σ2 H2 rv2 fr2⟩
def yF{n:Nat}{k:Int}{j:Nat}(h:RL.kU n k=some j):ixN n k=some j:=h
def vY:∀ {ds:List RL.D} {d:RL.D} (j:Nat),RL.ao ds=true->d.imm=true->RL.ao (ds.set j d)=true
 | [],d,j,_,_=>by simp[RL.ao]
 | x::r,d,0,h,hd=>by rw[RL.ao,Bool.and_eq_true]at h;rw[List.set_cons_zero,RL.ao,hd,h.2];rfl
 | x::r,d,j+1,h,hd=>by rw[RL.ao,Bool.and_eq_true]at h;rw[List.set_cons_succ,RL.ao,h.1,vY j h.2 hd];rfl
def kh{H:Hp}{a:Addr}{ds:List RL.D}{xs ys:List V}{ds':List RL.D}(f2:H a=some (.lst xs))(im:RL.ao ds'=true)(rs:ab nP X.K H ds' ys):Own X.K (upd H a (.lst ys)) (.lst ds') (.ref a) :=
 ⟨rfl,im,by rw[Rep];exact⟨a,_,rfl,fun z=>z,aW,(ab.upd (P:=fun p=>p=a) f2 (.inl ⟨_,rfl⟩) rfl (rs.imm im)).imm im⟩⟩
def CS(h:PS X st (mV (tE X.K cl e') (yP (gK i) (tE X.K cl k') uK)))(hi:M.contains i=true)(hl:True):PS X st (tS X.K M fun σD=>(RL.ev cl σD e').bind fun d=>(RL.ev cl σD k').bind fun kk=>((σD[i]?).bind id).bind fun l=>match l with
  | .lst _=>if d.imm then(RL.eN l kk d).map fun l'=>(.nx,σD.set i (some l'))else none
  | _=>none):=by
 refine PS.weak h fun D σ H h=>?_;obtain⟨σD,o,σD',rv,e,k⟩:=h;obtain⟨d,e1,e⟩:=bind_some e;obtain⟨kk,e2,e⟩:=bind_some e;obtain⟨l,e3,e⟩:=bind_some e
 cases l with
 |lst ds=>
  dsimp only at e;split at e
  ·rename_i him;obtain⟨l',e4,e5⟩:=map_some e;cases e5;obtain⟨v,h1,h2⟩:=rv.val i _ (slot_get e3);rw[if_pos hi]at h2;obtain⟨q1,q2,q3⟩:=h2;obtain⟨a,xs,rfl,_,f2,f3⟩:=az q3
   cases kk with
   |int kk=>
    obtain⟨jx,e6,e7⟩:=map_some (show(RL.kU ds.length kk).map (fun j=>RL.D.lst (ds.set j d))=some l' from e4);subst e7;refine⟨σD,d,rv.rv0,e1,fun y H1 r1=>⟨.ref a,h1,σD,.int kk,rv.rv0.same r1.same,e2,fun z H2 r2=>?_⟩⟩;have sm:=r1.same.trans r2.same;refine⟨a,xs,kk,jx,rfl,ai r2.rep,sm _ _ f2,?_,?_⟩
    ·rw[<-f3.length];exact yF e6
    ·have im:=vY jx q2 him;obtain⟨g1,g2⟩:=(rv.same sm).gN (d':=.lst (ds.set jx d)) (o':=.lst (xs.set jx y)) hi h1 (sm _ _ f2) (.inl ⟨_,rfl⟩) (kh (ds:=ds) (sm _ _ f2) im (ab.set jx (f3.same sm) (r1.rep.same r2.same)));exact k _ _ g1 ((Fr'.same sm).trans g2)
   | _=>cases e4
  ·cases e
 | _=>cases e
def kf:∀ {ds:List RL.D},RL.ao ds=true->RL.ao ds.dropLast=true
 | [],_=>rfl
 | [x],_=>rfl
 | x::y::r,h=>by rw[RL.ao,Bool.and_eq_true]at h;rw[List.dropLast_cons_cons,RL.ao,h.1,kf h.2];rfl
def qj:∀ {ds:List RL.D} {i:Nat} {d:RL.D},RL.ao ds=true->ds[i]?=some d->d.imm=true
 | [],i,d,_,e=>by simp at e
 | x::r,0,d,h,e=>by rw[RL.ao,Bool.and_eq_true]at h;simp at e;subst e;exact h.1
 | x::r,i+1,d,h,e=>by rw[RL.ao,Bool.and_eq_true]at h;exact qj (i:=i) h.2 (by simpa using e)
def ab.dropLast{P:Addr->Prop}{K:PySem.W.Frag}{H:Hp}{ds:List RL.D}{xs:List V}(h:ab P K H ds xs):ab P K H ds.dropLast xs.dropLast:=by
 rw[List.dropLast_eq_take,List.dropLast_eq_take,<-h.length];exact h.take _
def Dz(h:PS X st (mV (tM X.K "list" tP (gK i)) (lW j)))(hi:M.contains i=true)(hj:M.contains j=false):SS X cl M st (.pop i j):=by
 refine PS.weak h fun D σ H h=>?_;obtain⟨σD,o,σD',rv,e,k⟩:=h;obtain⟨l,e3,e⟩:=bind_some e
 cases l with
 |lst ds=>
  obtain⟨d,e4,e5⟩:=map_some e;cases e5;obtain⟨v,h1,h2⟩:=rv.val i _ (slot_get e3);rw[if_pos hi]at h2;obtain⟨q1,q2,q3⟩:=h2;obtain⟨a,xs,rfl,_,f2,f3⟩:=az q3;obtain⟨y,f4,f5⟩:=f3.get e4;refine⟨.ref a,h1,.inl ⟨rfl,xs,SqL.of f2⟩,a,xs,y,rfl,rfl,f2,by rw[<-f3.length];exact f4,?_⟩;have im:=kf q2;obtain⟨g1,g2⟩:=rv.gN (d':=.lst ds.dropLast) (o':=.lst xs.dropLast) hi h1 f2 (.inl ⟨_,rfl⟩) (kh (ds:=ds) f2 im f3.dropLast);have hdi:d.imm=true:=qj q2 e4;have rd:Rep (bc M σ) X.K (upd H a (.lst xs.dropLast)) d y:=Rep.imm hdi (Rep.upd (P:=fun p=>p=a) f2 (.inl ⟨_,rfl⟩) rfl (f5.imm hdi));exact k _ _ (g1.bind hj rd) (g2.trans (Fr'.bind hj (aw.refl _)))
 | _=>cases e
def CI(h:PS X st (Fb i j (tEs X.K cl (.cons a' (.cons b' .nil)))))(hi:M.contains i=false)(hj:M.contains j=false):SS X cl M st (.par i j a' b'):=by
 refine PS.weak h fun D σ H h=>?_;obtain⟨σD,o,σD',rv,e,k⟩:=h;obtain⟨x,e1,e⟩:=bind_some e;obtain⟨y,e2,e⟩:=bind_some e;split at e
 ·rename_i him;cases e;rw[Bool.and_eq_true]at him;refine⟨σD,[x,y],rv.rv0,by rw[RL.evs,e1,RL.evs,e2];rfl,fun vs H1 s1 r1=>?_⟩;rw[ab]at r1;obtain⟨v,t,rfl,r2,r3⟩:=r1;rw[ab]at r3;obtain⟨u,t,rfl,r4,r5⟩:=r3;rw[ab]at r5;subst r5;refine⟨v,u,rfl,k _ _ ?_ ?_⟩
  ·refine((rv.same s1).bind hi (r2.imm him.1)).bind hj (r4.imm him.2)
  ·exact(Fr'.bind hi s1).trans (Fr'.bind hj (aw.refl _))
 ·cases e
def Cq(h:PS X st (oS (tE X.K cl e'))):SS X cl M st (.exc e'):=by
 refine PS.weak h fun D σ H h=>?_;obtain⟨σD,o,σD',rv,e,k⟩:=h;obtain⟨d,e1,e2⟩:=map_some e;cases e2;exact⟨σD,d,rv.rv0,e1,fun v H1 r1=>k _ _ (rv.same r1.same) (Fr'.same r1.same)⟩
end rules
section rules
variable{st:Stmt}
def Bm(h:PS X st (mV (tE X.K cl e') (fun v σ H Q=>nc X.K is.length (gs is) v σ H Q\/mR X.K is.length (gs is) v σ H Q)))(hM:∀ i∈is,M.contains i=false):SS X cl M st (.unp is e'):=by
 refine PS.weak h fun D σ H h=>?_;obtain⟨σD,o,σD',rv,e,k⟩:=h;obtain⟨d,e1,e⟩:=bind_some e;obtain⟨ds,e2,e⟩:=bind_some e;split at e
 ·rename_i him;obtain⟨σ1,e3,e4⟩:=map_some e;cases e4;obtain⟨q1,q2⟩:=ic e3;refine⟨σD,d,rv.rv0,e1,fun v H1 r1=>?_⟩;obtain⟨p,xs,rfl,hp,rs⟩:=eX e2 r1.rep;obtain⟨g1,g2⟩:=(rv.same r1.same).bG (vs:=xs) hM q1 him rs;have fin:D.nx (cG is xs σ) H1:=k _ _ (by rw[q2];exact g1) ⟨fun b o e n=>⟨r1.same _ _ e,by rw[g2];exact n⟩,fun j hj=>p8 hM hj⟩
  have hl:xs.length=is.length:=by rw[<-rs.length,q1]
  rcases hp with⟨hp,_⟩ | ⟨hp,_⟩
  ·exact .inr ⟨p,xs,rfl,SqL.of hp,hl,jg hl.symm fin⟩
  ·exact .inl ⟨p,xs,rfl,SqT.of hp,hl,jg hl.symm fin⟩
 ·cases e
def lj(xs:List α)(k:Int):(xs.drop (HT.sIx xs.length 0 none)).take (HT.sIx xs.length xs.length (some k)-HT.sIx xs.length 0 none)=xs.take (RL.cutAt xs.length k):=by
 rw[HT.zh,List.drop_zero,Nat.sub_zero];congr 1;have h:=HT.k7 k xs.length xs.length;unfold RL.cutAt;split at h
 ·rename_i h0;rw[if_neg (by lia)];lia
 ·rename_i h0;rw[if_pos (by lia)];lia
end rules
section rules
variable{X:Cx}
def one(rv:RV0 X.K σD σ H)(ea:RL.ev cl σD a'=some d)(k:∀ v H1,aw H H1->Rep nP X.K H1 d v->R [v] H1):tEs X.K cl (.cons a' .nil) σ H R :=
 ⟨σD,[d],rv,by rw[RL.evs,ea];rfl,fun vs H1 s1 r1=>by
  rw[ab]at r1;obtain⟨v,t,rfl,r2,r3⟩:=r1;rw[ab]at r3;subst r3
  exact k v H1 s1 r2⟩
def pair(rv:RV0 X.K σD σ H)(ea:RL.ev cl σD a'=some d)(eb:RL.ev cl σD b'=some d')(k:∀ v u H1,aw H H1->Rep nP X.K H1 d v->Rep nP X.K H1 d' u->R [v,u] H1):tEs X.K cl (.cons a' (.cons b' .nil)) σ H R :=
 ⟨σD,[d,d'],rv,by rw[RL.evs,ea,RL.evs,eb];rfl,fun vs H1 s1 r1=>by
  rw[ab]at r1;obtain⟨v,t,rfl,r2,r3⟩:=r1;rw[ab]at r3;obtain⟨u,t,rfl,r4,r5⟩:=r3;rw[ab]at r5;subst r5
  exact k v u H1 s1 r2 r4⟩
def dO{id:String}{r:List V->Hp->VK->Prop}{b:RL.Bi}(hc:aZ X (.builtin id) r)(hg:Gl X x)(hm:X.mg x=none)(hv:bootBuiltins x=some (.builtin id))(ha:SE X cl a a')(hn:noStar a=true)(h1:x ≠ "__name__")(h2:(x == ("__debug__" : Str))=false)
 (ok:∀ (σD:RL.St) (σ:L2.St) (H H1:Hp) (y d:RL.D) (v:V) (Q:VK),RL.biV b y=some d->aw H H1->Rep nP X.K H1 y v->(∀ w H',Res X.K σD σ H (.bi b a') d w H'->Q w H')->r [v] H1 Q):SE X cl (.Call (.Name x p) [a] [] pos) (.bi b a'):=by
 refine PE.weak (fg hc hg hm hv (ba (cl:=cl) ha bP hn) h1 h2 (ax [] hn) rfl) fun σ H Q h=>?_;obtain⟨σD,d,rv,e,k⟩:=h;obtain⟨y,ea,e⟩:=bind_some e;exact one rv ea fun v H1 s1 r1=>ok σD σ H H1 y d v Q e s1 r1 k
def jR{T:String}{r:List V->Hp->VK->Prop}{b:RL.Bi}(hc:aZ X (.type T) r)(hg:Gl X x)(hm:X.mg x=none)(hv:bootBuiltins x=some (.type T))(ha:SE X cl a a')(hn:noStar a=true)(h1:x ≠ "__name__")(h2:(x == ("__debug__" : Str))=false)
 (ok:∀ (σD:RL.St) (σ:L2.St) (H H1:Hp) (y d:RL.D) (v:V) (Q:VK),RL.biV b y=some d->aw H H1->Rep nP X.K H1 y v->(∀ w H',Res X.K σD σ H (.bi b a') d w H'->Q w H')->r [v] H1 Q):SE X cl (.Call (.Name x p) [a] [] pos) (.bi b a'):=by
 refine PE.weak (bV hc hg hm hv (ba (cl:=cl) ha bP hn) h1 h2 (ax [] hn) rfl) fun σ H Q h=>?_;obtain⟨σD,d,rv,e,k⟩:=h;obtain⟨y,ea,e⟩:=bind_some e;exact one rv ea fun v H1 s1 r1=>ok σD σ H H1 y d v Q e s1 r1 k
def As(hg:Gl X "list")(hm:X.mg "list" = none)(ha:SE X cl a a')(hn:noStar a=true):SE X cl (.Call (.Name "list" p) [a] [] pos) (.bi .list a'):=by
 refine jR qJ hg hm (by decide +kernel) ha hn (by decide) (by decide) fun σD σ H H1 y d v Q e s1 r1 k=>?_;obtain⟨ds,e1,e2⟩:=map_some (show(RL.items y).map RL.D.lst=some d from e);subst e2;obtain⟨q,xs,rfl,hp,rs⟩:=eX e1 r1;refine⟨q,xs,rfl,?_,fun l hl=>k _ _ (cT s1 hl rs fun _=>rfl)⟩
 rcases hp with⟨z,_⟩ | ⟨z,_⟩
 ·exact .inl (SqL.of z)
 ·exact .inr (SqT.of z)
def yn(hg:Gl X "tuple")(hm:X.mg "tuple" = none)(ha:SE X cl a a')(hn:noStar a=true):SE X cl (.Call (.Name "tuple" p) [a] [] pos) (.bi .tuple a'):=by
 refine jR oD hg hm (by decide +kernel) ha hn (by decide) (by decide) fun σD σ H H1 y d v Q e s1 r1 k=>?_;obtain⟨ds,e1,e2⟩:=map_some (show(RL.items y).map RL.D.tup=some d from e);subst e2;obtain⟨q,xs,rfl,hp,rs⟩:=eX e1 r1
 rcases hp with⟨z,_⟩ | ⟨z,_⟩
 ·exact⟨q,xs,rfl,.inl ⟨SqL.of z,fun l hl=>k _ _ (jf s1 hl rs fun _=>rfl)⟩⟩
 ·refine⟨q,xs,rfl,.inr ⟨SqT.of z,k _ _ ⟨s1,?_,fun _ m=>(by cases m),fun M z=>nomatch (show false=true from z)⟩⟩⟩;rw[Rep];exact⟨q,xs,rfl,z,rs⟩
def Fh(hg:Gl X "int")(hm:X.mg "int" = none)(ha:SE X cl a a')(hn:noStar a=true):SE X cl (.Call (.Name "int" p) [a] [] pos) (.bi .int a'):=by
 refine jR xu hg hm (by decide +kernel) ha hn (by decide) (by decide) fun σD σ H H1 y d v Q e s1 r1 k=>?_
 cases y<;>first | (cases e;done) | skip
 case bl t=>cases e;exact .inr ⟨t,by rw[aR r1],k _ _ (bU s1 aM rfl)⟩
 case int t=>cases e;exact .inl ⟨t,by rw[ai r1],k _ _ (bU s1 aM rfl)⟩
def uf{prog:Program}{w:World}{K:Type} [DecidableEq K]{knd:HeapKind prog w K}(hd:(d == sysModules)=false) :
  MeetsIn prog w (Builtin.«dict.__len__» ⟨[.ref d],[]⟩) (fun _ R s=>∃ xs,s.heap.DictOfH knd d xs/\R (.ok (.ret (.int xs.length s.toks))) { s with toks:=s.toks+1 }) :=
 .of_wp fun A R s ⟨xs,hm,h⟩=>by
  obtain⟨o,es,ep,ho,hc,hdat,hk,_,_⟩:=hm;show wpAny _ _ (dictSize d >>= _) _ _ s;unfold dictSize;refine wpAny_bind (wpAny_bind (wpAny_dictEntries ho hdat (wpAny_pure ?_)));show wpAny _ _ (Builtin.Dict.pendingCount d >>= _) _ _ s;refine wpAny_bind (wpAny_pendingCount_other hd ?_);refine wpAny_ret_mkInt ?_;rw[Nat.add_zero,size_of_entries hk];exact h
def nz{prog:Program}{w:World}{K:Type} [DecidableEq K]{knd:HeapKind prog w K}{A:Around}{E:Value->Shared->Prop}{s:Shared}{d:Addr}{xs:List (K × Addr × Value)}{Q:Value->Shared->Prop}(hd:(d == sysModules)=false)(hm:s.heap.DictOfH knd d xs)(hfit:(xs.length:Int)<2 ^ 63)
 (h:Q (.int xs.length (s.toks+1)) { s with toks:=s.toks+1+1 }):wpAny (model prog w) A (call (.builtin "len") [.ref d]) Q E s:=by
 refine Calls.call_function_entry kind_len plain_len entry_len (args_len1 _) ?_;unfold Builtin.«len»;refine wpAny_bind (m:=oneArg "len" _) (wpAny_pure ?_)
 refine wpAny_bind (m:=callSpecial? (.ref d) (Str.ofString "__len__")) (wpAny_callSpecial?_slot (name:=Str.ofString "__len__") hm.typeIs F.slot_dict_len
  (call_meetsIn F.slot_dict_len hm.typeIs F.entry_dict_len (F.args_dict_len_1 _) (uf hd) ⟨xs,hm,?_⟩))
 show wpAny _ _ _ _ _ { s with toks:=s.toks+1 };refine wpAny_bind (wpAny_holding (wpAny_pure ?_));refine wpAny_bind (wpAny_letGo ?_);show wpAny _ _ (if((xs.length:Nat):Int)<0 then _ else _) _ _ _;rw[if_neg (by omega)];show wpAny _ _ (if((xs.length:Nat):Int)≥2 ^ 63 then _ else _) _ _ _;rw[if_neg (by omega)];exact wpAny_bind (wpAny_mkInt (wpAny_pure ⟨_,rfl,h⟩))
def wI:aZ X (.builtin "len") (fun xs H Q=>∃ a kvs,xs=[V.ref a]/\H a=some (.dT kvs)/\Q (.int kvs.length) H):=by
 intro pins s σ H xs us Q I r h;obtain⟨a,kvs,rfl,ha,q⟩:=h;obtain⟨u,rfl,ru⟩:=vals1 r;cases ru;obtain⟨z,hd,xs,rel,dd⟩:=zD I.hok ha;have hl:kvs.length=xs.length:=Paired.length rel;refine nz hd dd (by rw[<-hl];rw[sizeLine_eq]at z;omega) ?_;rw[<-hl];exact⟨.int kvs.length,H,I.tok _,⟨_,rfl⟩,q⟩
def uT:aZ X (.builtin "len") (fun xs H Q=>(∃ y n,xs=[y]/\Co X.K y H n/\Q (.int n) H)\/(∃ q kvs,xs=[V.ref q]/\H q=some (.dK kvs)/\Q (.int kvs.length) H)\/∃ q kvs,xs=[V.ref q]/\H q=some (.dT kvs)/\Q (.int kvs.length) H):=aZ.or yE (aZ.or wJ wI)
def EA(hg:Gl X "len")(hm:X.mg "len" = none)(ha:SE X cl a a')(hn:noStar a=true):SE X cl (.Call (.Name "len" p) [a] [] pos) (.bi .len a'):=by
 refine dO uT hg hm PySem.boot_len ha hn (by decide) (by decide) fun σD σ H H1 y d v Q e s1 r1 k=>?_
 cases y<;>first | (cases e;done) | skip
 case str t =>
  rw[RL.Aa]at e;split at e
  ·rename_i hz;cases e;rw[a7 r1];exact .inl ⟨_,_,rfl,⟨Nat.le_trans hz bM,rfl⟩,k _ _ (bU s1 aM rfl)⟩
  ·cases e
 case tup t =>
  cases e;obtain⟨q,xs,rfl,f2,f3⟩:=bg r1;dsimp only at k;rw[f3.length]at k;exact .inl ⟨_,_,rfl,.inr ⟨xs,SqT.of f2,rfl⟩,k _ _ (bU s1 aM rfl)⟩
 case lst t =>
  cases e;obtain⟨q,xs,rfl,_,f2,f3⟩:=az r1;dsimp only at k;rw[f3.length]at k;exact .inl ⟨_,_,rfl,.inl ⟨xs,SqL.of f2,rfl⟩,k _ _ (bU s1 aM rfl)⟩
 case dK ks t =>
  cases e;rw[Rep]at r1;obtain⟨q,xs,rfl,_,f2,fl,f3⟩:=r1;refine .inr (.inl ⟨q,_,rfl,f2,?_⟩)
  have:(ks.zip xs).length=ks.length:=by rw[List.length_zip,<-f3.length,fl,Nat.min_self]
  rw[this];exact k _ _ (bU s1 aM rfl)
 case dT ks t =>
  cases e;rw[Rep]at r1;obtain⟨q,xs,rfl,_,f2,fl,f3⟩:=r1;refine .inr (.inr ⟨q,_,rfl,f2,?_⟩)
  have:(ks.zip xs).length=ks.length:=by rw[List.length_zip,<-f3.length,fl,Nat.min_self]
  rw[this];exact k _ _ (bU s1 aM rfl)
def Ej(hc:X.calm=true)(hg:Gl X "max")(hm:X.mg "max" = none)(ha:SE X cl a a')(hb:SE X cl b b')(hn:noStar a=true)(hn2:noStar b=true):SE X cl (.Call (.Name "max" p) [a,b] [] pos) (.max a' b'):=by
 refine PE.weak (fg (wg hc) hg hm (by decide +kernel) (ba (cl:=cl) ha (ba hb bP hn2) hn) (by decide) (by decide) (ax _ hn) (dI (by simp[hn2]))) fun σ H Q h=>?_;obtain⟨σD,d,rv,e,k⟩:=h;obtain⟨u,ea,e⟩:=bind_some e;obtain⟨v,eb,e⟩:=bind_some e
 cases u with
 |int i=>
  cases v with
  |int j=>
   cases e
   exact pair rv ea eb fun v u H1 s1 r1 r2=>⟨i,j,by rw[ai r1,ai r2],k _ _ (bU s1 aM rfl)⟩
  | _=>cases e
 | _=>cases e
abbrev tyN:RL.Ty->String
 | .int => "int"
 | .bool => "bool"
 | .list => "list"
 | .tuple => "tuple"
 | .str => "str"
def yz:aZ X (.builtin "isinstance") (fun xs H Q=>∃ y t T k,xs=[y,.ty T]/\eG X.K H y t/\PySem.W.kitOne X.K t (.type T)=some k/\Q (.bl k) H):=by
 intro pins s σ H xs us Q I r h;obtain⟨y,t,T,k,rfl,ty,e,q⟩:=h;obtain⟨u,w,rfl,r1,r2⟩:=vals2 r;cases r2
 exact wt I r1 ty e fun tk=>⟨.bl k,H,I.tok tk,rfl,q⟩
def CF(h:RL.fh t d=some k)(r:Rep nP X.K H d v):∃ ty,eG X.K H v ty/\PySem.W.kitOne X.K ty (.type (tyN t))=some k:=by
 cases d with
 | non=>rw[Rep]at r;subst r;refine⟨_,.non,?_⟩;cases t<;>(cases h;rfl)
 | bl i=>rw[aR r];refine⟨_,.bl i,?_⟩;cases t<;>(cases h;rfl)
 | int i=>rw[ai r];refine⟨_,.int i,?_⟩;cases t<;>(cases h;rfl)
 | str i=>rw[a7 r];refine⟨_,.str i,?_⟩;cases t<;>(cases h;rfl)
 | tup i=>obtain⟨q,xs,rfl,f2,f3⟩:=bg r;refine⟨_,.tup f2,?_⟩;cases t<;>(cases h;rfl)
 | lst i=>obtain⟨q,xs,rfl,_,f2,f3⟩:=az r;refine⟨_,.lst f2,?_⟩;cases t<;>(cases h;rfl)
 | _=>cases t<;>cases h
def Dl(hg:Gl X "isinstance")(hm:X.mg "isinstance" = none)(hgy:Gl X y)(hmy:X.mg y=none)(hy:bootBuiltins y=some (.type (tyN t)))(hy1:y ≠ "__name__")(hy2:(y == ("__debug__" : Str))=false)(ha:SE X cl a a')(hn:noStar a=true) :
  SE X cl (.Call (.Name "isinstance" p) [a,.Name y p2] [] pos) (.isi a' t):=by
 have hty:PE X (.Name y p2) (tC (.ty (tyN t))):=BD hgy hmy hy rfl hy1 hy2;refine PE.weak (fg yz hg hm (by decide +kernel) (bx ha (bx hty cP rfl) (ax _ hn)) (by decide) (by decide) (ax _ hn) rfl) fun σ H Q h=>?_;obtain⟨σD,d,rv,e,k⟩:=h;obtain⟨u,ea,e⟩:=bind_some e;obtain⟨t',e1,e2⟩:=map_some e;subst e2;refine⟨σD,u,rv,ea,fun v H1 r1=>?_⟩;obtain⟨ty,h1,h2⟩:=CF e1 r1.rep;exact⟨v,ty,_,t',rfl,h1,h2,k _ _ (cm r1.same)⟩
end rules
end RS
namespace L2
open PySem PySem.Spec PyProof.Rows
structure ky(prog:Program)(w:World):Prop where
 draws:∀ {A:Around},A.handled=none->∀ (ti tp:Addr),tp≠ti->∀ its:Array Value,Draws prog w A ti [ti,tp] its.size (fun i v=>its[i]?=some v) (fun i h=>h.IsTupleIter ti tp i/\h.IsTuple tp its)
 call:∀ {A:Around} {E:Value->Shared->Prop} {z:Shared} {tp:Addr} {its:Array Value} {Q:Value->Shared->Prop},z.heap.IsTuple tp its ->
  (∀ g,IsEnum g (z.heap.objs.size+1) z.heap.objs.size 0 .none->g.IsTupleIter z.heap.objs.size tp 0->(∀ b o,z.heap.get? b=some o->g.get? b=some o)->Q (.ref (z.heap.objs.size+1)) { z with heap:=g })->wpAny (model prog w) A (call (.type "enumerate") [.ref tp]) Q E z
section
def Inv.ng{h':Heap}{t':Nat}{fp:List Addr}(I:Inv X pins σ H s)(k:∀ b o,b∉fp->s.heap.get? b=some o->h'.get? b=some o)(hf:∀ b∈fp,H b=none/\(b∈X.ex\/X.s₀.heap.objs.size<=b)/\b≠X.env.locals/\(∀ x c,X.env.cells.lookup x=some c->c≠b)/\∀ p∈X.pn++pins,p.1≠b) :
  Inv X pins σ H { s with heap:=h',toks:=t' }:=by
 have nf:∀ b u,H b=some u->b∉fp:=fun b u e z=>by rw[(hf b z).1]at e;cases e
 refine I.Ae (s':={ s with heap:=h',toks:=t' }) (ch:=fp) rfl ⟨fun b o e _ _ hx=>k b o hx e,fun b o e _ _ hx=>⟨o.slots,k b o hx e⟩,fun _ _ _ n _=>n,fun b o e hx=>⟨o,k b o hx e⟩,fun _ _ e=>e,fun _ _ _ e=>e,fun b ps e=>⟨#[],by rw[e];simp⟩⟩ (fun b u e=>?_) I.bare fun b hb=>(hf b hb).2;refine(I.hok b u e).mI (fun c v hc q=>k c v ?_ q) (fun _ q=>q) fun _ _ q=>q;rcases hc with z | z
 ·rw[z];exact nf b u e
 ·exact nf c _ z
end
abbrev Ite(cont:Hp->List V->Prop):It :=
 ⟨fun i H=>∃ xs x,cont H xs/\xs[i]?=some x,fun i H v H'=>∃ p x,H p=none/\v=.ref p/\H'=upd H p (.tup [.int i,x])/\∀ xs,cont H xs->xs[i]?=some x,fun i H=>∃ xs,cont H xs/\xs.length=i⟩
structure Src(P:Program)(w:World)(K:PySem.W.Frag)(e it:Addr)(cont:Hp->List V->Prop)(ia:Nat->Heap->Prop):Prop where
 obj:∀ i h,ia i h->∃ o,h.get? it=some o/\∀ v,o.data≠.cell v
 keep:∀ i h h',ia i h->(∀ o,h.get? it=some o->h'.get? it=some o)->ia i h'
 inj:∀ (H:Hp) xs ys,cont H xs->cont H ys->xs=ys
 dr:∀ (X:Cx),X.prog=P->X.w=w->X.K=K->X.calm=true->∀ (pins:List (Addr × Obj)) (s:Shared) (σ:St) (H:Hp) (xs:List V),Inv X pins σ H s->H e=none->H it=none->cont H xs ->
  ∃ (fp:List Addr) (Pv:Nat->Value->Prop) (St:Nat->Heap->Prop),Draws P w X.A.in1 it fp xs.length Pv St/\e∉fp/\(∀ i,ia i s.heap->St i s.heap)/\(∀ i h,St i h->ia i h)/\∀ i v,Pv i v->∃ x,xs[i]?=some x/\RelV x v
def xo{P:Program}{w:World}{K:PySem.W.Frag}(hei:e≠it)(S:Src P w K e it cont ia) :
  Turn P w K (.Tuple elts kx tp) (Ite cont) [e,it] e (fun i h=>(∃ old,IsEnum h e it i old)/\ia i h) where
 mem:=by simp
 obj:=fun i h st b hb=>by
  rcases List.mem_cons.mp hb with rfl | hb
  ·obtain⟨⟨old,he⟩,_⟩:=st;exact⟨_,he,fun v z=>by cases z⟩
  ·rw[List.mem_singleton.mp hb];exact S.obj i h st.2
 keep:=fun i h h' st k=>by
  obtain⟨⟨old,he⟩,hi⟩:=st;exact⟨⟨old,k e (by simp) _ he⟩,S.keep i h h' hi fun o q=>k it (by simp) o q⟩
 item:=by
  intro X hP hw hK hc i pins s σ H E I hf st hg;subst hP hw hK;obtain⟨⟨old,he⟩,hi⟩:=st;obtain⟨xs,x,hq,hx⟩:=hg;have fe:=hf e (by simp);have fi:=hf it (by simp);obtain⟨fp,Pv,St,D,hef,h1,h2,h3⟩:=S.dr X rfl rfl rfl hc pins s σ H xs I fe.1 fi.1 hq;have hlt:i<xs.length:=(List.getElem?_eq_some_iff.mp hx).1;refine wpAny_pyNext_enum_itemD D he (h1 i hi) hlt hei hef fun v h' tk hP ho hs' hT hsz hk=>?_;obtain⟨x',hx',rx⟩:=h3 i v hP;rw[hx]at hx';cases hx';refine⟨.ref s.heap.objs.size,rfl,wpAny_letOwnedTupleGo_enum ho fun h'' he' hs''=>?_⟩;have hn:H s.heap.objs.size=none:=I.hok.fresh (Nat.le_refl _)
  have I1:Inv X pins σ (upd H s.heap.objs.size (.tup [.int i,x])) { s with heap:=s.heap.push { cls:=.type "tuple",data:=.seq #[.int i tk,v] },toks:=tk+1 } :=
   I.laid (t':=tk+1) (fun b u q=>Heap.get?_push_of_some _ q) (Nat.le_refl _) ⟨by show 2<=sizeLine;decide,[.int i tk,v],.cons ⟨tk,rfl⟩ (.cons rx .nil),⟨_,Heap.get?_push_size _ rfl,rfl,_,rfl⟩⟩
  have hes:e<s.heap.objs.size:=Heap.lt_size he
  have hit:it<s.heap.objs.size:=by obtain⟨o,q,_⟩:=S.obj i _ hi;exact Heap.lt_size q
  have stat:∀ b∈[e,it],upd H s.heap.objs.size (.tup [.int i,x]) b=none/\(b∈X.ex\/X.s₀.heap.objs.size<=b)/\b≠X.env.locals/\(∀ x c,X.env.cells.lookup x=some c->c≠b)/\∀ p∈X.pn++pins,p.1≠b:=fun b hb=>by
   obtain⟨f0,f1,f2,f3,f4,f5⟩:=hf b hb
   have hb':b≠s.heap.objs.size:=by
    rcases List.mem_cons.mp hb with rfl | hb
    ·exact Nat.ne_of_lt hes
    ·rw[List.mem_singleton.mp hb];exact Nat.ne_of_lt hit
   exact⟨by rw[aI hb'];exact f0,f3,f1,f4,f5⟩
  have I2:Inv X pins σ (upd H s.heap.objs.size (.tup [.int i,x])) { s with heap:=h'',toks:=tk+1 }:=by
   refine Inv.ng (s:={ s with heap:=s.heap.push { cls:=.type "tuple",data:=.seq #[.int i tk,v] },toks:=tk+1 }) (h':=h'') (t':=tk+1) (fp:=[e,it]) I1 (fun b o hb q=>?_) stat;have b1:b≠e:=fun z=>hb (by simp[z]);have b2:b≠it:=fun z=>hb (by simp[z]);refine hs''.extBut b o b1 ?_;by_cases hbT:b=s.heap.objs.size
   ·subst hbT;have q':(s.heap.push { cls:=.type "tuple",data:=.seq #[.int i tk,v] }).get? s.heap.objs.size=some o:=q;rw[Heap.get?_push_size _ rfl]at q';cases q';exact hT
   ·have q':s.heap.get? b=some o:=(Heap.get?_push_ne _ _ _ hbT).symm.trans q;exact hk b o b1 b2 q'
  refine⟨.ref s.heap.objs.size,_,I2,rfl,⟨s.heap.objs.size,x,hn,rfl,rfl,fun ys hy=>by rw[S.inj H ys xs hy hq];exact hx⟩,⟨⟨v,by simpa using he'⟩,S.keep _ h' h'' (h2 _ _ hs') fun o q=>hs''.extBut _ _ (Ne.symm hei) q⟩,fun b hb=>(stat b hb).1⟩
 done:=by
  intro X hP hw hK hc i pins s σ H E I hf st hg;subst hP hw hK;obtain⟨⟨old,he⟩,hi⟩:=st;obtain⟨xs,hq,hx⟩:=hg;have fe:=hf e (by simp);have fi:=hf it (by simp);obtain⟨fp,Pv,St,D,hef,h1,h2,h3⟩:=S.dr X rfl rfl rfl hc pins s σ H xs I fe.1 fi.1 hq;subst hx
  refine wpAny_pyNext_enum_endD D he (h1 _ hi) fun h' eb=>⟨rfl,?_⟩
  obtain⟨f0,f1,f2,f3,f4,f5⟩:=fi;exact I.turned (it:=it) (h':=h') (t':=s.toks) (fun b o hb q=>eb b o hb q) f0 f1 f3 f4 f5
 self:=fun A i s Q E st h=>by
  obtain⟨⟨old,he⟩,hi⟩:=st;exact wpAny_pyIter_enum he h
def src_list{P:Program}{w:World}{K:PySem.W.Frag}(hei:e≠it):Src P w K e it (fun H xs=>H l=some (.lst xs)) (fun i h=>h.IsListIter it l i) where
 obj:=fun i h st=>let ⟨o,ho,_,hd⟩:=st;⟨o,ho,fun v q=>by rw[hd]at q;cases q⟩
 keep:=fun i h h' st k=>st.at fun o q=>k o q
 inj:=fun H xs ys h1 h2=>by rw[h1]at h2;cases h2;rfl
 dr:=by
  intro X hP hw hK hc pins s σ H xs I he hi hx;subst hP hw hK;obtain⟨its,rv,p,hz⟩:=I.list (SqL.of hx)
  have hl:its.toArray.size=xs.length:=by rw[List.size_toArray,rv.length]
  have hh:X.A.in1.handled=none:=I.ok.hd.1 hc;have D:=Draws.list (prog:=X.prog) (w:=X.w) (A:=X.A.in1) hh it l (aH hx hi) its.toArray;rw[hl]at D;refine⟨_,_,_,D,?_,fun i st=>⟨st,p.isList⟩,fun i h st=>st.1,fun i v hv=>?_⟩
  ·intro m;rcases List.mem_cons.mp m with q | m
   ·exact hei q
   ·exact(aH hx he).symm (List.mem_singleton.mp m)
  ·have hv:its[i]?=some v:=by simpa using hv
   have hlt:i<xs.length:=by rw[rv.length];exact(List.getElem?_eq_some_iff.mp hv).1
   obtain⟨u,h1,h2⟩:=rv.get (i:=i) (x:=xs[i]) (by simp[hlt]);rw[hv]at h1;cases h1;exact⟨xs[i],by simp[hlt],h2⟩
def Bk{P:Program}{w:World}{K:PySem.W.Frag}(TE:ky P w)(hei:e≠it):Src P w K e it (fun H xs=>H l=some (.tup xs)) (fun i h=>h.IsTupleIter it l i) where
 obj:=fun i h st=>let ⟨o,ho,_,hd⟩:=st;⟨o,ho,fun v q=>by rw[hd]at q;cases q⟩
 keep:=fun i h h' st k=>let ⟨o,ho,r⟩:=st;⟨o,k o ho,r⟩
 inj:=fun H xs ys h1 h2=>by rw[h1]at h2;cases h2;rfl
 dr:=by
  intro X hP hw hK hc pins s σ H xs I he hi hx;subst hP hw hK;obtain⟨its,rv,p,hz⟩:=I.tuple (SqT.of hx)
  have hl:its.toArray.size=xs.length:=by rw[List.size_toArray,rv.length]
  have hh:X.A.in1.handled=none:=I.ok.hd.1 hc;have D:=TE.draws (A:=X.A.in1) hh it l (aH hx hi) its.toArray;rw[hl]at D;refine⟨_,_,_,D,?_,fun i st=>⟨st,p⟩,fun i h st=>st.1,fun i v hv=>?_⟩
  ·intro m;rcases List.mem_cons.mp m with q | m
   ·exact hei q
   ·exact(aH hx he).symm (List.mem_singleton.mp m)
  ·have hv:its[i]?=some v:=by simpa using hv
   have hlt:i<xs.length:=by rw[rv.length];exact(List.getElem?_eq_some_iff.mp hv).1
   obtain⟨u,h1,h2⟩:=rv.get (i:=i) (x:=xs[i]) (by simp[hlt]);rw[hv]at h1;cases h1;exact⟨xs[i],by simp[hlt],h2⟩
abbrev iH(x:Str):List V:=x.cps.toList.map fun c=>.str ⟨#[c]⟩
def BB{P:Program}{w:World}{K:PySem.W.Frag}(hei:e≠it):Src P w K e it (fun _ xs=>xs=iH x) (fun i h=>h.IsStrIter it (strIterType x) x t i) where
 obj:=fun i h st=>let ⟨o,ho,_,hd⟩:=st;⟨o,ho,fun v q=>by rw[hd]at q;cases q⟩
 keep:=fun i h h' st k=>let ⟨o,ho,r⟩:=st;⟨o,k o ho,r⟩
 inj:=fun H xs ys h1 h2=>by rw[h1,h2]
 dr:=by
  intro X hP hw hK hc pins s σ H xs I he hi hx;subst hP hw hK hx;have hh:X.A.in1.handled=none:=I.ok.hd.1 hc
  have hl:x.cps.size=(iH x).length:=by simp[iH]
  have pv:∀ (i:Nat) (v:Value),(∃ c u,x.cps[i]?=some c/\v=Value.str ⟨#[c]⟩ u)->∃ y,(iH x)[i]?=some y/\RelV y v:=fun i v hv=>by
   obtain⟨c,u,h1,h2⟩:=hv;exact⟨.str ⟨#[c]⟩,by simp[iH,h1],u,h2⟩
  have ni:e∉[it]:=fun m=>hei (List.mem_singleton.mp m)
  cases ha:x.cps.all (·<128)with
  |true=>
   have ht:strIterType x = "str_ascii_iterator" := by simp[strIterType,ha]
   have D:=Draws.strAscii (prog:=X.prog) (w:=X.w) (A:=X.A.in1) hh it x t;rw[hl]at D;exact⟨_,_,_,D,ni,fun i st=>by rw[ht]at st;exact st,fun i h st=>by rw[ht];exact st,pv⟩
  |false=>
   have ht:strIterType x = "str_iterator" := by simp[strIterType,ha]
   have D:=Draws.strWide (prog:=X.prog) (w:=X.w) (A:=X.A.in1) hh it x t;rw[hl]at D;exact⟨_,_,_,D,ni,fun i st=>by rw[ht]at st;exact st,fun i h st=>by rw[ht];exact st,pv⟩
section
abbrev FQ(ta:TA):TI:=fun σ H R=>ta σ H fun vs H1=>(∃ l xs,vs=[.ref l]/\H1 l=some (.lst xs)/\R (Ite fun H xs=>H l=some (.lst xs)) H1)\/(∃ l xs,vs=[.ref l]/\H1 l=some (.tup xs)/\R (Ite fun H xs=>H l=some (.tup xs)) H1) \/
 (∃ x,vs=[.str x]/\R (Ite fun _ xs=>xs=iH x) H1)
def kR(I:Inv X pins σ H s)(S:Src X.prog X.w X.K (s.heap.objs.size+1) s.heap.objs.size cont ia)
 (he:IsEnum g (s.heap.objs.size+1) s.heap.objs.size 0 .none)(hi:ia 0 g)(hk:∀ b o,s.heap.get? b=some o->g.get? b=some o)(q:R (Ite cont) H) :
  wpAny (model X.prog X.w) X.A (pyIter (.ref (s.heap.objs.size+1))) (PIE X pins σ (.Tuple elts kx tp) R) E { s with heap:=g }:=by
 refine wpAny_pyIter_enum he ⟨s.heap.objs.size+1,[s.heap.objs.size+1,s.heap.objs.size],_,_,H,rfl,I.kept (t':=s.toks) hk,xo (Nat.succ_ne_self _) S,⟨⟨.none,he⟩,hi⟩,fun b hb=>?_,q⟩
 have hb':s.heap.objs.size<=b:=by
  rcases List.mem_cons.mp hb with z | z
  ·rw[z];exact Nat.le_succ _
  ·rw[List.mem_singleton.mp z];exact Nat.le_refl _
 exact I.l6 hb' (I.hok.fresh hb')
def AZ(TE:ky X.prog X.w)(hg:Gl X "enumerate")(hm:X.mg "enumerate" = none)(ha:PA X [a] ta)(hs:starEach [a] X.env=[(false,eval a X.env)]):PI X (.Tuple elts kx tp) (.Call (.Name "enumerate" p) [a] [] pos) (FQ ta):=by
 intro pins s σ H R I h;refine Call_ (gG I hg hm boot_enumerate (PyProof.Rows.callWith_type1 (thn (ha pos pins s σ H _ I h) fun us s1 ⟨vs,H1,I1,r1,q1⟩=>?_) hs rfl) (by decide) (by decide))
 rcases q1 with⟨l,xs,rfl,hx,q⟩ | ⟨l,xs,rfl,hx,q⟩ | ⟨x,rfl,q⟩
 ·obtain⟨u,rfl,ru⟩:=vals1 r1;cases ru;obtain⟨its,rv,pl,hz⟩:=I1.list (SqL.of hx);exact call_enumerate_list pl.isList fun g he hi hsz hk=>kR I1 (src_list (Nat.succ_ne_self _)) he hi hk q
 ·obtain⟨u,rfl,ru⟩:=vals1 r1;cases ru;obtain⟨its,rv,pl,hz⟩:=I1.tuple (SqT.of hx);exact TE.call pl fun g he hi hk=>kR I1 (Bk TE (Nat.succ_ne_self _)) he hi hk q
 ·obtain⟨u,rfl,ru⟩:=vals1 r1;obtain⟨t,rfl⟩:=ru;exact call_enumerate_str fun g he hi hsz hk=>kR I1 (BB (Nat.succ_ne_self _)) he hi hk q
end
end L2
namespace RS
open PySem PySem.Spec PyProof.Rows L2
def j8:∀ (ds:List RL.D) (k:Int),(RL.c8 k ds).length=ds.length
 | [],_=>rfl
 | d::r,k=>by rw[RL.c8,List.length_cons,List.length_cons,j8 r]
def om:∀ (ds:List RL.D) (k:Int) (i:Nat) (d:RL.D),(RL.c8 k ds)[i]?=some d->∃ e,ds[i]?=some e/\d=.tup [.int (k+i),e]
 | [],k,i,d,h=>by simp[RL.c8]at h
 | e::r,k,0,d,h=>by simp[RL.c8]at h;exact⟨e,rfl,by simp[h]⟩
 | e::r,k,i+1,d,h=>by
  rw[RL.c8,List.getElem?_cons_succ]at h;obtain⟨e',h1,h2⟩:=om r (k+1) i d h;refine⟨e',by simpa using h1,?_⟩;rw[h2];congr 3;lia
def gu{K:PySem.W.Frag}(hc:∀ H',Off P H H'->cont H' xs)(hj:∀ H' ys,cont H' xs->cont H' ys->ys=xs)(r:ab nP K H ds xs)(hm:∀ b o,P b->H b=some o->cx o):iB K (Ite cont) (RL.c8 0 ds) P H where
 go:=fun H' i k hi=>by
  rw[j8]at hi;obtain⟨x,e,_⟩:=r.get (i:=i) (d:=ds[i]) (by simp[hi]);exact⟨xs,x,hc H' k,e⟩
 stop:=fun H' k=>⟨xs,hc H' k,by rw[j8,r.length]⟩
 yld:=fun H' i d v H2 k e y=>by
  obtain⟨p,x,hp,rfl,rfl,hx⟩:=y;obtain⟨e',h1,rfl⟩:=om ds 0 i d e;obtain⟨x',h2,h3⟩:=r.get h1;rw[hx xs (hc H' k)]at h2;cases h2;refine⟨aw.bE hp,fun q=>?_⟩
  have re:Rep nP K H' e' x:=by
   rcases q with q | q
   ·have q:(true&&(e'.imm&&true))=true:=q;simp only[Bool.true_and,Bool.and_true]at q;exact gE hm k h3 q
   ·exact h3.same q
  rw[Rep];refine⟨p,[.int i,x],rfl,aW,ab.cons ?_ (ab.cons (re.same (aw.bE hp)) ab.nil)⟩;simpa using(aM (P:=nP) (K:=K) (H:=upd H' p (.tup [.int i,x])) (i:=(i:Int)))
def vK{P:Addr->Prop}{K:PySem.W.Frag}(h:RL.cA d=some ds)(r:Rep P K H d v):(∃ p xs,v=.ref p/\H p=some (.lst xs)/\d=.lst ds/\ab P K H ds xs)\/(∃ p xs,v=.ref p/\H p=some (.tup xs)/\d=.tup ds/\ab P K H ds xs) \/
  (∃ x,v=.str x/\d=.str x/\ds=x.cps.toList.map fun c=>.str ⟨#[c]⟩):=by
 cases d<;>simp only[RL.cA]at h<;>first | (cases h;done) | skip
 case lst ys=>cases h;obtain⟨p,xs,e1,_,e2,e3⟩:=az r;exact .inl ⟨p,xs,e1,e2,rfl,e3⟩
 case tup ys=>cases h;obtain⟨p,xs,e1,e2,e3⟩:=bg r;exact .inr (.inl ⟨p,xs,e1,e2,rfl,e3⟩)
 case str x=>cases h;exact .inr (.inr ⟨x,a7 r,rfl,rfl⟩)
def jk{P:Addr->Prop}{K:PySem.W.Frag}:∀ (cs:List Nat),ab P K H (cs.map fun c=>RL.D.str ⟨#[c]⟩) (cs.map fun c=>V.str ⟨#[c]⟩)
 | []=>ab.nil
 | c::r=>ab.cons dP (jk r)
section rules
def Dc(TE:ky X.prog X.w)(hg:Gl X "enumerate")(hm:X.mg "enumerate" = none)(ha:SE X cl a a')(hn:noStar a=true):SI X cl (.Tuple elts kx tp) (.Call (.Name "enumerate" p) [a] [] pos) (.enm a'):=by
 intro pins s σ H R I h;obtain⟨σD,ds,rv,e,k⟩:=h;obtain⟨d,e1,e2⟩:=bind_some e;obtain⟨es,e3,e4⟩:=map_some e2;subst e4;have hpa:PA X [a] (iX (tE X.K cl a') ue):=bx ha cP (ax [] hn);refine AZ TE hg hm hpa (ax [] hn) pins s σ H R I ⟨σD,d,rv,e1,fun v H1 r1=>?_⟩
 rcases vK e3 r1.rep with⟨l,xs,rfl,hx,rfl,rs⟩ | ⟨l,xs,rfl,hx,rfl,rs⟩ | ⟨x,rfl,rfl,rfl⟩
 ·refine .inl ⟨l,xs,rfl,hx,k _ _ r1.same ⟨gu (fun H' o=>o _ _ (fun z=>z) hx) (fun H' ys h1 h2=>by rw[h1]at h2;cases h2;rfl) rs gP,fun M P z hP av=>?_⟩⟩;exact gu (fun H' o=>o _ _ (lF r1 z hP av _ _ rfl rfl) hx) (fun H' ys h1 h2=>by rw[h1]at h2;cases h2;rfl) rs (dH r1.same hP)
 ·have np:∀ P:Addr->Prop,(∀ b o,P b->H1 b=some o->cx o)->¬ P l:=fun P hP q=>by rcases hP l _ q hx with⟨z,q⟩ | ⟨z,q⟩ | ⟨z,q⟩<;>cases q
  exact .inr (.inl ⟨l,xs,rfl,hx,k _ _ r1.same ⟨gu (fun H' o=>o _ _ (np _ gP) hx) (fun H' ys h1 h2=>by rw[h1]at h2;cases h2;rfl) rs gP,fun M P z hP av=>gu (fun H' o=>o _ _ (np P (dH r1.same hP)) hx) (fun H' ys h1 h2=>by rw[h1]at h2;cases h2;rfl) rs (dH r1.same hP)⟩⟩)
 ·exact .inr (.inr ⟨x,rfl,k _ _ r1.same ⟨gu (fun H' o=>rfl) (fun H' ys h1 h2=>h2) (jk _) gP,fun M P z hP av=>gu (fun H' o=>rfl) (fun H' ys h1 h2=>h2) (jk _) (dH r1.same hP)⟩⟩)
end rules
section rules
variable{X:Cx}
def Bj{P:Addr->Prop}{K:PySem.W.Frag}(h:Rep P K H (.scr ds) v):∃ a xs,v=.ref a/\jP K H a xs/\ab P K H ds xs:=by rw[Rep]at h;exact h
def v8(n:Nat)(k:Int):HT.sIx n n (some k)=RL.cutAt n k:=by
 have h:=HT.k7 k n n;unfold RL.cutAt;split at h
 ·rw[if_neg (by lia)];lia
 ·rw[if_pos (by lia)];lia
def Fj(ha:SE X cl a a')(hb:SE X cl b b'):SE X cl (.Subscript a (.Slice none (some b) none p2) pos) (.slT a' b'):=by
 refine PE.weak (zl (SlR.or BH CJ) ha AB (BJ hb)) fun σ H Q h=>?_;obtain⟨σD,d,rv,e,k⟩:=h;obtain⟨x,ea,e⟩:=bind_some e;obtain⟨y,eb,e⟩:=bind_some e;refine⟨σD,x,rv,ea,fun v H1 r1=>⟨σD,y,rv.same r1.same,eb,fun u H2 r2=>?_⟩⟩;have rx:=r1.rep.same r2.same;have sm:=r1.same.trans r2.same
 cases y with
 |int n=>
  refine⟨n,ai r2.rep,?_⟩
  cases x with
  |lst xs=>
   cases e;obtain⟨q,ys,rfl,_,f2,f3⟩:=az rx;refine .inl ⟨q,ys,rfl,SqL.of f2,fun l hl=>?_⟩;unfold jz;rw[lj,<-f3.length];exact k _ _ (cT sm hl (f3.take _) fun _=>rfl)
  |scr xs=>
   cases e;obtain⟨q,ys,rfl,f2,f3⟩:=Bj rx;refine .inl ⟨q,ys,rfl,f2.seq,fun l hl=>?_⟩;unfold jz;rw[lj,<-f3.length];exact k _ _ (cT sm hl (f3.take _) fun _=>rfl)
  |tup xs=>
   simp only[RL.qb]at e;split at e
   ·rename_i hz;cases e;obtain⟨q,ys,rfl,f2,f3⟩:=bg rx;refine .inr ⟨q,ys,rfl,SqT.of f2,fun z=>?_,fun l hl=>?_⟩
    ·rw[v8,<-f3.length]at z;lia
    ·unfold jz;rw[lj,<-f3.length];exact k _ _ (jf sm hl (f3.take _) fun _=>rfl)
   ·cases e
  | _=>cases e
 | _=>cases x<;>cases e
abbrev za:RL.D->RL.D->Option (Option RL.D)
 | .dK ks vs,k=>(RL.keyOf k).map (RL.aB ks vs)
 | .dT ks vs,.tup k=>(RL.keysOf k).map (RL.aB ks vs)
 | _,_=>none
abbrev Ans(P:Addr->Prop)(K:PySem.W.Frag)(H:Hp):Option RL.D->Option V->Prop
 | some d,r=>∃ w,r=some w/\Rep P K H d w
 | none,r=>r=none
def mK{κ:Type} [DecidableEq κ]{P:Addr->Prop}{K:PySem.W.Frag}{H:Hp}{x:κ}:∀ {ks:List κ} {ds:List RL.D} {xs:List V},ks.length=ds.length->ab P K H ds xs ->
  Ans P K H (RL.aB ks ds x) (dM (ks.zip xs) x)
 | [],ds,xs,hl,r=>by simp[RL.aB,dM,Ans]
 | k::ks,[],xs,hl,r=>by simp at hl
 | k::ks,d::ds,xs,hl,r=>by
  rw[ab]at r;obtain⟨v,t,rfl,r1,r2⟩:=r;by_cases hk:k=x
  ·have h1:RL.aB (k::ks) (d::ds) x=some d:=by rw[RL.aB,if_pos hk]
   rw[h1];exact⟨v,by rw[List.zip_cons_cons];exact gJ hk,r1⟩
  ·have ih:=mK (x:=x) (ks:=ks) (ds:=ds) (xs:=t) (by simpa using hl) r2
   have h1:RL.aB (k::ks) (d::ds) x=RL.aB ks ds x:=by rw[RL.aB,if_neg hk]
   rw[h1,List.zip_cons_cons,gB hk];exact ih
def l4{P:Addr->Prop}{K:PySem.W.Frag}(h:RL.keyOf d=some k)(r:Rep P K H d v):v=kV k:=by
 cases d<;>simp only[RL.keyOf]at h<;>first | (cases h;done) | skip
 case int i=>cases h;exact ai r
 case str i=>cases h;exact a7 r
def ip{P:Addr->Prop}{K:PySem.W.Frag}:∀ {ds:List RL.D} {k:List RL.Ky} {xs:List V},RL.keysOf ds=some k->ab P K H ds xs->xs=k.map kV
 | [],k,xs,h,r=>by cases h;rw[ab]at r;exact r
 | d::ds,k,xs,h,r=>by
  rw[RL.keysOf]at h;obtain⟨k1,h1,h⟩:=bind_some h;obtain⟨k2,h2,h3⟩:=map_some h;subst h3;rw[ab]at r;obtain⟨v,t,rfl,r1,r2⟩:=r;rw[l4 h1 r1,ip h2 r2];rfl
def rR{H:Hp}{y kx:RL.D}{v u:V}{o:Option RL.D}(ry:Rep nP X.K H y v)(rk:Rep nP X.K H kx u)(h:za y kx=some o) :
  ∃ q r,v=.ref q/\dD H q u r/\Ans nP X.K H o r:=by
 cases y with
 |dK ks vs=>
  obtain⟨k,h1,h2⟩:=map_some h;rw[Rep]at ry;obtain⟨q,xs,rfl,_,f2,fl,f3⟩:=ry;have lk:=mK (x:=k) fl f3;rw[h2]at lk;refine⟨q,_,rfl,by rw[l4 h1 rk];exact dD.k f2,lk⟩
 |dT ks vs=>
  cases kx with
  |tup kk=>
   obtain⟨k,h1,h2⟩:=map_some h;rw[Rep]at ry;obtain⟨q,xs,rfl,_,f2,fl,f3⟩:=ry;obtain⟨q',ys,rfl,g2,g3⟩:=bg rk;rw[ip h1 g3]at g2;have lk:=mK (x:=k) fl f3;rw[h2]at lk;exact⟨q,_,rfl,dD.t f2 g2,lk⟩
  | _=>cases h
 | _=>cases kx<;>cases h
def CY(h:RL.mP y kx=some d):za y kx=some (some d):=by
 cases y with
 | dK ks vs=>obtain⟨k,h1,h2⟩:=bind_some (show(RL.keyOf kx).bind (RL.aB ks vs)=some d from h);show(RL.keyOf kx).map (RL.aB ks vs)=_;rw[h1,Option.map_some,h2]
 |dT ks vs=>
  cases kx with
  | tup kk=>obtain⟨k,h1,h2⟩:=bind_some (show(RL.keysOf kk).bind (RL.aB ks vs)=some d from h);show(RL.keysOf kk).map (RL.aB ks vs)=_;rw[h1,Option.map_some,h2]
  | _=>cases h
 | _=>cases kx<;>cases h
def Fw(hu:X.A.units+100<cLine)(ha:SE X cl a a')(hb:SE X cl b b')(hs:uh b):SE X cl (.Subscript a b pos) (.ixD a' b'):=by
 refine PE.weak (B9 (by lia) ha hb hs) fun σ H Q h=>?_;obtain⟨σD,d,rv,e,k⟩:=h;obtain⟨x,ea,e⟩:=bind_some e;obtain⟨y,eb,e⟩:=bind_some e;refine⟨σD,x,rv,ea,fun v H1 r1=>⟨σD,y,rv.same r1.same,eb,fun u H2 r2=>?_⟩⟩;obtain⟨q,r,rfl,g,w,rfl,rw'⟩:=rR (r1.rep.same r2.same) r2.rep (CY e);exact⟨q,w,rfl,g,k _ _ ⟨r1.same.trans r2.same,rw',fun z=>(by cases z),fun M z=>nomatch (show false=true from z)⟩⟩
def CU:SE X cl (.Dict [] [] pos) .dk0:=by
 refine PE.weak yY fun σ H Q h=>?_;obtain⟨σD,d,rv,e,k⟩:=h;cases e;intro q hq;refine k _ _ ⟨aw.bE hq,?_,fun _ _ a z=>(by cases z;exact hq),fun M z=>nomatch (show false=true from z)⟩;rw[Rep];exact⟨q,[],rfl,fun z=>z,aW,rfl,ab.nil⟩
def BW:SE X cl (.Dict [] [] pos) .dt0:=by
 refine PE.weak zm fun σ H Q h=>?_;obtain⟨σD,d,rv,e,k⟩:=h;cases e;intro q hq;refine k _ _ ⟨aw.bE hq,?_,fun _ _ a z=>(by cases z;exact hq),fun M z=>nomatch (show false=true from z)⟩;rw[Rep];exact⟨q,[],rfl,fun z=>z,aW,rfl,ab.nil⟩
end rules
section rules
variable{X:Cx}{st:Stmt}
def C5(hn:∀ ks,y≠.fT ks)(h:RL.qW y kx=some k):∃ o,za y kx=some o/\k=o.isSome:=by
 cases y with
 | dK ks vs=>obtain⟨q,h1,h2⟩:=map_some (show(RL.keyOf kx).map _=some k from h);exact⟨RL.aB ks vs q,by show(RL.keyOf kx).map _=_;rw[h1];rfl,h2.symm⟩
 |dT ks vs=>
  cases kx with
  | tup kk=>obtain⟨q,h1,h2⟩:=map_some (show(RL.keysOf kk).map _=some k from h);exact⟨RL.aB ks vs q,by show(RL.keysOf kk).map _=_;rw[h1];rfl,h2.symm⟩
  | _=>cases h
 | fT ks=>exact absurd rfl (hn ks)
 | _=>cases kx<;>cases h
def Ans.isSome{P:Addr->Prop}{K:PySem.W.Frag}(h:Ans P K H o r):r.isSome=o.isSome:=by
 cases o with
 | none=>rw[show r=none from h];rfl
 | some d=>obtain⟨w,hw,_⟩:=h;rw[hw];rfl
def BE{κ:Type} [DecidableEq κ](kvs:List (κ × V))(k:κ):(dM kvs k).isSome=(kvs.map (·.1)).any fun x=>decide (x=k):=by
 induction kvs with
 | nil=>rfl
 |cons q r ih=>
  obtain⟨x,v⟩:=q;by_cases c:x=k
  ·rw[gJ c,List.map_cons,List.any_cons,decide_eq_true c];rfl
  ·rw[gB c,ih,List.map_cons,List.any_cons,decide_eq_false c];rfl
def vx{H:Hp}{y kx:RL.D}{v u:V}(ry:Rep nP X.K H y v)(rk:Rep nP X.K H kx u)(h:RL.qW y kx=some k):∃ q r,v=.ref q/\dD H q u r/\r.isSome=k:=by
 by_cases c:∃ ks,y=.fT ks
 ·obtain⟨ks,rfl⟩:=c
  cases kx with
  |tup kk=>
   obtain⟨kq,h1,h2⟩:=map_some (show(RL.keysOf kk).map _=some k from h);rw[Rep]at ry;obtain⟨q,o,kvs,rfl,f2,f3⟩:=ry;obtain⟨q',ys,rfl,g2,g3⟩:=bg rk;rw[ip h1 g3]at g2;refine⟨q,_,rfl,.inr ⟨kvs,kq,q',.inr ⟨o,f2⟩,rfl,g2,rfl⟩,?_⟩;rw[BE,f3];exact h2
  | _=>cases h
 ·obtain⟨o,h1,h2⟩:=C5 (fun ks z=>c ⟨ks,z⟩) h;obtain⟨q,r,e,g,an⟩:=rR ry rk h1;exact⟨q,r,e,g,by rw[an.isSome,h2]⟩
abbrev Ab(neg:Bool)(ty td:TE):TE:=if neg then sJ ty td else Ef ty td
def rQ(hu:X.A.units+100<cLine)(ha:SE X cl a a')(hb:SE X cl b b'):PC X (if neg then .NotIn else .In) a b (Ab neg (tE X.K cl a') (tE X.K cl b')):=by
 cases neg with
 | true=>exact xk (by lia) ha hb
 | false=>exact E3 (by lia) ha hb
def wF(rv:RV0 X.K σD σ H)(e:RL.ev cl σD (.inD neg a' b')=some d)(k:∀ t H',d=.bl t->aw H H'->Q (.bl t) H'):Ab neg (tE X.K cl a') (tE X.K cl b') σ H Q:=by
 obtain⟨x,ea,e⟩:=bind_some e;obtain⟨y,eb,e⟩:=bind_some e;obtain⟨t,e1,e2⟩:=map_some e
 cases neg with
 |true=>
  refine two rv ea eb fun v u H1 H2 s1 s2 rx ry _ _=>?_;obtain⟨q,r,rfl,g,an⟩:=vx ry rx e1;refine⟨q,r,rfl,g,k _ _ ?_ (s1.trans s2)⟩;rw[an,<-e2];rfl
 |false=>
  refine two rv ea eb fun v u H1 H2 s1 s2 rx ry _ _=>?_;obtain⟨q,r,rfl,g,an⟩:=vx ry rx e1;refine⟨q,r,rfl,g,k _ _ ?_ (s1.trans s2)⟩;rw[an,<-e2];rfl
def Ez(hu:X.A.units+100<cLine)(ha:SE X cl a a')(hb:SE X cl b b')(hm:kY b=true):SE X cl (.Compare a [if neg then .NotIn else .In] [b] pos) (.inD neg a' b'):=by
 refine PE.weak (EN (rQ hu ha hb) (hX hm)) fun σ H Q h=>?_;obtain⟨σD,d,rv,e,q⟩:=h
 exact wF rv e fun t H' hd sm=>by subst hd;exact q _ _ (cm sm)
def CP(hu:X.A.units+100<cLine)(ha:SE X cl a a')(hb:SE X cl b b')(hm:kY b=true):ST X cl (.Compare a [if neg then .NotIn else .In] [b] pos) (.inD neg a' b'):=by
 refine PT.weak (Dy (rQ hu ha hb) (hX hm)) fun σ H Q h=>?_;obtain⟨σD,k,rv,e,q⟩:=h;obtain⟨d,e1,e2⟩:=bind_some e;refine wF rv e1 fun t H' hd sm=>?_;subst hd;cases e2;exact⟨_,rfl,q _ sm⟩
def se{κ:Type} [DecidableEq κ]{x:κ}{d:RL.D}{v:V}{P:Addr->Prop}{K:PySem.W.Frag}{H:Hp}{ks:List κ}{ds:List RL.D}{xs:List V}(hl:ks.length=ds.length)(r:ab P K H ds xs)(rv:Rep P K H d v) :
  ∃ ys,putK (ks.zip xs) x v=(RL.putD ks ds x d).1.zip ys/\(RL.putD ks ds x d).1.length=(RL.putD ks ds x d).2.length/\ab P K H (RL.putD ks ds x d).2 ys:=by
 have hx:ks.length=xs.length:=hl.trans r.length
 have any:∀ (ks:List κ) (xs:List V),ks.length=xs.length->((ks.zip xs).any fun kv=>decide (kv.1=x))=decide (x∈ks):=by
  intro ks
  induction ks with
  | nil=>intro xs _;simp
  |cons k r ih=>
   intro xs h
   cases xs with
   | nil=>simp at h
   |cons y t=>
    rw[List.zip_cons_cons,List.any_cons,ih t (by simpa using h)];by_cases hk:k=x
    ·simp[hk]
    ·simp[hk,Ne.symm hk]
 unfold putK RL.putD;rw[any ks xs hx];by_cases hm:x∈ks
 ·rw[if_pos (by simpa using hm),if_pos hm];refine⟨List.zipWith (fun k w=>if k=x then v else w) ks xs,?_,?_,?_⟩
  ·clear any hm hl r
   induction ks generalizing xs with
   | nil=>simp
   |cons k t ih=>
    cases xs with
    | nil=>simp at hx
    |cons y t'=>
     rw[List.zip_cons_cons,List.map_cons,List.zipWith_cons_cons,List.zip_cons_cons,ih (by simpa using hx)];by_cases hk:k=x<;>simp[hk]
  ·rw[List.length_zipWith,hl,Nat.min_self]
  ·clear any hm hx
   induction ks generalizing ds xs with
   | nil=>simpa using ab.nil
   |cons k t ih=>
    cases ds with
    | nil=>simp at hl
    |cons d0 ds=>
     rw[ab]at r;obtain⟨y,t',rfl,r1,r2⟩:=r;rw[List.zipWith_cons_cons,List.zipWith_cons_cons];refine ab.cons ?_ (ih (by simpa using hl) r2);by_cases hk:k=x
     ·rw[if_pos hk,if_pos hk];exact rv
     ·rw[if_neg hk,if_neg hk];exact r1
 ·rw[if_neg (by simpa using hm),if_neg hm];refine⟨xs++[v],?_,by simp[hl],ab.append r (ab.cons rv ab.nil)⟩;rw[List.zip_append hx];rfl
def wH [DecidableEq κ](hd:d.imm=true):∀ {ks:List κ} {ds:List RL.D},RL.ao ds=true->RL.ao (RL.putD ks ds x d).2=true:=by
 have app:∀ l:List RL.D,RL.ao l=true->RL.ao (l++[d])=true:=fun l=>by
  induction l with
  | nil=>intro _;simp[RL.ao,hd]
  | cons z r ih=>intro h;rw[RL.ao,Bool.and_eq_true]at h;rw[List.cons_append,RL.ao,h.1,ih h.2];rfl
 have zw:∀ (ks:List κ) (ds:List RL.D),RL.ao ds=true->RL.ao (List.zipWith (fun k w=>if k=x then d else w) ks ds)=true:=fun ks=>by
  induction ks with
  | nil=>intro ds _;simp[RL.ao]
  |cons k r ih=>
   intro ds h
   cases ds with
   | nil=>simp[RL.ao]
   |cons y t=>
    rw[RL.ao,Bool.and_eq_true]at h;rw[List.zipWith_cons_cons,RL.ao,ih t h.2,Bool.and_true];by_cases hk:k=x
    ·rw[if_pos hk];exact hd
    ·rw[if_neg hk];exact h.1
 intro ks ds h;unfold RL.putD;split
 ·exact zw ks ds h
 ·exact app ds h
def Bl(h:PS X st (tZ (gK i) (tE X.K cl k') (tE X.K cl e')))(hi:M.contains i=true):PS X st (tS X.K M fun σD=>(RL.ev cl σD e').bind fun d=>(RL.ev cl σD k').bind fun kk=>((σD[i]?).bind id).bind fun l=>match l with
  | .lst _=>none
  | _=>if d.imm then(RL.eN l kk d).map fun l'=>(.nx,σD.set i (some l'))else none):=by
 refine PS.weak h fun D σ H h=>?_;obtain⟨σD,o,σD',rv,e,k⟩:=h;obtain⟨d,e1,e⟩:=bind_some e;obtain⟨kk,e2,e⟩:=bind_some e;obtain⟨l,e3,e⟩:=bind_some e;obtain⟨v,h1,h2⟩:=rv.val i _ (slot_get e3);rw[if_pos hi]at h2;obtain⟨q1,q2,q3⟩:=h2
 cases l with
 |dK ks ds=>
  dsimp only at e;split at e
  ·rename_i him;obtain⟨l',e4,e5⟩:=map_some e;cases e5;obtain⟨kx,e6,e7⟩:=bind_some (show(RL.keyOf kk).bind _=some l' from e4);split at e7
   ·rename_i hz;cases e7;rw[Rep]at q3;obtain⟨q,xs,rfl,_,f2,fl,f3⟩:=q3;refine⟨σD,d,rv.rv0,e1,fun y H1 r1=>⟨.ref q,h1,σD,kk,rv.rv0.same r1.same,e2,fun u H2 r2=>?_⟩⟩;have sm:=r1.same.trans r2.same;obtain⟨ys,p1,p2,p3⟩:=se (x:=kx) fl (f3.same sm) (r1.rep.same r2.same)
    have hlen:(ks.zip xs).length<sizeLine:=by
     rw[List.length_zip,<-f3.length,fl,Nat.min_self,<-fl];exact Nat.lt_of_lt_of_le hz bM
    refine⟨q,_,rfl,by rw[l4 e6 r2.rep];exact jO.k (sm _ _ f2) hlen,?_⟩;have im:=wH (x:=kx) him (ks:=ks) q2
    obtain⟨g1,g2⟩:=(rv.same sm).gN (d':=.dK (RL.putD ks ds kx d).1 (RL.putD ks ds kx d).2) (o':=.dK (putK (ks.zip xs) kx y)) hi h1 (sm _ _ f2) (.inr (.inl ⟨_,rfl⟩)) ⟨rfl,im,by
     rw[Rep]
     exact⟨q,ys,rfl,fun z=>z,by rw[aW,p1],p2,(ab.upd (P:=fun p=>p=q) (sm _ _ f2) (.inr (.inl ⟨_,rfl⟩)) rfl (p3.imm im)).imm im⟩⟩
    exact k _ _ g1 ((Fr'.same sm).trans g2)
   ·cases e7
  ·cases e
 |dT ks ds=>
  dsimp only at e;split at e
  ·rename_i him;obtain⟨l',e4,e5⟩:=map_some e;cases e5
   cases kk with
   |tup kt=>
    obtain⟨kx,e6,e7⟩:=bind_some (show(RL.keysOf kt).bind _=some l' from e4);split at e7
    ·rename_i hz;cases e7;rw[Rep]at q3;obtain⟨q,xs,rfl,_,f2,fl,f3⟩:=q3;refine⟨σD,d,rv.rv0,e1,fun y H1 r1=>⟨.ref q,h1,σD,.tup kt,rv.rv0.same r1.same,e2,fun u H2 r2=>?_⟩⟩;have sm:=r1.same.trans r2.same;obtain⟨ys,p1,p2,p3⟩:=se (x:=kx) fl (f3.same sm) (r1.rep.same r2.same)
     have hlen:(ks.zip xs).length<sizeLine:=by
      rw[List.length_zip,<-f3.length,fl,Nat.min_self,<-fl];exact Nat.lt_of_lt_of_le hz bM
     obtain⟨b,ws,rfl,g2,g3⟩:=bg r2.rep;rw[ip e6 g3]at g2;refine⟨q,_,rfl,jO.t (sm _ _ f2) g2 hlen,?_⟩;have im:=wH (x:=kx) him (ks:=ks) q2
     obtain⟨g1,g2⟩:=(rv.same sm).gN (d':=.dT (RL.putD ks ds kx d).1 (RL.putD ks ds kx d).2) (o':=.dT (putK (ks.zip xs) kx y)) hi h1 (sm _ _ f2) (.inr (.inr ⟨_,rfl⟩)) ⟨rfl,im,by
      rw[Rep]
      exact⟨q,ys,rfl,fun z=>z,by rw[aW,p1],p2,(ab.upd (P:=fun p=>p=q) (sm _ _ f2) (.inr (.inr ⟨_,rfl⟩)) rfl (p3.imm im)).imm im⟩⟩
     exact k _ _ g1 ((Fr'.same sm).trans g2)
    ·cases e7
   | _=>cases e4
  ·cases e
 | lst _=>cases e
 | _=>cases q1
end rules
end RS
namespace L2
open PySem PySem.Spec PyProof.Rows
abbrev Its(c lo:Int)(n:Nat):It:=⟨fun i _=>i<n,fun i H x H'=>H'=H/\x=.int (lo+i*c),fun i _=>n<=i⟩
def vT{P:Program}{w:World}{K:PySem.W.Frag}(it:Addr)(c lo:Int)(n:Nat):Turn P w K tg (Its c lo n) [it] it (fun i h=>IsRangeIter h it (lo+(i:Nat)*c) ((n:Int)-(i:Nat)) c) where
 mem:=by simp
 obj:=fun i h st b hb=>by
  rw[show b=it by simpa using hb];exact⟨_,st,fun v z=>by cases(show Data.fields _=Data.cell v from z)⟩
 keep:=fun i h h' st k=>k it (by simp) _ st
 item:=by
  intro X hP hw hK hc i pins s σ H E I hf st hg;subst hP hw hK;obtain⟨f0,f1,f2,f3,f4,f5⟩:=hf it (by simp);have W:=Walks.range (prog:=X.prog) (w:=X.w) (I.ok.hd.1 hc) it lo c n;refine W.item i s _ _ hg st fun v h' tk hv st' kk=>?_;obtain⟨t,rfl⟩:=hv;have I1:Inv X pins σ H { s with heap:=h',toks:=tk }:=I.turned (fun b o hb e=>kk b o (by simpa using hb) e) f0 f1 f3 f4 f5;exact⟨_,rfl,mj (s:={ s with heap:=h',toks:=tk }) (n := "range_iterator") st' rfl rfl (by decide) ⟨.int (lo+i*c),H,I1,⟨t,rfl⟩,⟨rfl,rfl⟩,st',fun b hb=>(hf b hb).1⟩⟩
 done:=by
  intro X hP hw hK hc i pins s σ H E I hf st hg;subst hP hw hK;obtain⟨f0,f1,f2,f3,f4,f5⟩:=hf it (by simp)
  exact wpAny_pyNext_range_end (I.ok.hd.1 hc) st (by have:n<=i:=hg;lia) fun h' eb=>⟨rfl,I.turned (t':=s.toks) (fun b o hb e=>eb b o hb e) f0 f1 f3 f4 f5⟩
 self:=fun _ _ _ _ _ st h=>wpAny_pyIter_rangeiter st h
end L2
namespace RS
open PySem PySem.Spec PyProof.Rows L2
def lM(c:Int):∀ (n:Nat) (lo:Int) (i:Nat) (d:RL.D),(RL.b8 c lo n)[i]?=some d->d=.int (lo+i*c)
 | 0,lo,i,d,h=>by simp[RL.b8]at h
 | n+1,lo,0,d,h=>by simp[RL.b8]at h;simp[h]
 | n+1,lo,i+1,d,h=>by
  rw[RL.b8,List.getElem?_cons_succ]at h;rw[lM c n (lo+c) i d h];congr 1;rw[show((i+1:Nat):Int)=(i:Int)+1 by lia,Int.add_mul];lia
def jy(c:Int):∀ (n:Nat) (lo:Int),(RL.b8 c lo n).length=n
 | 0,_=>rfl
 | n+1,lo=>by rw[RL.b8,List.length_cons,jy c n]
def tm{K:PySem.W.Frag}{H:Hp}{c lo:Int}:iB K (Its c lo n) (RL.b8 c lo n) P H where
 go:=fun H' i k hi=>by rw[jy]at hi;exact hi
 stop:=fun H' k=>by rw[jy];exact Nat.le_refl _
 yld:=fun H' i d x H2 k e y=>by
  obtain⟨z,y⟩:=y;subst z;refine⟨aw.refl _,fun _=>?_⟩;rw[lM c n lo i d e,y];exact aM
section rules
variable{st:Stmt}
def vG(hf:∀ a b,RL.a5 o (.int a) (.int b)=some (.int (f a b)))(h:PS X st (yO i (tE X.K cl e') (ipI f)))(hi:M.contains i=false):SS X cl M st (.aug i o e'):=by
 refine PS.weak h fun D σ H h=>?_;obtain⟨σD,ou,σD',rv,e,k⟩:=h;obtain⟨x,e1,e⟩:=bind_some e;obtain⟨y,e2,e⟩:=bind_some e
 cases x with
 |int a=>
  cases y with
  |int b=>
   dsimp only at e;rw[hf]at e;cases e;obtain⟨v,h1,h2⟩:=rv.val i _ (slot_get e1);rw[if_neg (by rw[hi];decide)]at h2;refine⟨v,h1,σD,.int b,rv.rv0,e2,fun u H1 r1=>⟨a,b,ai h2,ai r1.rep,?_⟩⟩;exact k _ _ ((rv.same r1.same).bind hi aM) (Fr'.bind hi r1.same)
  | _=>cases e
 | _=>cases e
end rules
abbrev mO(p:Addr)(a b c:Int):HO:=.ext fun h=>∃ t u v,IsRange h p a b c t u v
def rm(a b c:Int):0<=Builtin.Range.rangeSize a b c:=by
 unfold Builtin.Range.rangeSize;split
 ·split
  ·have:=Int.ediv_nonneg (a:=b-a-1) (b:=c) (by lia) (by lia);omega
  ·lia
 ·split
  ·by_cases h0:c=0
   ·subst h0;simp
   ·have:=Int.ediv_nonneg (a:=a-b-1) (b:=-c) (by lia) (by lia);omega
  ·lia
def yg(a b c:Int):Builtin.Range.rangeSize a b c<=(if a<b then b-a else a-b)+1:=by
 unfold Builtin.Range.rangeSize;split
 ·split
  ·have:=Int.ediv_le_self (a:=b-a-1) c (by lia);lia
  ·lia
 ·split
  ·have:=Int.ediv_le_self (a:=a-b-1) (-c) (by lia);split<;>omega
  ·split<;>lia
def jU(a b c:Int):(RL.bp c a b:Int)=Builtin.Range.rangeSize a b c:=Int.toNat_of_nonneg (rm a b c)
def jQ(ha:-(2 ^ 60)<=a)(ha':a<2 ^ 60)(hb:-(2 ^ 60)<=b)(hb':b<2 ^ 60)(hc:-(2 ^ 60)<=c)(hc':c<2 ^ 60):Builtin.Range.small a b c=true:=by
 have h1:=rm a b c;have h2:=yg a b c;unfold Builtin.Range.small;simp only[Builtin.Range.rangeFitsLong,Bool.and_eq_true,Bool.or_eq_true,decide_eq_true_eq,beq_iff_eq];refine⟨⟨⟨⟨?_,?_⟩,?_⟩,?_⟩,.inr ?_⟩
 ·lia
 ·lia
 ·lia
 ·split at h2<;>lia
 ·split<;>(rw[Bool.and_eq_true,decide_eq_true_eq,decide_eq_true_eq];lia)
section
variable{X:Cx}
abbrev pe(xs:List V)(a b c:Int):Prop:=(xs=[.int b]/\a=0/\c=1)\/(xs=[.int a,.int b]/\c=1)\/(xs=[.int a,.int b,.int c]/\c≠0/\c.natAbs<2 ^ 60)
def lu{pins:List (Addr × Obj)}{σ:L2.St}{H:Hp}{s:Shared}{a b c:Int}{t u v:Tok}{tk:Nat}(I:Inv X pins σ H s):Inv X pins σ (upd H s.heap.objs.size (mO s.heap.objs.size a b c)) { s with heap:=s.heap.push { cls:=.type "range",data:=.fields #[.int a t,.int b u,.int c v] },toks:=tk } :=
 I.laid (fun b u e=>Heap.get?_push_of_some _ e) (Nat.le_refl _) ⟨⟨t,u,v,IsRange.new _ a b c t u v⟩,⟨_,Heap.get?_push_size _ rfl⟩,fun h1 h2 ⟨t,u,v,e⟩ k=>⟨t,u,v,k _ e⟩⟩
def iS:aZ X (.type "range") (fun xs H Q=>∃ a b c,pe xs a b c/\∀ p,H p=none->Q (.ref p) (upd H p (mO p a b c))):=by
 intro pins s σ H xs us Q I r h;obtain⟨a,b,c,ha,q⟩:=h;have hf:H s.heap.objs.size=none:=I.hok.fresh (Nat.le_refl _)
 rcases ha with⟨rfl,rfl,rfl⟩ | ⟨rfl,rfl⟩ | ⟨rfl,hc,hc2⟩
 ·cases r with
  |cons r rr=>
   cases rr;obtain⟨t,rfl⟩:=r;exact call_range_1 ⟨.ref _,_,lu I,rfl,q _ hf⟩
 ·cases r with
  |cons r rr=>
   cases rr with
   |cons r2 rr=>
    cases rr;obtain⟨t,rfl⟩:=r;obtain⟨t2,rfl⟩:=r2;exact call_range_2 ⟨.ref _,_,lu I,rfl,q _ hf⟩
 ·cases r with
  |cons r rr=>
   cases rr with
   |cons r2 rr=>
    cases rr with
    |cons r3 rr=>
     cases rr;obtain⟨t,rfl⟩:=r;obtain⟨t2,rfl⟩:=r2;obtain⟨t3,rfl⟩:=r3;refine call_range_3 hc ⟨.ref _,_,lu I,rfl,q _ hf⟩ (.inl (PyProof.noPylong_of_log2 ?_));have:c.natAbs.log2<60:=(Nat.log2_lt (by lia)).mpr hc2;lia
abbrev cS(a c:Int)(n:Nat):List V:=(List.range n).map fun(i:Nat)=>V.int (a+(i:Int)*c)
def BI{a c:Int}{n:Nat}{acc:Array Value}(hI:ItemsOf (fun i v=>∃ t,v=.int (a+i*c) t) acc n):Vals (cS a c n) acc.toList:=by
 have len:(cS a c (n)).length=acc.toList.length:=by
  simp only[cS,List.length_map,List.length_range,Array.length_toList,hI.1]
 have gen:∀ (xs:List V) (us:List Value),xs.length=us.length->(∀ (i:Nat) u,us[i]?=some u->∃ x,xs[i]?=some x/\RelV x u)->Vals xs us:=by
  intro xs
  induction xs with
  | nil=>intro us h _;cases us with
   | nil=>exact .nil
   | cons _ _=>cases h
  | cons x r ih=>intro us h g;cases us with
   | nil=>cases h
   |cons u us=>
    obtain⟨x',e1,e2⟩:=g 0 u rfl;cases e1
    exact .cons e2 (ih us (by simpa using h) fun i u hu=>by
     obtain⟨y,e3,e4⟩:=g (i+1) u (by simpa using hu)
     exact⟨y,by simpa using e3,e4⟩)
 refine gen _ _ len fun i u hu=>?_
 have hu':acc[i]?=some u:=by simpa using hu
 obtain⟨tk,rfl⟩:=hI.2 i u hu'
 have hi:i<n:=by
  have:=(Array.getElem?_eq_some_iff.mp hu').1;rw[hI.1]at this;exact this
 exact⟨.int (a+(i:Int)*c),by simp[cS,hi],tk,rfl⟩
def fV(hc:X.calm=true):aZ X (.type "list") (fun xs H Q=>∃ p a b c,xs=[.ref p]/\H p=some (mO p a b c)/\Builtin.Range.small a b c=true/\RL.bp c a b<=RL.most /\
  ∀ l,H l=none->Q (.ref l) (upd H l (.lst (cS a c (RL.bp c a b))))):=by
 intro pins s σ H xs us Q I r h;obtain⟨p,a,b,c,rfl,hp,hs,hn,q⟩:=h
 cases r with
 |cons r rr=>
  cases rr;cases r;obtain⟨⟨t,u,v,hR⟩,_,_⟩:=I.hok p _ hp;refine call_list_range (I.ok.hd.1 hc) hR hs (jU a b c).symm (Nat.le_trans hn (by decide)) fun h' tk acc c' hk hS hI=>?_;have hf:H s.heap.objs.size=none:=I.hok.fresh (Nat.le_refl _);refine⟨.ref s.heap.objs.size,upd H s.heap.objs.size (.lst (cS a c (RL.bp c a b))),I.laid hk (Nat.le_refl _) (show _/\_ from⟨?_,acc.toList,c',?_,?_⟩),rfl,q _ hf⟩
  ·simp only[cS,List.length_map,List.length_range];exact Nat.le_trans hn bM
  ·exact BI hI
  ·rw[Array.toArray_toList];exact hS
def oj{P:Addr->Prop}{K:PySem.W.Frag}:∀ (n:Nat) (a c:Int),ab P K H (RL.b8 c a n) (cS a c n)
 | 0,a,c=>ab.nil
 | n+1,a,c=>by
  have e:cS a c (n+1)=V.int a::cS (a+c) c n:=by
   simp only[cS,List.range_succ_eq_map,List.map_cons,List.map_map];congr 1
   ·simp
   ·apply List.map_congr_left;intro i _;show V.int (a+((i+1:Nat):Int)*c)=V.int (a+c+(i:Int)*c);congr 1;rw[show((i+1:Nat):Int)=(i:Int)+1 by lia,Int.add_mul];lia
  rw[RL.b8,e];exact ab.cons aM (oj n (a+c) c)
def lE:∀ (n:Nat) (a:Int),RL.cu a n=RL.b8 1 a n
 | 0,_=>rfl
 | n+1,a=>by rw[RL.cu,RL.b8,lE n]
def gg(a b:Int):RL.bp 1 a b=(b-a).toNat:=by
 have h:=jU a b 1;rw[rangeSize_one]at h;split at h<;>lia
def qU{σD:RL.St}{σ:L2.St}{H H1:Hp}{e:RL.E}{Q:VK}{vs:List V}{a b c:Int}{ds:List RL.D}(hv:pe vs a b c)(hd:ds=RL.b8 c a (RL.bp c a b))(hn:RL.bp c a b<=RL.most)(hs:Builtin.Range.small a b c=true)(sm:aw H H1)
 (hav:∀ M,RL.avE M e=false)(k:∀ v H',Res X.K σD σ H e (.lst ds) v H'->Q v H') :
  ∃ a b c,pe vs a b c/\∀ p,H1 p=none->(fun xs H Q=>∃ p a b c,xs=[V.ref p]/\H p=some (mO p a b c)/\Builtin.Range.small a b c=true/\RL.bp c a b<=RL.most/\∀ l,H l=none->Q (.ref l) (upd H l (.lst (cS a c (RL.bp c a b))))) [.ref p] (upd H1 p (mO p a b c)) Q:=by
 refine⟨a,b,c,hv,fun p hp=>⟨p,a,b,c,rfl,aW,hs,hn,fun l hl=>k _ _ ?_⟩⟩;subst hd;exact cT (sm.trans (aw.bE hp)) hl (oj _ _ _) hav
def B6(hc:X.calm=true)(hgl:Gl X "list")(hml:X.mg "list" = none)(hg:Gl X "range")(hm:X.mg "range" = none)(ha:SE X cl a a')(hn:noStar a=true){p2 pos2:Pos}:SE X cl (.Call (.Name "list" p2) [.Call (.Name "range" p) [a] [] pos] [] pos2) (.rng1 a'):=by
 refine PE.weak (bV (fV hc) hgl hml (by decide +kernel) (bx (bV iS hg hm boot_range (ba (cl:=cl) ha bP hn) (by decide) (by decide) (ax [] hn) rfl) cP rfl) (by decide) (by decide) rfl rfl) fun σ H Q h=>?_;obtain⟨σD,d,rv,e,k⟩:=h;obtain⟨x,ea,e⟩:=bind_some e;obtain⟨ds,e1,e2⟩:=map_some e;subst e2;obtain⟨i,j,e3,rfl,hb,hm2,rfl⟩:=lZ e1;cases e3
 have hb2:-(2 ^ 60)<=j/\j<2 ^ 60:=by
  simp only[RL.dm]at e1;split at e1
  ·lia
  ·cases e1
 refine one rv ea fun v H1 s1 r1=>?_;exact qU (a:=0) (b:=j) (c:=1) (.inl ⟨by rw[ai r1],rfl,rfl⟩) (by rw[lE,gg]) (by rw[gg];exact hm2) (jQ (by decide) (by decide) hb2.1 hb2.2 (by decide) (by decide)) s1 (fun _=>rfl) k
def B7(hc:X.calm=true)(hgl:Gl X "list")(hml:X.mg "list" = none)(hg:Gl X "range")(hm:X.mg "range" = none)(ha:SE X cl a a')(hb:SE X cl b b')(hn:noStar a=true)(hn2:noStar b=true){p2 pos2:Pos}:SE X cl (.Call (.Name "list" p2) [.Call (.Name "range" p) [a,b] [] pos] [] pos2) (.rng2 a' b'):=by
 refine PE.weak (bV (fV hc) hgl hml (by decide +kernel) (bx (bV iS hg hm boot_range (ba (cl:=cl) ha (ba hb bP hn2) hn) (by decide) (by decide) (ax _ hn) (dI (by simp[hn2]))) cP rfl) (by decide) (by decide) rfl rfl) fun σ H Q h=>?_;obtain⟨σD,d,rv,e,k⟩:=h;obtain⟨x,ea,e⟩:=bind_some e;obtain⟨y,eb,e⟩:=bind_some e;obtain⟨ds,e1,e2⟩:=map_some e;subst e2;obtain⟨i,j,rfl,rfl,hb,hm2,rfl⟩:=lZ e1
 have hb2:(-(2 ^ 60)<=i/\i<2 ^ 60)/\-(2 ^ 60)<=j/\j<2 ^ 60:=by
  simp only[RL.dm]at e1;split at e1
  ·lia
  ·cases e1
 refine pair rv ea eb fun v u H1 s1 r1 r2=>?_;exact qU (a:=i) (b:=j) (c:=1) (.inr (.inl ⟨by rw[ai r1,ai r2],rfl⟩)) (by rw[lE,gg]) (by rw[gg];exact hm2) (jQ hb2.1.1 hb2.1.2 hb2.2.1 hb2.2.2 (by decide) (by decide)) s1 (fun _=>rfl) k
abbrev ju(c:Int):Expr->Bool
 | .Constant (.int i) _ _=>i == c
 | .UnaryOp .USub (.Constant (.int i) _ _) _=>-i == c
 | _=>false
def kB(h:ju c e=true):PE X e (tC (.int c))/\noStar e=true:=by
 unfold ju at h;split at h
 ·rw[beq_iff_eq]at h;subst h;exact⟨qD,rfl⟩
 ·rw[beq_iff_eq]at h;subst h;exact⟨PE.weak (zF x3 qD) fun σ H Q q=>⟨_,rfl,q⟩,rfl⟩
 ·cases h
def sV(h:RL.dS c x y=some ds):∃ i j:Int,x=.int i/\y=.int j/\c≠0/\c.natAbs<2 ^ 60/\Builtin.Range.small i j c=true/\RL.bp c i j<=RL.most/\ds=RL.b8 c i (RL.bp c i j):=by
 cases x<;>cases y<;>simp only[RL.dS]at h<;>first
  | (cases h;done)
  | (split at h
     ·rename_i i j hc;cases h;exact⟨i,j,rfl,rfl,hc.1,by omega,jQ hc.2.2.2.2.1 hc.2.2.2.2.2.1 hc.2.2.2.2.2.2.1 hc.2.2.2.2.2.2.2 (by omega) hc.2.2.1,hc.2.2.2.1,rfl⟩
     ·cases h)
def rP(ha:SE X cl a a')(hb:SE X cl b b')(hn:noStar a=true)(hn2:noStar b=true)(h3:ju c e3=true):PA X [a,b,e3] (fun σ H R=>tE X.K cl a' σ H fun v H1=>tE X.K cl b' σ H1 fun u H2=>R [v,u,.int c] H2) :=
 bx ha (bx hb (bx (kB h3).1 cP (ax [] (kB (X:=X) h3).2)) (ax _ hn2)) (ax _ hn)
def BK{c:Int}{e3:Expr}(hc:X.calm=true)(hgl:Gl X "list")(hml:X.mg "list" = none)(hg:Gl X "range")(hm:X.mg "range" = none)(ha:SE X cl a a')(hb:SE X cl b b')(hn:noStar a=true)(hn2:noStar b=true)(h3:ju c e3=true){p2 pos2:Pos} :
  SE X cl (.Call (.Name "list" p2) [.Call (.Name "range" p) [a,b,e3] [] pos] [] pos2) (.rng3 c a' b'):=by
 refine PE.weak (bV (fV hc) hgl hml (by decide +kernel) (bx (bV iS hg hm boot_range (rP (cl:=cl) ha hb hn hn2 h3) (by decide) (by decide) (ax _ hn) (dI (by simp[hn2,(kB (X:=X) h3).2]))) cP rfl) (by decide) (by decide) rfl rfl) fun σ H Q h=>?_;obtain⟨σD,d,rv,e,k⟩:=h;obtain⟨x,ea,e⟩:=bind_some e;obtain⟨y,eb,e⟩:=bind_some e;obtain⟨ds,e1,e2⟩:=map_some e;subst e2;obtain⟨i,j,rfl,rfl,h0,h1,h2,h3,rfl⟩:=sV e1;refine two rv ea eb fun v u H1 H2 s1 s2 rx ry _ _=>?_;exact qU (a:=i) (b:=j) (c:=c) (.inr (.inr ⟨by rw[ai rx,ai ry],h0,h1⟩)) rfl h3 h2 (s1.trans s2) (fun _=>rfl) k
def Bg(hg:Gl X "range")(hm:X.mg "range" = none)(ha:SE X cl a a')(hb:SE X cl b b')(hn:noStar a=true)(hn2:noStar b=true)(h3:ju c e3=true) :
  SI X cl tg (.Call (.Name "range" p) [a,b,e3] [] pos) (.rng3 c a' b'):=by
 intro pins s σ H R I h;obtain⟨σD,ds,rv,e,k⟩:=h;obtain⟨x,ea,e⟩:=bind_some e;obtain⟨y,eb,e⟩:=bind_some e;obtain⟨i,j,rfl,rfl,h0,h1,hs,hl,rfl⟩:=sV e;refine thn (bV iS hg hm boot_range (rP (cl:=cl) ha hb hn hn2 h3) (by decide) (by decide) (ax _ hn) (dI (by simp[hn2,(kB (X:=X) h3).2])) pins s σ H (fun x H2=>∃ p,x=.ref p/\H2 p=some (mO p i j c)/\aw H H2) I ?_) ?_
 ·exact two rv ea eb fun v u H1 H2 s1 s2 rx ry _ _=>⟨i,j,c,.inr (.inr ⟨by rw[ai rx,ai ry],h0,h1⟩),fun p hp=>⟨p,rfl,aW,(s1.trans s2).trans (aw.bE hp)⟩⟩
 ·rintro v s1 ⟨x,H1,I1,r1,q,rfl,hq,sm⟩;cases r1;obtain⟨⟨t,u,v,hR⟩,_,_⟩:=I1.hok q _ hq;refine wpAny_pyIter_range hR hs ⟨s1.heap.objs.size,[s1.heap.objs.size],_,Its c i (RL.bp c i j),H1,rfl,I1.kept (t':=s1.toks) fun b o e=>Heap.get?_push_of_some _ e,vT _ c i _,?_,fun b hb=>?_,k _ _ sm ⟨tm,fun _ _ _ _ _=>tm⟩⟩
  ·have e1:i+((0:Nat):Int)*c=i:=by simp
   have e2:((RL.bp c i j:Nat):Int)-((0:Nat):Int)=Builtin.Range.rangeSize i j c:=by rw[jU];simp
   show IsRangeIter _ _ (i+((0:Nat):Int)*c) (((RL.bp c i j:Nat):Int)-((0:Nat):Int)) c;rw[e1,e2];exact Heap.get?_push_size _ rfl
  ·rw[show b=s1.heap.objs.size by simpa using hb];exact I1.l6 (Nat.le_refl _) (I1.hok.fresh (Nat.le_refl _))
def Bw(hl:SE X cl l e'):SI X cl tg l (.seq e'):=by
 refine PI.weak (Cy (cl:=cl) hl trivial) fun σ H R h=>?_;obtain⟨σD,ds,rv,e,k⟩:=h;obtain⟨d,e1,e2⟩:=bind_some e;exact⟨σD,d,ds,rv,e1,e2,k⟩
def ED(ha:SE X cl a a'):SE X cl (.UnaryOp .USub a pos) (.neg a'):=by
 refine PE.weak (zF x3 ha) fun σ H Q h=>?_;obtain⟨σD,d,rv,e,k⟩:=h;obtain⟨x,ea,e⟩:=bind_some e
 cases x with
 | int i=>cases e;exact⟨σD,_,rv,ea,fun v H1 r1=>⟨i,ai r1.rep,k _ _ (bU r1.same aM rfl)⟩⟩
 | _=>cases e
def EC(hc:X.calm=true)(hg:Gl X "min")(hm:X.mg "min" = none)(ha:SE X cl a a')(hb:SE X cl b b')(hn:noStar a=true)(hn2:noStar b=true):SE X cl (.Call (.Name "min" p) [a,b] [] pos) (.min a' b'):=by
 refine PE.weak (fg (xy hc) hg hm (by decide +kernel) (ba (cl:=cl) ha (ba hb bP hn2) hn) (by decide) (by decide) (ax _ hn) (dI (by simp[hn2]))) fun σ H Q h=>?_;obtain⟨σD,d,rv,e,k⟩:=h;obtain⟨u,ea,e⟩:=bind_some e;obtain⟨v,eb,e⟩:=bind_some e
 cases u with
 |int i=>
  cases v with
  |int j=>
   cases e
   exact pair rv ea eb fun v u H1 s1 r1 r2=>⟨i,j,by rw[ai r1,ai r2],k _ _ (bU s1 aM rfl)⟩
  | _=>cases e
 | _=>cases e
end
abbrev mAt(mp:List Nat)(vs:List V):Addr->Prop:=fun a=>∃ p,p∈mp/\vs[p]?=some (.ref a)
structure Dm(K:PySem.W.Frag)(mp:List Nat)(ds:List RL.D)(vs:List V)(H:Hp):Prop where
 yI:ab nP K H ds vs
 own:∀ p∈mp,∃ d a,ds[p]?=some d/\vs[p]?=some (.ref a)/\Own K H d (.ref a)
 sep:∀ p∈mp,∀ q∈mp,∀ a,vs[p]?=some (.ref a)->vs[q]?=some (.ref a)->p=q
 oth:∀ (q:Nat) d v,q∉mp->ds[q]?=some d->vs[q]?=some v->Rep (mAt mp vs) K H d v
structure HN(K:PySem.W.Frag)(mp:List Nat)(outs:List RL.D)(vs:List V)(H:Hp):Prop where
 len:outs.length=mp.length
 own:∀ (k p:Nat) o,mp[k]?=some p->outs[k]?=some o->∃ a,vs[p]?=some (.ref a)/\Own K H o (.ref a)
abbrev spM(K:PySem.W.Frag)(cl:RL.Cl)(mp:List Nat)(f:Nat):Sp:=fun vs H Q _=>∃ ds d outs,cl f ds=some (.tup (d::outs))/\Dm K mp ds vs H/\∀ v H',Off (mAt mp vs) H H'->Rep nP K H' d v->d.imm=true->HN K mp outs vs H'->Q v H'
section
variable{K:PySem.W.Frag}
def Own.off(h:Own K H d (.ref a))(hm:∀ b o,P b->H b=some o->cx o)(k:Off P H H1)(n:¬ P a):Own K H1 d (.ref a):=by
 obtain⟨q1,q2,q3⟩:=h;refine⟨q1,q2,?_⟩;have im:∀ {ds:List RL.D} {xs:List V},RL.ao ds=true->ab nP K H ds xs->ab nP K H1 ds xs:=fun hi r=>((r.imm hi).off hm k).imm hi
 cases d with
 | lst ds=>obtain⟨b',xs,e1,e0,e2,e3⟩:=az q3;cases e1;rw[Rep];exact⟨a,xs,rfl,fun z=>z,k _ _ n e2,im q2 e3⟩
 | dK ks ds=>rw[Rep]at q3 ⊢;obtain⟨b',xs,e1,e0,e2,el,e3⟩:=q3;cases e1;exact⟨a,xs,rfl,fun z=>z,k _ _ n e2,el,im q2 e3⟩
 | dT ks ds=>rw[Rep]at q3 ⊢;obtain⟨b',xs,e1,e0,e2,el,e3⟩:=q3;cases e1;exact⟨a,xs,rfl,fun z=>z,k _ _ n e2,el,im q2 e3⟩
 | _=>cases q1
def nC:∀ {ms:List Nat} {outs:List RL.D} {σD:RL.St} {k i:Nat} {o:RL.D},ms.Nodup->ms[k]?=some i->outs[k]?=some o->i<σD.length->(dF ms outs σD)[i]?=some (some o)
 | [],_,_,_,_,_,_,e,_,_=>by simp at e
 | m::ms,[],_,_,_,_,_,_,e,_=>by simp at e
 | m::ms,d::ds,σD,0,i,o,nd,e1,e2,hl=>by
  simp at e1 e2;subst e1 e2;rw[dF,kz _ _ _ _ (by simpa using(List.nodup_cons.mp nd).1),List.getElem?_set_self hl]
 | m::ms,d::ds,σD,k+1,i,o,nd,e1,e2,hl=>by
  rw[dF];exact nC (List.nodup_cons.mp nd).2 (by simpa using e1) (by simpa using e2) (by simpa using hl)
def RVm.changed(h:RVm K M σD σ H)(hms:∀ i∈ms,M.contains i=true)(nd:ms.Nodup)(len:ms.length=outs.length)(k:Off (fun a=>∃ i∈ms,σ[i]?=some (some (.ref a))) H H1)
 (ow:∀ (k i:Nat) o,ms[k]?=some i->outs[k]?=some o->∃ a,σ[i]?=some (some (.ref a))/\Own K H1 o (.ref a)):RVm K M (dF ms outs σD) σ H1/\Fr' M σ H σ H1:=by
 have sub:∀ a,(∃ i∈ms,σ[i]?=some (some (.ref a)))->bc M σ a:=fun a ⟨i,hi,e⟩=>⟨i,hms i hi,e⟩
 have offA:Off (bc M σ) H H1:=fun b o n e=>k b o (fun z=>n (sub b z)) e
 have hmA:∀ b o,bc M σ b->H b=some o->cx o:=fun b o p e=>by
  obtain⟨o',e',m⟩:=h.xI b p;rw[e]at e';cases e';exact m
 have at_:∀ i,i∈ms->∃ (kk:Nat) (o:RL.D),ms[kk]?=some i/\outs[kk]?=some o:=fun i hi=>by
  obtain⟨kk,hk,e⟩:=List.getElem_of_mem hi;exact⟨kk,outs[kk]'(by lia),by simp[hk,e],by simp⟩
 refine⟨⟨by rw[l8];exact h.len,fun i d e=>?_,fun i v e=>?_,h.sep⟩,⟨fun b o e n=>⟨offA b o n e,n⟩,fun _ _=>rfl⟩⟩
 ·by_cases hi:i∈ms
  ·obtain⟨kk,o,e1,e2⟩:=at_ i hi
   have hl:i<σD.length:=by
    have:=(List.getElem?_eq_some_iff.mp e).1;rw[l8]at this;exact this
   rw[nC nd e1 e2 hl]at e;cases e;obtain⟨a,q1,q2⟩:=ow kk i _ e1 e2;exact⟨.ref a,q1,by rw[if_pos (hms i hi)];exact q2⟩
  ·rw[kz _ _ _ _ (by simpa using hi)]at e;obtain⟨v,h1,h2⟩:=h.val i d e;refine⟨v,h1,?_⟩;by_cases hm:M.contains i=true
   ·rw[if_pos hm]at h2 ⊢;obtain⟨a,o,rfl,_,_⟩:=h2.ref;refine h2.off (fun b o p e=>hmA b o (sub b p) e) k fun⟨j,hj,ej⟩=>?_;exact hi (h.sep i j a hm (hms j hj) h1 ej▸hj)
   ·rw[if_neg hm]at h2 ⊢;exact h2.off hmA offA
 ·obtain⟨d,hd⟩:=h.non i v e;by_cases hi:i∈ms
  ·obtain⟨kk,o,e1,e2⟩:=at_ i hi;exact⟨o,nC nd e1 e2 (List.getElem?_eq_some_iff.mp hd).1⟩
  ·exact⟨d,by rw[kz _ _ _ _ (by simpa using hi)];exact hd⟩
end
section rules
variable{X:Cx}{st:Stmt}
end rules
end RS
namespace L2
open PySem PySem.Spec PyProof.Rows
abbrev jV(A:Around)(h:Heap):Prop:=A.handled=none\/∃ x o vs,A.handled=some (.ref x)/\h.get? x=some o/\o.data=.fields vs/\vs[2]?=some .none
def jV.keeps(x:jV A h)(k:∀ b o vs,h.get? b=some o->o.data=.fields vs->A.handled=some (.ref b)->h'.get? b=some o):jV A h':=by
 rcases x with z | ⟨y,o,vs,h1,h2,h3,h4⟩
 ·exact .inl z
 ·exact .inr ⟨y,o,vs,h1,k _ _ _ h2 h3 h1,h3,h4⟩
section
def oE:entryFor table "proto.unchain" = some Builtin.«proto.unchain»:=entryFor_of_tree (by kernel_rfl)
def xX(hd:jV A s.heap)(he:s.heap.get? e=some oe)(hf:oe.data=.fields vs)(hz:2<vs.size)(ne:A.handled≠some (.ref e))
 (k:∀ h',Heap.SameBut e s.heap h'->(∃ o,h'.get? e=some o/\o.cls=oe.cls)->E (.ref e) { s with heap:=h' }):wpAny (model prog w) A (raiseNew (.ref e):Sem α) Q E s:=by
 unfold raiseNew;refine wpAny_bind (wpAny_handled ?_)
 rcases hd with z | ⟨x,o,ws,h1,h2,h3,h4⟩
 ·rw[z];exact wpAny_bind (wpAny_pure (wpAny_throw (k s.heap (.refl ..) ⟨oe,he,rfl⟩)))
 ·rw[h1]
  have nx:(Value.ref x != Value.ref e)=true:=by
   rw[bne_iff_ne];intro q;exact ne (by rw[h1,q])
  dsimp only;rw[if_pos nx];refine wpAny_bind (wpAny_holding (wpAny_runValue (codeAny_builtin oE ?_)));unfold Builtin.«proto.unchain»;refine wpAny_bind (wpAny_field h2 h3 h4 ?_);rw[if_pos (by decide)];refine wpAny_bind (wpAny_pure (wpAny_pure ?_));show wpAny _ _ _ _ _ _;refine wpAny_bind ?_;show wpAny _ _ (setField (.ref e) 2 (.ref x)) _ _ _;refine wpAny_setField he hf hz (wpAny_throw (k _ (.update ..) ⟨_,Heap.get?_update_self _ he (Obj.isFreed_of_fields (Obj.data_mapFields hf _)),Obj.cls_mapFields ..⟩))
def sQ(hd:jV A s.heap)(k:∀ h' e,(∀ b o,s.heap.get? b=some o->h'.get? b=some o)->(∃ o,h'.get? e=some o/\o.cls=.type "StopIteration")->E (.ref e) { s with heap:=h' }) :
  wpAny (model prog w) A (newExc (.type "StopIteration") []) (fun e s'=>wpAny (model prog w) A (raiseNew e:Sem α) Q E s') E s:=by
 simp only[newExc,newTuple];apply wpAny_bind;refine wpAny_newObj_type ?_ (by size_fits);apply wpAny_bind (m:=firstArgMember _ _);refine wpAny_of_eq (a:=Value.none) (by first | rfl | (simp only[firstArgMember];rfl)) ?_;refine wpAny_newObj_type ?_ (by size_fits);have hs:∀ b o,s.heap.get? b=some o->b≠(s.heap.push { cls:=.type "tuple",data:=.seq ([]:List Value).toArray }).objs.size:=fun b o e=>Nat.ne_of_lt (by rw[Heap.size_push];exact Nat.lt_succ_of_lt (Heap.lt_size e));refine xX (hd.keeps fun b o vs e _ _=>Heap.get?_push_of_some _ (Heap.get?_push_of_some _ e)) (Heap.get?_push_size _ rfl) rfl (Nat.lt_of_lt_of_le (by decide:2<6) (by simp)) (fun q=>?_) fun h' sb ho=>k h' _ (fun b o e=>(sb.2 b (hs b o e)).trans (Heap.get?_push_of_some _ (Heap.get?_push_of_some _ e))) ho
 rcases hd with z | ⟨x,o,ws,h1,h2,_,_⟩
 ·rw[z]at q;cases q
 ·rw[h1]at q;cases q;exact hs _ _ h2 rfl
def oz{it l:Addr}{i:Nat}(hd:jV A s.heap)(ni:A.handled≠some (.ref it))(ho:s.heap.get? it=some o)(hdt:o.data=.fields #[.ref l,.int i 0])(hol:s.heap.get? l=some ol)(hdl:ol.data=.seq its nl)(hx:its[i]?=none)
 (k:∀ h' e,Heap.ExtBut it s.heap h'->(∃ o,h'.get? e=some o/\o.cls=.type "StopIteration")->E (.ref e) { s with heap:=h' }):wpAny (model prog w) A (Builtin.«list_iterator.__next__» ⟨[.ref it],[]⟩) Q E s:=by
 have n0:¬ ((Value.ref l == Value.none)=true):=Bool.false_ne_true;refine show wpAny _ _ (field (.ref it) 0 >>= _) _ _ s from wpAny_bind (wpAny_field ho hdt (x:=.ref l) rfl ?_);refine show wpAny _ _ (if(Value.ref l == Value.none)=true then _ else _) _ _ s from ?_;rw[if_neg n0];refine show wpAny _ _ (field (.ref it) 1 >>= _) _ _ s from wpAny_bind (wpAny_field ho hdt (x:=.int i 0) rfl ?_);refine show wpAny _ _ (seqItems? (.ref l) >>= _) _ _ s from wpAny_bind (wpAny_seqItems hol hdl ?_);simp only[Int.toNat_natCast,hx];refine wpAny_bind (wpAny_rule (wpAny_bind (wpAny_setField ho hdt (by simp) ?_)));refine show wpAny _ _ (newExc (.type "StopIteration") [] >>= _) _ _ _ from wpAny_bind ?_;have sb:=Heap.SameBut.update s.heap it (Obj.mapFields (·.setIfInBounds 0 Value.none));refine sQ (hd.keeps fun b u vs e _ hb=>(sb.2 b fun z=>ni (z▸hb)).trans e) fun h' e kk he=>k h' e (fun b u hb q=>kk b u ((sb.2 b hb).trans q)) he
def oH{it l:Addr}{i:Nat}(hd:jV A s.heap)(ni:A.handled≠some (.ref it))(hit:s.heap.IsListIter it l i)(hl:s.heap.IsList l its)(hx:its[i]?=none)
 (k:∀ h' e,Heap.ExtBut it s.heap h'->(∃ o,h'.get? e=some o/\o.cls=.type "StopIteration")->E (.ref e) { s with heap:=h' }):wpAny (model prog w) A (Builtin.SmallTypes.nextOf (.ref it)) Q E s:=by
 obtain⟨o,ho,hc,hdt⟩:=id hit;obtain⟨ol,hol,_,nl,hdl⟩:=hl;unfold Builtin.SmallTypes.nextOf;apply wpAny_bind;apply wpAny_callSpecial?_slot (name:=Str.ofString "__next__") hit.typeIs slot_listiter_next;refine wpAny_call_entry slot_listiter_next hit.typeIs entry_listiter_next ?_ (args_listiter_next _);exact oz hd ni ho hdt hol hdl hx k
end
section
def rj(hi:z.heap.IsTupleIter ti tp i)(ht:z.heap.IsTuple tp its)(hx:its[i]?=some x)
 (k:∀ g,g.IsTupleIter ti tp (i+1)->Heap.SameBut ti z.heap g->Q x { z with heap:=g }):wpAny (model prog w) A (Builtin.SmallTypes.nextOf (.ref ti)) Q E z:=by
 have hty:=hi.typeIs;obtain⟨⟨c1,d1,f1,s1⟩,g1,c1',f1'⟩:=hi;obtain⟨⟨c2,d2,f2,s2⟩,g2,c2',n2,f2'⟩:=ht;dsimp only at c1' f1' c2' f2';subst c1' f1' c2' f2';obtain⟨hp,g,d,tk,os⟩:=z;unfold Builtin.SmallTypes.nextOf;refine wpAny_bind (wpAny_callSpecial?_slot (name:=Str.ofString "__next__") hty F.slot_tuple_iterator_next (wpAny_call_entry F.slot_tuple_iterator_next hty F.entry_tuple_iterator_next ?_ (F.args_tuple_iterator_next_1 _)));unfold Builtin.«tuple_iterator.__next__»
 wp_walk using AutoSeq1.wpAny_loadPart' g1,AutoSeq1.wpAny_loadPart' g2
 have e:its[((i:Nat):Int).toNat]?=some x:=hx;rw[e];dsimp only;apply wpAny_bind;apply wpAny_setField g1 rfl (by simp);apply wpAny_pure;refine⟨x,rfl,?_⟩;apply wpAny_pure;apply k
 ·exact⟨_,Heap.get?_update_self _ g1 rfl,rfl,by simp[Obj.mapFields,rawInt]⟩
 ·exact Heap.SameBut.update ..
def sW(hd:jV A z.heap)(ni:A.handled≠some (.ref ti))(hi:z.heap.IsTupleIter ti tp i)(ht:z.heap.IsTuple tp its)(hx:its[i]?=none)
 (k:∀ g e,Heap.ExtBut ti z.heap g->(∃ o,g.get? e=some o/\o.cls=.type "StopIteration")->E (.ref e) { z with heap:=g }):wpAny (model prog w) A (Builtin.SmallTypes.nextOf (.ref ti)) Q E z:=by
 have hty:=hi.typeIs;obtain⟨⟨c1,d1,f1,s1⟩,g1,c1',f1'⟩:=hi;obtain⟨⟨c2,d2,f2,s2⟩,g2,c2',n2,f2'⟩:=ht;dsimp only at c1' f1' c2' f2';subst c1' f1' c2' f2';obtain⟨hp,g,d,tk,os⟩:=z;unfold Builtin.SmallTypes.nextOf;refine wpAny_bind (wpAny_callSpecial?_slot (name:=Str.ofString "__next__") hty F.slot_tuple_iterator_next (wpAny_call_entry F.slot_tuple_iterator_next hty F.entry_tuple_iterator_next ?_ (F.args_tuple_iterator_next_1 _)));unfold Builtin.«tuple_iterator.__next__»
 wp_walk using AutoSeq1.wpAny_loadPart' g1,AutoSeq1.wpAny_loadPart' g2
 have e:its[((i:Nat):Int).toNat]?=none:=hx;rw[e];dsimp only;apply wpAny_bind;apply wpAny_rule;apply wpAny_bind;apply wpAny_setField g1 rfl (by simp);unfold Builtin.SmallTypes.stopIteration;apply wpAny_bind;refine sQ (hd.keeps fun b u vs e _ hb=>(Heap.SameBut.update ..).extBut b u (fun z=>ni (z▸hb)) e) fun g e kp hc=>k g e (fun b o hb q=>kp b o ?_) hc;exact(Heap.SameBut.update ..).extBut b o hb q
def oT(h:wpAny (model prog w) A m S (fun _ _=>False) z)(k:∀ a z1,S a z1->Q a z1):wpAny (model prog w) A m Q E z:=wpAny_mono h k fun _ _ f=>f.elim
def vh(h:∀ b,Q b z):wpAny (model prog w) A (pure b) Q E z:=wpAny_pure (h b)
def yD{x:Value}{S:Addr->Shared->Prop}(hx:∀ A:Around,wpAny (model prog w) A (pyIter x) (fun v z1=>∃ it,v=.ref it/\S it z1) (fun _ _=>False) z)
 (k:∀ it z1,S it z1->Q (.ref z1.heap.objs.size) { z1 with heap:=z1.heap.push { cls:=.type "enumerate",data:=.fields #[.none,.bool false,.ref it,rawInt 0,.none,.none] } }):wpAny (model prog w) A (call (.type "enumerate") [x]) Q E z:=by
 have body:MeetsIn prog w (Builtin.«enumerate.__new__» ⟨[.type "enumerate",x],[]⟩) (fun A R s=>s=z/\∀ it z1,S it z1->R (.ok (.ret (.ref z1.heap.objs.size))) { z1 with heap:=z1.heap.push { cls:=.type "enumerate",data:=.fields #[.none,.bool false,.ref it,rawInt 0,.none,.none] } }):=by
  rintro A R s ⟨rfl,hR⟩;have hsub:=sub_enumerate;have iter:=hx A.in1;obtain⟨hp,g,d,tk,os⟩:=s
  wp_walk
  refine wpAny_stack_any fun st=>vh fun b=>?_
  have done:∀ it z1,S it z1->wpAny (model prog w) A.in1 (do let r <- Builtin.SmallTypes.newRecord (.type "enumerate") (Builtin.SmallTypes.ownedTupleFields++[.ref it,rawInt 0,.none,.none]);ret r)
    (fun fin s'=>match fin with | .done f=>R (.ok f) s' | .again c'=>c'.quiet=true/\codeAny (model prog w) A c' R s') (fun e s'=>R (.error e) s') z1:=by
   intro it z1 h1;have:=hR it z1 h1;obtain⟨hp1,gg1,dd1,tk1,os1⟩:=z1
   wp_walk
   exact this
  cases b
  ·wp_walk using oT iter
   rintro _ z1 ⟨it,rfl,h1⟩;exact done it z1 h1
  ·wp_walk using oT iter
   rintro _ z1 ⟨it,rfl,h1⟩;exact done it z1 h1
 refine callType_newIn F.called_enumerate (by decide) (F.typeCall_enumerate_1 _) (F.newCall_enumerate_1 _) (fun obj=>F.args_object_init_2 obj _) F.entry_enumerate_new body ⟨rfl,fun it z1 h=>?_⟩;exact⟨⟨_,Heap.get?_push_size _ rfl,rfl⟩,k it z1 h⟩
def qA:ky prog w where
 draws:=fun hh ti tp hne its=>{
  live:=fun i h st=>let ⟨o,e,_⟩:=st.1;⟨o,e⟩
  frame:=fun i h h' st kp=>by
   obtain⟨⟨o1,e1,r1⟩,⟨o2,e2,r2⟩⟩:=st;exact⟨⟨o1,kp ti (by simp) _ e1,r1⟩,⟨o2,kp tp (by simp) _ e2,r2⟩⟩
  item:=fun i s Q E hi st k=>by
   refine rj st.1 st.2 (x:=its[i]) (by simp[hi]) fun g h1 h2=>k its[i] g s.toks (by simp[hi]) ⟨h1,st.2.extBut h2.extBut hne⟩ h2
  done:=fun s Q E st k=>sW (.inl hh) (by rw[hh];exact fun z=>nomatch z) st.1 st.2 (by simp) fun g e h1 h2=>k g e h1 h2 }
 call:=fun {A E z tp its Q} ht k=>by
  refine yD (S:=fun it z1=>it=z.heap.objs.size/\z1={ z with heap:=z.heap.push { cls:=.type "tuple_iterator",data:=.fields #[.ref tp,rawInt 0] } }) (fun A=>wpAny_pyIter_tuple ht ⟨_,rfl,rfl,rfl⟩) ?_;rintro it z1 ⟨rfl,rfl⟩;have hz:(z.heap.push { cls:=.type "tuple_iterator",data:=.fields #[.ref tp,rawInt 0] }).objs.size=z.heap.objs.size+1:=Heap.size_push ..;dsimp only;rw[hz];refine k _ ?_ ⟨_,Heap.get?_push_of_some _ (Heap.get?_push_size _ rfl),rfl,rfl⟩ fun b o e=>Heap.get?_push_of_some _ (Heap.get?_push_of_some _ e);have:=Heap.get?_push_size (z.heap.push { cls:=.type "tuple_iterator",data:=.fields #[.ref tp,rawInt 0] }) (o:={ cls:=.type "enumerate",data:=.fields #[.none,.bool false,.ref z.heap.objs.size,rawInt 0,.none,.none] }) rfl;rw[hz]at this;exact this
end
end L2
namespace RS
open PySem PySem.Spec PyProof.Rows L2
section
variable{X:Cx}
def mW:∀ {bs:List Bool} {us:List Value},Vals (bs.map V.bl) us->us=bs.map Value.bool
 | [],_,h=>by cases h;rfl
 | b::bs,_,h=>by
  cases h with
  |cons r t=>
   cases r;rw[mW t];rfl
def pY{A:Around}{bs:List Bool}:TruthOf X.prog X.w A (fun i v=>(bs.map Value.bool).toArray[i]?=some v) (fun i=>bs.getD i false):=by
 intro i v s Q E hP q
 have hP':(bs.map Value.bool)[i]?=some v:=by simpa using hP
 rw[List.getElem?_map]at hP';obtain⟨b,h1,h2⟩:=map_some hP';subst h2
 have:bs.getD i false=b:=by rw[List.getD_eq_getElem?_getD,h1];rfl
 have q':Q b s:=this▸q;exact wpAny_truthy_bool q'
def range_all(bs:List Bool):(List.range bs.length).all (fun i=>bs.getD i false)=bs.all id:=by
 have:bs=(List.range bs.length).map fun i=>bs.getD i false:=by
  apply List.ext_getElem
  ·simp
  ·intro i h1 h2;simp[List.getD_eq_getElem?_getD,h1]
 conv=>rhs;rw[this]
 rw[List.all_map];rfl
def range_any(bs:List Bool):(List.range bs.length).any (fun i=>bs.getD i false)=bs.any id:=by
 have:bs=(List.range bs.length).map fun i=>bs.getD i false:=by
  apply List.ext_getElem
  ·simp
  ·intro i h1 h2;simp[List.getD_eq_getElem?_getD,h1]
 conv=>rhs;rw[this]
 rw[List.any_map];rfl
abbrev uW(f:List Bool->Bool):List V->Hp->VK->Prop:=fun xs H Q=>∃ p bs,xs=[.ref p]/\H p=some (.lst (bs.map V.bl))/\Q (.bl (f bs)) H
def zd(hc:X.calm=true):aZ X (.builtin "all") (uW fun bs=>bs.all id):=by
 intro pins s σ H xs us Q I r h;obtain⟨p,bs,rfl,hp,q⟩:=h
 cases r with
 |cons r rr=>
  cases rr;cases r;obtain⟨its,rv,hl,hz⟩:=I.list (SqL.of hp);have hits:=mW rv;subst hits
  have hlt:p<s.heap.objs.size:=by obtain⟨o,ho,_⟩:=hl.isList;exact Heap.lt_size ho
  refine call_all_walk (wpAny_pyIter_list hl.isList ?_);refine⟨s.heap.objs.size,_,[s.heap.objs.size],_,_,_,_,rfl,Walks.list (A:=X.A.in1) (I.ok.hd.1 hc) s.heap.objs.size p (Nat.ne_of_lt hlt) (bs.map Value.bool).toArray,⟨⟨_,Heap.get?_push_size _ rfl,rfl,rfl⟩,hl.isList.push _⟩,pY,fun h' tk hk=>?_⟩;refine⟨.bl (bs.all id),H,I.kept (t':=tk) (fun b o e=>hk b o (fun z=>?_) (Heap.get?_push_of_some _ e)),?_,q⟩
  ·rw[List.mem_singleton.mp z]at e;exact absurd (Heap.lt_size e) (Nat.lt_irrefl _)
  ·have:=range_all bs;show Value.bool _=Value.bool _;rw[<-this];simp
def ye(hc:X.calm=true):aZ X (.builtin "any") (uW fun bs=>bs.any id):=by
 intro pins s σ H xs us Q I r h;obtain⟨p,bs,rfl,hp,q⟩:=h
 cases r with
 |cons r rr=>
  cases rr;cases r;obtain⟨its,rv,hl,hz⟩:=I.list (SqL.of hp);have hits:=mW rv;subst hits
  have hlt:p<s.heap.objs.size:=by obtain⟨o,ho,_⟩:=hl.isList;exact Heap.lt_size ho
  refine call_any_walk (wpAny_pyIter_list hl.isList ?_);refine⟨s.heap.objs.size,_,[s.heap.objs.size],_,_,_,_,rfl,Walks.list (A:=X.A.in1) (I.ok.hd.1 hc) s.heap.objs.size p (Nat.ne_of_lt hlt) (bs.map Value.bool).toArray,⟨⟨_,Heap.get?_push_size _ rfl,rfl,rfl⟩,hl.isList.push _⟩,pY,fun h' tk hk=>?_⟩;refine⟨.bl (bs.any id),H,I.kept (t':=tk) (fun b o e=>hk b o (fun z=>?_) (Heap.get?_push_of_some _ e)),?_,q⟩
  ·rw[List.mem_singleton.mp z]at e;exact absurd (Heap.lt_size e) (Nat.lt_irrefl _)
  ·have:=range_any bs;show Value.bool _=Value.bool _;rw[<-this];simp
def kQ{P:Addr->Prop}{K:PySem.W.Frag}:∀ {ds:List RL.D} {bs:List Bool} {xs:List V},RL.bX ds=some bs->ab P K H ds xs->xs=bs.map V.bl
 | [],bs,xs,h,r=>by rw[RL.bX]at h;cases h;rw[ab]at r;exact r
 | d::ds,bs,xs,h,r=>by
  cases d<;>simp only[RL.bX]at h<;>first | (cases h;done) | skip
  rename_i b;obtain⟨bs',h1,h2⟩:=map_some h;subst h2;rw[ab]at r;obtain⟨x,t,rfl,r1,r2⟩:=r;rw[aR r1,kQ h1 r2];rfl
def EL(hc:X.calm=true)(hg:Gl X "all")(hm:X.mg "all" = none)(ha:SE X cl a a')(hn:noStar a=true):SE X cl (.Call (.Name "all" p) [a] [] pos) (.bi .all a'):=by
 refine dO (zd hc) hg hm (by decide +kernel) ha hn (by decide) (by decide) fun σD σ H H1 y d v Q e s1 r1 k=>?_
 cases y<;>first | (cases e;done) | skip
 case lst ds =>
  obtain⟨bs,e1,e2⟩:=map_some e;subst e2;obtain⟨q,xs,rfl,_,f2,f3⟩:=az r1;rw[kQ e1 f3]at f2;exact⟨q,bs,rfl,f2,k _ _ (bU s1 lN rfl)⟩
def DH(hc:X.calm=true)(hg:Gl X "any")(hm:X.mg "any" = none)(ha:SE X cl a a')(hn:noStar a=true):SE X cl (.Call (.Name "any" p) [a] [] pos) (.bi .any a'):=by
 refine dO (ye hc) hg hm (by decide +kernel) ha hn (by decide) (by decide) fun σD σ H H1 y d v Q e s1 r1 k=>?_
 cases y<;>first | (cases e;done) | skip
 case lst ds =>
  obtain⟨bs,e1,e2⟩:=map_some e;subst e2;obtain⟨q,xs,rfl,_,f2,f3⟩:=az r1;rw[kQ e1 f3]at f2;exact⟨q,bs,rfl,f2,k _ _ (bU s1 lN rfl)⟩
def Bt(hg:Gl X "enumerate")(hm:X.mg "enumerate" = none)(ha:SE X cl a a')(hn:noStar a=true):SI X cl (.Tuple elts kx tp) (.Call (.Name "enumerate" p) [a] [] pos) (.enm a'):=Dc qA hg hm ha hn
def gx{P:Addr->Prop}{K:PySem.W.Frag}:∀ {ds:List RL.D} {is:List Int} {xs:List V},RL.bJ ds=some is->ab P K H ds xs->xs=is.map V.int
 | [],is,xs,h,r=>by rw[RL.bJ]at h;cases h;rw[ab]at r;exact r
 | d::ds,is,xs,h,r=>by
  cases d<;>simp only[RL.bJ]at h<;>first | (cases h;done) | skip
  rename_i b;obtain⟨bs',h1,h2⟩:=map_some h;subst h2;rw[ab]at r;obtain⟨x,t,rfl,r1,r2⟩:=r;rw[ai r1,gx h1 r2];rfl
abbrev iT(ns:List Int):List Int:=firstMet (fun i=>ns.getD i 0) ns.length
def nB(ns:List Int):iT ns=RL.eR ns:=by
 unfold iT firstMet RL.eR
 have:(List.range ns.length).map (fun i=>ns.getD i 0)=ns:=by
  apply List.ext_getElem
  ·simp
  ·intro i h1 h2;simp[List.getD_eq_getElem?_getD,h2]
 rw[this];rfl
def wX(hc:X.calm=true):aZ X (.type "set") (fun xs H Q=>∃ p ns,xs=[.ref p]/\H p=some (.lst (ns.map V.int))/\ns.length<=1000/\∀ l,H l=none->Q (.ref l) (upd H l (.set (fun k=>(iT ns).any (· == k)) (iT ns).length))):=by
 intro pins s σ H xs us Q I r h;obtain⟨p,ns,rfl,hp,hn,q⟩:=h
 cases r with
 |cons r rr=>
  cases rr;cases r;obtain⟨its,rv,hl,hz⟩:=I.list (SqL.of hp)
  have hlen:its.length=ns.length:=by
   have:=rv.length;simp at this;exact this.symm
  have hf:H s.heap.objs.size=none:=I.hok.fresh (Nat.le_refl _);refine call_set_list (I.ok.hd.1 hc) hl.isList (ns:=ns) (by simpa using intsAre_of rv) (by rw[List.size_toArray,hlen];show ns.length+1<4096;lia) fun h' tk hS hk=>?_
  have hsz:its.toArray.size=ns.length:=by rw[List.size_toArray];exact hlen
  rw[hsz]at hS;exact⟨.ref s.heap.objs.size,_,I.laid (o:=.set (fun k=>(iT ns).any (· == k)) (iT ns).length) (t':=tk) (fun b u e=>hk b u (Heap.lt_size e) e) (Nat.le_refl _) hS,rfl,q _ hf⟩
def w6:aZ X (.builtin "len") (fun xs H Q=>∃ p S n,xs=[.ref p]/\H p=some (.set S n)/\Q (.int (n:Nat)) H):=by
 intro pins s σ H xs us Q I r h;obtain⟨p,S,n,rfl,hp,q⟩:=h
 cases r with
 |cons r rr=>
  cases rr;cases r;obtain⟨o,es,ep,t,h1,h2,h3,h4,h5,h6,h7,h8⟩:=I.hok p _ hp;refine call_len_set h1 h2 h3 h7 (by have:scanBound=4096:=rfl;lia) ?_;rw[h8];exact⟨.int n,H,I.tok _,⟨_,rfl⟩,q⟩
def wU(hc:X.calm=true)(hgl:Gl X "len")(hml:X.mg "len" = none)(hg:Gl X "set")(hm:X.mg "set" = none)(ha:SE X cl a a')(hn:noStar a=true):SE X cl (.Call (.Name "len" p2) [.Call (.Name "set" p) [a] [] pos] [] pos2) (.bi .lenSet a'):=by
 refine PE.weak (fg w6 hgl hml PySem.boot_len (bx (bV (wX hc) hg hm (by decide +kernel) (ba (cl:=cl) ha bP hn) (by decide) (by decide) (ax [] hn) rfl) cP rfl) (by decide) (by decide) rfl rfl) fun σ H Q h=>?_;obtain⟨σD,d,rv,e,k⟩:=h;obtain⟨y,ea,e⟩:=bind_some e;refine one rv ea fun v H1 s1 r1=>?_
 cases y<;>first | (cases e;done) | skip
 case lst ds =>
  rw[RL.zK]at e;split at e
  ·rename_i hl;obtain⟨is,e1,e2⟩:=map_some e;subst e2;obtain⟨q,xs,rfl,_,f2,f3⟩:=az r1;have hx:=gx e1 f3;rw[hx]at f2
   have hil:is.length<=1000:=by
    have:=f3.length;rw[hx]at this;simp at this;lia
   refine⟨q,is,rfl,f2,hil,fun l hl2=>⟨l,_,_,rfl,aW,?_⟩⟩;rw[nB];exact k _ _ (bU (s1.trans (aw.bE hl2)) aM rfl)
  ·cases e
def Er(hl:PE X l (tM X.K "list" tP (gK i)))(he:SE X cl e e')(ha:SSs X cl M A A')(hb:SSs X cl M B B')(hi:M.contains i=true):SS X cl M (.If (.Compare l [.NotEq] [e] pos) A B pos2) (.ifp i e' A' B'):=by
 refine PS.weak (zX (ke G4 hl he (qX _ (by decide) (by decide))) ha hb) fun D σ H h=>?_;obtain⟨σD,o,σD',rv,ev,k⟩:=h;obtain⟨l,e3,ev⟩:=bind_some ev
 cases l with
 |lst ds=>
  obtain⟨d,e4,ev⟩:=bind_some ev;obtain⟨y,e5,ev⟩:=bind_some ev;obtain⟨v,h1,h2⟩:=rv.val i _ (slot_get e3);rw[if_pos hi]at h2;obtain⟨q1,q2,q3⟩:=h2;obtain⟨a,xs,rfl,_,f2,f3⟩:=az q3;obtain⟨u,f4,f5⟩:=f3.get e4;have im:=kf q2;obtain⟨g1,g2⟩:=rv.gN (d':=.lst ds.dropLast) (o':=.lst xs.dropLast) hi h1 f2 (.inl ⟨_,rfl⟩) (kh (ds:=ds) f2 im f3.dropLast)
  cases d with
  |int m=>
   cases y with
   |int n=>
    refine⟨.ref a,h1,.inl ⟨rfl,xs,SqL.of f2⟩,a,xs,u,rfl,rfl,f2,by rw[<-f3.length];exact f4,?_⟩;refine⟨_,_,g1.rv0,e5,fun w H1 r1=>?_⟩;rw[ai f5,ai r1.rep];have k1:=k.from (g2.trans (Fr'.same (σ:=σ) r1.same));refine⟨rfl,_,rfl,?_⟩;dsimp only at ev;by_cases hmn:m=n
    ·rw[if_pos (by simpa using hmn)]at ev
     have hd:(!decide (V.int m=V.int n))=false:=by rw[hmn];simp
     rw[hd];exact eF ⟨_,o,σD',g1.same r1.same,ev,k1⟩
    ·rw[if_neg (by simpa using hmn)]at ev
     have hd:(!decide (V.int m=V.int n))=true:=by
      have:V.int m≠V.int n:=fun z=>hmn (by injection z);simp[this]
     rw[hd];exact dJ ⟨_,o,σD',g1.same r1.same,ev,k1⟩
   | _=>cases ev
  | _=>cases ev
 | _=>cases ev
end
end RS
namespace L2
open PySem PySem.Spec PyProof.Rows
section
variable{prog:Program}{w:World}{A:Around}{E:Value->Shared->Prop}
def Bq{x y:Value}{S1:Addr->Shared->Prop}{S2:Addr->Addr->Shared->Prop}{z:Shared}{Q:Value->Shared->Prop}(hx:∀ A:Around,wpAny (model prog w) A (pyIter x) (fun v z1=>∃ it,v=.ref it/\S1 it z1) (fun _ _=>False) z)
 (hy:∀ it z1,S1 it z1->∀ A:Around,wpAny (model prog w) A (pyIter y) (fun v z2=>∃ jt,v=.ref jt/\S2 it jt z2) (fun _ _=>False) z1)
 (k:∀ it jt z2,S2 it jt z2->Q (.ref (((z2.heap.push { cls:=.type "tuple",data:=.seq #[.ref it,.ref jt] }).push { cls:=.type "tuple",data:=.seq #[.none,.none] })).objs.size)
   { z2 with heap:=((z2.heap.push { cls:=.type "tuple",data:=.seq #[.ref it,.ref jt] }).push { cls:=.type "tuple",data:=.seq #[.none,.none] }).push { cls:=.type "zip",data:=.fields #[.none,.bool false,.bool false,.ref z2.heap.objs.size,.ref (z2.heap.push { cls:=.type "tuple",data:=.seq #[.ref it,.ref jt] }).objs.size] } }) :
  wpAny (model prog w) A (call (.type "zip") [x,y]) Q E z:=by
 have body:MeetsIn prog w (Builtin.«zip.__new__» ⟨[.type "zip",x,y],[]⟩) (fun A R s=>s=z/\∀ it jt z2,S2 it jt z2->R (.ok (.ret (.ref (((z2.heap.push { cls:=.type "tuple",data:=.seq #[.ref it,.ref jt] }).push { cls:=.type "tuple",data:=.seq #[.none,.none] })).objs.size)))
   { z2 with heap:=((z2.heap.push { cls:=.type "tuple",data:=.seq #[.ref it,.ref jt] }).push { cls:=.type "tuple",data:=.seq #[.none,.none] }).push { cls:=.type "zip",data:=.fields #[.none,.bool false,.bool false,.ref z2.heap.objs.size,.ref (z2.heap.push { cls:=.type "tuple",data:=.seq #[.ref it,.ref jt] }).objs.size] } }):=by
  rintro A R s ⟨rfl,hR⟩;have hsub:=sub_zip;have iter:=hx A.in1;obtain⟨hp,g,d,tk,os⟩:=s
  wp_walk using oT iter
  rintro _ z1 ⟨it,rfl,h1⟩;have iter2:=hy it z1 h1 A.in1;obtain⟨hp1,gg1,dd1,tk1,os1⟩:=z1
  wp_walk using oT iter2
  rintro _ z2 ⟨jt,rfl,h2⟩;have fin:=hR it jt z2 h2;obtain⟨hp2,gg2,dd2,tk2,os2⟩:=z2
  wp_walk
  exact fin
 refine callType_newIn F.called_zip (by decide) (F.typeCall_zip_2 _ _) (F.newCall_zip_2 _ _) (fun obj=>F.args_object_init_3 obj _ _) F.entry_zip_new body ⟨rfl,fun it jt z2 h=>?_⟩;exact⟨⟨_,Heap.get?_push_size _ rfl,rfl⟩,k it jt z2 h⟩
structure iM(z TI TO i1 i2:Addr)(fp1 fp2:List Addr):Prop where
 zTI:TI≠z
 zTO:TO≠z
 TT:TI≠TO
 i1z:i1≠z
 i2z:i2≠z
 HB:i1≠TO
 HY:i2≠TO
 i12:i1≠i2
 z1:z∉fp1
 z2:z∉fp2
 TO1:TO∉fp1
 TO2:TO∉fp2
 i1f:i1∉fp2
 i2f:i2∉fp1
def ze{z TI TO i1 i2:Addr}{fp1 fp2:List Addr}{n1 n2 k:Nat}{P1 P2:Nat->Value->Prop}{S1 S2:Nat->Heap->Prop}{a b:Value}{s:Shared}{Q:Value->Shared->Prop}(Z:iM z TI TO i1 i2 fp1 fp2)
 (D1:Draws prog w A i1 fp1 n1 P1 S1)(D2:Draws prog w A i2 fp2 n2 P2 S2)(hz:IsZip s.heap z TI TO .none)(hTI:IsPair s.heap TI (.ref i1) (.ref i2))(hTO:IsPair s.heap TO a b)(s1:S1 k s.heap)(s2:S2 k s.heap)(k1:k<n1)(k2:k<n2)
 (hQ:∀ x y g tk,P1 k x->P2 k y->IsZip g z TI TO (rawInt s.heap.objs.size)->IsPair g TO x y->S1 (k+1) g->S2 (k+1) g->IsPair g s.heap.objs.size x y->g.objs.size=s.heap.objs.size+1->(∀ c o,c≠z->c≠TO->c≠i1->c≠i2->s.heap.get? c=some o->g.get? c=some o)->Q (.ref s.heap.objs.size) { s with heap:=g,toks:=tk }) :
  wpAny (model prog w) A (Builtin.«zip.__next__» ⟨[.ref z],[]⟩) (fun fin s'=>∃ v,fin=.done (.ret v)/\Q v s') E s:=by
 obtain⟨hp,g,d,tk,os⟩:=s;have off:∀ (f:Obj->Obj) b o,b≠z->hp.get? b=some o->(hp.update z f).get? b=some o:=fun f b o hb e=>(Heap.SameBut.update ..).extBut b o hb e;have st1:∀ f:Obj->Obj,S1 k (hp.update z f):=fun f=>D1.frame k _ _ s1 fun b hb o e=>off f b o (fun q=>Z.z1 (q▸hb)) e;have st2:∀ f:Obj->Obj,S2 k (hp.update z f):=fun f=>D2.frame k _ _ s2 fun b hb o e=>off f b o (fun q=>Z.z2 (q▸hb)) e;unfold Builtin.«zip.__next__»
 wp_walk using AutoSeq1.wpAny_loadPart' hz,AutoSeq1.wpAny_loadPart' hTI,wpAny_onRaise,(D1.item k _ _ _ k1 (st1 _))
 intro x h1 t1 px st1' sb1;have q1:IsPair h1 TO a b:=sb1.extBut _ _ (Ne.symm Z.HB) (off _ TO _ Z.zTO hTO);have z1:IsZip h1 z TI TO .ellipsis:=sb1.extBut _ _ (Ne.symm Z.i1z) (Heap.get?_update_self _ hz rfl);have u1:=sb1.1;have c1:∀ c o,c≠z->c≠i1->hp.get? c=some o->h1.get? c=some o:=fun c o n1 n2 e=>sb1.extBut _ _ n2 (off _ c o n1 e);clear sb1 st1 st2
 wp_walk using AutoSeq1.wpAny_loadPart' q1,(wpAny_updateSeq_pair q1)
 intro h2 q2 sb2
 replace q2:IsPair h2 TO x b:=q2
 have z2:IsZip h2 z TI TO .ellipsis:=sb2.extBut _ _ (Ne.symm Z.zTO) z1;have c2:∀ c o,c≠z->c≠TO->c≠i1->hp.get? c=some o->h2.get? c=some o:=fun c o n1 n2 n3 e=>sb2.extBut _ _ n2 (c1 c o n1 n3 e);have e1:S1 (k+1) h2:=D1.frame _ _ _ st1' fun b hb o e=>sb2.extBut _ _ (fun q=>Z.TO1 (q▸hb)) e;have e2:S2 k h2:=D2.frame _ _ _ s2 fun b hb o e=>c2 b o (fun q=>Z.z2 (q▸hb)) (fun q=>Z.TO2 (q▸hb)) (fun q=>Z.i1f (q▸hb)) e;have u2:=sb2.1.trans u1;clear sb2 u1 c1 z1 q1
 wp_walk using wpAny_onRaise,(D2.item k _ _ _ k2 e2)
 intro y h3 t3 py f2 sb3;have q3:IsPair h3 TO x b:=sb3.extBut _ _ (Ne.symm Z.HY) q2;have z3:IsZip h3 z TI TO .ellipsis:=sb3.extBut _ _ (Ne.symm Z.i2z) z2;have f1:S1 (k+1) h3:=D1.frame _ _ _ e1 fun b hb o e=>sb3.extBut _ _ (fun q=>Z.i2f (q▸hb)) e;have c3:∀ c o,c≠z->c≠TO->c≠i1->c≠i2->hp.get? c=some o->h3.get? c=some o:=fun c o n1 n2 n3 n4 e=>sb3.extBut _ _ n4 (c2 c o n1 n2 n3 e);have u3:=sb3.1.trans u2;clear sb3 u2 c2 z2 q2 e1 e2
 wp_walk using AutoSeq1.wpAny_loadPart' q3,(wpAny_updateSeq_pair q3)
 intro h4 q4 sb4
 replace q4:IsPair h4 TO x y:=q4
 have z4:IsZip h4 z TI TO .ellipsis:=sb4.extBut _ _ (Ne.symm Z.zTO) z3;have g1:S1 (k+1) h4:=D1.frame _ _ _ f1 fun b hb o e=>sb4.extBut _ _ (fun q=>Z.TO1 (q▸hb)) e;have g2:S2 (k+1) h4:=D2.frame _ _ _ f2 fun b hb o e=>sb4.extBut _ _ (fun q=>Z.TO2 (q▸hb)) e;have c4:∀ c o,c≠z->c≠TO->c≠i1->c≠i2->hp.get? c=some o->h4.get? c=some o:=fun c o n1 n2 n3 n4 e=>sb4.extBut _ _ n2 (c3 c o n1 n2 n3 n4 e);have u4:=sb4.1.trans u3;clear sb4 u3 c3 z3 q3 f1 f2
 wp_walk using AutoSeq1.wpAny_loadPart' q4
 have u0:h4.objs.size=hp.objs.size:=u4.trans (Heap.SameBut.update ..).1;refine⟨_,rfl,?_⟩;show Q (.ref h4.objs.size) _;have zp:IsZip (h4.push { cls:=.type "tuple",data:=.seq #[x,y].toList.toArray }) z TI TO .ellipsis:=Heap.get?_push_of_some _ z4;have zlt:z<h4.objs.size:=Heap.lt_size z4
 have up:∀ (f f':Obj->Obj) c o,c≠z->(h4.push { cls:=.type "tuple",data:=.seq #[x,y].toList.toArray }).get? c=some o->(((h4.push { cls:=.type "tuple",data:=.seq #[x,y].toList.toArray }).update z f).update z f').get? c=some o:=fun f f' c o hc e =>
  (Heap.SameBut.update ..).extBut c o hc ((Heap.SameBut.update ..).extBut c o hc e)
 have goal:=hQ x y (((h4.push { cls:=.type "tuple",data:=.seq #[x,y].toList.toArray }).update z (Obj.mapFields (·.setIfInBounds 0 (rawInt h4.objs.size)))).update z (Obj.mapFields (·.setIfInBounds 1 (.bool false)))) t3 px py ?_ ?_ ?_ ?_ ?_ ?_ ?_
 ·rw[u0]at goal ⊢;exact goal
 ·rw[<-u0];exact Heap.get?_update_self _ (Heap.get?_update_self _ zp rfl) rfl
 ·exact up _ _ _ _ Z.zTO (Heap.get?_push_of_some _ q4)
 ·exact D1.frame _ _ _ g1 fun b hb o e=>up _ _ _ _ (fun q=>Z.z1 (q▸hb)) (Heap.get?_push_of_some _ e)
 ·exact D2.frame _ _ _ g2 fun b hb o e=>up _ _ _ _ (fun q=>Z.z2 (q▸hb)) (Heap.get?_push_of_some _ e)
 ·show IsPair _ hp.objs.size x y;rw[<-u0];exact up _ _ _ _ (Nat.ne_of_gt zlt) (Heap.get?_push_size _ rfl)
 ·refine((Heap.SameBut.update ..).1.trans ((Heap.SameBut.update ..).1.trans ((Heap.size_push ..).trans ?_)));show h4.objs.size+1=hp.objs.size+1;rw[u0]
 ·exact fun c o n1 n2 n3 n4 e=>up _ _ _ _ n1 (Heap.get?_push_of_some _ (c4 c o n1 n2 n3 n4 e))
def BO{z TI TO i1 i2:Addr}{fp1 fp2:List Addr}{n1:Nat}{P1:Nat->Value->Prop}{S1:Nat->Heap->Prop}{a b:Value}{s:Shared}{Q:Fin->Shared->Prop}(Z:iM z TI TO i1 i2 fp1 fp2)
 (D1:Draws prog w A i1 fp1 n1 P1 S1)(hz:IsZip s.heap z TI TO .none)(hTI:IsPair s.heap TI (.ref i1) (.ref i2))(hTO:IsPair s.heap TO a b)(s1:S1 n1 s.heap)
 (hE:∀ g e,(∀ c o,c≠z->c≠i1->s.heap.get? c=some o->g.get? c=some o)->(∃ o,g.get? e=some o/\o.cls=.type "StopIteration")->E (.ref e) { s with heap:=g }) :
  wpAny (model prog w) A (Builtin.«zip.__next__» ⟨[.ref z],[]⟩) Q E s:=by
 obtain⟨hp,g,d,tk,os⟩:=s;have off:∀ (f:Obj->Obj) b o,b≠z->hp.get? b=some o->(hp.update z f).get? b=some o:=fun f b o hb e=>(Heap.SameBut.update ..).extBut b o hb e;have st1:∀ f:Obj->Obj,S1 n1 (hp.update z f):=fun f=>D1.frame n1 _ _ s1 fun b hb o e=>off f b o (fun q=>Z.z1 (q▸hb)) e;unfold Builtin.«zip.__next__»
 wp_walk using AutoSeq1.wpAny_loadPart' hz,AutoSeq1.wpAny_loadPart' hTI,wpAny_onRaise,(D1.done _ _ _ (st1 _))
 rintro h1 e eb ⟨oe,he,hce⟩;have z1:IsZip h1 z TI TO .ellipsis:=eb _ _ (Ne.symm Z.i1z) (Heap.get?_update_self _ hz rfl)
 have ez:e≠z:=fun q=>by
  rw[q,z1]at he;have:=Option.some.inj he;rw[<-this]at hce;simp at hce
 refine wpAny_setField_rec z1 (by simp) fun h2 _ sb2=>?_;exact hE h2 e (fun c o n1 n2 q=>sb2.extBut _ _ n1 (eb _ _ n2 (off _ _ _ n1 q))) ⟨oe,sb2.extBut _ _ ez he,hce⟩
end
section
variable{prog:Program}{w:World}{A:Around}{E:Value->Shared->Prop}{z TI TO i1 i2:Addr}{fp1 fp2:List Addr}{n1 n2 k:Nat}{P1 P2:Nat->Value->Prop}{S1 S2:Nat->Heap->Prop}{a b:Value}{s:Shared}
def yr{Q:Option Value->Shared->Prop}(Z:iM z TI TO i1 i2 fp1 fp2)(D1:Draws prog w A.in1 i1 fp1 n1 P1 S1)(D2:Draws prog w A.in1 i2 fp2 n2 P2 S2)(hz:IsZip s.heap z TI TO .none)(hTI:IsPair s.heap TI (.ref i1) (.ref i2))(hTO:IsPair s.heap TO a b)(s1:S1 k s.heap)(s2:S2 k s.heap)(k1:k<n1)(k2:k<n2)
 (hQ:∀ x y g tk,P1 k x->P2 k y->IsZip g z TI TO (rawInt s.heap.objs.size)->IsPair g TO x y->S1 (k+1) g->S2 (k+1) g->IsPair g s.heap.objs.size x y->g.objs.size=s.heap.objs.size+1->(∀ c o,c≠z->c≠TO->c≠i1->c≠i2->s.heap.get? c=some o->g.get? c=some o)->Q (some (.ref s.heap.objs.size)) { s with heap:=g,toks:=tk }) :
  wpAny (model prog w) A (pyNext (.ref z)) Q E s:=by
 have hT:s.TypeIs (.ref z) "zip" := ⟨_,hz,rfl⟩
 unfold pyNext;apply wpAny_bind;apply wpAny_attempt;apply wpAny_callSpecial?_slot (name:=Str.ofString "__next__") hT F.slot_zip_next;refine wpAny_call_entry F.slot_zip_next hT F.entry_zip_next ?_ (F.args_zip_next_1 _);refine ze Z D1 D2 hz hTI hTO s1 s2 k1 k2 fun x y g tk px py q1 q2 q3 q4 q5 q6 q7=>?_;apply wpAny_pure;exact hQ x y g tk px py q1 q2 q3 q4 q5 q6 q7
def xW{Q:Option Value->Shared->Prop}(Z:iM z TI TO i1 i2 fp1 fp2)(D1:Draws prog w A.in1 i1 fp1 n1 P1 S1)(hz:IsZip s.heap z TI TO .none)(hTI:IsPair s.heap TI (.ref i1) (.ref i2))(hTO:IsPair s.heap TO a b)(s1:S1 n1 s.heap)
 (hQ:∀ g,(∀ c o,c≠z->c≠i1->s.heap.get? c=some o->g.get? c=some o)->Q none { s with heap:=g }):wpAny (model prog w) A (pyNext (.ref z)) Q E s:=by
 have hT:s.TypeIs (.ref z) "zip" := ⟨_,hz,rfl⟩
 unfold pyNext;apply wpAny_bind;apply wpAny_attempt;apply wpAny_callSpecial?_slot (name:=Str.ofString "__next__") hT F.slot_zip_next;refine wpAny_call_entry F.slot_zip_next hT F.entry_zip_next ?_ (F.args_zip_next_1 _);refine BO Z D1 hz hTI hTO s1 fun g e hk ⟨o,he,hc⟩=>?_;apply wpAny_bind;refine wpAny_isInstance (T := "StopIteration") (b:=true) ⟨_,he,hc⟩ isSubtype_stop ?_;apply wpAny_pure;exact hQ g hk
end
section
variable{s:Shared}
def xA(hh:A.handled=some (.ref x))(hd:ox.data=.fields xs)(h2:xs[2]?=some .none)(nx:x≠it)(hne:l≠it)(its:Array Value) :
  Draws prog w A it [it,l,x] its.size (fun i v=>its[i]?=some v) (fun i h=>(h.IsListIter it l i/\h.IsList l its)/\h.get? x=some ox) where
 live:=fun _ _ st=>let ⟨o,ho,_⟩:=st.1.1;⟨o,ho⟩
 frame:=fun _ _ _ st hk=>⟨⟨st.1.1.at fun o e=>hk it (by simp) o e,st.1.2.at fun o e=>hk l (by simp) o e⟩,hk x (by simp) _ st.2⟩
 item:=fun i s Q E hi st hQ=>wpAny_nextOf_list_item st.1.1 st.1.2 (x:=its[i]) (by simp[hi]) fun h' hit' hs'=>hQ _ h' s.toks (by simp[hi]) ⟨⟨hit',st.1.2.extBut hs'.extBut hne⟩,(hs'.2 x nx).trans st.2⟩ hs'
 done:=fun s Q E st hE=>oH (.inr ⟨x,ox,xs,hh,st.2,hd,h2⟩) (fun q=>by rw[hh]at q;cases q;exact nx rfl) st.1.1 st.1.2 (by simp) hE
def xh(hh:A.handled=some (.ref x))(hd:ox.data=.fields xs)(h2:xs[2]?=some .none)(nx:x≠it)(hne:l≠it)(its:Array Value) :
  Draws prog w A it [it,l,x] its.size (fun i v=>its[i]?=some v) (fun i h=>(h.IsTupleIter it l i/\h.IsTuple l its)/\h.get? x=some ox) where
 live:=fun _ _ st=>let ⟨o,ho,_⟩:=st.1.1;⟨o,ho⟩
 frame:=fun _ _ _ st hk=>by
  obtain⟨⟨⟨o1,e1,r1⟩,⟨o2,e2,r2⟩⟩,e3⟩:=st;exact⟨⟨⟨o1,hk it (by simp) _ e1,r1⟩,⟨o2,hk l (by simp) _ e2,r2⟩⟩,hk x (by simp) _ e3⟩
 item:=fun i s Q E hi st k=>rj st.1.1 st.1.2 (x:=its[i]) (by simp[hi]) fun g g1 g2=>k its[i] g s.toks (by simp[hi]) ⟨⟨g1,st.1.2.extBut g2.extBut hne⟩,(g2.2 x nx).trans st.2⟩ g2
 done:=fun s Q E st hE=>sW (.inr ⟨x,ox,xs,hh,st.2,hd,h2⟩) (fun q=>by rw[hh]at q;cases q;exact nx rfl) st.1.1 st.1.2 (by simp) hE
end
section
end
abbrev dz(t:Bool)(xs:List V):HO:=if t then .tup xs else .lst xs
abbrev i7(t:Bool)(it l:Addr)(i:Nat)(h:Heap):Prop:=if t then h.IsTupleIter it l i else h.IsListIter it l i
def i7.obj(st:i7 t it l i h):∃ o,h.get? it=some o/\∀ v,o.data≠.cell v:=by
 cases t with
 | true=>exact let ⟨o,ho,_,hd⟩:=(show h.IsTupleIter it l i from st);⟨o,ho,fun v q=>by rw[hd]at q;cases q⟩
 | false=>exact let ⟨o,ho,_,hd⟩:=(show h.IsListIter it l i from st);⟨o,ho,fun v q=>by rw[hd]at q;cases q⟩
def i7.keep(st:i7 t it l i h)(k:∀ o,h.get? it=some o->h'.get? it=some o):i7 t it l i h':=by
 cases t with
 | true=>exact let ⟨o,ho,r⟩:=(show h.IsTupleIter it l i from st);⟨o,k o ho,r⟩
 | false=>exact(show h.IsListIter it l i from st).at fun o q=>k o q
def iu(I:Inv X pins σ H s)(hi:H it=none)(hx:H l=some (dz t xs)) :
  ∃ (fp:List Addr) (Pv:Nat->Value->Prop) (St:Nat->Heap->Prop),Draws X.prog X.w X.A.in1 it fp xs.length Pv St/\(∀ b∈fp,b=it\/H b≠none)/\(∀ i,i7 t it l i s.heap->St i s.heap)/\(∀ i h,St i h->i7 t it l i h)/\∀ i v,Pv i v->∃ x,xs[i]?=some x/\RelV x v:=by
 have back:∀ {its:List Value},Vals xs its->∀ (i:Nat) (v:Value),its.toArray[i]?=some v->∃ x,xs[i]?=some x/\RelV x v:=fun {its} rv i v hv=>by
  have hv:its[i]?=some v:=by simpa using hv
  have hlt:i<xs.length:=by rw[rv.length];exact(List.getElem?_eq_some_iff.mp hv).1
  obtain⟨u,h1,h2⟩:=rv.get (i:=i) (x:=xs[i]) (by simp[hlt]);rw[hv]at h1;cases h1;exact⟨xs[i],by simp[hlt],h2⟩
 have two:∀ {u:HO},H l=some u->∀ b∈[it,l],b=it\/H b≠none:=fun {u} e b hb=>by
  rcases List.mem_cons.mp hb with z | z
  ·exact .inl z
  ·rw[List.mem_singleton.mp z,e]
   exact .inr fun z=>nomatch z
 rcases I.ok.hd.2 with hh | ⟨x,ox,ux,ws,hh,g1,g2,g3⟩
 ·cases t with
  |true=>
   have hx:H l=some (.tup xs):=hx;obtain⟨its,rv,p,hz⟩:=I.tuple (SqT.of hx);have D:=qA.draws (prog:=X.prog) (w:=X.w) (A:=X.A.in1) hh it l (aH hx hi) its.toArray;rw[show its.toArray.size=xs.length by rw[List.size_toArray,rv.length]]at D;exact⟨_,_,_,D,two hx,fun i st=>⟨st,p⟩,fun i h st=>st.1,back rv⟩
  |false=>
   have hx:H l=some (.lst xs):=hx;obtain⟨its,rv,p,hz⟩:=I.list (SqL.of hx);have D:=Draws.list (prog:=X.prog) (w:=X.w) (A:=X.A.in1) hh it l (aH hx hi) its.toArray;rw[show its.toArray.size=xs.length by rw[List.size_toArray,rv.length]]at D;exact⟨_,_,_,D,two hx,fun i st=>⟨st,p.isList⟩,fun i h st=>st.1,back rv⟩
 ·have hxx:=I.base.gZ _ _ _ g1;have hxo:s.heap.get? x=some ox:=(I.hok _ _ hxx).1;have nx:x≠it:=aH hxx hi
  have three:∀ {u:HO},H l=some u->∀ b∈[it,l,x],b=it\/H b≠none:=fun {u} e b hb=>by
   simp only[List.mem_cons,List.mem_nil_iff,or_false]at hb;rcases hb with z | z | z
   ·exact .inl z
   ·rw[z,e]
    exact .inr fun z=>nomatch z
   ·rw[z,hxx]
    exact .inr fun z=>nomatch z
  cases t with
  |true=>
   have hx:H l=some (.tup xs):=hx;obtain⟨its,rv,p,hz⟩:=I.tuple (SqT.of hx);have D:=xh (prog:=X.prog) (w:=X.w) (A:=X.A.in1) hh g2 g3 nx (aH hx hi) its.toArray;rw[show its.toArray.size=xs.length by rw[List.size_toArray,rv.length]]at D;exact⟨_,_,_,D,three hx,fun i st=>⟨⟨st,p⟩,hxo⟩,fun i h st=>st.1.1,back rv⟩
  |false=>
   have hx:H l=some (.lst xs):=hx;obtain⟨its,rv,p,hz⟩:=I.list (SqL.of hx);have D:=xA (prog:=X.prog) (w:=X.w) (A:=X.A.in1) hh g2 g3 nx (aH hx hi) its.toArray;rw[show its.toArray.size=xs.length by rw[List.size_toArray,rv.length]]at D;exact⟨_,_,_,D,three hx,fun i st=>⟨⟨st,p.isList⟩,hxo⟩,fun i h st=>st.1.1,back rv⟩
abbrev Itz(t1 t2:Bool)(l1 l2:Addr):It :=
 ⟨fun i H=>∃ xs ys x y,H l1=some (dz t1 xs)/\H l2=some (dz t2 ys)/\xs[i]?=some x/\ys[i]?=some y,
   fun i H v H'=>∃ p x y,H p=none/\v=.ref p/\H'=upd H p (.tup [x,y])/\(∀ xs,H l1=some (dz t1 xs)->xs[i]?=some x)/\∀ ys,H l2=some (dz t2 ys)->ys[i]?=some y,
   fun i H=>∃ xs ys,H l1=some (dz t1 xs)/\H l2=some (dz t2 ys)/\xs.length=i/\ys.length=i⟩
def pT(h:dz t xs=dz t ys):xs=ys:=by
 cases t<;>(injection h)
def yK{P:Program}{w:World}{K:PySem.W.Frag}{elts:List Expr}{kx:Nat}{tp:Pos}{t1 t2:Bool}{z TI TO i1 i2 l1 l2:Addr}(n1:TI≠z)(n2:TO≠z)(n3:TI≠TO)(n4:i1≠z)(n5:i2≠z)(n6:i1≠TO)(n7:i2≠TO)(n8:i1≠i2)(n9:i1≠TI)(n10:i2≠TI) :
  m7 (fun _=>True) P w K (.Tuple elts kx tp) (Itz t1 t2 l1 l2) [z,TI,TO,i1,i2] z (fun i h=>IsZip h z TI TO .none/\IsPair h TI (.ref i1) (.ref i2)/\(∃ a b,IsPair h TO a b)/\i7 t1 i1 l1 i h/\i7 t2 i2 l2 i h) where
 mem:=by simp
 obj:=fun i h st b hb=>by
  obtain⟨h1,h2,⟨a,c,h3⟩,h4,h5⟩:=st;simp only[List.mem_cons,List.mem_nil_iff,or_false]at hb;rcases hb with rfl | rfl | rfl | rfl | rfl
  ·exact⟨_,h1,fun v q=>by cases q⟩
  ·exact⟨_,h2,fun v q=>by cases q⟩
  ·exact⟨_,h3,fun v q=>by cases q⟩
  ·exact h4.obj
  ·exact h5.obj
 keep:=fun i h h' st k=>by
  obtain⟨h1,h2,⟨a,c,h3⟩,h4,h5⟩:=st;exact⟨k z (by simp) _ h1,k TI (by simp) _ h2,⟨a,c,k TO (by simp) _ h3⟩,h4.keep fun o q=>k i1 (by simp) o q,h5.keep fun o q=>k i2 (by simp) o q⟩
 item:=by
  intro X hP hw hK hc i pins s σ H E I hf st hg;subst hP hw hK;obtain⟨h1,h2,⟨a,c,h3⟩,h4,h5⟩:=st;obtain⟨xs,ys,x,y,hx,hy,ex,ey⟩:=hg;have f:∀ b∈[z,TI,TO,i1,i2],H b=none:=fun b hb=>(hf b hb).1;obtain⟨fp1,Pv1,St1,D1,m1,a1,a2,a3⟩:=iu I (f i1 (by simp)) hx;obtain⟨fp2,Pv2,St2,D2,m2,b1,b2,b3⟩:=iu I (f i2 (by simp)) hy;have no:∀ {fp:List Addr} {i b:Addr},(∀ b∈fp,b=i\/H b≠none)->b∈[z,TI,TO,i1,i2]->b≠i->b∉fp:=fun m hb n z=>(m _ z).elim n fun q=>q (f _ hb)
  have Z:iM z TI TO i1 i2 fp1 fp2:=⟨n1,n2,n3,n4,n5,n6,n7,n8,no m1 (by simp) (Ne.symm n4),no m2 (by simp) (Ne.symm n5),no m1 (by simp) (Ne.symm n6),no m2 (by simp) (Ne.symm n7),no m2 (by simp) n8,no m1 (by simp) (Ne.symm n8)⟩
  refine yr Z D1 D2 h1 h2 h3 (a1 i h4) (b1 i h5) (List.getElem?_eq_some_iff.mp ex).1 (List.getElem?_eq_some_iff.mp ey).1 fun u v g tk pu pv g1 g2 g3 g4 g5 g6 g7=>?_;obtain⟨x',ex',rx⟩:=a3 i u pu;obtain⟨y',ey',ry⟩:=b3 i v pv;rw[ex]at ex';rw[ey]at ey';cases ex';cases ey';refine⟨.ref s.heap.objs.size,rfl,wpAny_letOwnedTupleGo_zip g1 fun g' gz' sb=>?_⟩;have hn:H s.heap.objs.size=none:=I.hok.fresh (Nat.le_refl _)
  have I1:Inv X pins σ (upd H s.heap.objs.size (.tup [x,y])) { s with heap:=s.heap.push { cls:=.type "tuple",data:=.seq #[u,v] },toks:=tk } :=
   I.laid (t':=tk) (fun b o q=>Heap.get?_push_of_some _ q) (Nat.le_refl _) ⟨by show 2<=sizeLine;decide,[u,v],.cons rx (.cons ry .nil),⟨_,Heap.get?_push_size _ rfl,rfl,_,rfl⟩⟩
  have lt:∀ b∈[z,TI,TO,i1,i2],b≠s.heap.objs.size:=fun b hb=>by
   have:∃ o,s.heap.get? b=some o:=by
    simp only[List.mem_cons,List.mem_nil_iff,or_false]at hb;rcases hb with rfl | rfl | rfl | rfl | rfl
    ·exact⟨_,h1⟩
    ·exact⟨_,h2⟩
    ·exact⟨_,h3⟩
    ·exact let ⟨o,q,_⟩:=h4.obj;⟨o,q⟩
    ·exact let ⟨o,q,_⟩:=h5.obj;⟨o,q⟩
   obtain⟨o,q⟩:=this;exact Nat.ne_of_lt (Heap.lt_size q)
  have stat:∀ b∈[z,TI,TO,i1,i2],upd H s.heap.objs.size (.tup [x,y]) b=none/\(b∈X.ex\/X.s₀.heap.objs.size<=b)/\b≠X.env.locals/\(∀ x c,X.env.cells.lookup x=some c->c≠b)/\∀ p∈X.pn++pins,p.1≠b:=fun b hb=>by
   obtain⟨f0,f1,f2,f3,f4,f5⟩:=hf b hb;exact⟨by rw[aI (lt b hb)];exact f0,f3,f1,f4,f5⟩
  have I2:Inv X pins σ (upd H s.heap.objs.size (.tup [x,y])) { s with heap:=g',toks:=tk }:=by
   refine Inv.ng (s:={ s with heap:=s.heap.push { cls:=.type "tuple",data:=.seq #[u,v] },toks:=tk }) (h':=g') (t':=tk) (fp:=[z,TI,TO,i1,i2]) I1 (fun b o hb q=>?_) stat;simp only[List.mem_cons,List.mem_nil_iff,or_false,not_or]at hb;refine sb.extBut b o hb.1 ?_;by_cases hbT:b=s.heap.objs.size
   ·subst hbT;have q':(s.heap.push { cls:=.type "tuple",data:=.seq #[u,v] }).get? s.heap.objs.size=some o:=q;rw[Heap.get?_push_size _ rfl]at q';cases q';exact g5
   ·exact g7 b o hb.1 hb.2.2.1 hb.2.2.2.1 hb.2.2.2.2 ((Heap.get?_push_ne _ _ _ hbT).symm.trans q)
  have kp:∀ b∈[TI,TO,i1,i2],∀ o,g.get? b=some o->g'.get? b=some o:=fun b hb o q=>sb.extBut b o (fun e=>by
   subst e;simp only[List.mem_cons,List.mem_nil_iff,or_false]at hb;rcases hb with e | e | e | e
   ·exact n1 e.symm
   ·exact n2 e.symm
   ·exact n4 e.symm
   ·exact n5 e.symm) q
  refine⟨.ref s.heap.objs.size,_,I2,rfl,⟨s.heap.objs.size,x,y,hn,rfl,rfl,fun xs' hx'=>?_,fun ys' hy'=>?_⟩,⟨gz',kp TI (by simp) _ (g7 TI _ n1 n3 (Ne.symm n9) (Ne.symm n10) h2),⟨u,v,kp TO (by simp) _ g2⟩,(a2 _ _ g3).keep fun o q=>kp i1 (by simp) o q,(b2 _ _ g4).keep fun o q=>kp i2 (by simp) o q⟩,fun b hb=>(stat b hb).1⟩
  ·rw[hx]at hx';rw[<-pT (Option.some.inj hx')];exact ex
  ·rw[hy]at hy';rw[<-pT (Option.some.inj hy')];exact ey
 done:=by
  intro X hP hw hK hc i pins s σ H E I hf st hg;subst hP hw hK;obtain⟨h1,h2,⟨a,c,h3⟩,h4,h5⟩:=st;obtain⟨xs,ys,hx,hy,ex,ey⟩:=hg;have f:∀ b∈[z,TI,TO,i1,i2],H b=none:=fun b hb=>(hf b hb).1;obtain⟨fp1,Pv1,St1,D1,m1,a1,a2,a3⟩:=iu I (f i1 (by simp)) hx;obtain⟨fp2,_,_,_,m2,_⟩:=iu I (f i2 (by simp)) hy;have no:∀ {fp:List Addr} {i b:Addr},(∀ b∈fp,b=i\/H b≠none)->b∈[z,TI,TO,i1,i2]->b≠i->b∉fp:=fun m hb n z=>(m _ z).elim n fun q=>q (f _ hb)
  have Z:iM z TI TO i1 i2 fp1 fp2:=⟨n1,n2,n3,n4,n5,n6,n7,n8,no m1 (by simp) (Ne.symm n4),no m2 (by simp) (Ne.symm n5),no m1 (by simp) (Ne.symm n6),no m2 (by simp) (Ne.symm n7),no m2 (by simp) n8,no m1 (by simp) (Ne.symm n8)⟩
  subst ex
  refine xW Z D1 h1 h2 h3 (a1 _ h4) fun g hk=>⟨rfl,?_⟩
  refine Inv.ng (h':=g) (t':=s.toks) (fp:=[z,i1]) I (fun b o hb q=>?_) fun b hb=>?_
  ·simp only[List.mem_cons,List.mem_nil_iff,or_false,not_or]at hb;exact hk b o hb.1 hb.2 q
  ·have hb':b∈[z,TI,TO,i1,i2]:=by
    simp only[List.mem_cons,List.mem_nil_iff,or_false]at hb ⊢;rcases hb with q | q
    ·exact .inl q
    ·exact .inr (.inr (.inr (.inl q)))
   obtain⟨f0,f1,f2,f3,f4,f5⟩:=hf b hb';exact⟨f0,f3,f1,f4,f5⟩
 self:=fun A i s Q E st h=>wpAny_pyIter_zip st.1 h
def m7.calm{P:Program}{w:World}{K:PySem.W.Frag}(T:m7 (fun _=>True) P w K tg J fp it tn):Turn P w K tg J fp it tn where
 mem:=T.mem
 obj:=T.obj
 keep:=T.keep
 item:=fun X a b c hc i pins s σ H E I=>T.item X a b c trivial i pins s σ H E I
 done:=fun X a b c hc i pins s σ H E I=>T.done X a b c trivial i pins s σ H E I
 self:=T.self
def PI'.calm(h:PI' (fun _=>True) X tg iter wi):PI X tg iter wi:=fun pins s σ H R I q =>
 thn (h pins s σ H R I q) fun v s1 h1=>thn h1 fun itv s2 ⟨it,fp,tn,J,H',e,I',T,r⟩=>⟨it,fp,tn,J,H',e,I',T.calm,r⟩
abbrev cI(t:Bool)(l:Addr):Obj:=if t then { cls:=.type "tuple_iterator",data:=.fields #[.ref l,rawInt 0] } else { cls:=.type "list_iterator",data:=.fields #[.ref l,.int 0 0] }
def qQ(e:h.get? it=some (cI t l)):i7 t it l 0 h:=by
 cases t with
 | true=>exact⟨_,e,rfl,rfl⟩
 | false=>exact⟨_,e,rfl,rfl⟩
def pE(I:Inv X pins σ H s)(hx:H l=some (dz t xs))(q:Q (.ref s.heap.objs.size) { s with heap:=s.heap.push (cI t l) }):wpAny (model X.prog X.w) A (pyIter (.ref l)) Q E s:=by
 cases t with
 |true=>
  obtain⟨its,rv,p,hz⟩:=I.tuple (SqT.of (show H l=some (.tup xs)from hx));exact wpAny_pyIter_tuple p q
 |false=>
  obtain⟨its,rv,p,hz⟩:=I.list (SqL.of (show H l=some (.lst xs)from hx));exact wpAny_pyIter_list p.isList q
section
abbrev GU(ta:TA):TI:=fun σ H R=>ta σ H fun vs H1=>∃ t1 t2 l1 l2 xs ys,vs=[.ref l1,.ref l2]/\H1 l1=some (dz t1 xs)/\H1 l2=some (dz t2 ys)/\R (Itz t1 t2 l1 l2) H1
def far(n a b:Nat)(h:a≠b):n+a≠n+b:=fun q=>h (Nat.add_left_cancel q)
def uS:bootBuiltins "zip" = some (.type "zip"):=by decide +kernel
def E4(hg:Gl X "zip")(hm:X.mg "zip" = none)(ha:PA X [a,b] ta)(hs:starEach [a,b] X.env=[(false,eval a X.env),(false,eval b X.env)])(hs2:starEach [b] X.env=[(false,eval b X.env)]):PI' (fun _=>True) X (.Tuple elts kx tp) (.Call (.Name "zip" p) [a,b] [] pos) (GU ta):=by
 intro pins s0 σ H0 R I0 h;refine Call_ (gG I0 hg hm uS (PyProof.Rows.callWith_type1 (thn (ha pos pins s0 σ H0 _ I0 h) fun us s ⟨vs,H,I,r1,q1⟩=>?_) (by rw[hs,hs2]) (by rw[hs2];rfl)) (by decide) (by decide));obtain⟨t1,t2,l1,l2,xs,ys,rfl,hx,hy,q⟩:=q1
 cases r1 with
 |cons r rr=>
  cases rr with
  |cons r2 rr=>
   cases rr;cases r;cases r2;have I1:Inv X pins σ H { s with heap:=s.heap.push (cI t1 l1) }:=I.kept (t':=s.toks) fun b o e=>Heap.get?_push_of_some _ e
   refine Bq (S1:=fun it z1=>it=s.heap.objs.size/\z1={ s with heap:=s.heap.push (cI t1 l1) }) (S2:=fun it jt z2=>it=s.heap.objs.size/\jt=(s.heap.push (cI t1 l1)).objs.size/\z2={ s with heap:=(s.heap.push (cI t1 l1)).push (cI t2 l2) })
    (fun A=>pE I hx ⟨_,rfl,rfl,rfl⟩) (fun it z1 h1 A=>?_) fun it jt z2 h2=>?_
   ·obtain⟨rfl,rfl⟩:=h1;exact pE I1 hy ⟨_,rfl,rfl,rfl,rfl⟩
   ·obtain⟨rfl,rfl,rfl⟩:=h2;have z1:(s.heap.push (cI t1 l1)).objs.size=s.heap.objs.size+1:=Heap.size_push ..;generalize e1:s.heap.push (cI t1 l1)=g1 at *
    have p1:g1.get? s.heap.objs.size=some (cI t1 l1):=by
     rw[<-e1];exact Heap.get?_push_size _ (by cases t1<;>rfl)
    have k1:∀ b o,s.heap.get? b=some o->g1.get? b=some o:=fun b o e=>by rw[<-e1];exact Heap.get?_push_of_some _ e
    have z2:(g1.push (cI t2 l2)).objs.size=s.heap.objs.size+2:=by rw[Heap.size_push,z1]
    have p2:(g1.push (cI t2 l2)).get? (s.heap.objs.size+1)=some (cI t2 l2):=by
     rw[<-z1];exact Heap.get?_push_size _ (by cases t2<;>rfl)
    have k2:∀ b o,g1.get? b=some o->(g1.push (cI t2 l2)).get? b=some o:=fun b o e=>Heap.get?_push_of_some _ e;generalize e2:g1.push (cI t2 l2)=g2 at *;dsimp only;rw[z1]
    have z3:(g2.push { cls:=.type "tuple",data:=.seq #[.ref s.heap.objs.size,.ref (s.heap.objs.size+1)] }).objs.size=s.heap.objs.size+3:=by rw[Heap.size_push,z2]
    have p3:(g2.push { cls:=.type "tuple",data:=.seq #[.ref s.heap.objs.size,.ref (s.heap.objs.size+1)] }).get? (s.heap.objs.size+2)=some { cls:=.type "tuple",data:=.seq #[.ref s.heap.objs.size,.ref (s.heap.objs.size+1)] }:=by
     rw[<-z2];exact Heap.get?_push_size _ rfl
    have k3:∀ b o,g2.get? b=some o->(g2.push { cls:=.type "tuple",data:=.seq #[.ref s.heap.objs.size,.ref (s.heap.objs.size+1)] }).get? b=some o:=fun b o e=>Heap.get?_push_of_some _ e;rw[z2];generalize e3:g2.push { cls:=.type "tuple",data:=.seq #[.ref s.heap.objs.size,.ref (s.heap.objs.size+1)] }=g3 at *;rw[z3]
    have z4:(g3.push { cls:=.type "tuple",data:=.seq #[.none,.none] }).objs.size=s.heap.objs.size+4:=by rw[Heap.size_push,z3]
    have p4:(g3.push { cls:=.type "tuple",data:=.seq #[.none,.none] }).get? (s.heap.objs.size+3)=some { cls:=.type "tuple",data:=.seq #[.none,.none] }:=by
     rw[<-z3];exact Heap.get?_push_size _ rfl
    have k4:∀ b o,g3.get? b=some o->(g3.push { cls:=.type "tuple",data:=.seq #[.none,.none] }).get? b=some o:=fun b o e=>Heap.get?_push_of_some _ e;generalize e4:g3.push { cls:=.type "tuple",data:=.seq #[.none,.none] }=g4 at *;rw[z4]
    have p5:(g4.push { cls:=.type "zip",data:=.fields #[.none,.bool false,.bool false,.ref (s.heap.objs.size+2),.ref (s.heap.objs.size+3)] }).get? (s.heap.objs.size+4)=some { cls:=.type "zip",data:=.fields #[.none,.bool false,.bool false,.ref (s.heap.objs.size+2),.ref (s.heap.objs.size+3)] }:=by
     rw[<-z4];exact Heap.get?_push_size _ rfl
    have k5:∀ b o,g4.get? b=some o->(g4.push { cls:=.type "zip",data:=.fields #[.none,.bool false,.bool false,.ref (s.heap.objs.size+2),.ref (s.heap.objs.size+3)] }).get? b=some o:=fun b o e=>Heap.get?_push_of_some _ e;generalize e5:g4.push { cls:=.type "zip",data:=.fields #[.none,.bool false,.bool false,.ref (s.heap.objs.size+2),.ref (s.heap.objs.size+3)] }=g5 at *
    refine wpAny_pyIter_zip (TI:=s.heap.objs.size+2) (TO:=s.heap.objs.size+3) (f0:=.none) p5 ⟨s.heap.objs.size+4,[s.heap.objs.size+4,s.heap.objs.size+2,s.heap.objs.size+3,s.heap.objs.size,s.heap.objs.size+1],_,Itz t1 t2 l1 l2,H,rfl,I.kept (t':=s.toks) fun b o e=>k5 _ _ (k4 _ _ (k3 _ _ (k2 _ _ (k1 _ _ e)))),yK (far _ 2 4 (by decide)) (far _ 3 4 (by decide)) (far _ 2 3 (by decide)) (far _ 0 4 (by decide)) (far _ 1 4 (by decide)) (far _ 0 3 (by decide)) (far _ 1 3 (by decide)) (far _ 0 1 (by decide)) (far _ 0 2 (by decide)) (far _ 1 2 (by decide)),
     ⟨p5,k5 _ _ (k4 _ _ p3),⟨_,_,k5 _ _ p4⟩,qQ (k5 _ _ (k4 _ _ (k3 _ _ (k2 _ _ p1)))),qQ (k5 _ _ (k4 _ _ (k3 _ _ p2)))⟩,fun b hb=>?_,q⟩
    have hb':s.heap.objs.size<=b:=by
     simp only[List.mem_cons,List.mem_nil_iff,or_false]at hb
     rcases hb with rfl | rfl | rfl | rfl | rfl<;>first | exact Nat.le_refl _ | exact Nat.le_add_right _ _
    exact I.l6 hb' (I.hok.fresh hb')
end
end L2
namespace RS
open PySem PySem.Spec PyProof.Rows L2
def j0:∀ (ds es:List RL.D),ds.length=es.length->(RL.eh ds es).length=ds.length
 | [],[],_=>rfl
 | [],_::_,h=>by cases h
 | _::_,[],h=>by cases h
 | d::ds,e::es,h=>by rw[RL.eh,List.length_cons,List.length_cons,j0 ds es (by simpa using h)]
def qL:∀ (ds es:List RL.D) (i:Nat) (d:RL.D),(RL.eh ds es)[i]?=some d->∃ x y,ds[i]?=some x/\es[i]?=some y/\d=.tup [x,y]
 | [],es,i,d,h=>by cases es<;>simp[RL.eh]at h
 | _::_,[],i,d,h=>by simp[RL.eh]at h
 | x::ds,y::es,0,d,h=>by simp[RL.eh]at h;exact⟨x,y,rfl,rfl,h.symm⟩
 | x::ds,y::es,i+1,d,h=>by
  rw[RL.eh,List.getElem?_cons_succ]at h;obtain⟨x',y',h1,h2,h3⟩:=qL ds es i d h;exact⟨x',y',by simpa using h1,by simpa using h2,h3⟩
def vV{K:PySem.W.Frag}(hl:ds.length=es.length)(h1:H l1=some (dz t1 xs))(h2:H l2=some (dz t2 ys))(n1:¬ P l1)(n2:¬ P l2)(r1:ab nP K H ds xs)(r2:ab nP K H es ys)(hm:∀ b o,P b->H b=some o->cx o) :
  iB K (Itz t1 t2 l1 l2) (RL.eh ds es) P H where
 go:=fun H' i k hi=>by
  rw[j0 ds es hl]at hi;obtain⟨x,e,_⟩:=r1.get (i:=i) (d:=ds[i]) (by simp[hi]);obtain⟨y,e',_⟩:=r2.get (i:=i) (d:=es[i]'(by lia)) (by simp);exact⟨xs,ys,x,y,k _ _ n1 h1,k _ _ n2 h2,e,e'⟩
 stop:=fun H' k=>⟨xs,ys,k _ _ n1 h1,k _ _ n2 h2,by rw[j0 ds es hl,r1.length],by rw[j0 ds es hl,hl,r2.length]⟩
 yld:=fun H' i d v H2 k e y=>by
  obtain⟨p,x,w,hp,rfl,rfl,hx,hw⟩:=y;obtain⟨dx,dw,g1,g2,rfl⟩:=qL ds es i d e;obtain⟨x',g3,g4⟩:=r1.get g1;obtain⟨w',g5,g6⟩:=r2.get g2;rw[hx xs (k _ _ n1 h1)]at g3;rw[hw ys (k _ _ n2 h2)]at g5;cases g3;cases g5;refine⟨aw.bE hp,fun q=>?_⟩
  have re:Rep nP K H' dx x/\Rep nP K H' dw w:=by
   rcases q with q | q
   ·have q:(dx.imm&&(dw.imm&&true))=true:=q;rw[Bool.and_true,Bool.and_eq_true]at q;exact⟨gE hm k g4 q.1,gE hm k g6 q.2⟩
   ·exact⟨g4.same q,g6.same q⟩
  rw[Rep];exact⟨p,[x,w],rfl,aW,ab.cons (re.1.same (aw.bE hp)) (ab.cons (re.2.same (aw.bE hp)) ab.nil)⟩
def ot{P:Addr->Prop}{K:PySem.W.Frag}(h:RL.items d=some ds)(r:Rep P K H d v):∃ t l xs,v=.ref l/\H l=some (dz t xs)/\ab P K H ds xs/\(t=false->d=.lst ds):=by
 obtain⟨p,xs,rfl,hp,rs⟩:=eX h r
 rcases hp with⟨q,rfl⟩ | ⟨q,rfl⟩
 ·exact⟨false,p,xs,rfl,q,rs,fun _=>rfl⟩
 ·exact⟨true,p,xs,rfl,q,rs,fun z=>by cases z⟩
section rules
def EF(hg:Gl X "zip")(hm:X.mg "zip" = none)(ha:SE X cl a a')(hb:SE X cl b b')(hn:noStar a=true)(hn2:noStar b=true):PI' (fun _=>True) X (.Tuple elts kx tp) (.Call (.Name "zip" p) [a,b] [] pos) (tI X.K cl (.zip a' b')):=by
 intro pins s σ H R I h;obtain⟨σD,ds,rv,e,k⟩:=h;obtain⟨x,ea,e⟩:=bind_some e;obtain⟨y,eb,e⟩:=bind_some e;obtain⟨xs,e1,e⟩:=bind_some e;obtain⟨ys,e2,e⟩:=bind_some e;split at e
 ·rename_i hl;cases e;have hpa:PA X [a,b] (iX (tE X.K cl a') (iX (tE X.K cl b') ue)):=bx ha (bx hb cP (ax [] hn2)) (ax _ hn);refine E4 hg hm hpa (by rw[ax _ hn,ax _ hn2];rfl) (ax [] hn2) pins s σ H R I ?_;refine⟨σD,x,rv,ea,fun v H1 r1=>⟨σD,y,rv.same r1.same,eb,fun u H2 r2=>?_⟩⟩;obtain⟨t1,l1,vs,rfl,h1,p1,c1⟩:=ot e1 (r1.rep.same r2.same);obtain⟨t2,l2,us,rfl,h2,p2,c2⟩:=ot e2 r2.rep;refine⟨t1,t2,l1,l2,vs,us,rfl,h1,h2,k _ _ (r1.same.trans r2.same) ⟨vV hl h1 h2 (fun z=>z) (fun z=>z) p1 p2 gP,fun M P z hP av=>?_⟩⟩;have hP2:=dH (r1.same.trans r2.same) hP;unfold RL.uL at z;rw[Bool.and_eq_true]at z
  have notT:∀ (t:Bool) l zs,H2 l=some (dz t zs)->t=true->¬ P l:=fun t l zs hl ht q=>by
   subst ht;rcases hP2 l _ q hl with⟨_,q⟩ | ⟨_,q⟩ | ⟨_,q⟩<;>cases q
  refine vV hl h1 h2 ?_ ?_ p1 p2 hP2
  ·cases ht:t1 with
   | true=>exact notT t1 l1 vs h1 ht
   | false=>exact lF r1 z.1 hP av _ _ (c1 ht) rfl
  ·cases ht:t2 with
   | true=>exact notT t2 l2 us h2 ht
   |false=>
    refine lF r2 z.2 (fun b q=>?_) (fun j dj vj hj h3 h4=>(av j dj vj hj h3 h4).same r1.same) _ _ (c2 ht) rfl;obtain⟨o,ho,hmu⟩:=hP b q;exact⟨o,r1.same _ _ ho,hmu⟩
 ·cases e
end rules
end RS
namespace L2
open PySem PySem.Spec PyProof.Rows
section
end
end L2
namespace RS
open PySem PySem.Spec PyProof.Rows L2
section
end
end RS
namespace L2
open PySem PySem.Spec PyProof.Rows
section
def ij:∀ {ns:List Int} {us:List Value},Vals (ns.map V.int) us->IntsAre us ns
 | [],_,.nil=>.nil
 | n::r,_,.cons ⟨t,e⟩ h=>by
  subst e;exact .cons _ _ (ij h)
def xR(hc:X.calm=true):aZ X (.builtin "sum") (fun xs H Q=>∃ (p:Addr) (ns:List Int),xs=[.ref p]/\H p=some (.lst (ns.map V.int))/\Q (.int ns.sum) H):=by
 intro pins s σ H xs us Q I r h;obtain⟨p,ns,rfl,hp,q⟩:=h
 cases r with
 |cons r rr=>
  cases rr;cases r;obtain⟨its,rv,hl,hz⟩:=I.list (SqL.of hp);have hi:=ij rv;obtain⟨xs,hx⟩:=hi.allInts.items;have hn:=hi.numsOf
  have hx':its=(intItems xs).toList:=by rw[<-hx]
  have hl':s.heap.IsList p (intItems xs):=hx▸hl.isList;refine sum_intListG (I.ok.hd.1 hc) hl' fun h' tk t' hk=>?_;refine⟨.int ns.sum,H,I.kept (t':=tk) (fun b o e=>hk b o e),⟨t',?_⟩,q⟩;rw[<-hn,hx',nums_intItems,preSum_eq,List.take_of_length_le (by simp)]
def hV(a:Int):∀ l:List Int,(RL.cD a l).Perm (a::l)
 | []=>.refl _
 | b::r=>by
  unfold RL.cD;split
  ·exact .refl _
  ·exact((hV a r).cons b).trans (.swap ..)
def iN(a:Int):∀ l:List Int,l.Pairwise (·<=·)->(RL.cD a l).Pairwise (·<=·)
 | [],_=>by simp[RL.cD]
 | b::r,h=>by
  unfold RL.cD;rw[List.pairwise_cons]at h;split
  ·rename_i c;rw[List.pairwise_cons,List.pairwise_cons]
   exact⟨fun x hx=>by
    rcases List.mem_cons.mp hx with rfl | hx
    ·exact c
    ·exact Int.le_trans c (h.1 x hx),h⟩
  ·rename_i c;rw[List.pairwise_cons];refine⟨fun x hx=>?_,iN a r h.2⟩;rcases List.mem_cons.mp ((hV a r).mem_iff.mp hx)with rfl | hx
   ·lia
   ·exact h.1 x hx
def sortI_perm:∀ l:List Int,(RL.sortI l).Perm l
 | []=>.refl _
 | a::r=>(hV a _).trans ((sortI_perm r).cons a)
def dX:∀ l:List Int,(RL.sortI l).Pairwise (·<=·)
 | []=>.nil
 | a::r=>iN a _ (dX r)
def ji:∀ {a b:List Int},a.Perm b->a.Pairwise (·<=·)->b.Pairwise (·<=·)->a=b
 | [],b,h,_,_=>by simpa using h.symm.eq_nil
 | x::r,[],h,_,_=>by simpa using h.eq_nil
 | x::r,y::t,h,ha,hb=>by
  rw[List.pairwise_cons]at ha hb
  have e:x=y:=by
   have h1:=h.mem_iff.mp (List.mem_cons_self (a:=x) (l:=r));have h2:=h.mem_iff.mpr (List.mem_cons_self (a:=y) (l:=t));rcases List.mem_cons.mp h1 with h1 | h1
   ·exact h1
   ·rcases List.mem_cons.mp h2 with h2 | h2
    ·exact h2.symm
    ·exact Int.le_antisymm (ha.1 y h2) (hb.1 x h1)
  subst e;rw[ji (List.perm_cons x |>.mp h) ha.2 hb.2]
def rH:aZ X (.builtin "sorted") (fun xs H Q=>∃ (p:Addr) (ns:List Int),xs=[.ref p]/\H p=some (.lst (ns.map V.int))/\ns.length<64/\∀ l,H l=none->Q (.ref l) (upd H l (.lst ((RL.sortI ns).map V.int)))):=by
 intro pins s σ H xs us Q I r h;obtain⟨p,ns,rfl,hp,hlen,q⟩:=h
 cases r with
 |cons r rr=>
  cases rr;cases r;obtain⟨its,rv,hl,hz⟩:=I.list (SqL.of hp);have hi:=ij rv;refine sorted_ints hl.isList hi (by rw[hi.length];exact hlen) fun out ns' h1 h2 h3=>?_;have e:=ji (h2.trans (sortI_perm ns).symm) h3 (dX ns);subst e;obtain⟨en,he⟩:=sortedAll_at s.heap its out;refine⟨.ref (s.heap.objs.size+1),_,I.laid (t':=s.toks) (o:=.lst ((RL.sortI ns).map V.int)) (fun b ob q=>sortedAll_old q) (by lia) ?_,rfl,q _ (I.hok.fresh (by lia))⟩;exact⟨by simp only[List.length_map];rw[(sortI_perm ns).length_eq];simpa using hz,out.toList,en,iq h1,by rw[he]⟩
abbrev F3:V->List V->Hp->VK->Prop:=fun x vs H Q=>∃ (l:Addr) (ns:List Int) (k:Int),x=.ref l/\vs=[.int k]/\H l=some (.lst (ns.map V.int))/\k∈ns/\Q (.int (ns.idxOf k:Nat)) H
def yi:MtM X "list.index" F3:=by
 intro pins s σ H x vs v us Q I rx rv h;obtain⟨l,ns,k,rfl,rfl,hH,hk,q⟩:=h;cases rx;obtain⟨u,rfl,t,rfl⟩:=rv.one;obtain⟨its,r,hl,hz⟩:=I.list (SqL.of hH);have hi:=ij r;have hn:=hi.length;obtain⟨⟨cls,dd,data,sl⟩,ho,hc,n,hd⟩:=id hl.isList;have hc:cls=.type "list" := hc;have hd:data=.seq its.toArray n:=hd;subst hc hd;have hj:=List.idxOf_lt_length_iff.mpr hk
 have hz':ns.length<=sizeLine:=by simpa using hz
 refine call_meets F.slot_list_index ⟨_,ho,rfl⟩ F.entry_list_index (F.args_list_index_2 _ _) (SeqAt.list_indexAt l its.toArray n dd sl (.int k t) (isInt k) (ns.idxOf k) (by rw[List.size_toArray];lia) (by unfold sizeLine at hz';lia) ?h1 ?h2) ⟨ho,fun y hy=>(eq_isInt k t hi y (by simpa using hy)).at _ _,.int (ns.idxOf k:Nat),H,I.tok _,⟨_,rfl⟩,q⟩
 case h1 =>
  have e:=isInt_at k hi (ns.idxOf k) (by lia) hj;rw[List.getElem_idxOf hj,beq_self_eq_true]at e;exact e
 case h2 =>
  intro m hm hlt
  have hm':m<its.length:=by simpa using hm
  exact(isInt_at k hi m hm' (by lia)).trans (ne_of_lt_idxOf hlt _)
end
section
abbrev Bo(r r' r'':R2)(ta tb tc tg:TE):TE:=fun σ H Q=>ta σ H fun x H1=>tb σ H1 fun y H2=>r x y H2 fun z H3=>∃ k,z=.bl k /\
 (if k=true then tc σ H3 fun u H4=>r' y u H4 fun z H5=>∃ k',z=.bl k'/\(if k'=true then tg σ H5 fun w H6=>r'' u w H6 Q else Q (.bl false) H5)else Q (.bl false) H3)
def vL(ho:OpR X (compareOp op) r)(ho':OpR X (compareOp op') r')(ho'':OpR X (compareOp op'') r'')(ha:PE X a ta)(hb:PE X b tb)(hc:PE X c tc)(hg:PE X g tg)
 (hm:lastMarks [op,op',op''] [b,c,g]=false):PE X (.Compare a [op,op',op''] [b,c,g] pos) (Bo r r' r'' ta tb tc tg):=by
 intro pins s σ H Q I h
 refine Compare_chain (thn (ha pins s σ H _ I h) fun v s1 ⟨x,H1,I1,r1,q1⟩=>chain_link (thn (hb pins s1 σ H1 _ I1 q1) fun u s2 ⟨y,H2,I2,r2,q2⟩ =>
  thn (ho pins s2 σ H2 x y v u _ I2 r1 r2 q2) fun d s3 ⟨z,H3,I3,r3,k,e,q3⟩=>?_)) hm
 subst e;cases r3;refine wpAny_truthy_bool ?_
 cases k with
 | false=>exact ite_ff ⟨.bl false,H3,I3,rfl,q3⟩
 |true=>
  refine ite_tt (chain_link (thn (hc pins s3 σ H3 _ I3 q3) fun u' s4 ⟨y',H4,I4,r4,q4⟩=>thn (ho' pins s4 σ H4 y y' u u' _ I4 r2 r4 q4) fun d s5 ⟨z,H5,I5,r5,k,e,q5⟩=>?_));subst e;cases r5;refine wpAny_truthy_bool ?_
  cases k with
  | false=>exact ite_ff ⟨.bl false,H5,I5,rfl,q5⟩
  | true=>exact ite_tt (chain_last (thn (hg pins s5 σ H5 _ I5 q5) fun w' s6 ⟨z',H6,I6,r6,q6⟩=>ho'' pins s6 σ H6 y' z' u' w' Q I6 r4 r6 q6))
end
end L2
namespace RS
open PySem PySem.Spec PyProof.Rows L2
section
def l5{P:Addr->Prop}{K:PySem.W.Frag}:∀ is:List Int,ab P K H (is.map RL.D.int) (is.map V.int)
 | []=>ab.nil
 | i::r=>ab.cons aM (l5 r)
def lx:∀ {ds:List RL.D} {is:List Int},RL.bJ ds=some is->is.length=ds.length
 | [],is,h=>by cases h;rfl
 | d::ds,is,h=>by
  cases d<;>simp only[RL.bJ]at h<;>first | (cases h;done) | skip
  obtain⟨is',h1,h2⟩:=map_some h;subst h2;simp[lx h1]
def Cc(hc:X.calm=true)(hg:Gl X "sum")(hm:X.mg "sum" = none)(ha:SE X cl a a')(hn:noStar a=true):SE X cl (.Call (.Name "sum" p) [a] [] pos) (.bi .sum a'):=by
 refine dO (xR hc) hg hm (by decide +kernel) ha hn (by decide) (by decide) fun σD σ H H1 y d v Q e s1 r1 k=>?_
 cases y<;>first | (cases e;done) | skip
 case lst ds =>
  obtain⟨is,e1,e2⟩:=map_some e;subst e2;obtain⟨q,xs,rfl,_,f2,f3⟩:=az r1;rw[gx e1 f3]at f2;exact⟨q,is,rfl,f2,k _ _ (bU s1 aM rfl)⟩
def v9(hg:Gl X "sorted")(hm:X.mg "sorted" = none)(ha:SE X cl a a')(hn:noStar a=true):SE X cl (.Call (.Name "sorted" p) [a] [] pos) (.bi .sorted a'):=by
 refine dO rH hg hm (by decide +kernel) ha hn (by decide) (by decide) fun σD σ H H1 y d v Q e s1 r1 k=>?_
 cases y<;>first | (cases e;done) | skip
 case lst ds =>
  rw[RL.FT]at e;split at e
  ·rename_i h64;obtain⟨is,e1,e2⟩:=map_some e;subst e2;obtain⟨q,xs,rfl,_,f2,f3⟩:=az r1;rw[gx e1 f3]at f2;exact⟨q,is,rfl,f2,by rw[lx e1];exact h64,fun l hl=>k _ _ (cT s1 hl (l5 _) fun _=>rfl)⟩
  ·cases e
def xY(ha:SE X cl (.Name x p) a')(hb:SE X cl b b')(hn:noStar b=true)(hl:(apos.endLine == pos.line)=true):SE X cl (.Call (.Attribute (.Name x p) "index" apos) [b] [] pos) (.index a' b'):=by
 refine PE.weak (tG PySem.F.plainAttrs_list PySem.F.slot_list_index PySem.F.type_list_index yi ha (ba (cl:=cl) hb bP hn) rfl (by rw[ax [] hn];rfl) hl (ax [] hn) rfl) fun σ H Q h=>?_;obtain⟨σD,d,rv,e,k⟩:=h;obtain⟨x,ea,e⟩:=bind_some e;obtain⟨y,eb,e⟩:=bind_some e;refine⟨σD,x,rv,ea,fun v H1 r1=>?_⟩
 cases x with
 |lst xs=>
  cases y with
  |int i=>
   obtain⟨is,e1,e⟩:=bind_some (show(RL.bJ xs).bind _=some d from e);split at e
   ·rename_i hm;cases e;obtain⟨q,ys,rfl,_,f2,f3⟩:=az r1.rep;refine⟨.inl ⟨rfl,_,SqL.of f2⟩,σD,[.int i],rv.same r1.same,by rw[RL.evs,eb];rfl,fun vs H2 s2 rr=>?_⟩;rw[gx e1 f3]at f2;rw[ab]at rr;obtain⟨x,t,rfl,r2,r3⟩:=rr;rw[ab]at r3;subst r3;exact⟨q,is,i,rfl,by rw[ai r2],s2 _ _ f2,hm,k _ _ (bU (r1.same.trans s2) aM rfl)⟩
   ·cases e
  | _=>cases e
 | _=>cases y<;>cases e
def EM{c c' c'':RL.Cop}(b e g:Expr):lastMarks [bA c,bA c',bA c''] [b,e,g]=false:=by
 show behindInMarks (bA c'') g=false;exact gh g
def vq(hu:X.A.units+100<cLine)(ha:SE X cl a a')(hb:SE X cl b b')(hc:SE X cl c c')(hg:SE X cl g g'):SE X cl (.Compare a [bA o,bA o',bA o''] [b,c,g] pos) (.chain3 o o' o'' a' b' c' g'):=by
 refine PE.weak (vL (eD hu) (eD hu) (eD hu) ha hb hc hg (EM b c g)) fun σ H Q h=>?_;obtain⟨σD,d,rv,h,k⟩:=h;obtain⟨x,ea,h⟩:=bind_some h;obtain⟨y,eb,h⟩:=bind_some h;obtain⟨t,e1,h⟩:=bind_some h;refine two rv ea eb fun v u H1 H2 s1 s2 rx ry _ _=>?_;refine⟨x,y,t,rx,ry,e1,t,rfl,?_⟩;have sm:=s1.trans s2
 cases t with
 |false=>
  rw[if_neg (by decide)]at h;cases h;exact eF (k _ _ (cm sm))
 |true=>
  rw[if_pos rfl]at h;obtain⟨z,ec,h⟩:=bind_some h;obtain⟨t,e3,h⟩:=bind_some h;refine dJ ⟨σD,z,rv.same sm,ec,fun w H3 r3=>⟨y,z,t,ry.same r3.same,r3.rep,e3,t,rfl,?_⟩⟩;have sm3:=sm.trans r3.same
  cases t with
  |false=>
   rw[if_neg (by decide)]at h;cases h;exact eF (k _ _ (cm sm3))
  |true=>
   rw[if_pos rfl]at h;obtain⟨w',eg,h⟩:=bind_some h;obtain⟨t,e5,e6⟩:=map_some h;subst e6;exact dJ ⟨σD,w',rv.same sm3,eg,fun w2 H4 r4=>⟨z,w',t,r3.rep.same r4.same,r4.rep,e5,k _ _ (cm (sm3.trans r4.same))⟩⟩
end
section
variable{st:Stmt}
end
section
variable{X:Cx}
end
end RS
namespace L2
open PySem PySem.Spec PyProof.Rows
end L2
namespace RS
open PySem PySem.Spec PyProof.Rows L2
end RS
namespace L2
open PySem PySem.Spec PyProof.Rows
section
variable{prog:Program}{w:World}{A:Around}{E:Value->Shared->Prop}{s:Shared}
end
end L2
namespace RS
open PySem PySem.Spec PyProof.Rows L2
end RS
namespace L2
open PySem PySem.Spec PyProof.Rows
abbrev Itx(x:Str):It:=⟨fun i _=>i<x.cps.size,fun i H v H'=>H'=H/\∃ c,x.cps[i]?=some c/\v=.str ⟨#[c]⟩,fun i _=>x.cps.size<=i⟩
def yj{P:Program}{w:World}{K:PySem.W.Frag}{tg:Expr}(x:Str)(t:Tok)(it:Addr):Turn P w K tg (Itx x) [it] it (fun i h=>h.IsStrIter it (strIterType x) x t i) where
 mem:=by simp
 obj:=fun i h st b hb=>by
  have e:b=it:=by simpa using hb
  subst e;obtain⟨o,e,c,d⟩:=st;exact⟨o,e,fun v z=>by rw[d]at z;cases z⟩
 keep:=fun i h h' st k=>let ⟨o,e,r⟩:=st;⟨o,k it (by simp) o e,r⟩
 item:=by
  intro X hP hw hK hc i pins s σ H E I hf st hg;subst hP hw hK;have hg:i<x.cps.size:=hg;obtain⟨f0,f1,f2,f3,f4,f5⟩:=hf it (by simp)
  have hx:x.cps[i]?=some x.cps[i]:=by simp[hg]
  have fin:∀ h',h'.IsStrIter it (strIterType x) x t (i+1)->Heap.SameBut it s.heap h'->(∃ u,some (Value.str ⟨#[x.cps[i]]⟩ s.toks)=some u /\
    wpAny (model X.prog X.w) X.A (letOwnedTupleGo tg (.ref it) u) (fun _ s2=>∃ y H',Inv X pins σ H' s2/\RelV y u/\(Itx x).yld i H y H'/\s2.heap.IsStrIter it (strIterType x) x t (i+1)/\∀ b∈[it],H' b=none) E { s with heap:=h',toks:=s.toks+1 }):=fun h' st' sb=>by
   have I1:Inv X pins σ H { s with heap:=h',toks:=s.toks+1 }:=I.turned (t':=s.toks+1) (fun b o hb e=>(sb.2 b hb).trans e) f0 f1 f3 f4 f5;obtain⟨o,e,c,d⟩:=id st'
   have hn:["enumerate", "zip", "dict_itemiterator", "dict_reverseitemiterator", "odict_iterator", "itertools.zip_longest", "itertools.pairwise"].contains (strIterType x)=false:=by
    unfold strIterType;split<;>decide
   exact⟨_,rfl,mj (s:={ s with heap:=h',toks:=s.toks+1 }) e c d hn ⟨.str ⟨#[x.cps[i]]⟩,H,I1,⟨_,rfl⟩,⟨rfl,_,hx,rfl⟩,st',fun b hb=>(hf b hb).1⟩⟩
  cases ha:x.cps.all (·<128)with
  |true=>
   have ht:strIterType x = "str_ascii_iterator" := by simp[strIterType,ha]
   rw[ht]at st;exact wpAny_pyNext_ascii_item st hx fun h' st' sb=>fin h' (by rw[ht];exact st') sb
  |false=>
   have ht:strIterType x = "str_iterator" := by simp[strIterType,ha]
   rw[ht]at st;exact wpAny_pyNext_wide_item st hx fun h' st' sb=>fin h' (by rw[ht];exact st') sb
 done:=by
  intro X hP hw hK hc i pins s σ H E I hf st hg;subst hP hw hK;have hg:x.cps.size<=i:=hg;obtain⟨f0,f1,f2,f3,f4,f5⟩:=hf it (by simp)
  have hx:x.cps[i]?=none:=by simp[hg]
  have fin:∀ h',Heap.ExtBut it s.heap h'->(none:Option Value)=none/\Inv X pins σ H { s with heap:=h' }:=fun h' eb=>⟨rfl,I.turned (t':=s.toks) (fun b o hb e=>eb b o hb e) f0 f1 f3 f4 f5⟩
  cases ha:x.cps.all (·<128)with
  |true=>
   have ht:strIterType x = "str_ascii_iterator" := by simp[strIterType,ha]
   rw[ht]at st;exact wpAny_pyNext_ascii_end (I.ok.hd.1 hc) st hx fin
  |false=>
   have ht:strIterType x = "str_iterator" := by simp[strIterType,ha]
   rw[ht]at st;exact wpAny_pyNext_wide_end (I.ok.hd.1 hc) st hx fin
 self:=fun A i s Q E st h=>by
  cases ha:x.cps.all (·<128)with
  |true=>
   have ht:strIterType x = "str_ascii_iterator" := by simp[strIterType,ha]
   rw[ht]at st;exact wpAny_pyIter_striter_ascii st h
  |false=>
   have ht:strIterType x = "str_iterator" := by simp[strIterType,ha]
   rw[ht]at st;exact wpAny_pyIter_striter_wide st h
def Fi{X:Cx}{tg l:Expr}{tl:TE}(hl:PE X l tl):PI X tg l (fun σ H R=>tl σ H fun y H1=>∃ x,y=.str x/\R (Itx x) H1):=by
 intro pins s σ H R I h;refine thn (hl pins s σ H _ I h) fun v s1 ⟨y,H1,I1,r1,x,e,q⟩=>?_;subst e;obtain⟨t,rfl⟩:=r1;refine wpAny_pyIter_strU ⟨s1.heap.objs.size,[s1.heap.objs.size],_,_,H1,rfl,I1.kept (t':=s1.toks) fun b o e=>Heap.get?_push_of_some _ e,yj x t _,⟨_,Heap.get?_push_size _ rfl,rfl,rfl⟩,fun b hb=>?_,q⟩;rw[show b=s1.heap.objs.size by simpa using hb];exact I1.l6 (Nat.le_refl _) (I1.hok.fresh (Nat.le_refl _))
end L2
namespace RS
open PySem PySem.Spec PyProof.Rows L2
def vd{K:PySem.W.Frag}{H:Hp}{x:Str}{P:Addr->Prop}:iB K (Itx x) (x.cps.toList.map fun c=>RL.D.str ⟨#[c]⟩) P H where
 go:=fun H' i k hi=>by show i<x.cps.size;simpa using hi
 stop:=fun H' k=>by show x.cps.size<=_;simp
 yld:=fun H' i d v H2 k e y=>by
  obtain⟨z,c,h1,h2⟩:=y;subst z h2;refine⟨aw.refl _,fun _=>?_⟩
  have:d=.str ⟨#[c]⟩:=by
   rw[List.getElem?_map]at e;obtain⟨c',e1,e2⟩:=map_some e;rw[Array.getElem?_toList,h1]at e1;cases e1;exact e2.symm
  subst this;exact dP
def C3{X:Cx}{cl:RL.Cl}{tg a:Expr}{a':RL.E}(ha:SE X cl a a'):SI X cl tg a (.chr a'):=by
 refine PI.weak (Fi ha) fun σ H R h=>?_;obtain⟨σD,ds,rv,e,k⟩:=h;obtain⟨d,e1,e2⟩:=bind_some (show(RL.ev cl σD a').bind _=some ds from e);refine⟨σD,d,rv,e1,fun v H1 r1=>?_⟩
 cases d with
 |str x=>
  cases e2;exact⟨x,a7 r1.rep,k _ _ r1.same ⟨vd,fun _ _ _ _ _=>vd⟩⟩
 | _=>cases e2
end RS
namespace L2
open PySem PySem.Spec PyProof.Rows
def Bu{X:Cx}:PIp X .Add (fun x y H Q=>∃ a b,x=.str a/\y=.str b/\a.length+b.length<=sizeLine/\Q (.str (a++b)) H):=by
 intro pins s σ H x y v u Q I r1 r2 h;obtain⟨a,b,rfl,rfl,hz,q⟩:=h;obtain⟨t,rfl⟩:=r1;obtain⟨t',rfl⟩:=r2;exact SBL.iadd (fun t' k _=>⟨.str (a++b),H,I.tok _,⟨_,rfl⟩,q⟩) hz
end L2
namespace RS
open PySem PySem.Spec PyProof.Rows L2
section
open PySem.Builtin.Str
end
section
variable{X:Cx}{cl:RL.Cl}{a b:Expr}{a' b' e':RL.E}{pos p2:Pos}{M:List Nat}{st:Stmt}{i:Nat}
def AO(h:PS X st (yO i (tE X.K cl e') (fun x y H Q=>∃ a b,x=.str a/\y=.str b/\a.length+b.length<=sizeLine/\Q (.str (a++b)) H)))(hi:M.contains i=false):SS X cl M st (.augs i e'):=by
 refine PS.weak h fun D σ H h=>?_;obtain⟨σD,ou,σD',rv,e,k⟩:=h;obtain⟨x,e1,e⟩:=bind_some (show((σD[i]?).bind id).bind _=some (ou,σD')from e);obtain⟨y,e2,e⟩:=bind_some e;obtain⟨z,e3,e4⟩:=map_some e;cases e4
 cases x with
 |str a=>
  cases y with
  |str b=>
   have e3:(if a.length+b.length<=RL.most then some (RL.D.str (a++b))else none)=some z:=e3;by_cases c:a.length+b.length<=RL.most
   ·rw[if_pos c]at e3;cases e3;obtain⟨v,h1,h2⟩:=rv.val i _ (slot_get e1);rw[if_neg (by rw[hi];decide)]at h2;refine⟨v,h1,σD,.str b,rv.rv0,e2,fun u H1 r1=>⟨a,b,a7 h2,a7 r1.rep,Nat.le_trans c bM,?_⟩⟩;exact k _ _ ((rv.same r1.same).bind hi dP) (Fr'.bind hi r1.same)
   ·rw[if_neg c]at e3;cases e3
  | _=>cases e3
 | _=>cases e3
def By{f r p w:Nat}(h:PS X st (oS (zQ (spM X.K cl [0] f) [] E0 (iX (gK r) (iX (gK p) (iX (tM X.K "list" tP (gK w)) ue))))))(hr:M.contains r=true)(hp:M.contains p=false)(hw:M.contains w=true)(hrw:r≠w):SS X cl M st (.tie3 f r p w):=by
 refine PS.weak h fun D σ H h=>?_;obtain⟨σD,ou,σD',rv,e,k⟩:=h;obtain⟨R,e1,e⟩:=bind_some (show((σD[r]?).bind id).bind _=some (ou,σD')from e);obtain⟨x,e2,e⟩:=bind_some e;obtain⟨l,e3,e⟩:=bind_some e;obtain⟨q,e4,e⟩:=bind_some e
 have hpw:p≠w:=fun z=>by rw[z,hw]at hp;cases hp
 cases l with
 |lst ds=>
  obtain⟨d,e5,e6⟩:=map_some (show(ds[ds.length-1]?).map _=some q from e4);subst e6;by_cases im:x.imm=true
  ·rw[if_pos im]at e;obtain⟨c,e7,e8⟩:=bind_some e;obtain⟨v,h1,h2⟩:=rv.val r _ (slot_get e1);rw[if_pos hr]at h2;obtain⟨a,o,rfl,_,_⟩:=h2.ref;obtain⟨vp,p1,p2⟩:=rv.val p _ (slot_get e2);obtain⟨vw,w1,w2⟩:=rv.val w _ (slot_get e3);rw[if_pos hw]at w2;obtain⟨q1,q2,q3⟩:=w2;obtain⟨b,xs,rfl,_,f2,f3⟩:=az q3;obtain⟨y,f4,f5⟩:=f3.get e5;have imd:=kf q2;obtain⟨g1,g2⟩:=rv.gN (d':=.lst ds.dropLast) (o':=.lst xs.dropLast) hw w1 f2 (.inl ⟨_,rfl⟩) (kh (ds:=ds) f2 imd f3.dropLast);have hdi:d.imm=true:=qj q2 e5;have rd:∀ P:Addr->Prop,Rep P X.K (upd H b (.lst xs.dropLast)) d y:=fun P=>Rep.imm hdi (Rep.upd (P:=fun p=>p=b) f2 (.inl ⟨_,rfl⟩) rfl (f5.imm hdi));refine⟨.ref a,h1,vp,p1,.ref b,w1,.inl ⟨rfl,xs,SqL.of f2⟩,b,xs,y,rfl,rfl,f2,by rw[<-f3.length];exact f4,?_⟩;show spM X.K cl [0] f ([.ref a,vp,y]++[]) (upd H b (.lst xs.dropLast)) _ E0;rw[List.append_nil]
   have er:(σD.set w (some (RL.D.lst ds.dropLast)))[r]?=some (some R):=by rw[List.getElem?_set_ne (Ne.symm hrw)];exact slot_get e1
   have ep:(σD.set w (some (RL.D.lst ds.dropLast)))[p]?=some (some x):=by rw[List.getElem?_set_ne (Ne.symm hpw)];exact slot_get e2
   obtain⟨v',z1,z2⟩:=g1.val r _ er;rw[h1]at z1;cases z1;rw[if_pos hr]at z2;obtain⟨v',z3,z4⟩:=g1.val p _ ep;rw[p1]at z3;cases z3;rw[if_neg (by rw[hp];decide)]at z4
   cases c with
   |tup ts=>
    match ts,e8,e7 with
    |[d0,R'],e8,e7=>
     cases e8
     have at0:∀ c,mAt [0] [V.ref a,vp,y] c->c=a:=fun c ⟨p,hp,e⟩=>by
      rw[List.mem_singleton]at hp;subst hp;cases e;rfl
     refine⟨[R,x,d],d0,[R'],e7,⟨ab.cons z2.2.2 (ab.cons z4.none (ab.cons (rd nP) ab.nil)),fun p hp=>?_,fun p hp q hq _ _ _=>?_,fun q dq v hq h3 h4=>?_⟩,fun v H' off rp im' mo=>?_⟩
     ·rw[List.mem_singleton]at hp;subst hp;exact⟨R,a,rfl,rfl,z2⟩
     ·rw[List.mem_singleton]at hp hq;rw[hp,hq]
     ·match q,hq,h3,h4 with
      | 0,hq,_,_=>exact absurd (List.mem_singleton.mpr rfl) hq
      |1,_,h3,h4=>
       cases h3;cases h4
       exact z4.weak fun c hc=>by
        rw[at0 c hc];exact⟨r,hr,h1⟩
      |2,_,h3,h4=>
       cases h3;cases h4;exact rd _
     ·obtain⟨k1,k2⟩:=g1.changed (ms:=[r]) (outs:=[R']) (H1:=H') (fun i hi=>by rw[List.mem_singleton.mp hi];exact hr) (by simp) rfl
       (fun c o n e=>off c o (fun z=>n ⟨r,List.mem_singleton.mpr rfl,by rw[at0 c z];exact h1⟩) e) fun k i o hk ho=>by
        match k,hk,ho with
        |0,hk,ho=>
         cases hk;cases ho;obtain⟨c,c1,c2⟩:=mo.own 0 0 _ rfl rfl;cases c1;exact⟨a,h1,c2⟩
      exact k _ _ k1 (g2.trans k2)
    | [],e8,_=>cases e8
    | [_],e8,_=>cases e8
    | _::_::_::_,e8,_=>cases e8
   | _=>cases e8
  ·rw[if_neg im]at e;cases e
 | _=>cases e4
end
section
variable{X:Cx}{cl:RL.Cl}{a b c d:Expr}{a' b' c' d':RL.E}{pos apos p p2 p3:Pos}
end
section
open PySem.W
variable{prog:Program}{w:World}{A:Around}{E:Value->Shared->Prop}{s:Shared}
def nO:∀ (f n r:Nat),minRun' f n r<=n+r
 | 0,n,r=>Nat.le_refl _
 | f+1,n,r=>by
  rw[minRun'_succ];split
  ·exact Nat.le_refl _
  ·have h:=nO f (n / 2) (max r (n%2));lia
def v3{κ:SortKind}{it:Array Keyed}{n:Nat}(hc:∀ i,1<=i->i<n->∀ C:Bool->Shared->Prop,C false s->kas_cmp prog w A κ it i (i-1) C s) :
  ∀ (f k:Nat),1<=k->k+f<=n->(kas_asc (List.toArray (List.range n)) f k).kasWp (kas_cmp prog w A κ it) (fun m s'=>m=k+f/\s'=s) s
 | 0,k,_,_=>⟨rfl,rfl⟩
 | f+1,k,h1,h2=>by
  have e1:(List.toArray (List.range n)).getD k 0=k:=by simp[Array.getD];lia
  have e2:(List.toArray (List.range n)).getD (k-1) 0=k-1:=by simp[Array.getD];lia
  show kas_cmp prog w A κ it ((List.toArray (List.range n)).getD k 0) ((List.toArray (List.range n)).getD (k-1) 0) _ s;rw[e1,e2];refine hc k h1 (by lia) _ ?_;have h:=v3 hc f (k+1) (by lia) (by lia);rw[show k+1+f=k+(f+1) by lia]at h;exact h
def zq{κ:SortKind}{it:Array Keyed}{n:Nat}{Q:Unit->SortSt->Shared->Prop}(h2:2<=n)(hc:∀ i,1<=i->i<n->∀ C:Bool->Shared->Prop,C false s->kas_cmp prog w A κ it i (i-1) C s)
 (hQ:∀ st,arrOf st=(List.toArray (List.range n)).map (kas_item it)->failedOf st=none->Q () st s):kasC (model prog w) A E sortRuns' Q (kas_st κ it (List.toArray (List.range n))) s:=by
 obtain⟨r,rfl⟩:∃ r,n=r+2:=⟨n-2,by lia⟩
 have hrs:(List.toArray (List.range (r+2))).size=r+2:=by simp
 have hsz:(arrOf (kas_st κ it (List.toArray (List.range (r+2))))).size=r+2:=by
  show((List.toArray (List.range (r+2))).map (kas_item it)).size=_;rw[Array.size_map,hrs]
 have hmr:=nO (r+2) (r+2) 0;rw[sortRuns'_eq];refine kasC_bind (kasC_get ?_);dsimp only;simp only[hsz];generalize hM:minRun' (r+2) (r+2) 0=M at hmr ⊢;refine kasC_bind (kasC_range ?_);show kasC _ _ _ (forIn (0::1::List.range' 2 r) _ _) _ _ _;refine kasC_cons ?_;dsimp only;rw[if_neg (by lia)];simp only[Nat.sub_zero,Nat.zero_add]
 have ask:(kas_count (r+2) (List.toArray (List.range (r+2)))).kasWp (kas_cmp prog w A κ it) (fun q s'=>(q.1=r+2/\q.2=List.toArray (List.range (r+2)))/\s'=s) s:=by
  unfold kas_count;rw[KasT.kasWp_bind];refine kas_wp_mono (v3 hc (r+2-1) 1 (Nat.le_refl 1) (by lia)) fun m s' hm=>?_;obtain⟨rfl,rfl⟩:=hm;rw[if_pos (by simp;lia)];exact⟨⟨by show 1+(r+2-1)=_;lia,rfl⟩,rfl⟩
 refine kasC_bind (kas_count_ (by lia) (by rw[hrs];exact Nat.le_refl _) (fun m p' s' _ _ _ hg=>?_) ask);obtain⟨⟨e1,e2⟩,e3⟩:=hg;dsimp only at e1 e2;subst e1 e2 e3;dsimp only;rw[if_neg (by lia)];refine kasC_bind (kasC_get ?_);rw[show(pendingOf (kas_st κ it (List.toArray (List.range (r+2))))).back?=none from rfl];dsimp only;refine kasC_bind (kasC_modify (kasC_pure ?_));show kasC _ _ _ (forIn (1::List.range' 2 r) _ _) _ _ _;refine kasC_cons ?_;dsimp only;rw[if_pos (Nat.le_refl _)];refine kasC_pure ?_;dsimp only;refine kasC_bind (kasC_range ?_);show kasC _ _ _ (forIn (0::1::List.range' 2 r) _ _) _ _ _;refine kasC_cons (kasC_bind (kasC_get ?_));rw[if_pos (show(pendingOf (setPending (kas_st κ it (List.toArray (List.range (r+2)))) ((pendingOf (kas_st κ it (List.toArray (List.range (r+2))))).push (0,r+2,0)))).size<=1 from Nat.le_refl 1)];refine kasC_pure ?_;dsimp only;exact kasC_pure (hQ _ rfl rfl)
variable{vs:List Value}{xs:List Str}
def qk(rv:Vals (xs.map V.str) vs)(h:xs[i]?=some x):∃ t,vs.getD i Value.none=.str x t:=by
 obtain⟨u,h1,t,rfl⟩:=rv.get (i:=i) (x:=.str x) (by simp[h]);exact⟨t,by simp[List.getD,h1]⟩
abbrev tO(xs:List Str):Prop:=∀ (i:Nat) (a b:Str),xs[i]?=some a->xs[i+1]?=some b->¬ b.cps.toList<a.cps.toList
def oC{a:Addr}{n:Nat}{P:PySem.Fin->Shared->Prop}(ho:s.heap.get? a=some (seqObj "list" vs.toArray n))(rv:Vals (xs.map V.str) vs)(asc:tO xs)(hz:vs.length<=sizeLine)
 (h:P (.done (.ret .none)) { s with heap:=sortedHeap s.heap a vs vs.toArray }):wpAny (model prog w) A (Builtin.«list.sort» ⟨[.ref a],[]⟩) P E s:=by
 have hlen:xs.length=vs.length:=by simpa using rv.length
 obtain⟨e1,ho1⟩:∃ e1,(s.heap.update a (Obj.mapSeq fun _=>(#[]:Array Value))).get? a=some (seqObj "list" #[] e1):=⟨_,get?_update_seq ho fun _=>#[]⟩
 have hlt:a<s.heap.objs.size:=Heap.lt_size ho;have ho3:(((s.heap.update a (Obj.mapSeq fun _=>(#[]:Array Value))).push (seqObj "tuple" vs.toArray 0)).push (seqObj "list" #[] 0)).get? a=some (seqObj "list" #[] e1):=Heap.get?_push_of_some _ (Heap.get?_push_of_some _ ho1)
 have fin:∀ st:SortSt,(arrOf st).map (·.2)=vs.toArray->failedOf st=none->wpAny (model prog w) A (do
   let sorted:=(arrOf st).map (·.2)
   let touched:=(<- seqEpoch a) != e1
   Builtin.List.listUpdate (.ref a) fun _=>sorted
   if let some e:=failedOf st then do rule "list.sort.comparison-raised";throw e
   if touched then do rule "list.sort.modified";raiseError "ValueError" "list modified during sort"
   ret .none) P E { s with heap:=((s.heap.update a (Obj.mapSeq fun _=>(#[]:Array Value))).push (seqObj "tuple" vs.toArray 0)).push (seqObj "list" #[] 0) }:=fun st hs hf=>by
  dsimp only;rw[hs,hf];refine wpAny_bind (seqEpoch_at ho3 rfl (wpAny_bind (listUpdate_at ho3 rfl ?_ (Nat.zero_le _) (by rw[List.size_toArray];lia))));simp only[bne_self_eq_false,Bool.false_eq_true,if_false];exact wpAny_pure h
 rw[list_sort_plain];refine wpAny_bind (listItems_at ho rfl (wpAny_bind (listUpdate_at ho rfl ?_ (by rw[List.size_toArray];exact hz) (Nat.zero_le _))));refine wpAny_bind (seqEpoch_at ho1 rfl (wpAny_bind (wpAny_newTuple ?_ (by show vs.length<=_;exact hz))));refine wpAny_bind (wpAny_newList (wpAny_holding ?_) (Nat.zero_le _));show wpAny (model prog w) A _ P E { s with heap:=((s.heap.update a (Obj.mapSeq fun _=>(#[]:Array Value))).push (seqObj "tuple" vs.toArray 0)).push (seqObj "list" #[] 0) };dsimp only
 have sn:∀ k:SortKind,(arrOf (SortSt.mk' k (vs.toArray.zip vs.toArray) #[] 7 none)).map (·.2)=vs.toArray:=fun k=>by
  show(vs.toArray.zip vs.toArray).map (·.2)=_;apply Array.toList_inj.mp;simp only[Array.toList_map,Array.toList_zip];exact List.map_snd_zip (Nat.le_refl _)
 by_cases hn:vs.length<2
 ·have hn':vs.toArray.size<2:=by simpa using hn
  rw[if_pos hn',if_pos hn'];exact wpAny_bind (wpAny_pure (wpAny_bind (wpAny_pure (fin _ (sn _) rfl))))
 ·have hn':¬ vs.toArray.size<2:=by simpa using hn
  rw[if_neg hn',if_neg hn'];refine wpAny_bind (kas_kind (T:=.type "str") (by lia) (fun v hv=>?_) rfl rfl ?_)
  ·obtain⟨j,hj,rfl⟩:=List.mem_iff_getElem.mp hv;obtain⟨t,e⟩:=qk (i:=j) (x:=xs[j]'(by lia)) rv (by simp)
   have:vs.getD j Value.none=vs[j]:=by simp[List.getD,hj]
   rw[<-this,e];exact .of_pure rfl
  ·have est:SortSt.mk' oneType' (vs.toArray.zip vs.toArray) #[] 7 none=kas_st oneType' (pairsOf vs) (List.toArray (List.range vs.length)):=by
    have e:=kas_range (pairsOf vs);rw[pairsOf_size]at e;unfold kas_st;rw[e];rfl
   rw[est];refine wpAny_bind (wpAny_mono (zq (E:=E) (Q:=fun _ st s'=>(arrOf st=(List.toArray (List.range vs.length)).map (kas_item (pairsOf vs))/\failedOf st=none)/\s'={ s with heap:=((s.heap.update a (Obj.mapSeq fun _=>(#[]:Array Value))).push (seqObj "tuple" vs.toArray 0)).push (seqObj "list" #[] 0) }) (by lia) (fun i h1 hi C hC=>?_) fun st e1 e2=>⟨⟨e1,e2⟩,rfl⟩) ?_ fun _ _ e=>e)
   ·have hb:i-1+1=i:=by lia
    obtain⟨t,e⟩:=qk (i:=i) (x:=xs[i]'(by lia)) rv (by simp);obtain⟨t',e'⟩:=qk (i:=i-1) (x:=xs[i-1]'(by lia)) rv (by simp);rw[<-kas_ask_eq];unfold kas_ask;rw[e,e'];refine kas_lt_str ?_;rw[decide_eq_false (asc (i-1) _ _ (by simp) (by rw[hb];simp))];exact hC
   ·rintro⟨⟨⟩,st⟩ s' ⟨⟨e1,e2⟩,rfl⟩;refine fin st ?_ e2;have e:=kas_range (pairsOf vs);rw[pairsOf_size]at e;rw[e1,e];exact sn oneType'
def uA{l:Addr}{Q:Value->Shared->Prop}(hl:s.heap.IsList l vs.toArray)(rv:Vals (xs.map V.str) vs)(asc:tO xs)(hz:vs.length<=sizeLine)
 (h:Q (.ref (s.heap.objs.size+1)) { s with heap:=sortedAll s.heap vs vs.toArray }):wpAny (model prog w) A (call (.builtin "sorted") [.ref l]) Q E s:=by
 have hsz:((s.heap.push (seqObj "list" #[] 0)).update s.heap.objs.size (Obj.mapSeq (· ++ vs.toArray))).objs.size=s.heap.objs.size+1:=by rw[Heap.size_update,size_push']
 have hoL:(((s.heap.push (seqObj "list" #[] 0)).update s.heap.objs.size (Obj.mapSeq (· ++ vs.toArray))).push (seqObj "list" vs.toArray 0)).get? (s.heap.objs.size+1)=some (seqObj "list" vs.toArray 0):=by
  rw[<-hsz];exact Heap.get?_push_size _ rfl
 refine Calls.call_function_entry kind_sorted plain_sorted entry_sorted (args_sorted1 _) ?_;unfold Builtin.«sorted»;refine wpAny_bind (m:=checkCount "sorted" 1 1 _) (wpAny_pure (wpAny_bind (collect_list hl (wpAny_bind (wpAny_newList ?_ hz)) hz)));show wpAny _ _ _ _ _ { s with heap:=((s.heap.push (seqObj "list" #[] 0)).update s.heap.objs.size (Obj.mapSeq (· ++ vs.toArray))).push (seqObj "list" vs.toArray 0) };rw[hsz];exact wpAny_bind (wpAny_holding (wpAny_call_entry slot_list_sort ⟨_,hoL,rfl⟩ entry_list_sort (oC hoL rv asc hz ⟨_,rfl,wpAny_pure ⟨_,rfl,h⟩⟩) (args_list_sort _)))
end
variable{X:Cx}
def qK:aZ X (.builtin "sorted") (fun xs H Q=>∃ (p:Addr) (ts:List Str),xs=[.ref p]/\H p=some (.lst (ts.map V.str))/\tO ts/\∀ l,H l=none->Q (.ref l) (upd H l (.lst (ts.map V.str)))):=by
 intro pins s σ H xs us Q I r h;obtain⟨p,ts,rfl,hp,asc,q⟩:=h
 cases r with
 |cons r rr=>
  cases rr;cases r;obtain⟨its,rv,hl,hz⟩:=I.list (SqL.of hp)
  have hz':its.length<=sizeLine:=by rw[<-rv.length];simpa using hz
  refine uA hl.isList rv asc hz' ?_;obtain⟨en,he⟩:=sortedAll_at s.heap its its.toArray;refine⟨.ref (s.heap.objs.size+1),_,I.laid (t':=s.toks) (o:=.lst (ts.map V.str)) (fun b ob q=>sortedAll_old q) (by lia) ?_,rfl,q _ (I.hok.fresh (by lia))⟩;exact⟨by simpa using hz,its,en,rv,he⟩
section
variable{K:PySem.W.Frag}
def RVm.F0(h:RVm K N1 σD σ H)(sub:∀ i,N2.contains i=true->N1.contains i=true):RVm K N2 σD σ H where
 len:=h.len
 val:=fun i d e=>by
  obtain⟨v,h1,h2⟩:=h.val i d e;refine⟨v,h1,?_⟩;by_cases hm:N2.contains i=true
  ·rw[if_pos hm];rw[if_pos (sub i hm)]at h2;exact h2
  ·rw[if_neg hm];by_cases hn:N1.contains i=true
   ·rw[if_pos hn]at h2;obtain⟨a,o,rfl,_,_⟩:=h2.ref;have np:¬ bc N2 σ a:=fun⟨k,hk,ek⟩=>hm ((h.sep i k a hn (sub k hk) h1 ek)▸hk);obtain⟨q1,q2,q3⟩:=h2
    cases d with
    | lst ds=>obtain⟨b,xs,e1,e0,e2,e3⟩:=az q3;cases e1;rw[Rep];exact⟨a,xs,rfl,np,e2,e3.imm q2⟩
    | dK ks ds=>rw[Rep]at q3 ⊢;obtain⟨b,xs,e1,e0,e2,el,e3⟩:=q3;cases e1;exact⟨a,xs,rfl,np,e2,el,e3.imm q2⟩
    | dT ks ds=>rw[Rep]at q3 ⊢;obtain⟨b,xs,e1,e0,e2,el,e3⟩:=q3;cases e1;exact⟨a,xs,rfl,np,e2,el,e3.imm q2⟩
    | _=>cases q1
   ·rw[if_neg hn]at h2
    exact h2.weak fun b ⟨k,hk,ek⟩=>⟨k,sub k hk,ek⟩
 non:=h.non
 sep:=fun i j a hi hj=>h.sep i j a (sub i hi) (sub j hj)
def dG{M:List Nat}{i j:Nat}(h:(j::M).contains i=true):i=j\/M.contains i=true:=by simpa using h
def gU{M:List Nat}{j:Nat}:(j::M).contains j=true:=by simp
def cM{M:List Nat}{i j:Nat}(h:M.contains i=true):(j::M).contains i=true:=by simp at h ⊢;exact .inr h
def RVm.open(h:RVm K M σD σ H)(s:aw H H1)(ha:H a=none)(r:Own K H1 d (.ref a)):RVm K (i::M) (σD.set i (some d)) (σ.set i (some (.ref a))) H1 /\
  ∀ b,bc (i::M) (σ.set i (some (.ref a))) b->bc M σ b\/b=a:=by
 have sub:∀ b,bc (i::M) (σ.set i (some (.ref a))) b->bc M σ b\/b=a:=fun b ⟨j,hj,e⟩=>by
  by_cases hji:j=i
  ·subst hji
   have hlt:j<σ.length:=by simpa using(List.getElem?_eq_some_iff.mp e).1
   rw[List.getElem?_set_self hlt]at e;cases e;exact .inr rfl
  ·rw[List.getElem?_set_ne (Ne.symm hji)]at e;exact .inl ⟨j,(dG hj).resolve_left hji,e⟩
 have old:∀ b,bc M σ b->b≠a:=fun b p z=>h.uH b p (z▸ha);refine⟨⟨by simpa using h.len,fun j dj e=>?_,fun j w e=>?_,fun j k b hj hk e1 e2=>?_⟩,sub⟩
 ·by_cases hj:j=i
  ·subst hj
   have hlt:j<σD.length:=by simpa using(List.getElem?_eq_some_iff.mp e).1
   rw[List.getElem?_set_self hlt]at e;cases e;refine⟨.ref a,by rw[List.getElem?_set_self (by rw[<-h.len];exact hlt)],?_⟩;rw[if_pos gU];exact r
  ·rw[List.getElem?_set_ne (Ne.symm hj)]at e ⊢;obtain⟨v,h1,h2⟩:=h.val j dj e;refine⟨v,h1,?_⟩;by_cases hm:M.contains j=true
   ·rw[if_pos (cM hm)];rw[if_pos hm]at h2;exact h2.same s
   ·rw[if_neg fun z=>hm ((dG z).resolve_left hj)];rw[if_neg hm]at h2;exact((h2.d5 ha).weak sub).same s
 ·by_cases hj:j=i
  ·subst hj
   have hlt:j<σ.length:=by simpa using(List.getElem?_eq_some_iff.mp e).1
   exact⟨d,by rw[List.getElem?_set_self (by rw[h.len];exact hlt)]⟩
  ·rw[List.getElem?_set_ne (Ne.symm hj)]at e ⊢;exact h.non j w e
 ·by_cases h1:j=i
  ·by_cases h2:k=i
   ·rw[h1,h2]
   ·subst h1
    have hlt:j<σ.length:=by simpa using(List.getElem?_eq_some_iff.mp e1).1
    rw[List.getElem?_set_self hlt]at e1;rw[List.getElem?_set_ne (Ne.symm h2)]at e2;cases e1;exact absurd rfl (old _ ⟨k,(dG hk).resolve_left h2,e2⟩)
  ·rw[List.getElem?_set_ne (Ne.symm h1)]at e1;by_cases h2:k=i
   ·subst h2
    have hlt:k<σ.length:=by simpa using(List.getElem?_eq_some_iff.mp e2).1
    rw[List.getElem?_set_self hlt]at e2;cases e2;exact absurd rfl (old _ ⟨j,(dG hj).resolve_left h1,e1⟩)
   ·rw[List.getElem?_set_ne (Ne.symm h2)]at e2;exact h.sep j k b ((dG hj).resolve_left h1) ((dG hk).resolve_left h2) e1 e2
end
abbrev FrX(M N1:List Nat)(σ0:L2.St)(H0:Hp)(σ:L2.St)(H:Hp):Prop:=(∀ b o,H0 b=some o->¬ bc M σ0 b->H b=some o/\¬ bc N1 σ b)/\∀ j,2<=M.count j->σ[j]?=σ0[j]?
abbrev tQ(K:PySem.W.Frag)(M N1:List Nat)(f:RL.St->Option (RL.Out × RL.St)):TS:=fun D σ H=>∃ σ0 H0 σD r σD',RVm K N1 σD σ H/\FrX M N1 σ0 H0 σ H/\f σD=some (r,σD')/\qE K M D σ0 H0 r σD'
abbrev SQ(X:Cx)(cl:RL.Cl)(M N1:List Nat)(st:List Stmt)(s:RL.Sq):Prop:=PSs X st (tQ X.K M N1 (RL.u5 cl M N1 s))
section
variable{X:Cx}{M N1:List Nat}{st:Stmt}{sts:List Stmt}{j:Nat}
def CA(h:SSs X cl M sts r)(sub:∀ i,M.contains i=true->N1.contains i=true):SQ X cl M N1 sts (.cls r):=by
 refine PSs.weak h fun D σ H h=>?_;obtain⟨σ0,H0,σD,o,σD',rv,fr,e,k⟩:=h;exact⟨σD,o,σD',rv.F0 sub,e,k.from ⟨fun b u eb n=>⟨(fr.1 b u eb n).1,fun⟨j,hj,ej⟩=>(fr.1 b u eb n).2 ⟨j,sub j hj,ej⟩⟩,fr.2⟩⟩
def Ay(h1:SS X cl N1 st s)(h2:SQ X cl M N1 sts r)(cnt:∀ j,2<=M.count j->2<=N1.count j):SQ X cl M N1 (st::sts) (.cons s r):=by
 refine PSs.weak (jw h1 h2) fun D σ H h=>?_;obtain⟨σ0,H0,σD,o,σD',rv,fr,e,k⟩:=h;obtain⟨p,e1,e2⟩:=bind_some e;obtain⟨o1,σ1⟩:=p
 cases o1 with
 | rt d=>cases e2
 | nx=>exact⟨σD,.nx,σ1,rv,e1,fun σ' H' rv' fr'=>⟨σ0,H0,σ1,o,σD',rv',⟨fun b u eb n=>fr'.1 b u (fr.1 b u eb n).1 (fr.1 b u eb n).2,fun j hj=>(fr'.2 j (cnt j hj)).trans (fr.2 j hj)⟩,e2,k⟩⟩
def sX{K:PySem.W.Frag}(rv:RVm K N1 σD σ H)(fr:FrX M N1 σ0 H0 σ H)(hj:M.count j<2)(ok:(RL.aA d&&RL.aD e')=true)(r1:Res K σD σ H e' d v H1):RVm K (j::N1) (σD.set j (some d)) (σ.set j (some v)) H1/\FrX M (j::N1) σ0 H0 (σ.set j (some v)) H1:=by
 rw[Bool.and_eq_true]at ok
 have m:lh d=true:=by
  cases d with
  | lst _=>rfl
  | dK _ _=>rfl
  | dT _ _=>rfl
  | _=>cases ok.1
 have ow:Own K H1 d v:=⟨m,ok.1,r1.rep⟩
 obtain⟨a,ob,rfl,_,_⟩:=ow.ref;have hn:=r1.fresh ok.2 m a rfl;obtain⟨g1,g2⟩:=rv.open (i:=j) r1.same hn ow;refine⟨g1,fun b u eb n=>⟨r1.same _ _ (fr.1 b u eb n).1,fun z=>(g2 b z).elim (fr.1 b u eb n).2 fun q=>aH (fr.1 b u eb n).1 hn q⟩,fun k hk=>?_⟩;rw[List.getElem?_set_ne (fun z=>by subst z;lia)];exact fr.2 k hk
def Eh(h:SA X cl st j e')(hj:M.count j<2)(h2:SQ X cl M (j::N1) sts r):SQ X cl M N1 (st::sts) (.opn j e' r):=by
 refine PSs.weak (jw h h2) fun D σ H h=>?_;obtain⟨σ0,H0,σD,o,σD',rv,fr,e,k⟩:=h;obtain⟨d,e1,e2⟩:=bind_some e;split at e2
 ·rename_i ok;refine⟨σD,d,rv.rv0,e1,fun v H1 r1=>?_⟩;obtain⟨g1,g2⟩:=sX rv fr hj ok r1;exact⟨σ0,H0,_,o,σD',g1,g2,e2,k⟩
 ·cases e2
def AK(h:SA X cl st j e')(hj:M.contains j=false)(h2:SQ X cl M (j::M) sts r):SSs X cl M (st::sts) (.opn j e' r):=by
 refine PSs.weak (jw h h2) fun D σ H h=>?_;obtain⟨σD,o,σD',rv,e,k⟩:=h;obtain⟨d,e1,e2⟩:=bind_some e;split at e2
 ·rename_i ok;refine⟨σD,d,rv.rv0,e1,fun v H1 r1=>?_⟩
  have c0:M.count j<2:=by
   have:M.count j=0:=List.count_eq_zero.mpr (by simpa using hj);lia
  obtain⟨g1,g2⟩:=sX (M:=M) (σ0:=σ) (H0:=H) rv ⟨fun b u eb n=>⟨eb,n⟩,fun _ _=>rfl⟩ c0 ok r1;exact⟨σ,H,_,o,σD',g1,g2,e2,k⟩
 ·cases e2
end
section
variable{X:Cx}
variable{M:List Nat}{st:Stmt}{i:Nat}{cl:RL.Cl}
def rT{P:Addr->Prop}{K:PySem.W.Frag}:∀ {ds:List RL.D} {ss:List Str} {xs:List V},RL.strs? ds=some ss->ab P K H ds xs->xs=ss.map V.str
 | [],ss,xs,h,r=>by cases h;rw[ab]at r;exact r
 | .str y::ds,ss,xs,h,r=>by
  obtain⟨ys,h1,h2⟩:=map_some (show(RL.strs? ds).map _=some ss from h);subst h2;rw[ab]at r;obtain⟨x,t,rfl,r1,r2⟩:=r;rw[a7 r1,rT h1 r2];rfl
def xv:∀ {xs:List Str},RL.lD xs=true->tO xs
 | [],_,i,a,b,h,_=>by simp at h
 | [_],_,i,a,b,_,h=>by simp at h
 | x::y::r,z,i,a,b,h1,h2=>by
  rw[RL.lD,Bool.and_eq_true]at z
  cases i with
  | zero=>simp at h1 h2;subst h1 h2;simpa using z.1
  | succ i=>exact xv z.2 i a b (by simpa using h1) (by simpa using h2)
def tH{a:Expr}{a':RL.E}{p pos:Pos}(hg:Gl X "sorted")(hm:X.mg "sorted" = none)(ha:SE X cl a a')(hn:noStar a=true):SE X cl (.Call (.Name "sorted" p) [a] [] pos) (.bi .sortedS a'):=by
 refine dO qK hg hm (by decide +kernel) ha hn (by decide) (by decide) fun σD σ H H1 y d v Q e s1 r1 k=>?_
 cases y<;>first | (cases e;done) | skip
 case lst ds =>
  rw[RL.Af]at e;obtain⟨ss,e1,e2⟩:=bind_some e;split at e2
  ·rename_i asc;cases e2;obtain⟨q,xs,rfl,_,f2,f3⟩:=az r1;have hx:=rT e1 f3;rw[hx]at f2 f3;exact⟨q,ss,rfl,f2,xv asc,fun l hl=>k _ _ (cT s1 hl f3 fun _=>rfl)⟩
  ·cases e2
end
abbrev bz(m:Nat):Array Nat:=((List.range 8).filter fun i=>m.testBit i).toArray
abbrev goS(m:Nat):Nat->Nat->Nat->Option Nat
 | 0,_,_=>none
 | f+1,i,q=>if m.testBit i then goS m f ((i*5+1+q / 32)%8) (q / 32)else some i
def Fu(m:Nat)(i:Nat)(q:Nat):∀ f,∀ j,goS m f i q=some j->i<8->j<8/\m.testBit j=false:=by
 intro f
 induction f generalizing i q with
 | zero=>intro j h;cases h
 |succ f ih=>
  intro j h hi;unfold goS at h;split at h
  ·exact ih _ _ j h (Nat.mod_lt _ (by decide))
  ·rename_i c;cases h;exact⟨hi,by simpa using c⟩
def xO(m:Nat):∀ f g i q j,goS m f i q=some j->f<=g->goS m g i q=some j:=by
 intro f
 induction f with
 | zero=>intro g i q j h;cases h
 |succ f ih=>
  intro g i q j h hg
  cases g with
  | zero=>omega
  |succ g=>
   unfold goS at h ⊢;split
   ·rename_i c;rw[if_pos c]at h;exact ih _ _ _ _ h (by omega)
   ·rename_i c;rw[if_neg c]at h;exact h
def FL:∀ m<255,∀ i<8,(goS m 8 i 0).isSome=true:=by decide +kernel
def F9(m:Nat)(hm:m<255):∀ k i q,i<8->q<32 ^ k->(goS m (k+8) i q).isSome=true:=by
 intro k
 induction k with
 |zero=>
  intro i q hi hq
  have:q=0:=by simpa using hq
  subst this;exact FL m hm i hi
 |succ k ih=>
  intro i q hi hq;show(goS m (k+8+1) i q).isSome=true;unfold goS;split
  ·exact ih _ _ (Nat.mod_lt _ (by decide)) (by rw[Nat.pow_succ]at hq;exact Nat.div_lt_of_lt_mul (by rw[Nat.mul_comm];exact hq))
  ·rfl
structure Tb(bt:Bool)(t:SetTable)(m:Nat):Prop where
 mask:t.mask=7
 dum:t.dummies=#[]
 place:t.place=bz m
 plain:t.plain=true
 led:t.led=!bt
def DS:∀ m<256,∀ j<8,(SetTable.below (bz m) j<(bz m).size/\(bz m)[SetTable.below (bz m) j]?=some j/\m.testBit j=true)\/((bz m)[SetTable.below (bz m) j]?≠some j/\m.testBit j=false):=by decide +kernel
def Aq:∀ m<256,∀ j<8,m.testBit j=false->SetTable.insertAt (bz m) (SetTable.below (bz m) j) j=bz (m ||| 2 ^ j)/\m ||| 2 ^ j<256/\(bz (m ||| 2 ^ j)).size=(bz m).size+1:=by decide +kernel
def vA:∀ m<256,SetTable.below (bz m) 0=0/\∀ i<8,∀ j<8,(bz m)[i]?=some j->SetTable.below (bz m) (j+1)=i+1:=by decide +kernel
def Ey:∀ m<256,(bz m).size<8->m<255:=by decide +kernel
def Ih:∀ m<256,∀ i<8,∀ j,(bz m)[i]?=some j->j<8:=by
 intro m hm i hi j h;have:j∈bz m:=Array.mem_of_getElem? h;simp[bz]at this;exact this.1
section
variable{bt:Bool}{t:SetTable}{m:Nat}
def Tb.slot(h:Tb bt t m)(hm:m<256)(hj:j<8):(m.testBit j=true/\∃ i,t.slot j=.live i)\/(m.testBit j=false/\t.slot j=.empty):=by
 unfold SetTable.slot;rw[h.place,h.dum]
 rcases DS m hm j hj with⟨_,h1,h2⟩ | ⟨h1,h2⟩
 ·exact .inl ⟨h2,SetTable.below (bz m) j,by simp only[h1,beq_self_eq_true,if_true]⟩
 ·refine .inr ⟨h2,?_⟩;dsimp only;rw[if_neg (by simpa using h1),if_neg (by simp[SetTable.has])]
def Tb.go(h:Tb bt t m)(hm:m<256)(x:Int):∀ f p,p.dummy=none->p.j=p.i->p.more=0->p.i<8->∀ j,goS m f p.i p.perturb=some j->SetTable.probe.go t (fun _=>x+1) x f p=some (.empty j none):=by
 intro f
 induction f with
 | zero=>intro p _ _ _ _ j hj;cases hj
 |succ f ih=>
  intro p h1 h2 h3 h4 j hj;unfold goS at hj;unfold SetTable.probe.go;rw[h2]
  rcases h.slot hm h4 with⟨b,i,e⟩ | ⟨b,e⟩
  ·rw[e];dsimp only;rw[if_neg (by simp;omega)];rw[if_pos b]at hj
   have ea:t.advance p={ p with j:=(p.i*5+1+p.perturb / 32)%8,more:=0,i:=(p.i*5+1+p.perturb / 32)%8,perturb:=p.perturb / 32 }:=by
    unfold SetTable.advance;rw[if_neg (by omega),h.mask]
    have e:SetTable.runEnd 7 ((p.i*5+1+p.perturb / 32)%8)=(p.i*5+1+p.perturb / 32)%8:=by
     unfold SetTable.runEnd;rw[if_neg (by omega)]
    show({ p with j:=(p.i*5+1+p.perturb / 32)%8,more:=SetTable.runEnd 7 ((p.i*5+1+p.perturb / 32)%8)-(p.i*5+1+p.perturb / 32)%8,i:=(p.i*5+1+p.perturb / 32)%8,perturb:=p.perturb / 32 }:SetTable.Probe)=_;rw[e,Nat.sub_self]
   rw[ea];exact ih { p with j:=(p.i*5+1+p.perturb / 32)%8,more:=0,i:=(p.i*5+1+p.perturb / 32)%8,perturb:=p.perturb / 32 } h1 rfl rfl (Nat.mod_lt _ (by decide)) j hj
  ·rw[e];rw[if_neg (by rw[b];exact Bool.false_ne_true)]at hj;cases hj;rw[h1,<-h2]
def Tb.free(h:Tb bt t m)(hm:m<256)(hs:(bz m).size<8)(x:Int):∃ j,j<8/\m.testBit j=false/\t.freeSlot x=some (j,false):=by
 have hm':=Ey m hm hs
 have hb:SetTable.bits x<32 ^ 13:=by
  unfold SetTable.bits;have h1:x%(2 ^ 64:Int)<2 ^ 64:=Int.emod_lt_of_pos _ (by decide);have h2:0<=x%(2 ^ 64:Int):=Int.emod_nonneg _ (by decide)
  have:(32 ^ 13:Nat)=2 ^ 65:=by decide
  rw[this];omega
 have hi:SetTable.bits x%8<8:=Nat.mod_lt _ (by decide);obtain⟨j,e⟩:=Option.isSome_iff_exists.mp (F9 m hm' 13 (SetTable.bits x%8) (SetTable.bits x) hi hb);obtain⟨j1,j2⟩:=Fu m _ _ _ j e hi;refine⟨j,j1,j2,?_⟩;unfold SetTable.freeSlot SetTable.probe;rw[h.go hm x (10*SetTable.turns t.mask) (t.probeStart x) rfl rfl ?_ ?_ j ?_]
 ·rfl
 ·unfold SetTable.probeStart SetTable.runEnd;rw[h.mask];dsimp only
  have:¬ (SetTable.bits x%(7+1)+9<=7):=by omega
  rw[if_neg this];simp
 ·show SetTable.bits x%(t.mask+1)<8;rw[h.mask];exact hi
 ·show goS m (10*SetTable.turns t.mask) (SetTable.bits x%(t.mask+1)) (SetTable.bits x)=some j;rw[h.mask];exact xO m _ _ _ _ _ e (by decide)
def Tb.put(h:Tb bt t m)(hm:m<256)(hj:j<8)(hb:m.testBit j=false):Tb bt (t.put j).1 (m ||| 2 ^ j):=by
 obtain⟨e,_,_⟩:=Aq m hm j hj hb;refine⟨h.mask,?_,?_,h.plain,h.led⟩
 ·show(if SetTable.has t.dummies j then _ else t.dummies)=#[];rw[h.dum,if_neg (by simp[SetTable.has])]
 ·show SetTable.insertAt t.place (SetTable.below t.place j) j=_;rw[h.place,e]
def Tb.lay(h:Tb bt t m)(hm:m<256){es:Array (Int × Value)}(hz:(bz m).size=es.size)(hs:es.size<5)(x:Int)(v:Value):∃ m',m'<256/\(bz m').size=es.size+1/\Tb bt (layNew t es x v).2.1 m'/\(layNew t es x v).2.1.tooFull=decide (es.size=4)/\(layNew t es x v).2.2.1=false:=by
 obtain⟨j,j1,j2,e⟩:=h.free hm (by omega) x;obtain⟨_,e2,e3⟩:=Aq m hm j j1 j2;have hp:=h.put hm j1 j2
 have hl:(SetTable.insertAt es (t.put j).2 (x,v)).size=es.size+1:=by
  simp only[SetTable.insertAt,Array.size_append,Array.size_push,Array.size_extract]
  have:(t.put j).2<=es.size:=by
   show SetTable.below t.place j<=es.size;rw[h.place,<-hz]
   have:∀ m<256,∀ j<8,SetTable.below (bz m) j<=(bz m).size:=by decide +kernel
   exact this m hm j j1
  omega
 have hfit:(t.put j).1.fits (SetTable.insertAt es (t.put j).2 (x,v)).size=true:=by
  simp only[SetTable.fits,SetTable.fill,hp.place,hp.dum,hp.mask,hl,Bool.and_eq_true,beq_iff_eq,decide_eq_true_eq];refine⟨by omega,?_⟩;show(bz (m ||| 2 ^ j)).size+0<=7;omega
 refine⟨m ||| 2 ^ j,e2,by omega,?_,?_,by unfold layNew;rw[e]⟩
 ·unfold layNew;rw[e];dsimp only;unfold SetTable.orStandIn;rw[if_pos hfit];exact hp
 ·unfold layNew;rw[e];dsimp only;unfold SetTable.orStandIn;rw[if_pos hfit];simp only[SetTable.tooFull,SetTable.fill,hp.place,hp.dum,hp.mask];apply decide_eq_decide.mpr;show((bz (m ||| 2 ^ j)).size+0)*5≥21↔_;omega
end
abbrev tV(xs:Array Nat):Prop:=∀ i j (hj:j<xs.size) (hi:i<j),xs[i]'(Nat.lt_trans hi hj)<xs[j]
def zA(xs:Array Nat)(h:tV xs)(x:Nat):∀ f lo hi,hi<=xs.size->lo<=hi->hi-lo<=f->(∀ i (hi':i<xs.size),i<lo->xs[i]<x)->(∀ i (hi':i<xs.size),hi<=i->x<=xs[i]) ->
  SetTable.below.go xs x f lo hi<=xs.size/\(∀ i (hi':i<xs.size),i<SetTable.below.go xs x f lo hi->xs[i]<x)/\(∀ i (hi':i<xs.size),SetTable.below.go xs x f lo hi<=i->x<=xs[i]):=by
 intro f
 induction f with
 |zero=>
  intro lo hi h1 h2 h3 a b;unfold SetTable.below.go
  have:lo=hi:=by omega
  subst this;exact⟨h1,a,b⟩
 |succ f ih=>
  intro lo hi h1 h2 h3 a b;unfold SetTable.below.go;by_cases c:lo<hi
  ·rw[if_pos c]
   have hm:(lo+hi) / 2<xs.size:=by omega
   have eg:xs.getD ((lo+hi) / 2) x=xs[(lo+hi) / 2]:=by simp[Array.getD,hm]
   dsimp only;rw[eg];by_cases d:xs[(lo+hi) / 2]<x
   ·rw[if_pos d];refine ih _ _ h1 (by omega) (by omega) (fun i hi' q=>?_) b;rcases Nat.lt_or_ge i ((lo+hi) / 2)with z | z
    ·exact Nat.lt_trans (h i _ hm z) d
    ·have:i=(lo+hi) / 2:=by omega
     subst this;exact d
   ·rw[if_neg d];refine ih _ _ (by omega) (by omega) (by omega) a (fun i hi' q=>?_);rcases Nat.lt_or_ge ((lo+hi) / 2) i with z | z
    ·exact Nat.le_of_lt (Nat.lt_of_le_of_lt (Nat.not_lt.mp d) (h _ i hi' z))
    ·have:i=(lo+hi) / 2:=by omega
     subst this;exact Nat.not_lt.mp d
  ·rw[if_neg c]
   have:lo=hi:=by omega
   subst this;exact⟨h1,a,b⟩
abbrev Wlk(xs:Array Nat):Prop:=SetTable.below xs 0=0/\∀ i j,xs[i]?=some j->SetTable.below xs (j+1)=i+1
def tV.walk{xs:Array Nat}(h:tV xs):Wlk xs:=by
 have bl:=fun x=>zA xs h x xs.size 0 xs.size (Nat.le_refl _) (Nat.zero_le _) (by omega) (fun i _ q=>absurd q (Nat.not_lt_zero _)) (fun i hi q=>absurd hi (Nat.not_lt.mpr q));constructor
 ·show SetTable.below.go xs 0 xs.size 0 xs.size=0;obtain⟨h1,h2,h3⟩:=bl 0;rcases Nat.eq_zero_or_pos (SetTable.below.go xs 0 xs.size 0 xs.size)with z | z
  ·exact z
  ·exact absurd (h2 0 (by omega) z) (Nat.not_lt_zero _)
 ·intro i j e;obtain⟨hi,e⟩:=Array.getElem?_eq_some_iff.mp e;show SetTable.below.go xs (j+1) xs.size 0 xs.size=i+1;obtain⟨h1,h2,h3⟩:=bl (j+1);rcases Nat.lt_trichotomy (SetTable.below.go xs (j+1) xs.size 0 xs.size) (i+1)with z | z | z
  ·have:=h3 i hi (by omega);omega
  ·exact z
  ·have h4:=h2 (i+1) (by omega) z;have h5:=h i (i+1) (by omega) (by omega);omega
def iZ{α β:Type}{f g:α->Option β}:∀ {l:List α},(∀ x∈l,f x=g x)->l.filterMap f=l.filterMap g
 | [],_=>rfl
 | a::r,h=>by rw[List.filterMap_cons,List.filterMap_cons,h a (by simp),iZ fun x hx=>h x (by simp[hx])]
def sub_len:∀ {xs ys:List Nat},xs.Nodup->(∀ x∈xs,x∈ys)->xs.length<=ys.length
 | [],_,_,_=>Nat.zero_le _
 | x::r,ys,h,k=>by
  rw[List.nodup_cons]at h;have hx:=k x (by simp);have:=sub_len (ys:=ys.erase x) h.2 fun y hy=>(List.mem_erase_of_ne (fun(e:y=x)=>h.1 (e▸hy))).mpr (k y (by simp[hy]));rw[List.length_erase_of_mem hx]at this;have:=List.length_pos_of_mem hx;simp only[List.length_cons];omega
@[reducible]noncomputable def Owr:=Array (Option Nat)
abbrev oat(o:Owr)(j:Nat):Option Nat:=o.getD j none
structure Ow(o:Owr)(k:Nat):Prop where
 size:o.size=32
 perm:((List.range 32).filterMap (oat o)).Perm (List.range k)
def qi{o:Owr}(h:o.size=32)(hj:j<32):o.getD j (some 0)=oat o j:=by
 unfold oat;simp[Array.getD,h,hj]
abbrev nv(i:Nat):List Nat:=[i,(i*5+1)%32,((i*5+1)%32*5+1)%32,(((i*5+1)%32*5+1)%32*5+1)%32,((((i*5+1)%32*5+1)%32*5+1)%32*5+1)%32]
def rY:∀ i<32,(nv i).Nodup/\∀ x∈nv i,x<32:=by decide +kernel
def Ow.some(h:Ow o k)(hk:k<=4)(hi:i<32):∃ x∈nv i,oat o x=none:=by
 refine Classical.byContradiction fun c=>?_
 have c:∀ x∈nv i,(oat o x).isSome=true:=fun x hx=>by
  cases e:oat o x with
  | none=>exact absurd ⟨x,hx,e⟩ c
  | some v=>rfl
 have f:=rY i hi;have:=sub_len (ys:=(List.range 32).filter fun j=>(oat o j).isSome) f.1 fun x hx=>List.mem_filter.mpr ⟨List.mem_range.mpr (f.2 x hx),c x hx⟩
 have e:((List.range 32).filter fun j=>(oat o j).isSome).length=((List.range 32).filterMap (oat o)).length:=by
  rw[<-List.countP_eq_length_filter,List.length_filterMap_eq_countP]
 rw[e,h.perm.length_eq,List.length_range]at this;have:(nv i).length=5:=rfl;omega
def fF(h:o.size=32)(hi:i<32)(e:oat o i=none)(f q:Nat):SetTable.layClean.free 31 o (f+1) i q=some i:=by
 unfold SetTable.layClean.free
 have:∃ n,SetTable.runEnd 31 i+1-i=n+1:=by
  unfold SetTable.runEnd;split
  ·exact⟨9,by omega⟩
  ·exact⟨0,by omega⟩
 obtain⟨n,hn⟩:=this;rw[hn,List.range_succ_eq_map,List.find?_cons_of_pos]
 ·rfl
 ·show(o.getD (i+0) (some 0)).isNone=true;rw[Nat.add_zero,qi h hi,e];rfl
def qF(h:o.size=32)(hi:i<32)(f q:Nat):(∃ j,j<32/\oat o j=none/\SetTable.layClean.free 31 o (f+1) i q=some j)\/SetTable.layClean.free 31 o (f+1) i q=SetTable.layClean.free 31 o f ((i*5+1+q / 32)%32) (q / 32):=by
 rw[SetTable.layClean.free]
 cases e:(List.range (SetTable.runEnd 31 i+1-i)).find? fun k=>(o.getD (i+k) (some 0)).isNone with
 | none=>exact .inr rfl
 |some k=>
  have h1:=List.find?_some e;have h2:=List.mem_range.mp (List.mem_of_find?_eq_some e)
  have h3:i+k<32:=by
   unfold SetTable.runEnd at h2;split at h2<;>omega
  rw[qi h h3]at h1;exact .inl ⟨i+k,h3,by simpa using h1,rfl⟩
def EB(h:Ow o k)(hk:k<=4)(hi:i<32)(f:Nat):∃ j,j<32/\oat o j=none/\SetTable.layClean.free 31 o (f+5) i 0=some j:=by
 obtain⟨x,hx,e⟩:=h.some hk hi;have lt:=(rY i hi).2 x hx
 have nx:∀ {i f:Nat},i<32->(∃ j,j<32/\oat o j=none/\SetTable.layClean.free 31 o f ((i*5+1)%32) 0=some j)->∃ j,j<32/\oat o j=none/\SetTable.layClean.free 31 o (f+1) i 0=some j:=fun {i f} hi ⟨j,h1,h2,h3⟩=>by
  rcases qF h.size hi f 0 with z | z
  ·exact z
  ·exact⟨j,h1,h2,by rw[z];exact h3⟩
 have m:∀ x:Nat,x%32<32:=fun x=>Nat.mod_lt _ (by decide);unfold nv at hx;simp only[List.mem_cons,List.not_mem_nil,or_false]at hx;rcases hx with rfl | rfl | rfl | rfl | rfl
 ·exact⟨_,lt,e,fF h.size hi e _ _⟩
 ·exact nx hi ⟨_,lt,e,fF h.size (m _) e _ _⟩
 ·exact nx hi (nx (m _) ⟨_,lt,e,fF h.size (m _) e _ _⟩)
 ·exact nx hi (nx (m _) (nx (m _) ⟨_,lt,e,fF h.size (m _) e _ _⟩))
 ·exact nx hi (nx (m _) (nx (m _) (nx (m _) ⟨_,lt,e,fF h.size (m _) e _ _⟩)))
def Eg(h:Ow o k)(hk:k<=4):∀ s i q,i<32->q<32 ^ s->∀ f,∃ j,j<32/\oat o j=none/\SetTable.layClean.free 31 o (f+5+s) i q=some j:=by
 intro s
 induction s with
 |zero=>
  intro i q hi hq f
  have:q=0:=by simpa using hq
  subst this;exact EB h hk hi f
 |succ s ih=>
  intro i q hi hq f;rcases qF h.size hi (f+5+s) q with z | z
  ·exact z
  ·obtain⟨j,h1,h2,h3⟩:=ih ((i*5+1+q / 32)%32) (q / 32) (Nat.mod_lt _ (by decide)) (by rw[Nat.pow_succ]at hq;exact Nat.div_lt_of_lt_mul (by rw[Nat.mul_comm];exact hq)) f;exact⟨j,h1,h2,by rw[show f+5+(s+1)=f+5+s+1 from rfl,z];exact h3⟩
def B1(h:Ow o k)(hk:k<=4)(x:Int):∃ j,j<32/\oat o j=none/\SetTable.layClean.free 31 o (SetTable.turns 31) (SetTable.bits x%32) (SetTable.bits x)=some j:=by
 have hb:SetTable.bits x<32 ^ 13:=by
  unfold SetTable.bits;have h1:x%(2 ^ 64:Int)<2 ^ 64:=Int.emod_lt_of_pos _ (by decide);have h2:0<=x%(2 ^ 64:Int):=Int.emod_nonneg _ (by decide)
  have:(32 ^ 13:Nat)=2 ^ 65:=by decide
  rw[this];omega
 exact Eg h hk 13 _ _ (Nat.mod_lt _ (by decide)) hb 28
def x5(f g:Nat->Option Nat)(j k:Nat)(hj:f j=none)(gj:g j=some k)(hg:∀ i,i≠j->g i=f i):∀ l:List Nat,l.Nodup->j∈l->(l.filterMap g).Perm (k::l.filterMap f)
 | [],_,h=>by cases h
 | a::r,nd,h=>by
  rw[List.nodup_cons]at nd;by_cases c:a=j
  ·subst c
   have:r.filterMap g=r.filterMap f:=by
    apply iZ;intro x hx;exact hg x fun e=>nd.1 (e▸hx)
   rw[List.filterMap_cons_some gj,List.filterMap_cons_none hj,this]
  ·have ih:=x5 f g j k hj gj hg r nd.2 ((List.mem_cons.mp h).resolve_left (Ne.symm c))
   cases e:f a with
   | none=>rw[List.filterMap_cons_none (by rw[hg a c];exact e),List.filterMap_cons_none e];exact ih
   | some v=>rw[List.filterMap_cons_some (by rw[hg a c];exact e),List.filterMap_cons_some e];exact(ih.cons v).trans (.swap ..)
def Ow.put(h:Ow o k)(hj:j<32)(e:oat o j=none):Ow (o.setIfInBounds j (.some k)) (k+1):=by
 have hs:=h.size;refine⟨by simp[hs],?_⟩
 have gj:oat (o.setIfInBounds j (.some k)) j=.some k:=by unfold oat;simp[Array.getD,hs,hj]
 have go:∀ i,i≠j->oat (o.setIfInBounds j (.some k)) i=oat o i:=fun i hi=>by
  unfold oat;by_cases c:i<32
  ·simp[Array.getD,hs,c,Array.getElem_setIfInBounds,Ne.symm hi]
  ·simp[Array.getD,hs,c]
 refine(x5 _ _ j k e gj go _ List.nodup_range (List.mem_range.mpr hj)).trans ?_;refine(h.perm.cons k).trans ?_;rw[List.range_succ];exact(List.perm_append_comm (l₁:=[k]) (l₂:=List.range k))
def sk:∀ (hs:List Int) (o:Owr) (k:Nat),Ow o k->k+hs.length<=5->∃ o',Ow o' (k+hs.length)/\(hs.foldl (fun acc h=>do
  let (owner,k) <- acc
  let j <- SetTable.layClean.free 31 owner (SetTable.turns 31) (SetTable.bits h%(31+1)) (SetTable.bits h)
  pure (owner.setIfInBounds j (some k),k+1)) (some (o,k)))=some (o',k+hs.length)
 | [],o,k,h,_=>⟨o,h,rfl⟩
 | x::r,o,k,h,hl=>by
  simp only[List.length_cons]at hl;obtain⟨j,h1,h2,h3⟩:=B1 h (by omega) x;obtain⟨o',h4,h5⟩:=sk r _ (k+1) (h.put h1 h2) (by omega);refine⟨o',by rw[List.length_cons,show k+(r.length+1)=k+1+r.length by omega];exact h4,?_⟩;rw[List.length_cons,show k+(r.length+1)=k+1+r.length by omega,<-h5,List.foldl_cons];congr 1;show(do let j <- SetTable.layClean.free 31 o (SetTable.turns 31) (SetTable.bits x%(31+1)) (SetTable.bits x);pure (o.setIfInBounds j (some k),k+1))=_;rw[show SetTable.layClean.free 31 o (SetTable.turns 31) (SetTable.bits x%(31+1)) (SetTable.bits x)=some j from h3];rfl
def zf(hs:Array Int)(hl:hs.size<=5):∃ o,Ow o hs.size/\SetTable.layClean 31 hs=some o:=by
 have h0:Ow (Array.replicate 32 none) 0:=⟨by simp,by decide⟩
 obtain⟨o,h1,h2⟩:=sk hs.toList _ 0 h0 (by simpa using hl);refine⟨o,by simpa using h1,?_⟩;unfold SetTable.layClean;rw[<-Array.foldl_toList];show(hs.toList.foldl _ (some (Array.replicate 32 none,0))).map (·.1)=_;rw[h2];rfl
def ya{bt:Bool}(t:SetTable)(es:Array (Int × Value))(hs:es.size=5)(hp:t.plain=true)(hl:t.led=!bt):∃ es' t',relayAll t es 20=(es',t',false)/\t'.plain=true/\t'.led=(!bt)/\Wlk t'.place:=by
 obtain⟨o,ho,e⟩:=zf (es.map (·.1)) (by simp[hs]);rw[Array.size_map]at ho
 have e32:SetTable.sizeAbove 20-1=31:=by decide
 have el:t.relaid (es.map (·.1)) 20=some ({ mask:=31,place:=((((List.range 32).filterMap fun j=>(oat o j).map (j,·))).map (·.1)).toArray,dummies:=#[],finger:=t.finger,led:=t.led,moves:=t.movedTo 31,plain:=t.plain },((((List.range 32).filterMap fun j=>(oat o j).map (j,·))).map (·.2)).toArray):=by
  unfold SetTable.relaid SetTable.laid;rw[e32,e];rfl
 have eo:(((List.range 32).filterMap fun j=>(oat o j).map (j,·))).map (·.2)=(List.range 32).filterMap (oat o):=by
  rw[List.map_filterMap];apply iZ;intro j _;cases oat o j<;>rfl
 have ep:(((List.range 32).filterMap fun j=>(oat o j).map (j,·))).map (·.1)=(List.range 32).filter fun j=>(oat o j).isSome:=by
  rw[List.map_filterMap,<-List.filterMap_eq_filter];apply iZ;intro j _;cases e':oat o j<;>simp[Option.guard,e']
 rw[eo,ep]at el
 have hlen:((List.range 32).filter fun j=>(oat o j).isSome).length=es.size:=by
  rw[<-List.countP_eq_length_filter,<-List.length_filterMap_eq_countP,ho.perm.length_eq,List.length_range]
 have cov:coversAll ((List.range 32).filterMap (oat o)).toArray es.size=true:=by
  unfold coversAll;rw[List.isPerm_iff];exact ho.perm
 have hz:(((List.range 32).filterMap (oat o)).toArray.filterMap fun i=>es[i]?).size=es.size:=by
  have p:(((List.range 32).filterMap (oat o)).filterMap fun i=>es[i]?).Perm ((List.range es.size).filterMap fun i=>es[i]?):=ho.perm.filterMap _;have:=p.length_eq;rw[filterMap_getElem?_range,Array.length_toList]at this;simpa using this
 refine⟨((List.range 32).filterMap (oat o)).toArray.filterMap fun i=>es[i]?,_,?_,(show({ mask:=31,place:=((List.range 32).filter fun j=>(oat o j).isSome).toArray,dummies:=#[],finger:=t.finger,led:=t.led,moves:=t.movedTo 31,plain:=t.plain }:SetTable).plain=true from hp),hl,?_⟩
 ·unfold relayAll;rw[el];dsimp only;rw[if_pos];rw[cov,Bool.true_and];simp only[SetTable.fits,SetTable.fill,hz,Bool.and_eq_true,beq_iff_eq,decide_eq_true_eq];constructor
  ·simpa using hlen
  ·apply decide_eq_true;show((List.range 32).filter fun j=>(oat o j).isSome).toArray.size+0<=31;rw[List.size_toArray,hlen];omega
 ·refine tV.walk fun i j hj hi=>?_;have:((List.range 32).filter fun j=>(oat o j).isSome).Pairwise (·<·):=List.Pairwise.filter _ List.pairwise_lt_range;simpa using List.pairwise_iff_getElem.mp this i j (by simpa using Nat.lt_trans hi hj) (by simpa using hj) hi
abbrev byT(w:World):Bool:=w.params.followText "set-order"
abbrev ivS:Value->Int
 | .int k _=>k
 | _=>0
abbrev Gd(prog:Program)(w:World)(o:Obj)(ks:List Int):Prop:=∃ es ep t m,o.ExactSet/\o.data=.set es ep t/\ElemsOf (intKind prog w) es.toList/\(es.toList.map fun e=>ivS e.2).Perm ks/\t.fits es.size=true/\(t.plain=true/\t.led=(!byT w)/\Wlk t.place)/\(es.size<=4->m<256/\(bz m).size=es.size/\Tb (byT w) t m)/\es.size<=5
def Tb.walk(h:Tb b t m)(hm:m<256):t.plain=true/\t.led=(!b)/\Wlk t.place:=by
 refine⟨h.plain,h.led,?_⟩;rw[h.place];refine⟨(vA m hm).1,fun i j e=>?_⟩
 have hi:i<8:=by
  have h1:=(Array.getElem?_eq_some_iff.mp e).1
  have h2:∀ m<256,(bz m).size<=8:=by decide +kernel
  have:=h2 m hm;omega
 exact(vA m hm).2 i hi j (Ih m hm i hi j e) e
def Tb.fits(h:Tb b t m)(hs:(bz m).size=n)(hn:n<=4):t.fits n=true:=by
 simp only[SetTable.fits,SetTable.fill,h.place,h.dum,h.mask,hs,Bool.and_eq_true,beq_iff_eq,decide_eq_true_eq];refine⟨trivial,?_⟩;show n+0<=7;omega
section
variable{prog:Program}{w:World}{A:Around}{E:Value->Shared->Prop}{s:Shared}
def u6{v:Value}(h:(intKind prog w).is k v=true):ivS v=k:=by
 obtain⟨t,rfl⟩:=Value.isInt_shape h;rfl
def uX{l:List (Int × Value)}(h:ElemsOf (intKind prog w) l):(∃ e∈l,(intKind prog w).is k e.2=true)↔k∈l.map fun e=>ivS e.2:=by
 rw[List.mem_map];constructor
 ·rintro⟨e,he,hk⟩;exact⟨e,he,u6 hk⟩
 ·rintro⟨e,he,rfl⟩;obtain⟨⟨k,hk,_⟩,_⟩:=h e he;exact⟨e,he,by rw[u6 hk];exact hk⟩
def Bh(b:Bool)(hb:b=!byT w):Gd prog w { cls:=.type "set",dict:=none,data:=.set #[] 0 (.fresh 0 0 b) } [] :=
 ⟨#[],0,_,0,⟨rfl,rfl,rfl⟩,rfl,fun e he=>by simp at he,by simp,rfl,Tb.walk (m:=0) ⟨rfl,rfl,by show #[]=bz 0;decide,rfl,hb⟩ (by decide),fun _=>⟨by decide,by decide,⟨rfl,rfl,by show #[]=bz 0;decide,rfl,hb⟩⟩,by decide⟩
def Gr{a:Addr}{o:Obj}{Q:Bool->Shared->Prop}{x:Value}(hkey:(intKind prog w).is k x=true)(hsc:x.scannable=true)(ho:s.heap.get? a=some o)(g:Gd prog w o ks)(hn:ks.length<5)
 (h:∀ b h' o',Heap.SameBut a s.heap h'->h'.get? a=some o'->Gd prog w o' (step_dedup ks k)->Q b { s with heap:=h' }) :
  wpAny (model prog w) A (setAddHashed a x ((intKind prog w).hash k)) Q E s:=by
 obtain⟨es,ep,t,m,hex,hd,hel,hp,hf,_,sm,h5⟩:=id g
 have hlen:es.size=ks.length:=by rw[<-hp.length_eq,List.length_map,Array.length_toList]
 obtain⟨hm,hz,tb⟩:=sm (by omega)
 have hb:es.size<scanBound:=by unfold scanBound;omega
 unfold setAddHashed setAddHashedIn;refine wpAny_holding (wpAny_bind (wpAny_setState_of ho hd hf ?_));dsimp only;rw[byScan_of hsc hb hel];simp only[↓reduceIte];unfold setAddByScan;refine wpAny_bind (wpAny_bind (wpAny_rule (wpAny_bind (wpAny_setScan_of hkey ho hd hf hel ?_))))
 cases hr:List.findIdx? (fun e=>(intKind prog w).is k e.2) es.toList with
 |some j=>
  dsimp only;obtain⟨hj,hpj,_⟩:=List.findIdx?_eq_some_iff_getElem.mp hr;have hk:k∈ks:=hp.mem_iff.mp ((uX hel).mp ⟨es.toList[j],List.getElem_mem hj,hpj⟩);refine wpAny_pure (wpAny_pure ?_)
  have e:s={ s with heap:=s.heap }:=by cases s;rfl
  rw[e];refine h _ s.heap o (Heap.SameBut.refl a s.heap) ho ?_;unfold step_dedup;rw[if_pos (by simpa using hk)];exact g
 |none=>
  dsimp only
  have hk:k∉ks:=fun z=>by
   obtain⟨e,he,hq⟩:=(uX hel).mpr (hp.mem_iff.mpr z);have:=List.findIdx?_eq_none_iff.mp hr e he;rw[hq]at this;exact Bool.noConfusion this
  obtain⟨m',hm',hz',tb',hfull,hwd⟩:=tb.lay hm hz (by omega) ((intKind prog w).hash k) x;have hperm:=layNew_perm t es ((intKind prog w).hash k) x;generalize hL:layNew t es ((intKind prog w).hash k) x=L at hperm hz' tb' hfull hwd ⊢;obtain⟨es1,t1,wd,gave⟩:=L;dsimp only at hperm hz' tb' hfull hwd ⊢;rw[Array.toList_push]at hperm
  have hsz:es1.size=es.size+1:=by rw[<-Array.length_toList,hperm.length_eq,List.length_append,Array.length_toList];rfl
  have hel1:ElemsOf (intKind prog w) es1.toList:=(hel.push hkey hsc).perm hperm
  have hp1:(es1.toList.map fun e=>ivS e.2).Perm (ks++[k]):=by
   refine(hperm.map _).trans ?_;rw[List.map_append];simp only[List.map_cons,List.map_nil,u6 hkey];exact hp.append_right _
  refine wpAny_bind ?_
  have tail:wpAny (model prog w) A (do
    let byValue <- if t1.plain=true then hashByValue 8 x else pure true
    let t:=if byValue=true then t1 else { t1 with plain:=false }
    storeSet a es1 t
    if(!wd&&t.tooFull)=true then do
     let (es,t,gave):=relayAll t es1 (SetTable.grown es1.size)
     (match gave with | true=>rule "set.scan.the-table-gave-way" | false=>pure ())
     storeSet a es t
     pure (some true)
    else pure (some true)) (fun r s'=>wpAny (model prog w) A (match r with | some added=>pure added | none=>setAddHashedIn a x ((intKind prog w).hash k) 99999) Q E s') E s:=by
   rw[tb'.plain];simp only[if_true];rw[hashByValue_scannable 8 hsc];refine wpAny_bind (wpAny_pure ?_)
   have hpk:plainKind x=true:=by obtain⟨u,rfl⟩:=Value.isInt_shape hkey;rfl
   rw[hpk];simp only[if_true];refine wpAny_bind (wpAny_storeSet_of ho hd ?_ (fits_of_scanBound (by unfold scanBound;omega)));by_cases c4:es.size=4
   ·rw[hfull,decide_eq_true c4,Bool.and_true,hwd];simp only[Bool.not_false,if_true];have hpr:=relayAll_perm t1 es1 (SetTable.grown es1.size);have hfr:=relayAll_fits t1 es1 (SetTable.grown es1.size)
    have hs5:es1.size=5:=by omega
    rw[show SetTable.grown es1.size=20 by rw[hs5];decide]at hpr hfr ⊢;obtain⟨es2,t2,er,r1,r2,r3⟩:=ya (bt:=byT w) t1 es1 hs5 tb'.plain tb'.led;rw[er]at hpr hfr ⊢;dsimp only at hpr hfr ⊢
    have hsz2:es2.size=5:=by rw[<-Array.length_toList,hpr.length_eq,Array.length_toList,hs5]
    have hg:(s.heap.update a (Obj.putSet es1 t1)).get? a=some { o with data:=.set es1 (ep+1) t1 }:=by
     have:=Heap.get?_update_self (Obj.putSet es1 t1) ho (by rw[putSet_of es1 t1 hd];rfl);rw[putSet_of es1 t1 hd]at this;exact this
    refine wpAny_bind (wpAny_pure (wpAny_bind (wpAny_storeSet_of hg rfl ?_ (fits_of_scanBound (by unfold scanBound;omega)))))
    have hg2:((s.heap.update a (Obj.putSet es1 t1)).update a (Obj.putSet es2 t2)).get? a=some { o with data:=.set es2 (ep+1+1) t2 }:=by
     have:=Heap.get?_update_self (Obj.putSet es2 t2) hg (by rw[putSet_of es2 t2 rfl];rfl);rw[putSet_of es2 t2 rfl]at this;exact this
    refine wpAny_pure (wpAny_pure ?_);refine h _ _ _ ((Heap.SameBut.update s.heap a (Obj.putSet es1 t1)).trans (Heap.SameBut.update _ a _)) hg2 ?_;unfold step_dedup;rw[if_neg (by simpa using hk)];exact⟨es2,ep+1+1,t2,0,hex,rfl,hel1.perm hpr,(hpr.map _).trans hp1,hfr,⟨r1,r2,r3⟩,fun z=>by omega,by omega⟩
   rw[hfull,decide_eq_false c4,Bool.and_false];simp only[Bool.false_eq_true,if_false];refine wpAny_pure (wpAny_pure ?_)
   have hg:(s.heap.update a (Obj.putSet es1 t1)).get? a=some { o with data:=.set es1 (ep+1) t1 }:=by
    have:=Heap.get?_update_self (Obj.putSet es1 t1) ho (by rw[putSet_of es1 t1 hd];rfl);rw[putSet_of es1 t1 hd]at this;exact this
   refine h _ _ _ (Heap.SameBut.update s.heap a (Obj.putSet es1 t1)) hg ?_;unfold step_dedup;rw[if_neg (by simpa using hk)];exact⟨es1,ep+1,t1,m',hex,rfl,hel1,hp1,tb'.fits (by rw[hz',hsz]) (by omega),tb'.walk hm',fun _=>⟨hm',by rw[hz',hsz],tb'⟩,by omega⟩
  cases gave with
  | true=>exact wpAny_rule tail
  | false=>exact wpAny_pure tail
end
abbrev gW(w:World):Obj:={ cls:=.type "set",dict:=none,data:=.set #[] 0 (.fresh 0 0 (!byT w)) }
section
variable{prog:Program}{w:World}{A:Around}{E:Value->Shared->Prop}{s:Shared}
def G6(a:Value){Q₁:Value->Shared->Prop}(h:Q₁ (.ref s.heap.objs.size) { s with heap:=s.heap.push (gW w) }) :
  codeAny (model prog w) A (.call (.builtin "set.__new__") ⟨[.type "set",a],[]⟩) (wants Q₁ E) s:=by
 refine codeAny_of_tree ?_;show wpAny _ A.in1 (do checkBuiltinCall "set.__new__" ⟨[.type "set",a],[]⟩;again (.builtin "set.__new__" ⟨[.type "set",a],[]⟩)) _ _ s;refine wpAny_bind (wpAny_of_eq (F.newCall_set_1 a) (wpAny_pure ⟨plainId_quiet F.plain_set_new _,codeAny_builtin F.entry_set_new ?_⟩));rw[Around.under_plainId F.plain_set_new _];unfold Builtin.«set.__new__» Builtin.Frozenset.newClass;have hsub:=sub_set_self;obtain⟨hp,g,d,tk,os⟩:=s;dsimp only
 wp_walk
 refine wpAny_askSetting (wpAny_pure ?_);dsimp only;simp only[newObj];refine wpAny_bind (wpAny_alloc (wpAny_pure ?_));exact wpAny_pure h
variable{R:Result->Shared->Prop}{I:Addr}{fp wr:List Addr}{G:Array GenState->Array GenState->Prop}{n:Nat}{P:Nat->Value->Prop}{St:Nat->Shared->Prop}
def Fy(W:WalksS prog w A.in1 I fp wr G n P St)(S:Addr)(hSf:S∉fp)(val:Nat->Int)(hval:∀ i v,P i v->∃ t,v=.int (val i) t)(hb:n<=5) :
  ∀ (k i:Nat) (s:Shared),n-i=k->i<=n->St i s->(∃ o,s.heap.get? S=some o/\Gd prog w o (firstMet val i)) ->
   (∀ s' o,Moved (S::wr) G s s'->s'.heap.get? S=some o->Gd prog w o (firstMet val n)->R (.ok (.ret .none)) s') ->
   codeAny (model prog w) A (.builtin "set.update.loop" ⟨[.ref S,.ref I],[]⟩) R s:=by
 have hSw:S∉wr:=fun h=>hSf (W.sub _ h);have hsub:∀ b∈wr,b∈S::wr:=fun b hb=>List.mem_cons_of_mem _ hb;intro k
 induction k with
 |zero=>
  intro i s hk hi hst hS hR
  have hin:i=n:=by omega
  subst hin;obtain⟨o,ho,g⟩:=hS;refine codeAny_builtin F.entry_set_update_loop ?_;rw[Around.under_plainId F.plain_set_update_loop _];show wpAny _ A.in1 (pyNext (.ref I) >>= _) _ _ s;refine wpAny_bind (W.done s _ _ hst fun s' hm=>?_);show wpAny _ A.in1 (ret Value.none) _ _ s';exact wpAny_pure (hR s' o (hm.mono hsub) (hm.heap S _ hSw ho) g)
 |succ k ih=>
  intro i s hk hi hst hS hR
  have hlt:i<n:=by omega
  obtain⟨o,ho,g⟩:=hS;refine codeAny_builtin F.entry_set_update_loop ?_;rw[Around.under_plainId F.plain_set_update_loop _];show wpAny _ A.in1 (pyNext (.ref I) >>= _) _ _ s;refine wpAny_bind (W.item i s _ _ hlt hst fun v s' hP hst' hm=>?_);obtain⟨t,rfl⟩:=hval i v hP;show wpAny _ A.in1 (holding [Value.int (val i) t] (setAdd S (.int (val i) t)) >>= _) _ _ s';refine wpAny_bind (wpAny_holding ?_);unfold setAdd;refine wpAny_holding (wpAny_bind ((intKind prog w).pyHash (k:=val i) (intKind_is _ _ _ _) ?_));refine Gr (s:={ s' with toks:=s'.toks+1 }) (intKind_is _ _ _ _) rfl (hm.heap S _ hSw ho) g (by have:=firstMet_length_le val i;omega) fun b h' o' hsb ho' g'=>?_;rw[<-firstMet_succ]at g';refine wpAny_pure ⟨plainId_quiet F.plain_set_update_loop _,ih (i+1) _ (by omega) hlt (W.frame _ s' _ _ hst' (Nat.le_succ _) fun b hb o e=>?_) ⟨o',ho',g'⟩ fun s'' o'' hm'' hS''=>?_⟩
  ·rw[hsb.2 b (fun h:b=S=>hSf (by rw[<-h];exact hb))];exact e
  ·refine hR s'' o'' (Moved.trans W.gtrans ((hm.mono hsub).then_heap (Nat.le_succ _) fun b o hb e=>?_) hm'') hS'';rw[hsb.2 b (fun h:b=S=>hb (by rw[h];exact List.mem_cons_self))];exact e
def CT{l:Addr}{items:Array Value}{ns:List Int}{Q:Value->Shared->Prop}
 (hh:A.handled=none)(hl:s.heap.IsList l items)(hi:IntsAre items.toList ns)(hb:items.size<=5)
 (h:∀ (h':Heap) (tk:Nat) (o:Obj),h'.get? s.heap.objs.size=some o->Gd prog w o (firstMet (fun i=>ns.getD i 0) items.size) ->
   (∀ b o,b<s.heap.objs.size->s.heap.get? b=some o->h'.get? b=some o)->Q (.ref s.heap.objs.size) { s with heap:=h',toks:=tk }) :
  wpAny (model prog w) A (call (.type "set") [.ref l]) Q E s:=by
 obtain⟨c,tl,hmro⟩:=F.called_set.mro;have hmade:=F.called_set.made;have hsub:=F.called_set.sub;refine wpAny_call (codeAny_of_tree ?_);show wpAny _ _ (callAny (.type "set") _) _ _ _;refine wpAny_pure ⟨Code.quiet_builtin _ (by decide +kernel),codeAny_builtin F.entry_type_call ?_⟩;rw[Around.under_plain (weight_type_call_type "set" [.ref l] []) rfl];have h1:=F.called_set.notType;have h2:=F.called_set.canCreate;have hct:=F.typeCall_set_1 (.ref l)
 repeat (any_goals (first | assumption | wp_step))
 refine codeAny_mono (G6 (.ref l) (E:=E) (Q₁:=fun obj s₁=>obj=.ref s.heap.objs.size/\s₁={ s with heap:=s.heap.push (gW w) }) ⟨rfl,rfl⟩) fun r s₁ hr=>?_
 cases r with
 | error e=>exact hr
 |ok fl=>
  cases fl with
  |ret obj=>
   obtain⟨rfl,rfl⟩:=hr;have hS:(s.heap.push (gW w)).get? s.heap.objs.size=some (gW w):=Heap.get?_push_size _ rfl
   have hT:Shared.TypeIs { s with heap:=s.heap.push (gW w) } (.ref s.heap.objs.size) "set" := ⟨_,hS,rfl⟩
   have hli:=F.called_set.init.lookup;have hbi:=F.called_set.init.bind (.ref s.heap.objs.size)
   repeat (any_goals (first | assumption | wp_step))
   refine codeAny_mono (codeAny_call_builtin (R:=wants (fun r s₂=>r=.none/\∃ h' tk o,s₂={ s with heap:=h',toks:=tk }/\h'.get? s.heap.objs.size=some o /\
     Gd prog w o (firstMet (fun i=>ns.getD i 0) items.size)/\(∀ b o,b<s.heap.objs.size->s.heap.get? b=some o->h'.get? b=some o)) E) F.called_set.init.plain F.entry_set_init (check_set_init_1 hT ?_)) fun r₂ s₂ hr₂=>?_
   ·obtain⟨ol,hol,hcl,nl,hdl⟩:=hl;obtain⟨ocls,odict,odata,oslots⟩:=ol;simp only at hcl hdl;subst hcl;subst hdl;have hol':(s.heap.push (gW w)).get? l=some { cls:=.type "list",dict:=odict,data:=.seq items nl,slots:=oslots }:=Heap.get?_push_of_some _ hol;have hsls:=F.sub_list_set;have hslf:=F.sub_list_frozenset
    have hne:(Value.type "list" == Value.type "dict")=false:=by decide
    have hl1:(s.heap.push (gW w)).IsList l items:=⟨_,hol',rfl,nl,rfl⟩
    unfold Builtin.«set.__init__» noKeywords Builtin.Frozenset.updateFrom;generalize hPI:pyIter=PI
    wp_walk
    subst hPI;refine wpAny_pyIter_list hl1 (wpAny_bind (wpAny_runValue ?_));have hlS:l<s.heap.objs.size:=Heap.lt_size hol
    have hh3:A.in1.in1.in1.handled=none:=by simp[hh]
    have hneI:l≠(s.heap.push (gW w)).objs.size:=by rw[Heap.size_push];exact Nat.ne_of_lt (Nat.lt_succ_of_lt hlS)
    have hSf:s.heap.objs.size∉[(s.heap.push (gW w)).objs.size,l]:=by
     rw[Heap.size_push];simp only[List.mem_cons,List.mem_singleton,List.not_mem_nil,or_false,not_or];exact⟨Nat.ne_of_lt (Nat.lt_succ_self _),Nat.ne_of_gt hlS⟩
    have hval:∀ (i:Nat) (v:Value),items[i]?=some v->∃ t,v=.int ((fun i=>ns.getD i 0) i) t:=fun i v hv =>
     IntsAre.int_at hi i v (by rw[Array.getElem?_toList];exact hv)
    refine Fy ((Walks.list hh3 _ l hneI items).toS) s.heap.objs.size hSf (fun i=>ns.getD i 0) hval hb (items.size-0) 0 _ (by omega) (Nat.zero_le _)
     ⟨⟨_,Heap.get?_push_size _ rfl,rfl,rfl⟩,(hl1.push _)⟩ ⟨gW w,Heap.get?_push_of_some _ hS,Bh _ rfl⟩ ?hR
    case hR =>
     intro s' o hm ho' hS';obtain⟨h',g',d',tk',os'⟩:=s';have eg:g'=s.gens:=hm.gens;have ed:d'=s.drawn:=hm.drawn;have eo:os'=s.os:=hm.os;subst eg;subst ed;subst eo;show wpAny _ _ _ _ _ _;refine wpAny_pure ?_;show wpAny _ _ (ret Value.none) _ _ _;refine wpAny_pure ⟨rfl,h',tk',o,rfl,ho',hS',fun b o hb e=>?_⟩;have hb1:b≠s.heap.objs.size:=Nat.ne_of_lt hb
     have hb2:b≠(s.heap.push (gW w)).objs.size:=by rw[Heap.size_push];exact Nat.ne_of_lt (Nat.lt_succ_of_lt hb)
     exact hm.heap b o (by simp only[List.mem_cons,List.mem_singleton,List.not_mem_nil,or_false,not_or];exact⟨hb1,hb2⟩) (Heap.get?_push_of_some _ (Heap.get?_push_of_some _ e))
   ·cases r₂ with
    | error e=>exact hr₂
    |ok fl₂=>
     cases fl₂ with
     |ret r=>
      obtain⟨rfl,h',tk,o,rfl,ho',hS',hk'⟩:=hr₂
      repeat (any_goals (first | assumption | wp_step))
      exact h _ _ o ho' hS' hk'
     | _=>exact hr₂.elim
  | _=>exact hr.elim
end
def zZ:Manifest.owners.lookup (String.ofList ['r','o','t','a','r','e','t','i','_','t','e','s'].reverse)=some Manifest.sig_set_iterator:=by kernel_rfl
def kF:Slot "set_iterator" "__next__" "set_iterator.__next__" :=
 .of (owner := "set_iterator") (n := "__next__") (by rw[typeLookup_type,builtinLookup_eq_fast];kernel_rfl) (by decide +kernel) (by decide +kernel) (by decide +kernel) (.inl (by decide +kernel)) (by rw[isSubtype_type];kernel_rfl)
def rW:Slot "set_iterator" "__iter__" "set_iterator.__iter__" :=
 .of (owner := "set_iterator") (n := "__iter__") (by rw[typeLookup_type,builtinLookup_eq_fast];kernel_rfl) (by decide +kernel) (by decide +kernel) (by decide +kernel) (.inl (by decide +kernel)) (by rw[isSubtype_type];kernel_rfl)
def Cr:entryFor table "set_iterator.__next__" = some Builtin.«set_iterator.__next__»:=entryFor_of_tree (by kernel_rfl)
def BZ:entryFor table "set_iterator.__iter__" = some Builtin.«dict_keyiterator.__iter__»:=entryFor_alias (id' := "dict_keyiterator.__iter__") (by kernel_rfl) rfl (by decide +kernel) (by kernel_rfl)
def Dv:entryFor table "set.__iter__" = some Builtin.«frozenset.__iter__»:=entryFor_alias (id' := "frozenset.__iter__") (by kernel_rfl) rfl (by decide +kernel) (by kernel_rfl)
def Ed(a:Value):argsOk "set_iterator.__next__" ⟨[a],[]⟩:=by
 unfold argsOk;rw[signature?_of (id := "set_iterator.__next__") (n:=['_','_','t','x','e','n','_','_']) (o:=['r','o','t','a','r','e','t','i','_','t','e','s']) (by kernel_rfl) zZ];kernel_rfl
def DA(a:Value):argsOk "set_iterator.__iter__" ⟨[a],[]⟩:=by
 unfold argsOk;rw[signature?_of (id := "set_iterator.__iter__") (n:=['_','_','r','e','t','i','_','_']) (o:=['r','o','t','a','r','e','t','i','_','t','e','s']) (by kernel_rfl) zZ];kernel_rfl
def lI{α:Type}:∀ (l:List α) (i:Nat) (h:i<l.length),(l[i]::l.eraseIdx i).Perm l
 | a::r,0,_=>.refl _
 | a::r,i+1,h=>(List.Perm.swap _ _ _).trans ((lI r i (by simpa using h)).cons a)
def vb{α:Type}(next:Nat->Nat):∀ (f k:Nat) (left:List α) (out:Array α),left.length=f->(pickOrder.go next f k left out).toList.Perm (out.toList++left):=by
 intro f
 induction f with
 |zero=>
  intro k left out h;have:left=[]:=List.length_eq_zero_iff.mp h;subst this;unfold pickOrder.go;simp
 |succ f ih=>
  intro k left out h;unfold pickOrder.go
  have hi:next k%left.length<left.length:=Nat.mod_lt _ (by omega)
  rw[List.getElem?_eq_getElem hi];refine(ih _ _ _ (by rw[List.length_eraseIdx_of_lt hi];omega)).trans ?_;rw[Array.toList_push,List.append_assoc];exact(lI left _ hi).append_left _
abbrev dE(w:World)(S ep:Nat)(es:Array (Int × Value)):Array (Int × Value):=if byT w then pickOrder (w.params.setOrder S ep) es else es
def qY(w:World)(S ep:Nat)(es:Array (Int × Value)):(dE w S ep es).toList.Perm es.toList:=by
 unfold dE;split
 ·unfold pickOrder;simpa using vb (w.params.setOrder S ep) es.size 0 es.toList #[] (by simp)
 ·exact .refl _
def la(w:World)(S ep:Nat)(es:Array (Int × Value)):(dE w S ep es).size=es.size:=by
 have:=(qY w S ep es).length_eq;simpa using this
abbrev itO(S:Addr)(j i n ep:Nat):Obj:={ cls:=.type "set_iterator",data:=.fields #[.int j 0,.int i 0,.ref S,.int n 0,.int ep 0] }
section
variable{prog:Program}{w:World}{A:Around}{E:Value->Shared->Prop}{s:Shared}{S I:Addr}{o:Obj}{es:Array (Int × Value)}{ep m i j:Nat}{t:SetTable}
def Eu{Q:Value->Shared->Prop}(ho:s.heap.get? S=some o)(hex:o.ExactSet)(hd:o.data=.set es ep t)(hf:t.fits es.size=true)(wk:t.plain=true/\t.led=(!byT w)/\Wlk t.place)
 (hQ:Q (.ref s.heap.objs.size) { s with heap:=s.heap.push (itO S 0 0 es.size ep) }):wpAny (model prog w) A (pyIter (.ref S)) Q E s:=by
 have hT:s.TypeIs (.ref S) "set" := ⟨o,ho,hex.1⟩
 refine wpAny_pyIter_slot hT F.slot_set_iter (wpAny_call_entry F.slot_set_iter hT Dv ?_ (F.args_set_iter_1 _));unfold Builtin.«frozenset.__iter__» Builtin.Frozenset.slot0 slotArgs;simp only[List.isEmpty_nil,Bool.not_true,Bool.false_eq_true,↓reduceIte,bind_assoc,List.length_nil,bne_self_eq_false];unfold Builtin.Frozenset.addrOf Builtin.Frozenset.sizeOf;refine wpAny_bind (wpAny_pure ?_)
 try dsimp only
 refine wpAny_bind (wpAny_pure ?_);refine wpAny_bind (wpAny_bind (wpAny_setEntries_of ho hd hf (wpAny_pure ?_)));refine wpAny_bind ?_;unfold setDrawn;refine wpAny_bind (wpAny_setState_of ho hd hf ?_);unfold setsByText;refine wpAny_bind (wpAny_bind (wpAny_askSetting (wpAny_pure (wpAny_pure ?_))))
 have hnd:(!w.params.followText "set-order" && (!t.plain&&decide (es.size > 1)))=false:=by rw[wk.1];simp
 show wpAny _ _ (if(!w.params.followText "set-order" && (!t.plain&&decide (es.size > 1)))=true then _ else _) _ _ _;rw[hnd,if_neg Bool.false_ne_true];refine wpAny_bind (wpAny_pure (wpAny_bind (wpAny_setEpoch_of ho hd hf ?_)));refine wpAny_bind (wpAny_newObj_type (wpAny_pure ⟨_,rfl, "set_iterator",_,⟨_,Heap.get?_push_size _ rfl,rfl⟩,kF.lookup,?_⟩));simpa[rawInt,itO]using hQ
def DL{Q:Value->Shared->Prop}(h:s.heap.get? I=some (itO S j i n ep))(hQ:Q (.ref I) s):wpAny (model prog w) A (pyIter (.ref I)) Q E s:=by
 have hT:s.TypeIs (.ref I) "set_iterator" := ⟨_,h,rfl⟩
 refine wpAny_pyIter_slot hT rW (wpAny_call_entry rW hT BZ ?_ (DA _));show wpAny _ _ (ret (.ref I)) _ _ s;exact wpAny_pure ⟨_,rfl, "set_iterator",_,hT,kF.lookup,hQ⟩
def G7{Q:Option (Value × Nat)->Shared->Prop}(ho:s.heap.get? S=some o)(hd:o.data=.set es ep t)(hf:t.fits es.size=true)(wk:t.plain=true/\t.led=(!byT w)/\Wlk t.place)
 (hj:byT w=false->SetTable.below t.place j=i)
 (h1:∀ e k,(dE w S ep es)[i]?=some e->(byT w=false->SetTable.below t.place k=i+1)->Q (some (e.2,k)) s)(h2:(dE w S ep es)[i]?=none->Q none s) :
  wpAny (model prog w) A (setNext S j i ep) Q E s:=by
 unfold setNext;refine wpAny_bind (wpAny_setState_of ho hd hf ?_);unfold setsByText;refine wpAny_bind (wpAny_bind (wpAny_askSetting (wpAny_pure ?_)));show wpAny _ _ (if byT w=true then _ else _) _ _ _
 cases hb:byT w with
 |true=>
  rw[if_pos rfl];show wpAny _ _ (if(ep != ep)=true then _ else _) _ _ _;rw[if_neg (by simp)];refine wpAny_bind ?_;unfold setWalk;refine wpAny_bind (wpAny_setState_of ho hd hf ?_);unfold setsByText;refine wpAny_bind (wpAny_bind (wpAny_askSetting (wpAny_pure ?_)));show wpAny _ _ (if byT w=true then _ else _) _ _ _;rw[if_pos hb];refine wpAny_bind (wpAny_askSetting (wpAny_pure (wpAny_pure ?_)))
  have eo:dE w S ep es=pickOrder (w.params.setOrder S ep) es:=by unfold dE;rw[if_pos hb]
  rw[eo]at h1 h2;show Q (((pickOrder (w.params.setOrder S ep) es)[i]?).map fun e=>(e.2,j)) s
  cases he:(pickOrder (w.params.setOrder S ep) es)[i]? with
  | none=>exact h2 he
  | some e=>exact h1 e j he fun z=>by rw[hb]at z;cases z
 |false=>
  rw[if_neg Bool.false_ne_true]
  have eo:dE w S ep es=es:=by unfold dE;rw[hb];rfl
  rw[eo]at h1 h2
  have hnd:(!t.plain&&decide (es.size > 1))=false:=by rw[wk.1];simp
  show wpAny _ _ (if(!t.plain&&decide (es.size > 1))=true then _ else _) _ _ _;rw[hnd,if_neg Bool.false_ne_true]
  have hnl:(!t.led && !es.isEmpty)=false:=by rw[wk.2.1,hb];rfl
  refine wpAny_bind ?_;show wpAny _ _ (if(!t.led && !es.isEmpty)=true then _ else _) _ _ _;rw[hnl,if_neg Bool.false_ne_true];refine wpAny_pure (wpAny_pure ?_);rw[hj hb]
  cases he:es[i]? with
  | none=>exact h2 he
  |some e=>
   have hlt:i<es.size:=(Array.getElem?_eq_some_iff.mp he).1
   have hp:∃ p,t.place[i]?=some p:=⟨t.place[i]'(by simp only[SetTable.fits,Bool.and_eq_true,beq_iff_eq]at hf;rw[hf.1];exact hlt),Array.getElem?_eq_getElem _⟩
   obtain⟨p,hp⟩:=hp;rw[hp];refine h1 e (p+1) he fun _=>?_;exact wk.2.2.2 i p hp
def G0{h:Heap}(e:h.get? I=some (itO S j i n ep))(k:Nat):∃ h',h'=(h.update I (Obj.mapFields (·.setIfInBounds 0 (rawInt (k:Nat))))).update I (Obj.mapFields (·.setIfInBounds 1 (rawInt ((i:Int)+1))))/\h'.get? I=some (itO S k (i+1) n ep)/\Heap.SameBut I h h':=by
 refine⟨_,rfl,?_,(Heap.SameBut.update ..).trans (Heap.SameBut.update ..)⟩;have e1:=Heap.get?_update_self (Obj.mapFields (·.setIfInBounds 0 (rawInt (k:Nat)))) e rfl;have e2:=Heap.get?_update_self (Obj.mapFields (·.setIfInBounds 1 (rawInt ((i:Int)+1)))) e1 rfl;rw[e2];simp[itO,Obj.mapFields,rawInt]
end
section
variable{prog:Program}{w:World}{A:Around}{E:Value->Shared->Prop}{s:Shared}{S I:Addr}{o:Obj}{es:Array (Int × Value)}{ep m i j:Nat}{t:SetTable}
def wY{Q:Option Value->Shared->Prop}(hh:A.handled=none)(hit:s.heap.get? I=some (itO S j i es.size ep))(ho:s.heap.get? S=some o)(hd:o.data=.set es ep t)(hf:t.fits es.size=true)(wk:t.plain=true/\t.led=(!byT w)/\Wlk t.place)
 (hj:byT w=false->SetTable.below t.place j=i)
 (h1:∀ e k h',(dE w S ep es)[i]?=some e->(byT w=false->SetTable.below t.place k=i+1)->h'.get? I=some (itO S k (i+1) es.size ep)->Heap.SameBut I s.heap h'->Q (some e.2) { s with heap:=h' })
 (h2:(dE w S ep es)[i]?=none->∀ h',Heap.ExtBut I s.heap h'->Q none { s with heap:=h' }) :
  wpAny (model prog w) A (pyNext (.ref I)) Q E s:=by
 have hT:s.TypeIs (.ref I) "set_iterator" := ⟨_,hit,rfl⟩
 unfold pyNext;refine wpAny_bind (wpAny_attempt (wpAny_callSpecial?_slot (name:=Str.ofString "__next__") hT kF (wpAny_call_entry kF hT Cr ?_ (Ed _))));unfold Builtin.«set_iterator.__next__» slotArgs;simp only[List.isEmpty_nil,Bool.not_true,Bool.false_eq_true,↓reduceIte,bind_assoc,List.length_nil,bne_self_eq_false];refine wpAny_bind (wpAny_pure ?_);refine wpAny_bind (wpAny_fieldsOf hit rfl ?_);show wpAny _ _ (setEntries S >>= _) _ _ s;refine wpAny_bind (wpAny_setEntries_of ho hd hf ?_);rw[if_neg (by simp)];refine wpAny_bind (G7 (j:=j) (i:=i) ho hd hf wk hj (fun e k he hk=>?_) fun he=>?_)
 ·obtain⟨h',e',hg,hs⟩:=G0 hit k;show wpAny _ _ (setField (.ref I) 0 (rawInt (k:Nat)) >>= _) _ _ s;refine wpAny_bind (wpAny_setField hit rfl (by simp) ?_);have e1:=Heap.get?_update_self (Obj.mapFields (·.setIfInBounds 0 (rawInt (k:Nat)))) hit rfl;refine wpAny_bind (wpAny_setField e1 rfl (by simp[itO,Obj.mapFields]) ?_);refine wpAny_pure ⟨_,rfl,wpAny_pure ?_⟩;have q:=h1 e k h' he hk hg hs;rw[e']at q;exact q
 ·show wpAny _ _ (setField (.ref I) 2 .none >>= _) _ _ s;refine wpAny_bind (wpAny_setField hit rfl (by simp) ?_);refine wpAny_bind ?_;simp only[newExc,newTuple];refine wpAny_bind (wpAny_newObj_type ?_ (by size_fits));refine wpAny_bind (m:=firstArgMember _ _) (wpAny_of_eq (a:=Value.none) (by first | rfl | (simp only[firstArgMember];rfl)) ?_);refine wpAny_newObj_type ?_ (by size_fits);simp only[raiseNew];refine wpAny_bind (wpAny_handled ?_);rw[show A.in1.handled=none from hh];refine wpAny_bind (wpAny_pure (wpAny_throw ?_));refine wpAny_bind (wpAny_isInstance (T := "StopIteration") (b:=true) ⟨_,Heap.get?_push_size _ rfl,rfl⟩ isSubtype_stop ?_);exact wpAny_pure (h2 he _ (((Heap.SameBut.update ..).extBut.push _).push _))
abbrev StS(w:World)(S I:Addr)(o:Obj)(es:Array (Int × Value))(ep:Nat)(t:SetTable)(i:Nat)(h:Heap):Prop:=∃ j,h.get? I=some (itO S j i es.size ep)/\h.get? S=some o/\(byT w=false->SetTable.below t.place j=i)
def AS(hh:A.handled=none)(hne:S≠I)(hd:o.data=.set es ep t)(hf:t.fits es.size=true)(wk:t.plain=true/\t.led=(!byT w)/\Wlk t.place) :
  Walks prog w A I [I,S] [I] es.size (fun i v=>∃ e,(dE w S ep es)[i]?=some e/\v=e.2) (StS w S I o es ep t) where
 sub:=fun b hb=>by simp at hb;simp[hb]
 frame:=fun _ _ _ ⟨j,a,b,c⟩ hk=>⟨j,hk I (by simp) _ a,hk S (by simp) _ b,c⟩
 item:=fun i s Q E hi ⟨j,a,b,c⟩ hQ=>by
  refine wY hh a b hd hf wk c (fun e k h' he hk hg hs=>?_) fun he=>?_
  ·exact hQ _ h' s.toks ⟨e,he,rfl⟩ ⟨k,hg,hs.extBut S _ hne b,hk⟩ fun b o hb e=>hs.extBut b o (fun h=>hb (by simp[h])) e
  ·rw[Array.getElem?_eq_none_iff,la]at he;omega
 done:=fun s Q E ⟨j,a,b,c⟩ hQ=>by
  refine wY hh a b hd hf wk c (fun e k h' he hk hg hs=>?_) fun he h' hs=>?_
  ·have:=(Array.getElem?_eq_some_iff.mp he).1;rw[la]at this;omega
  ·exact hQ h' s.toks fun b o hb e=>hs b o (fun h=>hb (by simp[h])) e
 self:=fun _ _ _ _ ⟨j,a,_,_⟩ hQ=>DL a hQ
def EK{Q:Bool->Shared->Prop}(hT:s.TypeIs (.ref S) "set")(h:Q false s):wpAny (model prog w) A (Builtin.List.listLengthHint (.ref S)) Q E s:=by
 unfold Builtin.List.listLengthHint;refine wpAny_bind (wpAny_specialOf hT F.slot_set_len.lookup ?_);generalize hid:("set.__len__" : String)=id0
 wp_delta
 rw[show splitId id0=some ("set", "__len__")from by subst hid;decide +kernel];subst hid;refine wpAny_bind (wpAny_isInstance (T := "set") (b:=true) hT (by rw[isSubtype_type];kernel_rfl) ?_);refine wpAny_ite_split (fun hab=>absurd hab (by decide)) (fun _=>?_);refine wpAny_ite_split (fun _=>?_) (fun hab=>absurd (by decide +kernel) hab);refine wpAny_bind (wpAny_typeOf hT ?_);exact wpAny_pure h
def GH(hex:o.ExactSet)(hd:o.data=.set es ep t)(hf:t.fits es.size=true)(wk:t.plain=true/\t.led=(!byT w)/\Wlk t.place) :
  PySem.W.KdlSrc prog w "set" S S es.size (fun i v=>∃ e,(dE w S ep es)[i]?=some e/\v=e.2) (fun h=>h.get? S=some o) where
 type:=fun _ h=>⟨o,h,hex.1⟩
 there:=fun _ h=>⟨Heap.lt_size h,Heap.lt_size h⟩
 keep:=fun _ _ h k=>k S (.inl rfl) o h
 notList:=by decide
 notTuple:=by decide
 hint:=fun _ _ _ _ h q=>EK ⟨o,h,hex.1⟩ q
 iter:=fun A s hh h=>⟨itO S 0 0 es.size ep,StS w S s.heap.objs.size o es ep t,fun E Q q=>Eu h hex hd hf wk q,AS hh (Nat.ne_of_lt (Heap.lt_size h)) hd hf wk,
  0,Heap.get?_push_size _ rfl,Heap.get?_push_of_some _ h,fun _=>wk.2.2.1⟩
def qC:∀ {vs:List Value},(∀ v∈vs,∃ k t,v=.int k t)->IntsAre vs (vs.map ivS)
 | [],_=>.nil
 | v::r,h=>by
  obtain⟨k,t,rfl⟩:=h v (by simp);exact .cons _ _ (qC fun v hv=>h v (by simp[hv]))
def y8{xs:Array (Int × Value)}{acc:Array Value}(h:ItemsOf (fun i v=>∃ e,xs[i]?=some e/\v=e.2) acc xs.size):acc.toList=xs.toList.map (·.2):=by
 apply List.ext_getElem?;intro i;rw[List.getElem?_map,Array.getElem?_toList,Array.getElem?_toList]
 cases he:acc[i]? with
 |none=>
  have:xs[i]?=none:=by rw[Array.getElem?_eq_none_iff]at he ⊢;rw[h.1]at he;exact he
  rw[this];rfl
 |some v=>
  obtain⟨e,h1,h2⟩:=h.2 i v he;rw[h1,h2];rfl
def wu{R:List Value->Shared->Prop}{T:String}{r d:Addr}{n:Nat}{P:Nat->Value->Prop}{OK:Heap->Prop}(K:PySem.W.KdlSrc prog w T r d n P OK)(hh:A.handled=none)(hok:OK s.heap)(hn:n<=sizeLine)
 (h:∀ (h':Heap) (tk:Nat) (acc:Array Value),(∀ b o,s.heap.get? b=some o->h'.get? b=some o)->s.heap.objs.size<h'.objs.size->ItemsOf P acc n->R acc.toList { s with heap:=h',toks:=tk }) :
  wpAny (model prog w) A (collect (.ref r)) R E s:=by
 have hlt:=K.there _ hok;unfold collect;refine wpAny_bind (wpAny_runValue (codeAny_builtin F.entry_proto_collect ?_));rw[Around.under_plainId F.plain_proto_collect _];show wpAny _ A.in1 (newList [] >>= fun l=>again (.builtin "list.__iadd__" ⟨[l,.ref r],[]⟩)) _ _ s;refine wpAny_bind (wpAny_newObj_type ?_);refine wpAny_pure ⟨plainId_quiet F.plain_list_iadd _,codeAny_builtin F.entry_list_iadd ?_⟩;rw[Around.under_plainId F.plain_list_iadd _];have hS₁:(s.heap.push { cls:=.type "list",data:=.seq ([]:List Value).toArray }).get? s.heap.objs.size=some { cls:=.type "list",data:=.seq #[] }:=Heap.get?_push_size _ rfl;show wpAny _ A.in1 (Builtin.List.listExtendWith (.ref s.heap.objs.size) (.ref r) (.ref s.heap.objs.size)) _ _ _
 have key:=PySem.W.kdl_extend (A:=A) (s:={ s with heap:=s.heap.push { cls:=.type "list",data:=.seq ([]:List Value).toArray } })
  (R:=fun(q:Result) (s':Shared)=>∃ (h':Heap) (tk:Nat) (acc':Array Value) (c':Nat),q=.ok (.ret (.ref s.heap.objs.size))/\s'={ s with heap:=h',toks:=tk } /\
   (∀ b o,s.heap.get? b=some o->h'.get? b=some o)/\h'.get? s.heap.objs.size=some { cls:=.type "list",dict:=none,data:=.seq acc' c',slots:=#[] }/\ItemsOf P acc' n)
  K hh (K.keep _ _ hok fun b _ o e=>Heap.get?_push_of_some _ e) s.heap.objs.size (Nat.ne_of_gt hlt.1) (Nat.ne_of_gt hlt.2) (.ref s.heap.objs.size) 0 hS₁
  (fun h' tk acc' c' hk hS' hacc=>⟨h',tk,acc',c',rfl,rfl,fun b o e=>hk b o (Nat.ne_of_lt (Heap.lt_size e)) (Heap.get?_push_of_some _ e),hS',hacc⟩) hn
 refine wpAny_mono key (fun fin s' x=>?_) fun e s' x=>?_
 ·cases fin with
  |done f=>
   obtain⟨h',tk,acc',c',e,rfl,hk,hS',hacc⟩:=x;cases e;show wpAny _ A (load s.heap.objs.size >>= _) _ _ _;exact wpAny_bind (wpAny_load hS' (wpAny_pure (h h' tk acc' hk (Heap.lt_size hS') hacc)))
  |again c₁=>
   refine⟨x.1,codeAny_mono x.2 fun q s₂ y=>?_⟩;obtain⟨h',tk,acc',c',rfl,rfl,hk,hS',hacc⟩:=y;show wpAny _ A (load s.heap.objs.size >>= _) _ _ _;exact wpAny_bind (wpAny_load hS' (wpAny_pure (h h' tk acc' hk (Heap.lt_size hS') hacc)))
 ·obtain⟨_,_,_,_,e',_⟩:=x;cases e'
def yH{ks:List Int}{Q:Value->Shared->Prop}(hh:A.handled=none)(ho:s.heap.get? S=some o)(g:Gd prog w o ks)
 (h:∀ (h':Heap) (a tk:Nat) (out:Array Value) (ns:List Int),s.heap.objs.size<=a->(∀ b o,s.heap.get? b=some o->h'.get? b=some o)->(∃ e,h'.get? a=some (seqObj "list" out e))->IntsAre out.toList ns->ns.Perm ks->ns.Pairwise (·<=·)->Q (.ref a) { s with heap:=h',toks:=tk }) :
  wpAny (model prog w) A (call (.builtin "sorted") [.ref S]) Q E s:=by
 obtain⟨es,ep,t,m,hex,hd,hel,hp,hf,wk,_,h5⟩:=g;refine Calls.call_function_entry kind_sorted plain_sorted entry_sorted (args_sorted1 _) ?_;unfold Builtin.«sorted»;refine wpAny_bind (m:=checkCount "sorted" 1 1 _) (wpAny_pure ?_);refine wpAny_bind (wu (A:=A.in1) (GH hex hd hf wk) hh ho (by unfold sizeLine;omega) fun h' tk acc hk hsz hacc=>?_)
 have hacc':ItemsOf (fun i v=>∃ e,(dE w S ep es)[i]?=some e/\v=e.2) acc (dE w S ep es).size:=by rw[la];exact hacc
 have ea:=y8 hacc';have hpe:=qY w S ep es
 have hl:acc.toList.length=es.size:=by rw[Array.length_toList];exact hacc.1
 have hI:IntsAre acc.toList (acc.toList.map ivS):=qC fun v hv=>by
  rw[ea,List.mem_map]at hv;obtain⟨e,he,rfl⟩:=hv;obtain⟨⟨k,hk,_⟩,_⟩:=hel e (hpe.mem_iff.mp he);obtain⟨u,hu⟩:=Value.isInt_shape hk;exact⟨k,u,hu⟩
 have hpk:(acc.toList.map ivS).Perm ks:=by
  rw[ea,List.map_map];exact(hpe.map _).trans hp
 refine wpAny_bind (wpAny_newList ?_ (by rw[hl];unfold sizeLine;omega));have hoL:(h'.push (seqObj "list" acc.toList.toArray 0)).get? h'.objs.size=some (seqObj "list" acc.toList.toArray 0):=Heap.get?_push_size _ rfl;refine wpAny_bind (wpAny_holding (wpAny_call_entry slot_list_sort ⟨_,hoL,rfl⟩ entry_list_sort (list_sort_tree hoL hI (by rw[hl];omega) fun out ns' a1 a2 a3=>⟨_,rfl,?_⟩) (args_list_sort _)));refine wpAny_pure ⟨_,rfl,h _ h'.objs.size tk out ns' ?_ (fun b ob e=>?_) ?_ a1 (a2.trans hpk) a3⟩
 ·exact Nat.le_of_lt hsz
 ·rw[sortedHeap_old (Nat.ne_of_lt (Heap.lt_size (hk b ob e))) (by rw[Heap.size_push];exact Nat.lt_succ_of_lt (Heap.lt_size (hk b ob e)))];exact Heap.get?_push_of_some _ (hk b ob e)
 ·exact sortedHeap_at hoL
end
abbrev xJ(P:Program)(w:World)(a:Addr)(ks:List Int):HO:=.ext fun h=>∃ o,h.get? a=some o/\Gd P w o ks
section
variable{X:Cx}
def vI(hc:X.calm=true):aZ X (.type "set") (fun xs H Q=>∃ p ns,xs=[.ref p]/\H p=some (.lst (ns.map V.int))/\ns.length<=5/\∀ l,H l=none->Q (.ref l) (upd H l (xJ X.prog X.w l (iT ns)))):=by
 intro pins s σ H xs us Q I r h;obtain⟨p,ns,rfl,hp,hn,q⟩:=h
 cases r with
 |cons r rr=>
  cases rr;cases r;obtain⟨its,rv,hl,hz⟩:=I.list (SqL.of hp)
  have hlen:its.length=ns.length:=by
   have:=rv.length;simp at this;exact this.symm
  have hf:H s.heap.objs.size=none:=I.hok.fresh (Nat.le_refl _);refine CT (I.ok.hd.1 hc) hl.isList (ns:=ns) (by simpa using intsAre_of rv) (by rw[List.size_toArray,hlen];exact hn) fun h' tk o ho g hk=>?_
  have hsz:its.toArray.size=ns.length:=by rw[List.size_toArray];exact hlen
  rw[hsz]at g;exact⟨.ref s.heap.objs.size,_,I.laid (o:=xJ X.prog X.w s.heap.objs.size (iT ns)) (t':=tk) (fun b u e=>hk b u (Heap.lt_size e) e) (Nat.le_refl _) ⟨⟨o,ho,g⟩,⟨o,ho⟩,fun h1 h2 ⟨o,a,b⟩ k=>⟨o,k o a,b⟩⟩,rfl,q _ hf⟩
def ub(hc:X.calm=true):aZ X (.builtin "sorted") (fun xs H Q=>∃ (p:Addr) (ks:List Int),xs=[.ref p]/\H p=some (xJ X.prog X.w p ks)/\ks.length<=5/\∀ l,H l=none->Q (.ref l) (upd H l (.lst ((RL.sortI ks).map V.int)))):=by
 intro pins s σ H xs us Q I r h;obtain⟨p,ks,rfl,hp,hlen,q⟩:=h
 cases r with
 |cons r rr=>
  cases rr;cases r;obtain⟨⟨o,ho,g⟩,_⟩:=I.hok p _ hp;refine yH (I.ok.hd.1 hc) ho g fun h' a tk out ns ha hk he h1 h2 h3=>?_;have e:=ji (h2.trans (sortI_perm ks).symm) h3 (dX ks);subst e;obtain⟨en,he⟩:=he;refine⟨.ref a,_,I.laid (t':=tk) (o:=.lst ((RL.sortI ks).map V.int)) hk ha ?_,rfl,q _ (I.hok.fresh ha)⟩;exact⟨by simp only[List.length_map];rw[(sortI_perm ks).length_eq];unfold sizeLine;lia,out.toList,en,iq h1,by rw[he]⟩
def pS(ns:List Int):(iT ns).length<=ns.length:=firstMet_length_le _ _
def pA(hc:X.calm=true)(hgl:Gl X "sorted")(hml:X.mg "sorted" = none)(hg:Gl X "set")(hm:X.mg "set" = none)(ha:SE X cl a a')(hn:noStar a=true):SE X cl (.Call (.Name "sorted" p2) [.Call (.Name "set" p) [a] [] pos] [] pos2) (.bi .sortedSet a'):=by
 refine PE.weak (fg (ub hc) hgl hml (by decide +kernel) (bx (bV (vI hc) hg hm (by decide +kernel) (ba (cl:=cl) ha bP hn) (by decide) (by decide) (ax [] hn) rfl) cP rfl) (by decide) (by decide) rfl rfl) fun σ H Q h=>?_;obtain⟨σD,d,rv,e,k⟩:=h;obtain⟨y,ea,e⟩:=bind_some e;refine one rv ea fun v H1 s1 r1=>?_
 cases y<;>first | (cases e;done) | skip
 case lst ds =>
  rw[RL.F8]at e;split at e
  ·rename_i hl;obtain⟨is,e1,e2⟩:=map_some e;subst e2;obtain⟨q,xs,rfl,_,f2,f3⟩:=az r1;have hx:=gx e1 f3;rw[hx]at f2
   have hil:is.length<=5:=by rw[lx e1];exact hl
   refine⟨q,is,rfl,f2,hil,fun l hl2=>⟨l,_,rfl,aW,Nat.le_trans (pS is) hil,fun l2 hl3=>?_⟩⟩;rw[nB]at hl3 ⊢;exact k _ _ (cT (s1.trans (aw.bE hl2)) hl3 (l5 _) fun _=>rfl)
  ·cases e
end
open Sem (wp)
section
variable{prog:Program}{w:World}{A:Around}{E:Value->Shared->Prop}{s:Shared}{it d:Addr}{es:Array DictEntry}{ep i:Nat}
end
end RS
namespace L2
open PySem PySem.Spec PyProof.Rows
end L2
namespace RS
open PySem PySem.Spec PyProof.Rows L2
def AW{X:Cx}{sts:List Stmt}{t t':TS}(h:PSs X sts t')(w:∀ D σ H,t D σ H->∃ a kvs,H a=some (.dT kvs)/\∀ o,t' D σ (upd H a (.frz o (.dT kvs)))):PSs X sts t:=by
 intro pins s σ H D I q;obtain⟨a,kvs,hH,k⟩:=w D σ H q;obtain⟨z,hs,xs,pr,o,es,ep,g,rest⟩:=id (I.hok a _ hH);have I':Inv X pins σ (upd H a (.frz o (.dT kvs))) { s with heap:=s.heap,toks:=s.toks }:=I.write (x:=a) (e:=a) (h':=s.heap) (t':=s.toks) (by rw[hH];trivial) (.inl rfl) (fun b u _ e=>e) ⟨o,g⟩ ⟨g,z,hs,xs,?_,o,es,ep,g,rest⟩
 ·exact h pins s σ _ D I' (k o)
 ·exact Paired.mono (fun p q ⟨h1,h2,h3⟩=>⟨h1,by rw[aI (kI h2 hH (by intro z;cases z))];exact h2,h3⟩) pr
def RVm.freeze{K:PySem.W.Frag}{M:List Nat}(h:RVm K (j::M) σD σ H)(hM:M.contains j=false)(h1:σ[j]?=some (some (.ref a)))(f2:H a=some (.dT kvs)):RVm K M (σD.set j (some (.fT (kvs.map (·.1))))) σ (upd H a (.frz o (.dT kvs))):=by
 have pa:bc (j::M) σ a:=⟨j,gU,h1⟩
 have mu:cx (.dT kvs):=.inr (.inr ⟨_,rfl⟩);refine⟨by simpa using h.len,fun i d ei=>?_,fun i w e=>?_,fun i k b hi hk=>h.sep i k b (cM hi) (cM hk)⟩
 ·by_cases hij:i=j
  ·subst hij
   have hlt:i<σD.length:=by simpa using(List.getElem?_eq_some_iff.mp ei).1
   rw[List.getElem?_set_self hlt]at ei;cases ei;refine⟨.ref a,h1,?_⟩;rw[if_neg (by rw[hM];exact Bool.false_ne_true),Rep];exact⟨a,o,kvs,rfl,aW,rfl⟩
  ·rw[List.getElem?_set_ne (Ne.symm hij)]at ei;obtain⟨v,g1,g2⟩:=h.val i d ei;refine⟨v,g1,?_⟩;by_cases hm:M.contains i=true
   ·rw[if_pos hm];rw[if_pos (cM hm)]at g2;obtain⟨b,ob,rfl,_,_⟩:=g2.ref;exact g2.off (P:=fun x=>x=a) (fun x u e e'=>by subst e;rw[f2]at e';cases e';exact mu) (fun x u n e=>by rw[aI n];exact e) fun z=>hij (h.sep i j a (cM hm) gU (z▸g1) h1)
   ·rw[if_neg hm];rw[if_neg fun z=>hm ((dG z).resolve_left hij)]at g2
    exact(g2.upd f2 mu pa).weak fun b ⟨k,hk,ek⟩=>⟨k,cM hk,ek⟩
 ·obtain⟨d,hd⟩:=h.non i w e;by_cases hij:i=j
  ·subst hij;exact⟨_,List.getElem?_set_self (List.getElem?_eq_some_iff.mp hd).1⟩
  ·exact⟨d,by rw[List.getElem?_set_ne (Ne.symm hij)];exact hd⟩
def CN{X:Cx}{M:List Nat}{sts:List Stmt}(h:SSs X cl M sts r)(hM:M.contains j=false):SQ X cl M (j::M) sts (.frz j r):=by
 refine AW h fun D σ H h=>?_;obtain⟨σ0,H0,σD,o,σD',rv,fr,e,k⟩:=h;obtain⟨d,e1,e2⟩:=bind_some e;obtain⟨dj,e3,e4⟩:=bind_some e1
 cases dj with
 |dT ks vs=>
  cases e4;obtain⟨v,h1,h2⟩:=rv.val j _ (slot_get e3);rw[if_pos gU]at h2;obtain⟨q1,q2,q3⟩:=h2;rw[Rep]at q3;obtain⟨a,xs,rfl,_,f2,fl,f3⟩:=q3
  have hk:(ks.zip xs).map (·.1)=ks:=by rw[List.map_fst_zip];rw[fl,f3.length];exact Nat.le_refl _
  refine⟨a,ks.zip xs,f2,fun ob=>⟨_,o,σD',rv.freeze hM h1 f2,by rw[hk];exact e2,k.from ⟨fun b u eb n=>⟨?_,fun⟨i,hi,ei⟩=>(fr.1 b u eb n).2 ⟨i,cM hi,ei⟩⟩,fr.2⟩⟩⟩;rw[aI (fun z=>(fr.1 b u eb n).2 ⟨j,gU,by rw[z];exact h1⟩)];exact(fr.1 b u eb n).1
 | _=>cases e4
def nos{α:Type}{P:Prop}{x:α}(h:(none:Option α)=some x):P:=by cases h
def ak{α:Type}{o:Option α}{f:α->Bool}(h:o.any f=true):∃ x,o=some x/\f x=true:=by
 cases o with
 | none=>cases h
 | some x=>exact⟨x,rfl,h⟩
def ae{a b:Bool}(h:(a&&b)=true):a=true/\b=true:=by rw[Bool.and_eq_true]at h;exact h
abbrev fY:Expr->Option Str
 | .Name x _=>some x
 | _=>none
def de{e:Expr}{x:Str}(h:fY e=some x):∃ p,e=.Name x p:=by
 cases e
 case Name=>cases h;exact⟨_,rfl⟩
 all_goals exact nos h
abbrev uD:Expr->Option Const
 | .Constant k _ _=>some k
 | _=>none
def nt{e:Expr}{k:Const}(h:uD e=some k):∃ j p,e=.Constant k j p:=by
 cases e
 case Constant=>cases h;exact⟨_,_,rfl⟩
 all_goals exact nos h
abbrev En:Expr->Option (Expr × Operator × Expr)
 | .BinOp l o r _=>some (l,o,r)
 | _=>none
def Bn{e:Expr}{l r:Expr}{o:Operator}(h:En e=some (l,o,r)):∃ p,e=.BinOp l o r p:=by
 cases e
 case BinOp=>cases h;exact⟨_,rfl⟩
 all_goals exact nos h
abbrev vUn:Expr->Option (UnaryOp × Expr)
 | .UnaryOp o x _=>some (o,x)
 | _=>none
def pq{e x:Expr}{o:UnaryOp}(h:vUn e=some (o,x)):∃ p,e=.UnaryOp o x p:=by
 cases e
 case UnaryOp=>cases h;exact⟨_,rfl⟩
 all_goals exact nos h
abbrev jN:Expr->Option (Expr × List CmpOp × List Expr)
 | .Compare l o r _=>some (l,o,r)
 | _=>none
def fq{e l:Expr}{r:List Expr}{o:List CmpOp}(h:jN e=some (l,o,r)):∃ p,e=.Compare l o r p:=by
 cases e
 case Compare=>cases h;exact⟨_,rfl⟩
 all_goals exact nos h
abbrev vBool:Expr->Option (BoolOp × List Expr × Pos)
 | .BoolOp o es p=>some (o,es,p)
 | _=>none
def j4{e:Expr}{es:List Expr}{o:BoolOp}{p:Pos}(h:vBool e=some (o,es,p)):e=.BoolOp o es p:=by
 cases e
 case BoolOp=>cases h;exact rfl
 all_goals exact nos h
abbrev DY:Expr->Option (Expr × Expr × Expr)
 | .IfExp c a b _=>some (c,a,b)
 | _=>none
def AN{e a b c:Expr}(h:DY e=some (c,a,b)):∃ p,e=.IfExp c a b p:=by
 cases e
 case IfExp=>cases h;exact⟨_,rfl⟩
 all_goals exact nos h
abbrev jY:Expr->Option (List Expr)
 | .Tuple es _ _=>some es
 | _=>none
def eZ{e:Expr}{es:List Expr}(h:jY e=some es):∃ k p,e=.Tuple es k p:=by
 cases e
 case Tuple=>cases h;exact⟨_,_,rfl⟩
 all_goals exact nos h
abbrev De:Expr->Option (List Expr)
 | .List es _=>some es
 | _=>none
def Ar{e:Expr}{es:List Expr}(h:De e=some es):∃ p,e=.List es p:=by
 cases e
 case List=>cases h;exact⟨_,rfl⟩
 all_goals exact nos h
abbrev qg:Expr->Option (Expr × Expr)
 | .Subscript a b _=>some (a,b)
 | _=>none
def kE{e a b:Expr}(h:qg e=some (a,b)):∃ p,e=.Subscript a b p:=by
 cases e
 case Subscript=>cases h;exact⟨_,rfl⟩
 all_goals exact nos h
abbrev vSl:Expr->Option (Option Expr × Option Expr × Option Expr)
 | .Slice a b c _=>some (a,b,c)
 | _=>none
def DZ{e:Expr}{a b c:Option Expr}(h:vSl e=some (a,b,c)):∃ p,e=.Slice a b c p:=by
 cases e
 case Slice=>cases h;exact⟨_,rfl⟩
 all_goals exact nos h
abbrev jj:Expr->Option (Expr × List Expr × List Keyword × Pos)
 | .Call f as ks p=>some (f,as,ks,p)
 | _=>none
def fj{e f:Expr}{as:List Expr}{ks:List Keyword}{p:Pos}(h:jj e=some (f,as,ks,p)):e=.Call f as ks p:=by
 cases e
 case Call=>cases h;exact rfl
 all_goals exact nos h
abbrev oV:Expr->Option (Expr × Str × Pos)
 | .Attribute o x p=>some (o,x,p)
 | _=>none
def kZ{e o:Expr}{x:Str}{p:Pos}(h:oV e=some (o,x,p)):e=.Attribute o x p:=by
 cases e
 case Attribute=>cases h;exact rfl
 all_goals exact nos h
abbrev uv:Expr->Option (Expr × List Comprehension × Scope × Pos)
 | .ListComp e gs sc p=>some (e,gs,sc,p)
 | _=>none
def pC{e x:Expr}{gs:List Comprehension}{sc:Scope}{p:Pos}(h:uv e=some (x,gs,sc,p)):e=.ListComp x gs sc p:=by
 cases e
 case ListComp=>cases h;exact rfl
 all_goals exact nos h
abbrev ug:Expr->Option (List (Option Expr) × List Expr)
 | .Dict ks vs _=>some (ks,vs)
 | _=>none
def pZ{e:Expr}{ks:List (Option Expr)}{vs:List Expr}(h:ug e=some (ks,vs)):∃ p,e=.Dict ks vs p:=by
 cases e
 case Dict=>cases h;exact⟨_,rfl⟩
 all_goals exact nos h
abbrev of1{α:Type}(xs:List α)(f:α->Bool):Bool:=match xs with
 | [a]=>f a
 | _=>false
abbrev of2{α:Type}(xs:List α)(f:α->α->Bool):Bool:=match xs with
 | [a,b]=>f a b
 | _=>false
abbrev of3{α:Type}(xs:List α)(f:α->α->α->Bool):Bool:=match xs with
 | [a,b,c]=>f a b c
 | _=>false
def aF{α:Type}:∀ {xs:List α} {f:α->Bool},of1 xs f=true->∃ a,xs=[a]/\f a=true
 | [a],_,h=>⟨a,rfl,h⟩
def d7{α:Type}:∀ {xs:List α} {f:α->α->Bool},of2 xs f=true->∃ a b,xs=[a,b]/\f a b=true
 | [a,b],_,h=>⟨a,b,rfl,h⟩
def jJ{α:Type}:∀ {xs:List α} {f:α->α->α->Bool},of3 xs f=true->∃ a b c,xs=[a,b,c]/\f a b c=true
 | [a,b,c],_,h=>⟨a,b,c,rfl,h⟩
abbrev ofM{α:Type}(xs:List α)(f:α->α->List α->Bool):Bool:=match xs with
 | a::b::r=>f a b r
 | _=>false
def m6{α:Type}:∀ {xs:List α} {f:α->α->List α->Bool},ofM xs f=true->∃ a b r,xs=a::b::r/\f a b r=true
 | a::b::r,_,h=>⟨a,b,r,rfl,h⟩
abbrev jC:Stmt->Option (List Expr × Expr)
 | .Assign ts e _=>some (ts,e)
 | _=>none
def ff{st:Stmt}{ts:List Expr}{e:Expr}(h:jC st=some (ts,e)):∃ p,st=.Assign ts e p:=by
 cases st
 case Assign=>cases h;exact⟨_,rfl⟩
 all_goals exact nos h
abbrev xE:Stmt->Option (Expr × Operator × Expr)
 | .AugAssign t o e _=>some (t,o,e)
 | _=>none
def sP{st:Stmt}{t e:Expr}{o:Operator}(h:xE st=some (t,o,e)):∃ p,st=.AugAssign t o e p:=by
 cases st
 case AugAssign=>cases h;exact⟨_,rfl⟩
 all_goals exact nos h
abbrev uP:Stmt->Option Expr
 | .Expr e _=>some e
 | _=>none
def mE{st:Stmt}{e:Expr}(h:uP st=some e):∃ p,st=.Expr e p:=by
 cases st
 case Expr=>cases h;exact⟨_,rfl⟩
 all_goals exact nos h
abbrev wIf:Stmt->Option (Expr × List Stmt × List Stmt)
 | .If c a b _=>some (c,a,b)
 | _=>none
def vU{st:Stmt}{c:Expr}{a b:List Stmt}(h:wIf st=some (c,a,b)):∃ p,st=.If c a b p:=by
 cases st
 case If=>cases h;exact⟨_,rfl⟩
 all_goals exact nos h
abbrev Ep:Stmt->Option (Expr × Expr × List Stmt × List Stmt)
 | .For t i b o _=>some (t,i,b,o)
 | _=>none
def B0{st:Stmt}{t i:Expr}{b o:List Stmt}(h:Ep st=some (t,i,b,o)):∃ p,st=.For t i b o p:=by
 cases st
 case For=>cases h;exact⟨_,rfl⟩
 all_goals exact nos h
abbrev ET:Stmt->Option (Option Expr)
 | .Return e _=>some e
 | _=>none
def Au{st:Stmt}{e:Option Expr}(h:ET st=some e):∃ p,st=.Return e p:=by
 cases st
 case Return=>cases h;exact⟨_,rfl⟩
 all_goals exact nos h
structure CC where
 N:List Str
 sc:Scope
 B:List Str
 G:List (Str × Int)
 F:List (Str × List Nat)
abbrev Fl(scope sc:Scope):Scope:={ scope with names:=scope.names.map fun(n,k)=>if(k == NameKind.free&&sc.kind == .function&&sc.names.lookup n == some .cell)then(n,NameKind.cell)else(n,k) }
abbrev CC.inner(C:CC)(scope:Scope):CC:={ C with sc:=Fl scope C.sc }
abbrev iQ(x:Str):Bool:=!(x == ("__debug__" : Str)) && !(x == ("__classdict__" : Str))
abbrev yB(C:CC)(x:Str):Bool:=C.sc.names.lookup x == some .local || C.sc.names.lookup x == some .cell
abbrev yt(C:CC)(x:Str):Bool:=C.sc.names.lookup x == some .local || C.sc.names.lookup x == some .cell || C.sc.names.lookup x == some .free
abbrev glB(C:CC)(x:Str):Bool:=C.sc.names.lookup x == some .globalImplicit&&iQ x
abbrev uO(C:CC)(x:Str):Bool:=glB C x&&C.B.contains x
abbrev nmB(C:CC)(i:Nat)(x:Str):Bool:=C.N[i]? == some x&&iQ x
structure XOk(C:CC)(X:Cx)(cl:RL.Cl):Prop where
 scope:X.env.scope=C.sc
 names:X.N=C.N
 nd:C.N.Nodup
 calm:X.calm=true
 xe:X.xe=fun _ _=>False
 hu:X.A.units+100<cLine
 blt:∀ x∈C.B,X.mg x=none
 glb:∀ x i,C.G.lookup x=some i->∃ u,X.mg x=some u/\RelV (.int i) u
 fns:∀ (f:Nat) (x:Str) (mp:List Nat),C.F[f]?=some (x,mp)->∃ k fa fd ps,iA X.prog X.w X.K X.mg X.base CX0 k fa fd ps (if mp=[]then spF X.K cl f else spM X.K cl mp f)/\dN k X.A/\X.mg x=some (.ref fa)/\PySem.W.keepIn X.K (.ref fa)=true/\Binds X.K fd ps []
section
variable{C:CC}{X:Cx}{cl:RL.Cl}{e:Expr}
def XOk.vis(h:XOk C X cl){x:Str}(v:yt C x=true):Vis X.env.scope x:=by
 unfold yt at v;rw[<-h.scope,Bool.or_eq_true,Bool.or_eq_true,beq_iff_eq,beq_iff_eq,beq_iff_eq]at v;rcases v with(v | v) | v
 ·exact .inl v
 ·exact .inr (.inl v)
 ·exact .inr (.inr v)
def XOk.loc(h:XOk C X cl){x:Str}(v:yB C x=true):Loc X.env.scope x:=by
 unfold yB at v;rw[<-h.scope,Bool.or_eq_true,beq_iff_eq,beq_iff_eq]at v;exact v
def dU{x:Str}(h:iQ x=true):(x == ("__debug__" : Str))=false/\(x == ("__classdict__" : Str))=false:=by
 unfold iQ at h;rw[Bool.and_eq_true,Bool.not_eq_true',Bool.not_eq_true']at h;exact h
def XOk.gl(h:XOk C X cl){x:Str}(v:glB C x=true):Gl X x/\iQ x=true:=by
 unfold glB at v;rw[<-h.scope,Bool.and_eq_true,beq_iff_eq]at v;exact v
def XOk.bl(h:XOk C X cl){x:Str}(v:uO C x=true):Gl X x/\X.mg x=none:=by
 unfold uO at v;rw[Bool.and_eq_true]at v;exact⟨(h.gl v.1).1,h.blt x (by simpa using v.2)⟩
def XOk.nm(h:XOk C X cl){i:Nat}{x:Str}(v:nmB C i x=true):X.N[i]?=some x/\iQ x=true:=by
 unfold nmB at v;rw[<-h.names,Bool.and_eq_true,beq_iff_eq]at v;exact v
def XOk.ndX(h:XOk C X cl):X.N.Nodup:=by rw[h.names];exact h.nd
def XOk.blk(h:XOk C X cl){scope:Scope}(cls:List (Str × Addr))(Ca:Addr)(fp:List Addr)(s:Shared)(H:Hp):XOk (C.inner scope) (L2.blk X scope cls Ca fp s H) cl where
 scope:=by
  show relabel scope X.env=Fl scope C.sc;rw[<-h.scope];rfl
 names:=h.names
 nd:=h.nd
 calm:=h.calm
 xe:=rfl
 hu:=h.hu
 blt:=h.blt
 glb:=h.glb
 fns:=h.fns
abbrev ik:RL.D->Const->Bool
 | .int i,.int j=>i == j
 | .bl i,.bool j=>i == j
 | .non,.none=>true
 | .str x,.str y=>x == y
 | _,_=>false
abbrev plainT:Expr->Bool
 | .UnaryOp .Not _ _=>false
 | .BoolOp _ _ _=>false
 | .IfExp _ _ _ _=>false
 | .Compare _ _ _ _=>false
 | _=>true
abbrev qt:Expr->Bool
 | .BoolOp _ _ _=>true
 | _=>false
abbrev mm:Expr->Bool
 | .Set _ _ _=>false
 | _=>true
abbrev uk:RL.Bi->Option Str
 | .len=>some "len"
 | .list=>some "list"
 | .tuple=>some "tuple"
 | .int=>some "int"
 | .all=>some "all"
 | .any=>some "any"
 | .sum=>some "sum"
 | .sorted=>some "sorted"
 | .sortedS=>some "sorted"
 | _=>none
abbrev tR:RL.Ty->Str
 | .int => "int"
 | .bool => "bool"
 | .list => "list"
 | .tuple => "tuple"
 | .str => "str"
abbrev HG(neg:Bool):CmpOp:=if neg then .IsNot else .Is
abbrev E8(neg:Bool):CmpOp:=if neg then .NotIn else .In
abbrev k0(C:CC)(i:Nat)(e:Expr):Bool:=(fY e).any fun x=>nmB C i x&&yt C x
abbrev fw(C:CC)(i:Nat)(e:Expr):Bool:=(fY e).any fun x=>nmB C i x&&yB C x
abbrev kj(C:CC):List Nat->List Expr->Bool
 | [],es=>es.isEmpty
 | i::is,es=>match es with
  | e::es=>fw C i e&&kj C is es
  | []=>false
abbrev mM(C:CC)(tg:List Nat)(e:Expr):Bool :=
 match tg with
 | [i]=>fw C i e
 | tg=>(jY e).any fun es=>kj C tg es
abbrev lX(C:CC)(scope:Scope)(tg:List Nat):Bool:=tg.all fun i=>match C.N[i]? with
 | some x=>scope.names.lookup x == some .local || scope.names.lookup x == some .cell
 | none=>false
abbrev lL(C:CC)(scope:Scope)(tg:List Nat):Bool:=(List.range C.N.length).all fun i=>match C.N[i]? with
 | some x=>!(scope.names.lookup x == some .local || scope.names.lookup x == some .cell) || tg.contains i
 | none=>true
abbrev scB(scope sc:Scope):Bool:=scope.kind == .function&&scope.names.all (fun x=>(!(x.2 == .cell) || scope.names.lookup x.1 == some .cell)&&(!(x.2 == .local) || scope.names.lookup x.1 == some .local)&&(!(x.2 == .free) || sc.names.lookup x.1 == some .cell || sc.names.lookup x.1 == some .free))
abbrev b9(C:CC)(e:Expr)(nm:Str)(f:List Expr->Bool):Bool:=(jj e).any fun q=>(fY q.1).any (fun x=>x == nm&&uO C x)&&q.2.2.1.isEmpty&&q.2.1.all noStar&&f q.2.1
def aX{nm:Str}{f:List Expr->Bool}(h:XOk C X cl)(z:b9 C e nm f=true):∃ p as pos,e=.Call (.Name nm p) as [] pos/\Gl X nm/\X.mg nm=none/\as.all noStar=true/\f as=true:=by
 unfold b9 at z;obtain⟨⟨g,as,ks,pos⟩,z0,z⟩:=ak z;have e0:=fj z0;subst e0;obtain⟨z,z4⟩:=ae z;obtain⟨z,z3⟩:=ae z;obtain⟨z1,z2⟩:=ae z;obtain⟨x,y0,z1⟩:=ak z1;obtain⟨p,rfl⟩:=de y0;obtain⟨y1,y2⟩:=ae z1;rw[beq_iff_eq]at y1;subst y1;obtain⟨b1,b2⟩:=h.bl y2;rw[List.isEmpty_iff]at z2;subst z2;exact⟨p,as,pos,rfl,b1,b2,z3,z4⟩
def all1{a:Expr}(h:[a].all noStar=true):noStar a=true:=by simpa using h
def all2{a b:Expr}(h:[a,b].all noStar=true):noStar a=true/\noStar b=true:=by simpa using h
def mN{a b c:Expr}(h:[a,b,c].all noStar=true):noStar a=true/\noStar b=true/\noStar c=true:=by simpa using h
end
mutual
noncomputable def chk(C:CC)(t:Bool):RL.E->Expr->Bool
 | .var i=>fun e=>k0 C i e
 | .cst d=>fun e=>(uD e).any fun k=>ik d k
 | .glb y i=>fun e=>(fY e).any fun x=>x == y&&glB C x&&C.G.lookup x == some i
 | .bin o a b=>fun e=>(En e).any fun q=>q.2.1 == pN o&&chk C false a q.1&&chk C false b q.2.2
 | .neg a=>fun e=>(vUn e).any fun q=>q.1 == .USub&&chk C false a q.2
 | .cmp c a b=>fun e=>(jN e).any fun q=>of1 q.2.1 fun op=>of1 q.2.2 fun r=>op == bA c&&chk C false a q.1&&chk C false b r
 | .chain c c' a b d=>fun e=>(jN e).any fun q=>of2 q.2.1 fun op op'=>of2 q.2.2 fun r s=>op == bA c&&op' == bA c'&&chk C false a q.1&&chk C false b r&&chk C false d s
 | .isN neg a=>fun e=>(jN e).any fun q=>of1 q.2.1 fun op=>of1 q.2.2 fun r=>op == HG neg&&(uD r).any (fun k=>ik .non k)&&chk C false a q.1
 | .inn neg a b=>fun e=>(jN e).any fun q=>of1 q.2.1 fun op=>of1 q.2.2 fun r=>op == E8 neg&&kY r&&chk C false a q.1&&chk C false b r
 | .inD neg a b=>fun e=>(jN e).any fun q=>of1 q.2.1 fun op=>of1 q.2.2 fun r=>op == E8 neg&&kY r&&chk C false a q.1&&chk C false b r
 | .and a b=>fun e=>(vBool e).any fun q=>ofM q.2.1 fun l r rest=>q.1 == .And&&chk C t a l&&(if rest.isEmpty then chk C t b r else chk C t b (.BoolOp .And (r::rest) q.2.2))
 | .or a b=>fun e=>(vBool e).any fun q=>ofM q.2.1 fun l r rest=>q.1 == .Or&&chk C t a l&&(if rest.isEmpty then chk C t b r else chk C t b (.BoolOp .Or (r::rest) q.2.2))
 | .not a=>fun e=>(vUn e).any fun q=>q.1 == .Not&&chk C t a q.2
 | .ifx c a b=>fun e=>(DY e).any fun q=>!t&&chk C true c q.1&&chk C false a q.2.1&&chk C false b q.2.2
 | .tup es=>fun e=>(jY e).any fun xs=>mf C es xs&&decide (eI es<=1000)
 | .lst es=>fun e=>(De e).any fun xs=>mf C es xs&&decide (eI es<=1000)
 | .ix a b=>fun e=>(qg e).any fun q=>lA q.2&&chk C false a q.1&&chk C false b q.2
 | .ixD a b=>fun e=>(qg e).any fun q=>lA q.2&&chk C false a q.1&&chk C false b q.2
 | .slT a b=>fun e=>(qg e).any fun q=>chk C false a q.1&&(vSl q.2).any fun s=>s.1.isNone&&s.2.2.isNone&&s.2.1.any fun r=>chk C false b r
 | .call f es=>fun e=>(jj e).any fun q=>(fY q.1).any (fun x=>glB C x&&C.F[f]? == some (x,[]))&&q.2.2.1.isEmpty && !q.2.1.isEmpty&&mf C es q.2.1
 | .bi b a=>fun e=>match b with
  | .sortedSet=>b9 C e "sorted" fun ys=>of1 ys fun y=>b9 C y "set" fun zs=>of1 zs fun z=>chk C false a z
  | .lenSet=>b9 C e "len" fun ys=>of1 ys fun y=>b9 C y "set" fun zs=>of1 zs fun z=>chk C false a z
  | b=>(uk b).any fun x=>b9 C e x fun ys=>of1 ys fun y=>chk C false a y
 | .max a b=>fun e=>b9 C e "max" fun ys=>of2 ys fun y z=>chk C false a y&&chk C false b z
 | .min a b=>fun e=>b9 C e "min" fun ys=>of2 ys fun y z=>chk C false a y&&chk C false b z
 | .isi a ty=>fun e=>b9 C e "isinstance" fun ys=>of2 ys fun y z=>(fY z).any (fun x=>x == tR ty&&uO C x)&&chk C false a y
 | .rng1 a=>fun e=>b9 C e "list" fun ys=>of1 ys fun y=>b9 C y "range" fun zs=>of1 zs fun z=>chk C false a z
 | .rng2 a b=>fun e=>b9 C e "list" fun ys=>of1 ys fun y=>b9 C y "range" fun zs=>of2 zs fun z u=>chk C false a z&&chk C false b u
 | .rng3 c a b=>fun e=>b9 C e "list" fun ys=>of1 ys fun y=>b9 C y "range" fun zs=>of3 zs fun z u q=>ju c q&&chk C false a z&&chk C false b u
 | .comp d tg it c=>fun e=>(uv e).any fun q=>of1 q.2.1 fun g=>of1 g.ifs fun w=>g.is_async == 0&&scB q.2.2.1 C.sc&&lL C q.2.2.1 tg&&mm g.iter&&mM (C.inner q.2.2.1) tg g.target&&lX C q.2.2.1 tg&&jq C it g.target g.iter&&chk (C.inner q.2.2.1) false d q.1&&chk (C.inner q.2.2.1) true c w
 | .compA d tg it=>fun e=>(uv e).any fun q=>of1 q.2.1 fun g=>g.ifs.isEmpty&&g.is_async == 0&&scB q.2.2.1 C.sc&&lL C q.2.2.1 tg&&mm g.iter&&mM (C.inner q.2.2.1) tg g.target&&lX C q.2.2.1 tg&&jq C it g.target g.iter&&chk (C.inner q.2.2.1) false d q.1
 | .dk0=>fun e=>(ug e).any fun q=>q.1.isEmpty&&q.2.isEmpty
 | .dt0=>fun e=>(ug e).any fun q=>q.1.isEmpty&&q.2.isEmpty
 | .chain3 c c' c'' a b d g=>fun e=>!t&&(jN e).any fun q=>of3 q.2.1 fun op op' op''=>of3 q.2.2 fun r s u=>op == bA c&&op' == bA c'&&op'' == bA c''&&chk C false a q.1&&chk C false b r&&chk C false d s&&chk C false g u
 | .index a b=>fun e=>(jj e).any fun q=>(oV q.1).any (fun u=>u.2.1 == ("index" : Str)&&u.2.2.endLine == q.2.2.2.line&&(fY u.1).isSome&&chk C false a u.1)&&q.2.2.1.isEmpty&&of1 q.2.1 fun y=>noStar y&&chk C false b y
 | .join a=>fun e=>(jj e).any fun q=>(oV q.1).any (fun u=>u.2.1 == ("join" : Str)&&u.2.2.endLine == q.2.2.2.line&&(uD u.1).any fun k=>ik (.str ⟨#[]⟩) k)&&q.2.2.1.isEmpty&&of1 q.2.1 fun y=>noStar y&&chk C false a y
noncomputable def mf(C:CC):RL.Es->List Expr->Bool
 | .nil=>fun xs=>xs.isEmpty
 | .cons e es=>fun xs=>match xs with
  | x::xs=>noStar x&&chk C false e x&&mf C es xs
  | []=>false
noncomputable def jq(C:CC):RL.It->Expr->Expr->Bool
 | .seq a=>fun _ e=>chk C false a e
 | .rng1 a=>fun _ e=>b9 C e "range" fun ys=>of1 ys fun y=>chk C false a y
 | .rng2 a b=>fun _ e=>b9 C e "range" fun ys=>of2 ys fun y z=>chk C false a y&&chk C false b z
 | .rng3 c a b=>fun _ e=>b9 C e "range" fun ys=>of3 ys fun y z q=>ju c q&&chk C false a y&&chk C false b z
 | .chr a=>fun _ e=>chk C false a e
 | .enm a=>fun tg e=>(jY tg).isSome&&b9 C e "enumerate" fun ys=>of1 ys fun y=>chk C false a y
 | .zip a b=>fun tg e=>(jY tg).isSome&&b9 C e "zip" fun ys=>of2 ys fun y z=>chk C false a y&&chk C false b z
end
end RS
namespace L2
open PySem PySem.Spec PyProof.Rows
section
end
section
end
open PySem.W
section
variable{K:PySem.W.Frag}
end
section
end
section
end
end L2
namespace RS
open PySem PySem.Spec PyProof.Rows L2
section
variable{st:Stmt}
end
section
end
end RS
namespace L2
open PySem PySem.Spec PyProof.Rows
open RS (VE)
section
variable{EX:St->XK}
end
section
variable{os:OsState}
end
section
end
end L2
namespace RS
open PySem PySem.Spec PyProof.Rows L2
section
end
section
variable{K:PySem.W.Frag}
end
section
end
section
variable{X:Cx}
end
def og:∀ ys:List Str,Str.join ⟨#[]⟩ ys=⟨(ys.flatMap fun s=>s.cps.toList).toArray⟩
 | []=>rfl
 | [x]=>by simp[Str.join]
 | x::y::r=>by
  have ih:=og (y::r);show x++(⟨#[]⟩:Str)++Str.join ⟨#[]⟩ (y::r)=_;rw[ih];show(⟨(x.cps ++ #[])++(List.flatMap (fun s=>s.cps.toList) (y::r)).toArray⟩:Str)=_;simp
def rX:∀ {ys:List Str} {us:List Value},Vals (ys.map V.str) us->StrsAre us ys
 | [],_,r=>by cases r;exact .nil
 | y::ys,_,r=>by
  cases r with
  |cons a b=>
   obtain⟨t,rfl⟩:=a;exact .cons y t (rX b)
def ql{P:Addr->Prop}{K:PySem.W.Frag}:∀ {ds:List RL.D} {ss:List Str} {xs:List V},RL.strs? ds=some ss->ab P K H ds xs->xs=ss.map V.str
 | [],ss,xs,h,r=>by
  rw[RL.strs?]at h;cases h;rw[ab]at r;exact r
 | d::ds,ss,xs,h,r=>by
  rw[ab]at r;obtain⟨x,t,rfl,r1,r2⟩:=r
  cases d with
  |str y=>
   rw[RL.strs?]at h;obtain⟨q,h1,h2⟩:=map_some h;subst h2;rw[a7 r1,ql h1 r2];rfl
  | _=>cases h
section
def BL:MtR X "str.join" (fun x xs H Q=>∃ b ys,x=.str ⟨#[]⟩/\xs=[.ref b]/\H b=some (.lst (ys.map V.str))/\(ys.map (·.length)).sum<=16777216/\Q (.str (Str.join ⟨#[]⟩ ys)) H):=by
 intro pins s σ H x xs v us Q I rx r h;obtain⟨b,ys,rfl,rfl,hb,hz,q⟩:=h;obtain⟨t,rfl⟩:=rx;obtain⟨u,rfl,ru⟩:=vals1 r;cases ru;obtain⟨its,rv,ht,_⟩:=I.list (SqL.of hb)
 refine join_list (items:=its.toArray) ht.isList (by simpa using rX rv) (by show _+_*0<=_;rw[Nat.mul_zero];exact hz) fun t' k=>⟨.str (Str.join ⟨#[]⟩ ys),H,I.tok _,⟨t',?_⟩,q⟩
 show Value.str (Builtin.Str.glued ⟨#[]⟩ ys) t'=_;rw[PySem.StrLaws.glued_eq_join]
def xt:∀ {ss:List Str},ss.all (fun s=>decide (s.length<=100))=true->(ss.map (·.length)).sum<=100*ss.length
 | [],_=>Nat.le_refl _
 | x::r,h=>by
  rw[List.all_cons,Bool.and_eq_true,decide_eq_true_eq]at h;have:=xt h.2;rw[List.map_cons,List.sum_cons,List.length_cons];omega
def AE(ha:SE X cl a a')(hn:noStar a=true)(hline:(apos.endLine == pos.line)=true):SE X cl (.Call (.Attribute (.Constant (.str ⟨#[]⟩) j p) "join" apos) [a] [] pos) (.join a'):=by
 refine PE.weak (tG PySem.F.plainAttrs_str PySem.F.slot_str_join PySem.F.type_str_join BL wz (bx ha cP (ax [] hn)) rfl ?_ hline (ax [] hn) rfl) fun σ H Q h=>?_
 ·rw[ax [] hn];rfl
 obtain⟨σD,d,rv,e,k⟩:=h;obtain⟨x,ea,e⟩:=bind_some e
 cases x with
 |lst ds=>
  obtain⟨ss,e1,e2⟩:=bind_some e;split at e2
  ·rename_i hz;cases e2;refine⟨rfl,σD,_,rv,ea,fun v H1 r1=>?_⟩;obtain⟨b,xs,rfl,_,f2,f3⟩:=az r1.rep;rw[ql e1 f3]at f2;have hs:=xt hz.2;have hm:RL.most=100000:=rfl;refine⟨b,ss,rfl,rfl,f2,by omega,?_⟩;rw[og];exact k _ _ (bU r1.same dP rfl)
  ·cases e2
 | _=>cases e
end
abbrev pH(X:Cx)(cl:RL.Cl)(e:Expr)(e':RL.E)(b b':Bool):Prop:=(b=true->SE X cl e e')/\(b'=true->ST X cl e e'/\(qt e=true->SW X cl e e'))
section
variable{C:CC}{X:Cx}{cl:RL.Cl}{e:Expr}{e':RL.E}{b:Bool}
def uF{env:Env}(h:plainT e=true)(whole:Sem Value):isTrue e env whole=(do let v <- whole;standAt e.pos;holding [v] (truthy v)):=by
 cases e<;>first
  | rfl
  | (cases h;done)
  | (rename_i op _ _;cases op<;>first | rfl | (cases h;done))
def a9(h:b=true->SE X cl e e'/\plainT e=true):pH X cl e e' b b :=
 ⟨fun z=>(h z).1,fun z=>⟨yQ (h z).1 (uF (h z).2),fun q=>by
  have:=(h z).2
  cases e<;>first | (cases q;done) | (cases this;done)⟩⟩
def gQ(h:b=true->SE X cl e e'/\ST X cl e e'/\qt e=false):pH X cl e e' b b :=
 ⟨fun z=>(h z).1,fun z=>⟨(h z).2.1,fun q=>by rw[(h z).2.2]at q;cases q⟩⟩
def Ij(h:b=false){b':Bool}(h':b'=false):pH X cl e e' b b':=⟨fun z=>(by rw[h]at z;cases z),fun z=>(by rw[h']at z;cases z)⟩
def EZ{d:RL.D}{k:Const}{j:Nat}{pos:Pos}(h:ik d k=true):SE X cl (.Constant k j pos) (.cst d):=by
 cases d<;>cases k<;>simp only[ik]at h<;>first | (cases h;done) | skip
 case non.none=>exact lG pX (fun P H=>by rw[Rep]) rfl
 case bl.bool i j=>rw[beq_iff_eq]at h;subst h;exact lG Gz (fun P H=>lN) rfl
 case int.int i j=>rw[beq_iff_eq]at h;subst h;exact lG qD (fun P H=>aM) rfl
 case str.str i j=>rw[beq_iff_eq]at h;subst h;exact lG wz (fun P H=>dP) rfl
def B8{k:Const}(h:ik .non k=true):k=.none:=by
 cases k<;>simp only[ik]at h<;>first | (cases h;done) | rfl
def wA(t:RL.Ty):bootBuiltins (tR t)=some (.type (tyN t))/\tR t ≠ "__name__" /\ (tR t == ("__debug__" : Str))=false:=by
 cases t<;>exact⟨by decide +kernel,by decide +kernel,by decide +kernel⟩
def fL(h:mm e=true)(env:Env)(x:Value):foldedSetIterable e env x=pure x:=by
 cases e<;>first | rfl | (cases h;done)
def FH(hcalm:X.calm=true){o:RL.Bi}{x:Str}{p pos:Pos}{y:Expr}{a':RL.E}(hx:uk o=some x)(hb:Gl X x)(hb2:X.mg x=none)(ha:SE X cl y a')(hn:noStar y=true):SE X cl (.Call (.Name x p) [y] [] pos) (.bi o a'):=by
 cases o<;>simp only[uk]at hx<;>first | (cases hx;done) | skip
 case len=>cases hx;exact EA hb hb2 ha hn
 case list=>cases hx;exact As hb hb2 ha hn
 case tuple=>cases hx;exact yn hb hb2 ha hn
 case int=>cases hx;exact Fh hb hb2 ha hn
 case all=>cases hx;exact EL hcalm hb hb2 ha hn
 case any=>cases hx;exact DH hcalm hb hb2 ha hn
 case sum=>cases hx;exact Cc hcalm hb hb2 ha hn
 case sorted=>cases hx;exact v9 hb hb2 ha hn
 case sortedS=>cases hx;exact tH hb hb2 ha hn
def vC{r:Expr}(h:lA r=true):uh r:=by
 cases r<;>first | (cases h;done) | (intro a b;rfl) | skip
def gq{i:Nat}(h:XOk C X cl)(z:k0 C i e=true):∃ x p,e=.Name x p/\X.N[i]?=some x/\Vis X.env.scope x/\(x == ("__debug__" : Str))=false/\(x == ("__classdict__" : Str))=false:=by
 obtain⟨x,z0,z⟩:=ak z;obtain⟨p,rfl⟩:=de z0;obtain⟨z1,z2⟩:=ae z;obtain⟨g1,g2⟩:=h.nm z1;exact⟨x,p,rfl,g1,h.vis z2,(dU g2).1,(dU g2).2⟩
def fk{i:Nat}(h:XOk C X cl)(z:fw C i e=true):∃ x p,e=.Name x p/\X.N[i]?=some x/\Loc X.env.scope x:=by
 obtain⟨x,z0,z⟩:=ak z;obtain⟨p,rfl⟩:=de z0;obtain⟨z1,z2⟩:=ae z;exact⟨x,p,rfl,(h.nm z1).1,h.loc z2⟩
def mU(h:XOk C X cl){T:List Nat}(hf:∀ i x,i∈T->X.N[i]?=some x->X.fn x=true\/X.env.scope.names.lookup x=some .local):∀ {is:List Nat} {es:List Expr},(∀ i∈is,i∈T)->kj C is es=true->PGs X es (gs is)/\(assignEach es X.env).length=is.length/\(assignEach es X.env).findIdx? (·.1)=none
 | [],es,_,z=>by
  rw[kj,List.isEmpty_iff]at z;subst z;exact⟨BP,rfl,rfl⟩
 | i::is,[],_,z=>by cases z
 | i::is,e::es,hs,z=>by
  rw[kj]at z;obtain⟨z1,z2⟩:=ae z;obtain⟨x,p,rfl,g1,g2⟩:=fk h z1;obtain⟨h1,h2,h3⟩:=mU h hf (fun j hj=>hs j (List.mem_cons_of_mem _ hj)) z2;refine⟨xS (t6 h.ndX g1 g2 (hf i x (hs i List.mem_cons_self) g1)) h1 rfl,?_,?_⟩
  ·show(assignEach es X.env).length+1=is.length+1;rw[h2]
  ·show List.findIdx? (·.1) ((false,assign (.Name x p) X.env)::assignEach es X.env)=none;rw[List.findIdx?_cons];simp only[Bool.false_eq_true,if_false,h3,Option.map_none]
def vk{tg:List Nat}{tgE:Expr}(h:XOk C X cl)(hf:∀ i x,i∈tg->X.N[i]?=some x->X.fn x=true\/X.env.scope.names.lookup x=some .local)(hc:mM C tg tgE=true):PG X tgE (gT X.K tg):=by
 unfold mM at hc;split at hc
 ·obtain⟨x,p,rfl,g1,g2⟩:=fk h hc;exact t6 h.ndX g1 g2 (hf _ x (by simp) g1)
 ·rename_i hne;obtain⟨es,z0,z⟩:=ak hc;obtain⟨k,p,rfl⟩:=eZ z0;obtain⟨h1,h2,h3⟩:=mU h hf (fun i hi=>hi) z
  have e:gT X.K tg=fun v σ H Q=>nc X.K tg.length (gs tg) v σ H Q\/mR X.K tg.length (gs tg) v σ H Q:=by
   unfold gT;split
   ·rename_i i;exact absurd rfl (hne i)
   ·rfl
  rw[e];exact vX (vM h.calm h1 h2 h3) (vi h.calm h1 h2 h3)
def Dh{x:Str}{i:Int}{pos:Pos}(h:XOk C X cl)(hg:glB C x=true)(hl:C.G.lookup x=some i):SE X cl (.Name x pos) (.glb x i):=by
 obtain⟨u,h1,h2⟩:=h.glb x i hl;obtain⟨g1,g2⟩:=h.gl hg;exact CO (u:=u) (Av g1 h1 h2 (dU g2).1)
def A4{x:Str}{f:Nat}{p pos:Pos}{y:Expr}{ys:List Expr}{es:RL.Es}(h:XOk C X cl)(hg:glB C x=true)(hf:C.F[f]?=some (x,[]))(he:SEs X cl (y::ys) es)(hl:eI es=ys.length+1)(hn:noStar y=true)(hns:ys.all noStar=true) :
  SE X cl (.Call (.Name x p) (y::ys) [] pos) (.call f es):=by
 obtain⟨k,fa,fd,ps,F,hr,hm,hk,hb⟩:=h.fns f x [] hf;obtain⟨g1,g2⟩:=h.gl hg;rw[if_pos rfl]at F
 cases es with
 | nil=>simp[eI]at hl
 | cons e' es'=>exact A8 F hr g1 hm hk hb he (dU g2).1 hn hns
def oK{scope sc:Scope}(h:scB scope sc=true):mX scope sc:=by
 unfold scB at h;obtain⟨h1,h2⟩:=ae h;rw[List.all_eq_true]at h2;refine⟨by simpa using h1,fun x hx z=>?_,fun x hx z=>?_,fun x hx z=>?_⟩
 ·have:=h2 x hx;rw[z]at this;simpa using this
 ·have:=h2 x hx;rw[z]at this;simpa using this
 ·have:=h2 x hx;rw[z]at this;simpa using this
def j3{scope:Scope}{tg:List Nat}(h:lL C scope tg=true)(i:Nat)(x:Str)(hx:C.N[i]?=some x)(hl:scope.names.lookup x=some .local\/scope.names.lookup x=some .cell):tg.contains i=true:=by
 unfold lL at h;rw[List.all_eq_true]at h;have:=h i (List.mem_range.mpr (List.getElem?_eq_some_iff.mp hx).1);rw[hx]at this;rcases hl with hl | hl
 ·simp only[hl,beq_self_eq_true,Bool.true_or,Bool.not_true,Bool.false_or]at this;exact this
 ·simp only[hl,beq_self_eq_true,Bool.or_true,Bool.not_true,Bool.false_or]at this;exact this
def nK{X:Cx}{cls:List (Str × Addr)}{scope:Scope}{Ca:Addr}{fp:List Addr}{s:Shared}{H:Hp}{pins:List (Addr × Obj)}{s':Shared}{σ:L2.St}{H':Hp}{Q:Bool->Hp->Prop}(I:Inv (L2.blk X scope cls Ca fp s H) pins σ H' s')(q:me σ H' Q) :
  wpAny (model X.prog X.w) X.A (gC [] (compEnvC scope cls Ca X.env)) (TP (L2.blk X scope cls Ca fp s H) pins σ Q) (fun _ _=>False) s':=by
 unfold gC;exact wpAny_pure ⟨H',I,q⟩
def oq{X:Cx}{cls:List (Str × Addr)}{scope:Scope}{Ca:Addr}{fp:List Addr}{s:Shared}{H:Hp}{pins:List (Addr × Obj)}{s':Shared}{σ:L2.St}{H':Hp}{Q:Bool->Hp->Prop}{c:Expr}{t:TT}(hc:PT (L2.blk X scope cls Ca fp s H) c t)(I:Inv (L2.blk X scope cls Ca fp s H) pins σ H' s')(q:t σ H' Q) :
  wpAny (model X.prog X.w) X.A (gC [c] (compEnvC scope cls Ca X.env)) (TP (L2.blk X scope cls Ca fp s H) pins σ Q) (fun _ _=>False) s':=by
 have h:=hc pins s' σ H' Q I q;unfold gC;simp only[List.forIn_cons,List.forIn_nil,if_true];refine wpAny_bind (wpAny_bind (thn h fun b s1 hb=>wpAny_pure ?_));exact wpAny_pure hb
def ma(h:XOk C X cl){scope:Scope}{cls:List (Str × Addr)}{Ca:Addr}{fp:List Addr}{s:Shared}{H:Hp}{tg:List Nat}(ha:lX C scope tg=true){tgE:Expr}(hc:mM (C.inner scope) tg tgE=true):PG (L2.blk X scope cls Ca fp s H) tgE (gT X.K tg):=by
 have hb:=h.blk (scope:=scope) cls Ca fp s H;unfold lX at ha;rw[List.all_eq_true]at ha;refine vk hb (fun i x hi hx=>?_) hc;have:=ha i hi;have hx:X.N[i]?=some x:=hx;rw[h.names]at hx;rw[hx]at this;simp only[Bool.or_eq_true,beq_iff_eq]at this;rcases this with z | z
 ·exact .inr (lookup_relabel_local z)
 ·exact .inl (by show(scope.names.lookup x == some .cell)=true;rw[z];rfl)
def tj{α:Type}{o:Option α}(h:o.isNone=true):o=none:=by
 cases o with
 | none=>rfl
 | some _=>cases h
end
mutual
theorem aj{cl:RL.Cl}:∀ (e':RL.E) {C:CC} {X:Cx} (h:XOk C X cl) (e:Expr),pH X cl e e' (chk C false e' e) (chk C true e' e)
 | .var i,C,X,h,e=>a9 (b:=chk C false (.var i) e) fun z=>by
  obtain⟨x,p,rfl,g1,g2,g3,g4⟩:=gq h z;exact⟨Em g1 g2 g3 g4,rfl⟩
 | .cst d,C,X,h,e=>a9 (b:=chk C false (.cst d) e) fun z=>by
  obtain⟨k,z0,z⟩:=ak z;obtain⟨j,p,rfl⟩:=nt z0;exact⟨EZ z,rfl⟩
 | .glb y i,C,X,h,e=>a9 (b:=chk C false (.glb y i) e) fun z=>by
  obtain⟨x,z0,z⟩:=ak z;obtain⟨p,rfl⟩:=de z0;obtain⟨z,z3⟩:=ae z;obtain⟨z1,z2⟩:=ae z;rw[beq_iff_eq]at z1 z3;subst z1;exact⟨Dh h z2 z3,rfl⟩
 | .bin o a b,C,X,h,e=>a9 (b:=chk C false (.bin o a b) e) fun z=>by
  obtain⟨⟨l,op,r⟩,z0,z⟩:=ak z;obtain⟨p,rfl⟩:=Bn z0;obtain⟨z,z3⟩:=ae z;obtain⟨z1,z2⟩:=ae z;rw[beq_iff_eq]at z1;have z1:op=pN o:=z1;subst z1;exact⟨EG ((aj a h l).1 z2) ((aj b h r).1 z3),rfl⟩
 | .neg a,C,X,h,e=>a9 (b:=chk C false (.neg a) e) fun z=>by
  obtain⟨⟨op,x⟩,z0,z⟩:=ak z;obtain⟨p,rfl⟩:=pq z0;obtain⟨z1,z2⟩:=ae z;rw[beq_iff_eq]at z1;have z1:op=.USub:=z1;subst z1;exact⟨ED ((aj a h x).1 z2),rfl⟩
 | .cmp c a b,C,X,h,e=>gQ (b:=chk C false (.cmp c a b) e) fun z=>by
  obtain⟨⟨l,os,rs⟩,z0,z⟩:=ak z;obtain⟨p,rfl⟩:=fq z0;obtain⟨op,y1,z⟩:=aF z;obtain⟨r,y2,z⟩:=aF z;have y1:os=[op]:=y1;have y2:rs=[r]:=y2;subst y1 y2;obtain⟨z,z3⟩:=ae z;obtain⟨z1,z2⟩:=ae z;rw[beq_iff_eq]at z1;subst z1;exact⟨CH h.hu ((aj a h l).1 z2) ((aj b h r).1 z3),ES h.hu ((aj a h l).1 z2) ((aj b h r).1 z3),rfl⟩
 | .chain c c' a b d,C,X,h,e=>gQ (b:=chk C false (.chain c c' a b d) e) fun z=>by
  obtain⟨⟨l,os,rs⟩,z0,z⟩:=ak z;obtain⟨p,rfl⟩:=fq z0;obtain⟨op,op',y1,z⟩:=d7 z;obtain⟨r,s,y2,z⟩:=d7 z;have y1:os=[op,op']:=y1;have y2:rs=[r,s]:=y2;subst y1 y2;obtain⟨z,z5⟩:=ae z;obtain⟨z,z4⟩:=ae z;obtain⟨z,z3⟩:=ae z;obtain⟨z1,z2⟩:=ae z;rw[beq_iff_eq]at z1 z2;subst z1 z2;exact⟨xC h.hu ((aj a h l).1 z3) ((aj b h r).1 z4) ((aj d h s).1 z5),yG h.hu ((aj a h l).1 z3) ((aj b h r).1 z4) ((aj d h s).1 z5),rfl⟩
 | .isN neg a,C,X,h,e=>gQ (b:=chk C false (.isN neg a) e) fun z=>by
  obtain⟨⟨l,os,rs⟩,z0,z⟩:=ak z;obtain⟨p,rfl⟩:=fq z0;obtain⟨op,y1,z⟩:=aF z;obtain⟨r,y2,z⟩:=aF z;have y1:os=[op]:=y1;have y2:rs=[r]:=y2;subst y1 y2;obtain⟨z,z3⟩:=ae z;obtain⟨z1,z2⟩:=ae z;rw[beq_iff_eq]at z1;subst z1;obtain⟨k,w0,w⟩:=ak z2;obtain⟨j,q,rfl⟩:=nt w0;have w:=B8 w;subst w;exact⟨Ci ((aj a h l).1 z3),Fp ((aj a h l).1 z3),rfl⟩
 | .inn neg a b,C,X,h,e=>gQ (b:=chk C false (.inn neg a b) e) fun z=>by
  obtain⟨⟨l,os,rs⟩,z0,z⟩:=ak z;obtain⟨p,rfl⟩:=fq z0;obtain⟨op,y1,z⟩:=aF z;obtain⟨r,y2,z⟩:=aF z;have y1:os=[op]:=y1;have y2:rs=[r]:=y2;subst y1 y2;obtain⟨z,z4⟩:=ae z;obtain⟨z,z3⟩:=ae z;obtain⟨z1,z2⟩:=ae z;rw[beq_iff_eq]at z1;subst z1;exact⟨BS ((aj a h l).1 z3) ((aj b h r).1 z4) z2,Cu ((aj a h l).1 z3) ((aj b h r).1 z4) z2,rfl⟩
 | .inD neg a b,C,X,h,e=>gQ (b:=chk C false (.inD neg a b) e) fun z=>by
  obtain⟨⟨l,os,rs⟩,z0,z⟩:=ak z;obtain⟨p,rfl⟩:=fq z0;obtain⟨op,y1,z⟩:=aF z;obtain⟨r,y2,z⟩:=aF z;have y1:os=[op]:=y1;have y2:rs=[r]:=y2;subst y1 y2;obtain⟨z,z4⟩:=ae z;obtain⟨z,z3⟩:=ae z;obtain⟨z1,z2⟩:=ae z;rw[beq_iff_eq]at z1;subst z1;exact⟨Ez h.hu ((aj a h l).1 z3) ((aj b h r).1 z4) z2,CP h.hu ((aj a h l).1 z3) ((aj b h r).1 z4) z2,rfl⟩
 | .and a b,C,X,h,e=>⟨(fun z=>by
   obtain⟨⟨op,es,p⟩,z0,z⟩:=ak z;obtain⟨l,r,rest,y1,z⟩:=m6 z;have e0:=j4 z0;have y1:es=l::r::rest:=y1;obtain⟨z,z3⟩:=ae z;obtain⟨z1,z2⟩:=ae z;rw[beq_iff_eq]at z1;have z1:op=.And:=z1;subst y1 z1 e0;refine E2 ((aj a h l).1 z2) ?_;split at z3
   ·rename_i hr;rw[List.isEmpty_iff]at hr;subst hr;exact vN ((aj b h r).1 z3)
   ·exact(aj b h _).1 z3),(fun z=>by
   obtain⟨⟨op,es,p⟩,z0,z⟩:=ak z;obtain⟨l,r,rest,y1,z⟩:=m6 z;have e0:=j4 z0;have y1:es=l::r::rest:=y1;obtain⟨z,z3⟩:=ae z;obtain⟨z1,z2⟩:=ae z;rw[beq_iff_eq]at z1;have z1:op=.And:=z1;subst y1 z1 e0
   have w:SW X cl (.BoolOp .And (l::r::rest) p) (.and a b):=by
    refine EI ((aj a h l).2 z2).1 ?_;split at z3
    ·rename_i hr;rw[List.isEmpty_iff]at hr;subst hr;exact xf ((aj b h r).2 z3).1
    ·exact((aj b h _).2 z3).2 rfl
   exact⟨w.pt,fun _=>w⟩)⟩
 | .or a b,C,X,h,e=>⟨(fun z=>by
   obtain⟨⟨op,es,p⟩,z0,z⟩:=ak z;obtain⟨l,r,rest,y1,z⟩:=m6 z;have e0:=j4 z0;have y1:es=l::r::rest:=y1;obtain⟨z,z3⟩:=ae z;obtain⟨z1,z2⟩:=ae z;rw[beq_iff_eq]at z1;have z1:op=.Or:=z1;subst y1 z1 e0;refine Gj ((aj a h l).1 z2) ?_;split at z3
   ·rename_i hr;rw[List.isEmpty_iff]at hr;subst hr;exact vN ((aj b h r).1 z3)
   ·exact(aj b h _).1 z3),(fun z=>by
   obtain⟨⟨op,es,p⟩,z0,z⟩:=ak z;obtain⟨l,r,rest,y1,z⟩:=m6 z;have e0:=j4 z0;have y1:es=l::r::rest:=y1;obtain⟨z,z3⟩:=ae z;obtain⟨z1,z2⟩:=ae z;rw[beq_iff_eq]at z1;have z1:op=.Or:=z1;subst y1 z1 e0
   have w:SW X cl (.BoolOp .Or (l::r::rest) p) (.or a b):=by
    refine FZ ((aj a h l).2 z2).1 ?_;split at z3
    ·rename_i hr;rw[List.isEmpty_iff]at hr;subst hr;exact xf ((aj b h r).2 z3).1
    ·exact((aj b h _).2 z3).2 rfl
   exact⟨w.pt,fun _=>w⟩)⟩
 | .not a,C,X,h,e=>⟨(fun z=>by
   obtain⟨⟨op,x⟩,z0,z⟩:=ak z;obtain⟨p,rfl⟩:=pq z0;obtain⟨z1,z2⟩:=ae z;rw[beq_iff_eq]at z1;have z1:op=.Not:=z1;subst z1
   exact Ff ((aj a h x).1 z2)),(fun z=>by
   obtain⟨⟨op,x⟩,z0,z⟩:=ak z;obtain⟨p,rfl⟩:=pq z0;obtain⟨z1,z2⟩:=ae z;rw[beq_iff_eq]at z1;have z1:op=.Not:=z1;subst z1
   exact⟨Ce ((aj a h x).2 z2).1,fun q=>by cases q⟩)⟩
 | .ifx c a b,C,X,h,e=>⟨(fun z=>by
   obtain⟨⟨q,l,r⟩,z0,z⟩:=ak z;obtain⟨p,rfl⟩:=AN z0;obtain⟨z,z4⟩:=ae z;obtain⟨z,z3⟩:=ae z;obtain⟨z1,z2⟩:=ae z
   exact E7 ((aj c h q).2 z2).1 ((aj a h l).1 z3) ((aj b h r).1 z4)),(fun z=>by
   obtain⟨⟨q,l,r⟩,z0,z⟩:=ak z;obtain⟨z,z4⟩:=ae z;obtain⟨z,z3⟩:=ae z;obtain⟨z1,z2⟩:=ae z
   cases z1)⟩
 | .tup es,C,X,h,e=>a9 (b:=chk C false (.tup es) e) fun z=>by
  obtain⟨xs,z0,z⟩:=ak z;obtain⟨k,p,rfl⟩:=eZ z0;obtain⟨z1,z2⟩:=ae z;exact⟨C2 (iV es h _ z1).1 (by simpa using z2),rfl⟩
 | .lst es,C,X,h,e=>a9 (b:=chk C false (.lst es) e) fun z=>by
  obtain⟨xs,z0,z⟩:=ak z;obtain⟨p,rfl⟩:=Ar z0;obtain⟨z1,z2⟩:=ae z;exact⟨Fd (iV es h _ z1).1 (by simpa using z2),rfl⟩
 | .ix a b,C,X,h,e=>a9 (b:=chk C false (.ix a b) e) fun z=>by
  obtain⟨⟨l,r⟩,z0,z⟩:=ak z;obtain⟨p,rfl⟩:=kE z0;obtain⟨z,z3⟩:=ae z;obtain⟨z1,z2⟩:=ae z;exact⟨FE ((aj a h l).1 z2) ((aj b h r).1 z3) z1,rfl⟩
 | .ixD a b,C,X,h,e=>a9 (b:=chk C false (.ixD a b) e) fun z=>by
  obtain⟨⟨l,r⟩,z0,z⟩:=ak z;obtain⟨p,rfl⟩:=kE z0;obtain⟨z,z3⟩:=ae z;obtain⟨z1,z2⟩:=ae z;exact⟨Fw h.hu ((aj a h l).1 z2) ((aj b h r).1 z3) (vC z1),rfl⟩
 | .slT a b,C,X,h,e=>a9 (b:=chk C false (.slT a b) e) fun z=>by
  obtain⟨⟨l,s⟩,z0,z⟩:=ak z;obtain⟨p,rfl⟩:=kE z0;obtain⟨z1,z⟩:=ae z;obtain⟨⟨s1,s2,s3⟩,z0,z⟩:=ak z;obtain⟨q,e0⟩:=DZ z0;have e0:s=.Slice s1 s2 s3 q:=e0;obtain⟨z,z4⟩:=ae z;obtain⟨z2,z3⟩:=ae z;have w2:s1=none:=tj z2;have w3:s3=none:=tj z3;obtain⟨r,y0,z4⟩:=ak z4;have y1:s2=some r:=y0;rw[w2,w3,y1]at e0;subst e0;exact⟨Fj ((aj a h l).1 z1) ((aj b h r).1 z4),rfl⟩
 | .call f es,C,X,h,e=>a9 (b:=chk C false (.call f es) e) fun z=>by
  obtain⟨⟨g,as,ks,p⟩,z0,z⟩:=ak z;have z0:=fj z0;subst z0;obtain⟨z,z4⟩:=ae z;obtain⟨z,z3⟩:=ae z;obtain⟨z1,z2⟩:=ae z;obtain⟨x,y0,z1⟩:=ak z1;obtain⟨q,e0⟩:=de y0;have e0:g=.Name x q:=e0;obtain⟨y1,y2⟩:=ae z1;rw[beq_iff_eq]at y2
  have w2:ks=[]:=by rw[List.isEmpty_iff]at z2;exact z2
  subst e0 w2;obtain⟨q1,q2,q3⟩:=iV es h _ z4;dsimp only at z3 q1 q2 q3
  cases as with
  | nil=>cases z3
  |cons y ys=>
   rw[List.all_cons]at q3;exact⟨A4 h y1 y2 q1 q2 (ae q3).1 (ae q3).2,rfl⟩
 | .bi o a,C,X,h,e=>by
  have gen:(∀ t,chk C t (.bi o a) e=((uk o).any fun x=>b9 C e x fun ys=>of1 ys fun y=>chk C false a y))->pH X cl e (.bi o a) (chk C false (.bi o a) e) (chk C true (.bi o a) e):=fun heq=>by
   rw[heq,heq];refine a9 fun z=>?_;obtain⟨x,y0,z⟩:=ak z;obtain⟨p,as,pos,rfl,b1,b2,z3,z4⟩:=aX h z;obtain⟨y,rfl,z4⟩:=aF z4;exact⟨FH h.calm y0 b1 b2 ((aj a h y).1 z4) (all1 z3),rfl⟩
  cases o
  case lenSet =>
   refine a9 (b:=chk C false (.bi .lenSet a) e) fun z=>?_;rw[chk]at z;obtain⟨p,as,pos,rfl,b1,b2,z3,z4⟩:=aX h z;obtain⟨y,rfl,z5⟩:=aF z4;obtain⟨p',as',pos',rfl,b1',b2',z3',z6⟩:=aX h z5;obtain⟨y,rfl,z7⟩:=aF z6;exact⟨wU h.calm b1 b2 b1' b2' ((aj a h y).1 z7) (all1 z3'),rfl⟩
  case sortedSet =>
   refine a9 (b:=chk C false (.bi .sortedSet a) e) fun z=>?_;have z:(b9 C e "sorted" fun ys=>of1 ys fun y=>b9 C y "set" fun zs=>of1 zs fun z=>chk C false a z)=true:=z;obtain⟨p,as,pos,rfl,b1,b2,z3,z4⟩:=aX h z;obtain⟨y,rfl,z5⟩:=aF z4;obtain⟨p',as',pos',rfl,b1',b2',z3',z6⟩:=aX h z5;obtain⟨y,rfl,z7⟩:=aF z6;exact⟨pA h.calm b1 b2 b1' b2' ((aj a h y).1 z7) (all1 z3'),rfl⟩
  all_goals exact gen fun t=>rfl
 | .max a b,C,X,h,e=>a9 (b:=chk C false (.max a b) e) fun z=>by
  rw[chk]at z;obtain⟨p,as,pos,rfl,b1,b2,z3,z4⟩:=aX h z;obtain⟨y,u,rfl,z4⟩:=d7 z4;exact⟨Ej h.calm b1 b2 ((aj a h y).1 (ae z4).1) ((aj b h u).1 (ae z4).2) (all2 z3).1 (all2 z3).2,rfl⟩
 | .min a b,C,X,h,e=>a9 (b:=chk C false (.min a b) e) fun z=>by
  rw[chk]at z;obtain⟨p,as,pos,rfl,b1,b2,z3,z4⟩:=aX h z;obtain⟨y,u,rfl,z4⟩:=d7 z4;exact⟨EC h.calm b1 b2 ((aj a h y).1 (ae z4).1) ((aj b h u).1 (ae z4).2) (all2 z3).1 (all2 z3).2,rfl⟩
 | .isi a ty,C,X,h,e=>a9 (b:=chk C false (.isi a ty) e) fun z=>by
  rw[chk]at z;obtain⟨p,as,pos,rfl,b1,b2,z3,z4⟩:=aX h z;obtain⟨y,u,rfl,z4⟩:=d7 z4;obtain⟨z5,z6⟩:=ae z4;obtain⟨x,w0,w⟩:=ak z5;obtain⟨q,rfl⟩:=de w0;obtain⟨w1,w2⟩:=ae w;rw[beq_iff_eq]at w1;subst w1;obtain⟨t1,t2,t3⟩:=wA ty;exact⟨Dl b1 b2 (h.bl w2).1 (h.bl w2).2 t1 t2 t3 ((aj a h y).1 z6) (all2 z3).1,rfl⟩
 | .rng1 a,C,X,h,e=>a9 (b:=chk C false (.rng1 a) e) fun z=>by
  rw[chk]at z;obtain⟨p,as,pos,rfl,b1,b2,z3,z4⟩:=aX h z;obtain⟨y,rfl,z5⟩:=aF z4;obtain⟨p',as',pos',rfl,b1',b2',z3',z6⟩:=aX h z5;obtain⟨y,rfl,z7⟩:=aF z6;exact⟨B6 h.calm b1 b2 b1' b2' ((aj a h y).1 z7) (all1 z3'),rfl⟩
 | .rng2 a b,C,X,h,e=>a9 (b:=chk C false (.rng2 a b) e) fun z=>by
  rw[chk]at z;obtain⟨p,as,pos,rfl,b1,b2,z3,z4⟩:=aX h z;obtain⟨y,rfl,z5⟩:=aF z4;obtain⟨p',as',pos',rfl,b1',b2',z3',z6⟩:=aX h z5;obtain⟨y,u,rfl,z7⟩:=d7 z6;exact⟨B7 h.calm b1 b2 b1' b2' ((aj a h y).1 (ae z7).1) ((aj b h u).1 (ae z7).2) (all2 z3').1 (all2 z3').2,rfl⟩
 | .rng3 c a b,C,X,h,e=>a9 (b:=chk C false (.rng3 c a b) e) fun z=>by
  rw[chk]at z;obtain⟨p,as,pos,rfl,b1,b2,z3,z4⟩:=aX h z;obtain⟨y,rfl,z5⟩:=aF z4;obtain⟨p',as',pos',rfl,b1',b2',z3',z6⟩:=aX h z5;obtain⟨y,u,q,rfl,z7⟩:=jJ z6;obtain⟨z7,z9⟩:=ae z7;obtain⟨z7,z8⟩:=ae z7;exact⟨BK h.calm b1 b2 b1' b2' ((aj a h y).1 z8) ((aj b h u).1 z9) (mN z3').1 (mN z3').2.1 z7,rfl⟩
 | .comp d tg it c,C,X,h,e=>a9 (b:=chk C false (.comp d tg it c) e) fun z=>by
  obtain⟨⟨elt,gens,scope,p⟩,z0,z⟩:=ak z;have z0:=pC z0;subst z0;obtain⟨⟨tgE,iter,ifs,asy⟩,y1,z⟩:=aF z;have y1:gens=[⟨tgE,iter,ifs,asy⟩]:=y1;obtain⟨w,y2,z⟩:=aF z;have y2:ifs=[w]:=y2;obtain⟨z,z8⟩:=ae z;obtain⟨z,z7⟩:=ae z;obtain⟨z,z6⟩:=ae z;obtain⟨z,z5⟩:=ae z;obtain⟨z,z4⟩:=ae z;obtain⟨z,z3⟩:=ae z;obtain⟨z,z2⟩:=ae z;obtain⟨z0,z1⟩:=ae z;rw[beq_iff_eq]at z0;have w0:asy=0:=z0;subst y1 w0;subst y2;refine⟨yU (fun _ _ _ _=>h.calm) (by rw[h.scope];exact oK z1) (iK it h _ _ z6) ?_ (fL z3 _),rfl⟩;exact⟨fun cls Ca fp s H=>ma h z5 z4,fun cls Ca fp s H pins s' σ H' Q I q=>oq ((aj c (h.blk cls Ca fp s H) _).2 z8).1 I q,fun cls Ca fp s H=>(aj d (h.blk cls Ca fp s H) _).1 z7,fun i x hx hl=>j3 z2 i x (by rw[<-h.names];exact hx) hl⟩
 | .compA d tg it,C,X,h,e=>a9 (b:=chk C false (.compA d tg it) e) fun z=>by
  obtain⟨⟨elt,gens,scope,p⟩,z0,z⟩:=ak z;have z0:=pC z0;subst z0;obtain⟨⟨tgE,iter,ifs,asy⟩,y1,z⟩:=aF z;have y1:gens=[⟨tgE,iter,ifs,asy⟩]:=y1;obtain⟨z,z7⟩:=ae z;obtain⟨z,z6⟩:=ae z;obtain⟨z,z5⟩:=ae z;obtain⟨z,z4⟩:=ae z;obtain⟨z,z3⟩:=ae z;obtain⟨z,z2⟩:=ae z;obtain⟨z,z1⟩:=ae z;obtain⟨y2,z0⟩:=ae z;rw[beq_iff_eq]at z0;have w0:asy=0:=z0
  have w2:ifs=[]:=by rw[List.isEmpty_iff]at y2;exact y2
  subst y1 w0;subst w2;refine⟨yl h.calm (by rw[h.scope];exact oK z1) (iK it h _ _ z6) ?_ (fL z3 _),rfl⟩;exact⟨fun cls Ca fp s H=>ma h z5 z4,fun cls Ca fp s H pins s' σ H' Q I q=>nK I q,fun cls Ca fp s H=>(aj d (h.blk cls Ca fp s H) _).1 z7,fun i x hx hl=>j3 z2 i x (by rw[<-h.names];exact hx) hl⟩
 | .dk0,C,X,h,e=>a9 (b:=chk C false .dk0 e) fun z=>by
  obtain⟨⟨ks,vs⟩,z0,z⟩:=ak z;obtain⟨p,rfl⟩:=pZ z0;obtain⟨z1,z2⟩:=ae z;rw[List.isEmpty_iff]at z1 z2;have z1:ks=[]:=z1;have z2:vs=[]:=z2;subst z1 z2;exact⟨CU,rfl⟩
 | .dt0,C,X,h,e=>a9 (b:=chk C false .dt0 e) fun z=>by
  obtain⟨⟨ks,vs⟩,z0,z⟩:=ak z;obtain⟨p,rfl⟩:=pZ z0;obtain⟨z1,z2⟩:=ae z;rw[List.isEmpty_iff]at z1 z2;have z1:ks=[]:=z1;have z2:vs=[]:=z2;subst z1 z2;exact⟨BW,rfl⟩
 | .chain3 c c' c'' a b d g,C,X,h,e=>⟨(fun z=>by
   rw[chk]at z;obtain⟨_,z⟩:=ae z;obtain⟨⟨l,os,rs⟩,z0,z⟩:=ak z;obtain⟨p,rfl⟩:=fq z0;obtain⟨op,op',op'',y1,z⟩:=jJ z;obtain⟨r,s,u,y2,z⟩:=jJ z;have y1:os=[op,op',op'']:=y1;have y2:rs=[r,s,u]:=y2;subst y1 y2;obtain⟨z,z7⟩:=ae z;obtain⟨z,z6⟩:=ae z;obtain⟨z,z5⟩:=ae z;obtain⟨z,z4⟩:=ae z;obtain⟨z,z3⟩:=ae z;obtain⟨z1,z2⟩:=ae z;rw[beq_iff_eq]at z1 z2 z3;subst z1 z2 z3
   exact vq h.hu ((aj a h l).1 z4) ((aj b h r).1 z5) ((aj d h s).1 z6) ((aj g h u).1 z7)),(fun z=>by
   rw[chk]at z;obtain⟨z1,z2⟩:=ae z
   cases z1)⟩
 | .index a b,C,X,h,e=>a9 (b:=chk C false (.index a b) e) fun z=>by
  obtain⟨⟨g,as,ks,p⟩,z0,z⟩:=ak z;have z0:=fj z0;obtain⟨z,z3⟩:=ae z;obtain⟨z1,z2⟩:=ae z;obtain⟨⟨o,nm,apos⟩,y0,z1⟩:=ak z1;have e1:=kZ y0;have e1:g=.Attribute o nm apos:=e1;obtain⟨z1,y4⟩:=ae z1;obtain⟨z1,y3⟩:=ae z1;obtain⟨y1,y2⟩:=ae z1;rw[beq_iff_eq]at y1;have y1:nm = "index" := y1;obtain⟨x,hx⟩:=Option.isSome_iff_exists.mp y3;obtain⟨xp,e2⟩:=de hx;have e2:o=.Name x xp:=e2
  have w2:ks=[]:=by rw[List.isEmpty_iff]at z2;exact z2
  obtain⟨y,e3,z3⟩:=aF z3;have e3:as=[y]:=e3;obtain⟨z3,z5⟩:=ae z3;rw[e1,y1,e2,w2,e3]at z0;subst z0;have y4:chk C false a o=true:=y4;rw[e2]at y4;exact⟨xY ((aj a h _).1 y4) ((aj b h y).1 z5) z3 y2,rfl⟩
 | .join a,C,X,h,e=>a9 (b:=chk C false (.join a) e) fun z=>by
  obtain⟨⟨g,as,ks,p⟩,z0,z⟩:=ak z;have z0:=fj z0;obtain⟨z,z3⟩:=ae z;obtain⟨z1,z2⟩:=ae z;obtain⟨⟨o,nm,apos⟩,y0,z1⟩:=ak z1;have e1:=kZ y0;have e1:g=.Attribute o nm apos:=e1;obtain⟨z1,y3⟩:=ae z1;obtain⟨y1,y2⟩:=ae z1;rw[beq_iff_eq]at y1;have y1:nm = "join" := y1;obtain⟨kk,w0,w⟩:=ak y3;obtain⟨j,q,e2⟩:=nt w0;have e2:o=.Constant kk j q:=e2
  have e4:kk=.str ⟨#[]⟩:=by
   cases kk<;>simp only[ik]at w<;>first | (cases w;done) | skip
   rw[beq_iff_eq]at w;rw[<-w]
  have w2:ks=[]:=by rw[List.isEmpty_iff]at z2;exact z2
  obtain⟨y,e3,z3⟩:=aF z3;have e3:as=[y]:=e3;obtain⟨z3,z5⟩:=ae z3;rw[e1,y1,e2,e4,w2,e3]at z0;subst z0;exact⟨AE ((aj a h y).1 z5) z3 y2,rfl⟩
theorem iV{cl:RL.Cl}:∀ (es':RL.Es) {C:CC} {X:Cx} (h:XOk C X cl) (es:List Expr),mf C es' es=true->SEs X cl es es'/\eI es'=es.length/\es.all noStar=true
 | .nil,C,X,h,es,z=>by
  have z:es=[]:=List.isEmpty_iff.mp z;subst z;exact⟨bP,rfl,rfl⟩
 | .cons e' es',C,X,h,es,z=>by
  cases es with
  | nil=>cases z
  |cons e es=>
   obtain⟨z,z3⟩:=ae z;obtain⟨z1,z2⟩:=ae z;obtain⟨q1,q2,q3⟩:=iV es' h es z3;exact⟨ba ((aj e' h e).1 z2) q1 z1,by rw[eI,q2,List.length_cons],by rw[List.all_cons,z1,q3];rfl⟩
theorem iK{cl:RL.Cl}:∀ (it:RL.It) {C:CC} {X:Cx} (h:XOk C X cl) (tg e:Expr),jq C it tg e=true->SI X cl tg e it
 | .seq a,C,X,h,tg,e,z=>Bw ((aj a h e).1 z)
 | .rng1 a,C,X,h,tg,e,z=>by
  rw[jq]at z;obtain⟨p,as,pos,rfl,b1,b2,z3,z4⟩:=aX h z;obtain⟨y,rfl,z4⟩:=aF z4;exact AH b1 b2 ((aj a h y).1 z4) (all1 z3)
 | .rng2 a b,C,X,h,tg,e,z=>by
  rw[jq]at z;obtain⟨p,as,pos,rfl,b1,b2,z3,z4⟩:=aX h z;obtain⟨y,u,rfl,z4⟩:=d7 z4;exact A5 b1 b2 ((aj a h y).1 (ae z4).1) ((aj b h u).1 (ae z4).2) (all2 z3).1 (all2 z3).2
 | .rng3 c a b,C,X,h,tg,e,z=>by
  rw[jq]at z;obtain⟨p,as,pos,rfl,b1,b2,z3,z4⟩:=aX h z;obtain⟨y,u,q,rfl,z4⟩:=jJ z4;obtain⟨z4,z6⟩:=ae z4;obtain⟨z4,z5⟩:=ae z4;exact Bg b1 b2 ((aj a h y).1 z5) ((aj b h u).1 z6) (mN z3).1 (mN z3).2.1 z4
 | .chr a,C,X,h,tg,e,z=>C3 ((aj a h e).1 z)
 | .enm a,C,X,h,tg,e,z=>by
  rw[jq]at z;obtain⟨z0,zz⟩:=ae z;obtain⟨ts,z0⟩:=Option.isSome_iff_exists.mp z0;obtain⟨k,tp,rfl⟩:=eZ z0;obtain⟨p,as,pos,rfl,b1,b2,z3,z4⟩:=aX h zz;obtain⟨y,rfl,z4⟩:=aF z4;exact Bt b1 b2 ((aj a h y).1 z4) (all1 z3)
 | .zip a b,C,X,h,tg,e,z=>by
  rw[jq]at z;obtain⟨z0,zz⟩:=ae z;obtain⟨ts,z0⟩:=Option.isSome_iff_exists.mp z0;obtain⟨k,tp,rfl⟩:=eZ z0;obtain⟨p,as,pos,rfl,b1,b2,z3,z4⟩:=aX h zz;obtain⟨y,u,rfl,z4⟩:=d7 z4;exact PI'.calm (EF b1 b2 ((aj a h y).1 (ae z4).1) ((aj b h u).1 (ae z4).2) (all2 z3).1 (all2 z3).2)
end
abbrev ku:Expr->Bool
 | .ListComp _ _ _ _=>false
 | .SetComp _ _ _ _=>false
 | .DictComp _ _ _ _ _=>false
 | _=>true
abbrev v5:Expr->Bool
 | .Tuple _ _ _=>false
 | _=>true
abbrev uG(e:Expr):Bool:=match e with
 | .SetComp _ _ _ _=>false
 | .DictComp _ _ _ _ _=>false
 | _=>true
abbrev zg(C:CC)(x y:Str)(px py:Pos)(a b:Expr):Bool :=
 C.sc.kind == .function&&C.sc.names.lookup x == some .local&&C.sc.names.lookup y == some .local&&px.line == py.line && !(x == y)&&noStar a&&noStar b && !(foldedForSure 8 a&&foldedForSure 8 b) && !(constantsAlone 8 a&&constantsAlone 8 b)
abbrev sy(M:List Nat):RL.E->Bool
 | .var i=>M.contains i
 | _=>false
abbrev zG:RL.Bop->Operator->Bool
 | .add,.Add=>true
 | .sub,.Sub=>true
 | _,_=>false
abbrev qV:Expr->Option (Str × Pos)
 | .Name x p=>some (x,p)
 | _=>none
def nV{e:Expr}{x:Str}{p:Pos}(h:qV e=some (x,p)):e=.Name x p:=by
 cases e
 case Name=>cases h;rfl
 all_goals exact nos h
abbrev k9(C:CC)(i:Nat)(nm:Str)(e:Expr)(f:List Expr->Bool):Bool:=(jj e).any fun q=>(oV q.1).any (fun a=>k0 C i a.1&&a.2.1 == nm&&a.2.2.endLine == q.2.2.2.line)&&q.2.2.1.isEmpty&&f q.2.1
abbrev yM(C:CC)(i:Nat)(e':RL.E)(st:Stmt):Bool:=(jC st).any fun q=>of1 q.1 fun t=>fw C i t&&uG q.2&&chk C false e' q.2
mutual
noncomputable def yd(C:CC)(M:List Nat):RL.S->Stmt->Bool
 | .asg i e'=>fun st=>(jC st).any fun q=>of1 q.1 fun t=>fw C i t && !M.contains i&&uG q.2&&chk C false e' q.2
 | .own i e'=>fun st=>(jC st).any fun q=>of1 q.1 fun t=>fw C i t&&M.contains i&&decide (M.count i<2)&&uG q.2&&chk C false e' q.2
 | .unp is e'=>fun st=>(jC st).any fun q=>of1 q.1 fun t=>(jY t).any fun ts=>kj C is ts&&is.all (fun i=>!M.contains i)&&v5 q.2&&chk C false e' q.2
 | .par i j a' b'=>fun st=>(jC st).any fun q=>of1 q.1 fun t=>(jY t).any fun ts=>of2 ts fun s u=>(qV s).any fun x=>(qV u).any fun y=>(jY q.2).any fun vs=>of2 vs fun a b=>nmB C i x.1&&nmB C j y.1 && !(i == j) && !M.contains i && !M.contains j&&zg C x.1 y.1 x.2 y.2 a b&&chk C false a' a&&chk C false b' b
 | .app i e'=>fun st=>(uP st).any fun e=>k9 C i "append" e fun as=>of1 as fun y=>M.contains i&&noStar y&&chk C false e' y
 | .put i k' e'=>fun st=>(jC st).any fun q=>of1 q.1 fun t=>(qg t).any fun u=>k0 C i u.1&&M.contains i&&lA u.2&&ku q.2&&chk C false k' u.2&&chk C false e' q.2
 | .pop i j=>fun st=>(jC st).any fun q=>of1 q.1 fun t=>fw C j t&&M.contains i && !M.contains j&&k9 C i "pop" q.2 fun as=>as.isEmpty
 | .aug i o e'=>fun st=>(xE st).any fun q=>fw C i q.1 && !M.contains i&&zG o q.2.1&&chk C false e' q.2.2
 | .augs i e'=>fun st=>(xE st).any fun q=>fw C i q.1 && !M.contains i&&q.2.1 == .Add&&chk C false e' q.2.2
 | .tie3 f r p w=>fun st=>(uP st).any fun e=>(jj e).any fun q=>(fY q.1).any (fun x=>glB C x&&C.F[f]? == some (x,[0]))&&q.2.2.1.isEmpty&&M.contains r && !M.contains p&&M.contains w && !(r == w)&&of3 q.2.1 fun a b c=>k0 C r a&&k0 C p b&&k9 C w "pop" c fun as=>as.isEmpty
 | .ife c' a' b'=>fun st=>(wIf st).any fun q=>chk C true c' q.1&&fC C M a' q.2.1&&fC C M b' q.2.2
 | .forr tg it b'=>fun st=>(Ep st).any fun q=>q.2.2.2.isEmpty&&jq C it q.1 q.2.1&&mM C tg q.1&&mm q.2.1&&RL.uL M it&&tg.all (fun i=>!M.contains i)&&fC C M b' q.2.2.1
 | .ret e'=>fun st=>(ET st).any fun o=>o.any fun e=>chk C false e' e
 | .exc e'=>fun st=>(uP st).any fun e=>ku e&&chk C false e' e
 | .ifp i e' a' b'=>fun st=>(wIf st).any fun q=>(jN q.1).any fun u=>of1 u.2.1 fun op=>of1 u.2.2 fun e=>op == .NotEq&&M.contains i&&chk C false e' e&&fC C M a' q.2.1&&fC C M b' q.2.2&&k9 C i "pop" u.1 fun as=>as.isEmpty
 | .rais _ _=>fun _=>true
noncomputable def fC(C:CC)(M:List Nat):RL.Ss->List Stmt->Bool
 | .nil=>fun xs=>xs.isEmpty
 | .cons s r=>fun xs=>match xs with
  | x::xs=>yd C M s x&&fC C M r xs
  | []=>false
 | .opn j e' r=>fun xs=>match xs with
  | x::xs=>yM C j e' x && !M.contains j&&oM C M (j::M) r xs
  | []=>false
noncomputable def oM(C:CC)(M:List Nat)(N:List Nat):RL.Sq->List Stmt->Bool
 | .cls r=>fun xs=>fC C M r xs
 | .cons s r=>fun xs=>match xs with
  | x::xs=>yd C N s x&&oM C M N r xs
  | []=>false
 | .opn j e' r=>fun xs=>match xs with
  | x::xs=>yM C j e' x&&decide (M.count j<2)&&oM C M (j::N) r xs
  | []=>false
 | .frz j r=>fun xs=>fC C M r xs&&(!M.contains j&&decide (N=j::M))
end
structure YOk(C:CC)(X:Cx)(cl:RL.Cl):Prop extends XOk C X cl where
 fn:∀ x,X.fn x=true
section
variable{C:CC}{X:Cx}{cl:RL.Cl}{M:List Nat}{st:Stmt}{e:Expr}{e' k':RL.E}{i:Nat}
def gL{t:Option Expr}{l:Nat}{env:Env}(h:ku e=true):swapsWith e t l env=pure false:=by
 cases e<;>first | rfl | (cases h;done)
def uB{t:Expr}{spos:Pos}(h:YOk C X cl)(hn:fw C i t=true)(ha:uG e=true)(hc:chk C false e' e=true):SA X cl (.Assign [t] e spos) i e':=by
 obtain⟨y,py,rfl,hN,hl⟩:=fk h.toXOk hn
 have plain:swapsWith e (some (.Name y py)) spos.line X.env=pure false->SA X cl (.Assign [.Name y py] e spos) i e':=fun z =>
  yu h.ndX hN hl ((aj e' h.toXOk e).1 hc) (.inl (h.fn y)) z trivial
 by_cases hcomp:ku e=true
 ·exact plain (gL hcomp)
 ·have:∃ elt gens scope p,e=.ListComp elt gens scope p:=by
   cases e<;>first | exact absurd rfl hcomp | exact Bool.noConfusion ha | exact⟨_,_,_,_,rfl⟩
  obtain⟨elt,gens,scope,p,rfl⟩:=this;have hsw:swapsWith (.ListComp elt gens scope p) (some (.Name y py)) spos.line X.env=pure (X.env.blockKind == .function&&X.env.kindOf y == some .local&&py.line == p.line && !(scope.names.any fun(n,k)=>n == y&&(k == .local || k == .cell))):=rfl;by_cases hb:(X.env.blockKind == .function&&X.env.kindOf y == some .local&&py.line == p.line && !(scope.names.any fun(n,k)=>n == y&&(k == .local || k == .cell)))=true
  ·have hy:X.env.scope.names.lookup y=some .local:=by
    obtain⟨q,_⟩:=ae (ae hb).1;have q2:=(ae q).2;rw[beq_iff_eq]at q2;exact q2
   rw[hb]at hsw;by_cases hk:∃ d tg it c,e'=.comp d tg it c
   ·obtain⟨d,tg,it,c,rfl⟩:=hk;obtain⟨⟨tgE,iter,ifs,asy⟩,y1,z⟩:=aF hc;have y1:gens=[⟨tgE,iter,ifs,asy⟩]:=y1;obtain⟨w,y2,z⟩:=aF z;have y2:ifs=[w]:=y2;obtain⟨z,z8⟩:=ae z;obtain⟨z,z7⟩:=ae z;obtain⟨z,z6⟩:=ae z;obtain⟨z,z5⟩:=ae z;obtain⟨z,z4⟩:=ae z;obtain⟨z,z3⟩:=ae z;obtain⟨z,z2⟩:=ae z;obtain⟨z0,z1⟩:=ae z;rw[beq_iff_eq]at z0;have w0:asy=0:=z0;subst y1 w0;subst y2;refine yW h.calm h.ndX hN hy (by rw[h.scope];exact oK z1) (iK it h.toXOk _ _ z6) ?_ (fL z3 _) hsw;exact⟨fun cls Ca fp s H=>ma h.toXOk z5 z4,fun cls Ca fp s H pins s' σ H' Q I q=>oq ((aj c (h.toXOk.blk cls Ca fp s H) _).2 z8).1 I q,fun cls Ca fp s H=>(aj d (h.toXOk.blk cls Ca fp s H) _).1 z7,fun i x hx hl=>j3 z2 i x (by rw[<-h.names];exact hx) hl⟩
   ·by_cases hk2:∃ d tg it,e'=.compA d tg it
    ·obtain⟨d,tg,it,rfl⟩:=hk2;obtain⟨⟨tgE,iter,ifs,asy⟩,y1,z⟩:=aF hc;have y1:gens=[⟨tgE,iter,ifs,asy⟩]:=y1;obtain⟨z,z7⟩:=ae z;obtain⟨z,z6⟩:=ae z;obtain⟨z,z5⟩:=ae z;obtain⟨z,z4⟩:=ae z;obtain⟨z,z3⟩:=ae z;obtain⟨z,z2⟩:=ae z;obtain⟨z,z1⟩:=ae z;obtain⟨y2,z0⟩:=ae z;rw[beq_iff_eq]at z0;have w0:asy=0:=z0
     have w2:ifs=[]:=by rw[List.isEmpty_iff]at y2;exact y2
     subst y1 w0;subst w2;refine xU h.calm h.ndX hN hy (by rw[h.scope];exact oK z1) (iK it h.toXOk _ _ z6) ?_ (fL z3 _) hsw;exact⟨fun cls Ca fp s H=>ma h.toXOk z5 z4,fun cls Ca fp s H pins s' σ H' Q I q=>nK I q,fun cls Ca fp s H=>(aj d (h.toXOk.blk cls Ca fp s H) _).1 z7,fun i x hx hl=>j3 z2 i x (by rw[<-h.names];exact hx) hl⟩
    ·cases e'<;>first | exact Bool.noConfusion hc | exact absurd ⟨_,_,_,_,rfl⟩ hk | exact absurd ⟨_,_,_,rfl⟩ hk2 | (rename_i b a;cases b<;>exact Bool.noConfusion hc)
  ·have hb':=Bool.not_eq_true _▸hb;rw[hb']at hsw;exact plain hsw
def ve{st:Stmt}(h:YOk C X cl)(z:yM C i e' st=true):SA X cl st i e':=by
 obtain⟨⟨ts,e⟩,z0,z⟩:=ak z;obtain⟨p,rfl⟩:=ff z0;obtain⟨t,y1,z⟩:=aF z;have y1:ts=[t]:=y1;obtain⟨z,z3⟩:=ae z;obtain⟨z1,z2⟩:=ae z;subst y1;exact uB h z1 z2 z3
def sH{is:List Nat}(h:is.all (fun i=>!M.contains i)=true):∀ i∈is,M.contains i=false:=fun i hi=>by
 rw[List.all_eq_true]at h;simpa using h i hi
def d8{b:Bool}(h:(!b)=true):b=false:=by simpa using h
def kr{nm:Str}{f:List Expr->Bool}(h:XOk C X cl)(z:k9 C i nm e f=true):∃ x p apos as pos,e=.Call (.Attribute (.Name x p) nm apos) as [] pos/\X.N[i]?=some x/\Vis X.env.scope x/\(x == ("__debug__" : Str))=false/\(x == ("__classdict__" : Str))=false/\(apos.endLine == pos.line)=true/\f as=true:=by
 unfold k9 at z;obtain⟨⟨g,as,ks,pos⟩,z0,z⟩:=ak z;have e0:=fj z0;obtain⟨z,z3⟩:=ae z;obtain⟨z1,z2⟩:=ae z;obtain⟨⟨o,a,apos⟩,y0,z1⟩:=ak z1;have e1:=kZ y0;have e1:g=.Attribute o a apos:=e1;obtain⟨z1,y3⟩:=ae z1;obtain⟨y1,y2⟩:=ae z1;rw[beq_iff_eq]at y2;have y2:a=nm:=y2
 have w2:ks=[]:=by rw[List.isEmpty_iff]at z2;exact z2
 obtain⟨x,p,e2,g1,g2,g3,g4⟩:=gq h y1;have e2:o=.Name x p:=e2;rw[e1,w2,y2,e2]at e0;exact⟨x,p,apos,as,pos,e0,g1,g2,g3,g4,y3,z3⟩
def A3(h1:PS X st (mV (tE X.K cl e') (yP (gK i) (tE X.K cl k') uK)))(h2:PS X st (tZ (gK i) (tE X.K cl k') (tE X.K cl e')))(hi:M.contains i=true):SS X cl M st (.put i k' e'):=by
 have a1:=CS h1 hi trivial;have a2:=Bl h2 hi;intro pins s σ H D I h;obtain⟨σD,o,σD',rv,e,k⟩:=h;obtain⟨d,e1,e⟩:=bind_some e;obtain⟨kk,e2,e⟩:=bind_some e;obtain⟨l,e3,e⟩:=bind_some e
 cases l with
 | lst ds=>exact a1 pins s σ H D I ⟨σD,o,σD',rv,by dsimp only;rw[e1];dsimp only[Option.bind_some];rw[e2];dsimp only[Option.bind_some];rw[e3];exact e,k⟩
 | _=>exact a2 pins s σ H D I ⟨σD,o,σD',rv,by dsimp only;rw[e1];dsimp only[Option.bind_some];rw[e2];dsimp only[Option.bind_some];rw[e3];exact e,k⟩
def uc{o k:Expr}{pos:Pos}{env:Env}(h:lA k=true)(v:Value):assign (.Subscript o k pos) env v=(do
   let ov <- holding [v] (eval o env)
   let iv <- holding [v,ov] (eval k env)
   standAt pos
   holding [v,ov,iv] (setItem ov iv v)
   release [v,ov,iv] []):=by
 cases k<;>first | rfl | (cases h;done)
def wN{us:List Expr}{kk:Nat}{tp:Pos}{env:Env}(h:v5 e=true):swappedStores [.Tuple us kk tp] e env=pure none:=by
 cases e<;>first | rfl | (cases h;done)
def Fg{x y:Str}{px py pt pt2:Pos}{kt k2:Nat}{a b:Expr}(h:XOk C X cl)(hp:zg C x y px py a b=true):swappedStores [.Tuple [.Name x px,.Name y py] kt pt] (.Tuple [a,b] k2 pt2) X.env=pure (some [x,y]) /\
  X.env.scope.names.lookup x=some .local/\X.env.scope.names.lookup y=some .local/\noStar a=true/\noStar b=true:=by
 unfold zg at hp;obtain⟨hp,h9⟩:=ae hp;obtain⟨hp,h8⟩:=ae hp;obtain⟨hp,h7⟩:=ae hp;obtain⟨hp,h6⟩:=ae hp;obtain⟨hp,h5⟩:=ae hp;obtain⟨hp,h4⟩:=ae hp;obtain⟨hp,h3⟩:=ae hp;obtain⟨h1,h2⟩:=ae hp;rw[beq_iff_eq]at h1 h2 h3 h4;rw[<-h.scope]at h1 h2 h3;refine⟨?_,h2,h3,h6,h7⟩
 have bk:X.env.blockKind=.function:=by
  unfold Env.blockKind;rw[h1];rfl
 have k1:X.env.kindOf x=some .local:=h2;have k2:X.env.kindOf y=some .local:=h3
 have hxy:x≠y:=by simpa using h5
 have fs':foldedForSure 8 a=true->foldedForSure 8 b=false:=fun z=>by simpa[z]using h8
 have ca':constantsAlone 8 a=true->constantsAlone 8 b=false:=fun z=>by simpa[z]using h9
 have ed:[x,y].eraseDups=[x,y]:=by
  rw[List.eraseDups_cons];simp[Ne.symm hxy];rfl
 unfold swappedStores;simp only[bk];simp[show ∀ (x:Str) (p:Pos),(Expr.Name x p).pos=p from fun _ _=>rfl,k1,k2,h4,ed];refine(if_neg ?_).trans ((if_neg ?_).trans (if_neg ?_))
 ·intro hh;rcases hh with hh | hh
  ·cases a<;>first | exact Bool.noConfusion (show false=true from hh) | exact Bool.noConfusion (show false=true from h6)
  ·cases b<;>first | exact Bool.noConfusion (show false=true from hh) | exact Bool.noConfusion (show false=true from h7)
 ·intro hh;have:=fs' hh.1;rw[hh.2]at this;cases this
 ·intro hh;have:=ca' hh.1;rw[hh.2]at this;cases this
end
section
variable{X:Cx}{cl:RL.Cl}
mutual
theorem sS:∀ (s:RL.S) {C:CC} {M:List Nat} (h:YOk C X cl) (st:Stmt),yd C M s st=true->SS X cl M st s
 | .asg i e',C,M,h,st,z=>by
  obtain⟨⟨ts,e⟩,z0,z⟩:=ak z;obtain⟨p,rfl⟩:=ff z0;obtain⟨t,y1,z⟩:=aF z;have y1:ts=[t]:=y1;obtain⟨z,z4⟩:=ae z;obtain⟨z,z3⟩:=ae z;obtain⟨z1,z2⟩:=ae z;subst y1;exact CB (uB h z1 z3 z4) (d8 z2)
 | .own i e',C,M,h,st,z=>by
  obtain⟨⟨ts,e⟩,z0,z⟩:=ak z;obtain⟨p,rfl⟩:=ff z0;obtain⟨t,y1,z⟩:=aF z;have y1:ts=[t]:=y1;obtain⟨z,z5⟩:=ae z;obtain⟨z,z4⟩:=ae z;obtain⟨z,z3⟩:=ae z;obtain⟨z1,z2⟩:=ae z;subst y1;exact C0 (uB h z1 z4 z5) z2 (by simpa using z3)
 | .unp is e',C,M,h,st,z=>by
  obtain⟨⟨ts,e⟩,z0,z⟩:=ak z;obtain⟨p,rfl⟩:=ff z0;obtain⟨t,y1,z⟩:=aF z;have y1:ts=[t]:=y1;obtain⟨us,y2,z⟩:=ak z;obtain⟨k,tp,rfl⟩:=eZ y2;obtain⟨z,z4⟩:=ae z;obtain⟨z,z3⟩:=ae z;obtain⟨z1,z2⟩:=ae z;subst y1;obtain⟨g1,g2,g3⟩:=mU h.toXOk (T:=is) (fun i x _ _=>.inl (h.fn x)) (fun _ h=>h) z1;refine Bm (vJ ((aj e' h.toXOk e).1 z4) (vX (vM h.calm g1 g2 g3) (vi h.calm g1 g2 g3)) ?_ (wN z3) rfl) (sH z2);cases e<;>rfl
 | .par i j a' b',C,M,h,st,z=>by
  obtain⟨⟨ts,e⟩,z0,z⟩:=ak z;obtain⟨p,rfl⟩:=ff z0;obtain⟨t,y1,z⟩:=aF z;have y1:ts=[t]:=y1;obtain⟨us,y2,z⟩:=ak z;obtain⟨k,tp,e2⟩:=eZ y2;obtain⟨s1,s2,y3,z⟩:=d7 z;obtain⟨⟨x,px⟩,y4,z⟩:=ak z;obtain⟨⟨y,py⟩,y5,z⟩:=ak z;obtain⟨vs,y6,z⟩:=ak z;obtain⟨k',tp',e6⟩:=eZ y6;have e6:e=.Tuple vs k' tp':=e6;obtain⟨a,b,y7,w⟩:=d7 z;rw[nV y4,nV y5]at y3;rw[y3]at e2
  have e7:e=.Tuple [a,b] k' tp':=by rw[<-y7];exact e6
  rw[e2]at y1;subst y1 e7;obtain⟨w,z8⟩:=ae w;obtain⟨w,z7⟩:=ae w;obtain⟨w,z6⟩:=ae w;obtain⟨w,z5⟩:=ae w;obtain⟨w,z4⟩:=ae w;obtain⟨w,z3⟩:=ae w;obtain⟨z1,z2⟩:=ae w;obtain⟨g1,g2,g3,g4,g5⟩:=Fg h.toXOk z6;exact CI (Di h.calm h.ndX (h.nm z1).1 (h.nm z2).1 (by simpa using z3) g2 g3 (ba (cl:=cl) ((aj a' h.toXOk a).1 z7) (ba ((aj b' h.toXOk b).1 z8) bP g5) g4) g1 rfl) (d8 z4) (d8 z5)
 | .app i e',C,M,h,st,z=>by
  obtain⟨e,z0,z8⟩:=ak z;obtain⟨p0,rfl⟩:=mE z0;obtain⟨x,p,apos,as,pos,rfl,g1,g2,g3,g4,z6,z7⟩:=kr h.toXOk z8;obtain⟨y,rfl,z9⟩:=aF z7;obtain⟨z9,z7⟩:=ae z9;obtain⟨z4,z5⟩:=ae z9;refine Dd (mT (tG PySem.F.plainAttrs_list PySem.F.slot_list_append PySem.F.type_list_append nY (eB g1 g2 g3 g4) (ba (cl:=cl) ((aj e' h.toXOk y).1 z7) bP z5) rfl ?_ z6 (ax [] z5) rfl) rfl) z4;rw[ax [] z5];rfl
 | .put i k' e',C,M,h,st,z=>by
  obtain⟨⟨ts,e⟩,z0,z⟩:=ak z;obtain⟨p,rfl⟩:=ff z0;obtain⟨t,y1,z⟩:=aF z;have y1:ts=[t]:=y1;obtain⟨⟨o,k⟩,y2,z⟩:=ak z;obtain⟨sp,e2⟩:=kE y2;obtain⟨z,z7⟩:=ae z;obtain⟨z,z6⟩:=ae z;obtain⟨z,z5⟩:=ae z;obtain⟨z,z4⟩:=ae z;obtain⟨z1,z3⟩:=ae z;obtain⟨x,px,e3,g1,g2,g3,g4⟩:=gq h.toXOk z1;have e3:o=.Name x px:=e3;rw[e3]at e2;rw[e2]at y1;subst y1;have pv:=fun pos=>eB (X:=X) (pos:=pos) g1 g2 g3 g4;refine A3 (vJ ((aj e' h.toXOk e).1 z7) (Df (pv _) ((aj k' h.toXOk k).1 z6) set_list (uc z4)) ?_ ?_ rfl) (AQ (Nat.lt_of_le_of_lt (by lia) h.hu) (pv _) ((aj k' h.toXOk k).1 z6) ((aj e' h.toXOk e).1 z7) (gL z5)) z3
  ·unfold swapsWithSole;exact gL z5
  ·rfl
 | .pop i j,C,M,h,st,z=>by
  obtain⟨⟨ts,e⟩,z0,z⟩:=ak z;obtain⟨p,rfl⟩:=ff z0;obtain⟨t,y1,z⟩:=aF z;have y1:ts=[t]:=y1;obtain⟨z,z4⟩:=ae z;obtain⟨z,z3⟩:=ae z;obtain⟨z1,z2⟩:=ae z;obtain⟨y,py,rfl,l1,l2⟩:=fk h.toXOk z1;obtain⟨x,px,apos,as,pos,e2,g1,g2,g3,g4,z6,z5⟩:=kr h.toXOk z4;have e2:e=.Call (.Attribute (.Name x px) "pop" apos) as [] pos:=e2;have z5:as=[]:=List.isEmpty_iff.mp z5;subst y1 z5 e2;exact Dz (vS h.ndX l1 l2 (pB PySem.F.plainAttrs_list PySem.F.slot_list_pop PySem.F.type_list_pop pf (eB g1 g2 g3 g4) rfl z6) rfl (.inl (h.fn _))) z2 (d8 z3)
 | .aug i o e',C,M,h,st,z=>by
  obtain⟨⟨t,op,e⟩,z0,z⟩:=ak z;obtain⟨p,rfl⟩:=sP z0;obtain⟨z,z4⟩:=ae z;obtain⟨z,z3⟩:=ae z;obtain⟨z1,z2⟩:=ae z;obtain⟨x,px,e1,l1,l2⟩:=fk h.toXOk z1;have e1:t=.Name x px:=e1;subst e1;have z3:zG o op=true:=z3;have z4:chk C false e' e=true:=z4;clear z0 z1 z
  cases o<;>cases op<;>first | (cases z3;done) | skip
  ·exact vG (f:=fun a b=>a+b) (fun a b=>rfl) (qM h.ndX l1 l2 ((aj e' h.toXOk e).1 z4) EV (.inl (h.fn x))) (d8 z2)
  ·exact vG (f:=fun a b=>a-b) (fun a b=>rfl) (qM h.ndX l1 l2 ((aj e' h.toXOk e).1 z4) CK (.inl (h.fn x))) (d8 z2)
 | .augs i e',C,M,h,st,z=>by
  obtain⟨⟨t,op,e⟩,z0,z⟩:=ak z;obtain⟨p,rfl⟩:=sP z0;obtain⟨z,z4⟩:=ae z;obtain⟨z,z3⟩:=ae z;obtain⟨z1,z2⟩:=ae z;obtain⟨x,px,e1,l1,l2⟩:=fk h.toXOk z1;have e1:t=.Name x px:=e1;subst e1;rw[beq_iff_eq]at z3;have z3:op=.Add:=z3;subst z3;exact AO (qM h.ndX l1 l2 ((aj e' h.toXOk e).1 z4) Bu (.inl (h.fn x))) (d8 z2)
 | .tie3 f r p w,C,M,h,st,z=>by
  obtain⟨e,z0,z⟩:=ak z;obtain⟨p0,rfl⟩:=mE z0;obtain⟨⟨g,as,ks,pos⟩,z0,z⟩:=ak z;have e0:=fj z0;obtain⟨z,z7⟩:=ae z;obtain⟨z,z6⟩:=ae z;obtain⟨z,z5⟩:=ae z;obtain⟨z,z4⟩:=ae z;obtain⟨z,z3⟩:=ae z;obtain⟨z1,z2⟩:=ae z;obtain⟨x,y0,z1⟩:=ak z1;obtain⟨q,e1⟩:=de y0;have e1:g=.Name x q:=e1;obtain⟨y1,y2⟩:=ae z1;rw[beq_iff_eq]at y2
  have w2:ks=[]:=by rw[List.isEmpty_iff]at z2;exact z2
  obtain⟨a,b,c,e3,z7⟩:=jJ z7;have e3:as=[a,b,c]:=e3;obtain⟨z7,z10⟩:=ae z7;obtain⟨z8,z9⟩:=ae z7;obtain⟨xa,pa,ea,a1,a2,a3,a4⟩:=gq h.toXOk z8;obtain⟨xb,pb,eb,b1,b2,b3,b4⟩:=gq h.toXOk z9;obtain⟨xc,pc,apos,as',pos',ec,c1,c2,c3,c4,c5,c6⟩:=kr h.toXOk z10;have c6:as'=[]:=List.isEmpty_iff.mp c6;rw[c6]at ec;rw[e1,w2,e3,ea,eb,ec]at e0;subst e0;obtain⟨k,fa,fd,pn,F,hr,hm,hk,hb⟩:=h.toXOk.fns f x [0] y2;rw[if_neg (by decide)]at F;obtain⟨g1,g2⟩:=h.toXOk.gl y1;exact By (mT (sv F hr g1 hm hk hb .nil An (bx (eB a1 a2 a3 a4) (bx (eB b1 b2 b3 b4) (bx (pB PySem.F.plainAttrs_list PySem.F.slot_list_pop PySem.F.type_list_pop pf (eB c1 c2 c3 c4) rfl c5) cP rfl) rfl) rfl) (dU g2).1 rfl rfl) (gL rfl)) z3 (d8 z4) z5 (by simpa using z6)
 | .ife c' a' b',C,M,h,st,z=>by
  obtain⟨⟨c,a,b⟩,z0,z⟩:=ak z;obtain⟨p,rfl⟩:=vU z0;obtain⟨z,z3⟩:=ae z;obtain⟨z1,z2⟩:=ae z;exact Ga ((aj c' h.toXOk c).2 z1).1 (cH a' h a z2) (cH b' h b z3)
 | .forr tg it b',C,M,h,st,z=>by
  obtain⟨⟨t,it',b,o⟩,z0,z⟩:=ak z;obtain⟨p,rfl⟩:=B0 z0;obtain⟨z,z7⟩:=ae z;obtain⟨z,z6⟩:=ae z;obtain⟨z,z5⟩:=ae z;obtain⟨z,z4⟩:=ae z;obtain⟨z,z3⟩:=ae z;obtain⟨z1,z2⟩:=ae z;have z1:o=[]:=List.isEmpty_iff.mp z1;subst z1;exact CL h.xe h.calm (iK it h.toXOk t it' z2) (vk h.toXOk (fun i x _ _=>.inl (h.fn x)) z3) (cH b' h b z7) (fL z4 _) z5 (sH z6)
 | .ret e',C,M,h,st,z=>by
  obtain⟨o,z0,z⟩:=ak z;obtain⟨p,rfl⟩:=Au z0;obtain⟨e,rfl,zz⟩:=ak z;by_cases hv:sy M e'=true
  ·have:∃ i,e'=.var i:=by
    cases e'<;>first | exact⟨_,rfl⟩ | exact Bool.noConfusion hv
   obtain⟨i,rfl⟩:=this;obtain⟨x,q,rfl,g1,g2,g3,g4⟩:=gq h.toXOk zz;exact B2 g1 g2 g3 g4 hv
  ·exact Ct ((aj e' h.toXOk e).1 zz) fun i hi=>by
    subst hi;simpa[sy]using hv
 | .exc e',C,M,h,st,z=>by
  obtain⟨e,z0,z⟩:=ak z;obtain⟨p0,rfl⟩:=mE z0;obtain⟨z1,z2⟩:=ae z;exact Cq (mT ((aj e' h.toXOk e).1 z2) (gL z1))
 | .ifp i e' a' b',C,M,h,st,z=>by
  obtain⟨⟨c,a,b⟩,z0,z⟩:=ak z;obtain⟨p,rfl⟩:=vU z0;obtain⟨⟨l,os,rs⟩,z0,z⟩:=ak z;obtain⟨cp,ec⟩:=fq z0;have ec:c=.Compare l os rs cp:=ec;obtain⟨op,y1,z⟩:=aF z;obtain⟨e,y2,z⟩:=aF z;have y1:os=[op]:=y1;have y2:rs=[e]:=y2;obtain⟨z,z6⟩:=ae z;obtain⟨z,z5⟩:=ae z;obtain⟨z,z4⟩:=ae z;obtain⟨z,z3⟩:=ae z;obtain⟨z1,z2⟩:=ae z;rw[beq_iff_eq]at z1;obtain⟨x,px,apos,as,pos,e2,g1,g2,g3,g4,z7,z8⟩:=kr h.toXOk z6;have e2:l=.Call (.Attribute (.Name x px) "pop" apos) as [] pos:=e2;have z8:as=[]:=List.isEmpty_iff.mp z8;rw[z8]at e2;rw[y1,y2,z1,e2]at ec;subst ec;exact Er (pB PySem.F.plainAttrs_list PySem.F.slot_list_pop PySem.F.type_list_pop pf (eB g1 g2 g3 g4) rfl z7) ((aj e' h.toXOk e).1 z3) (cH a' h a z4) (cH b' h b z5) z2
 | .rais _ _,C,M,h,st,z=>fun pins s σ H D I ⟨σD,r,σD',_,e,_⟩=>by
  rw[RL.evS]at e;cases e
theorem cH:∀ (s:RL.Ss) {C:CC} {M:List Nat} (h:YOk C X cl) (st:List Stmt),fC C M s st=true->SSs X cl M st s
 | .nil,C,M,h,st,z=>by
  have z:st=[]:=List.isEmpty_iff.mp z;subst z;exact AF
 | .cons s r,C,M,h,st,z=>by
  cases st with
  | nil=>cases z
  |cons x xs=>
   obtain⟨z1,z2⟩:=ae z;exact xT (sS s h x z1) (cH r h xs z2)
 | .opn j e' r,C,M,h,st,z=>by
  cases st with
  | nil=>cases z
  |cons x xs=>
   obtain⟨z,z3⟩:=ae z;obtain⟨z1,z2⟩:=ae z;exact AK (ve h z1) (d8 z2) (ll r h xs z3 (fun _=>cM) fun k hk=>Nat.le_trans hk (List.count_le_count_cons ..))
theorem ll:∀ (s:RL.Sq) {C:CC} {M N:List Nat} (h:YOk C X cl) (st:List Stmt),oM C M N s st=true->(∀ i,M.contains i=true->N.contains i=true)->(∀ j,2<=M.count j->2<=N.count j)->SQ X cl M N st s
 | .cls r,C,M,N,h,st,z,hs,hc=>CA (cH r h st z) hs
 | .cons s r,C,M,N,h,st,z,hs,hc=>by
  cases st with
  | nil=>cases z
  |cons x xs=>
   obtain⟨z1,z2⟩:=ae z;exact Ay (sS s h x z1) (ll r h xs z2 hs hc) hc
 | .opn j e' r,C,M,N,h,st,z,hs,hc=>by
  cases st with
  | nil=>cases z
  |cons x xs=>
   obtain⟨z,z3⟩:=ae z;obtain⟨z1,z2⟩:=ae z;exact Eh (ve h z1) (by simpa using z2) (ll r h xs z3 (fun i hi=>cM (hs i hi)) fun k hk=>Nat.le_trans (hc k hk) (List.count_le_count_cons ..))
 | .frz j r,C,M,N,h,st,z,hs,hc=>by
  obtain⟨z1,z⟩:=ae z;obtain⟨z2,z3⟩:=ae z
  have e:N=j::M:=by simpa using z3
  subst e;exact CN (cH r h st z1) (d8 z2)
end
end
structure iz where
 name:Str
 st:Stmt
 ps:List Str
 N:List Str
structure PT' where
 B:List Str
 G:List (Str × Int)
 Ds:List iz
 T:List RL.Fn
abbrev PT'.F(p:PT'):List (Str × List Nat):=(p.Ds.zip p.T).map fun q=>(q.1.name,q.2.mp)
abbrev PT'.cc(p:PT')(d:iz):CC:=⟨d.N,bT d.st,p.B,p.G,p.F⟩
abbrev r8(N ps:List Str)(sc:Scope):Bool :=
 sc.kind == .function && !sc.isCoroutine && !sc.isGenerator&&decide N.Nodup&&N.take ps.length == ps&&ps.all (fun x=>sc.names.lookup x == some .local || sc.names.lookup x == some .cell)&&sc.names.all (fun y=>!(y.2 == .free))
abbrev fnB(p:PT')(d:iz)(fn:RL.Fn):Bool :=
 r8 d.N d.ps (bT d.st)&&fn.ps == d.ps.length&&fn.nn == d.N.length&&decide (d.ps.length<=d.N.length)&&(List.range fn.ps).all (fun i=>!fn.M.contains i || fn.mp.contains i)&&fn.mp.all (fun i=>decide (i<fn.ps)&&decide (2<=fn.M.count i))&&fC (p.cc d) fn.M fn.body (dQ d.st)
abbrev PT'.ok(p:PT'):Bool:=p.Ds.length == p.T.length&&(p.Ds.zip p.T).all fun q=>fnB p q.1 q.2
def yV{N ps:List Str}{sc:Scope}(h:r8 N ps sc=true):kH N ps sc:=by
 unfold r8 at h;obtain⟨h,h7⟩:=ae h;obtain⟨h,h6⟩:=ae h;obtain⟨h,h5⟩:=ae h;obtain⟨h,h4⟩:=ae h;obtain⟨h,h3⟩:=ae h;obtain⟨h1,h2⟩:=ae h;refine⟨by simpa using h1,by simpa using h2,by simpa using h3,by simpa using h4,by simpa using h5,fun x hx=>?_,fun y hy=>?_⟩
 ·rw[List.all_eq_true]at h6;have:=h6 x hx;rw[Bool.or_eq_true,beq_iff_eq,beq_iff_eq]at this;exact this
 ·rw[List.all_eq_true]at h7;have:=h7 y hy;intro z;rw[z]at this;simp at this
structure zI(p:PT')(K:PySem.W.Frag)(mg:Str->Option Value):Prop where
 defs:∀ (f:Nat) (d:iz),p.Ds[f]?=some d->∃ fa fd,mg d.name=some (.ref fa)/\Fun K d.name d.name d.st fa fd/\PySem.W.keepIn K (.ref fa)=true/\Binds K fd d.ps []
 blt:∀ x∈p.B,mg x=none
 glb:∀ x i,p.G.lookup x=some i->∃ u,mg x=some u/\RelV (.int i) u
section
variable{p:PT'}{K:PySem.W.Frag}{mg:Str->Option Value}{base:Heap}{P:Program}{w:World}
abbrev qN(K:PySem.W.Frag)(cl:RL.Cl)(mp:List Nat)(f:Nat):Sp:=if mp=[]then spF K cl f else spM K cl mp f
def bf{α:Type}(vs:List α)(k:Nat)(i:Nat)(v:α):(vs.map some++List.replicate k none)[i]?=some (some v)↔vs[i]?=some v:=by
 by_cases h:i<vs.length
 ·rw[List.getElem?_append_left (by simpa using h)];simp[h]
 ·rw[List.getElem?_append_right (by simpa using h)];constructor
  ·intro e;rw[List.getElem?_replicate]at e;split at e<;>cases e
  ·intro e;have:=(List.getElem?_eq_some_iff.mp e).1;lia
def A6{ds:List RL.D}{vs:List V}{H:Hp}{M:List Nat}{k n:Nat}(r:ab nP K H ds vs)(hM:∀ i,i<n->M.contains i=false)(hn:ds.length=n):RVm K M (ds.map some++List.replicate k none) (vs.map some++List.replicate k none) H:=by
 have nA:∀ a,¬ bc M (vs.map some++List.replicate k none) a:=fun a ⟨i,hi,e⟩=>by
  rw[bf]at e;have:=(List.getElem?_eq_some_iff.mp e).1;rw[hM i (by rw[<-hn,r.length];exact this)]at hi;cases hi
 refine⟨by simp[r.length],fun i d e=>?_,fun i v e=>?_,fun i j a hi hj e1 e2=>(nA a ⟨i,hi,e1⟩).elim⟩
 ·rw[bf]at e;obtain⟨v,h1,h2⟩:=r.get e;have hl:=(List.getElem?_eq_some_iff.mp e).1;refine⟨v,(bf _ _ _ _).mpr h1,?_⟩;rw[if_neg (by rw[hM i (by lia)];decide)];exact h2.weak fun a ha=>nA a ha
 ·rw[bf]at e;have hl:=(List.getElem?_eq_some_iff.mp e).1;exact⟨ds[i]'(by rw[r.length];exact hl),(bf _ _ _ _).mpr (by simp)⟩
def AY{ds:List RL.D}{vs:List V}{H:Hp}{M mp:List Nat}{k n:Nat}(a:Dm K mp ds vs H)(hM:∀ i,i<n->M.contains i=true->i∈mp)(hp:∀ i∈mp,M.contains i=true)(hn:ds.length=n):RVm K M (ds.map some++List.replicate k none) (vs.map some++List.replicate k none) H:=by
 have r:=a.yI
 have inM:∀ i v,(vs.map some++List.replicate k none)[i]?=some (some v)->M.contains i=true->i∈mp/\vs[i]?=some v:=fun i v e hi=>by
  rw[bf]at e;have:=(List.getElem?_eq_some_iff.mp e).1;exact⟨hM i (by rw[<-hn,r.length];exact this) hi,e⟩
 refine⟨by simp[r.length],fun i d e=>?_,fun i v e=>?_,fun i j b hi hj e1 e2=>?_⟩
 ·rw[bf]at e;obtain⟨v,h1,h2⟩:=r.get e;have hl:=(List.getElem?_eq_some_iff.mp e).1;refine⟨v,(bf _ _ _ _).mpr h1,?_⟩;by_cases hm:M.contains i=true
  ·rw[if_pos hm];obtain⟨d',b,g1,g2,g3⟩:=a.own i (hM i (by lia) hm);rw[e]at g1;cases g1;rw[h1]at g2;cases g2;exact g3
  ·rw[if_neg hm];refine(a.oth i d v (fun z=>hm (hp i z)) e h1).weak fun b ⟨j,hj,ej⟩=>?_;obtain⟨q1,q2⟩:=inM j _ ej hj;exact⟨j,q1,q2⟩
 ·rw[bf]at e;have hl:=(List.getElem?_eq_some_iff.mp e).1;exact⟨ds[i]'(by rw[r.length];exact hl),(bf _ _ _ _).mpr (by simp)⟩
 ·obtain⟨q1,q2⟩:=inM i _ e1 hi;obtain⟨q3,q4⟩:=inM j _ e2 hj;exact a.sep i q1 j q3 b q2 q4
def qc{σ:RL.St}:∀ {mp:List Nat} {outs:List RL.D},RL.gA σ mp=some outs->outs.length=mp.length/\∀ (k i:Nat) o,mp[k]?=some i->outs[k]?=some o->σ[i]?=some (some o)
 | [],outs,h=>by
  rw[RL.gA]at h;cases h;exact⟨rfl,fun k i o e=>by simp at e⟩
 | m::mp,outs,h=>by
  rw[RL.gA]at h;obtain⟨d,h1,h⟩:=bind_some h;obtain⟨os,h2,h3⟩:=map_some h;subst h3;obtain⟨g1,g2⟩:=qc h2;refine⟨by simp[g1],fun k i o e1 e2=>?_⟩
  cases k with
  |zero=>
   simp at e1 e2;subst e1 e2;exact slot_get h1
  | succ k=>exact g2 k i o (by simpa using e1) (by simpa using e2)
def uZ{fn:RL.Fn}{d r:RL.D}{σ:RL.St}(h:RL.aS fn d σ=some r)(hm:fn.mp=[]):r=d:=by
 unfold RL.aS at h;rw[hm]at h;simpa using h.symm
def Cg{fn:RL.Fn}{d r:RL.D}{σ:RL.St}(h:RL.aS fn d σ=some r)(hm:fn.mp≠[]):d.imm=true/\∃ outs,RL.gA σ fn.mp=some outs/\r=.tup (d::outs):=by
 unfold RL.aS at h;rw[if_neg (by simpa using hm)]at h;split at h
 ·rename_i im;obtain⟨os,h1,h2⟩:=map_some h;exact⟨im,os,h1,h2.symm⟩
 ·cases h
def vZ(hok:p.ok=true)(tp:zI p K mg):∀ (n f:Nat) (d:iz) (fn:RL.Fn),p.Ds[f]?=some d->p.T[f]?=some fn->∀ fa fd,Fun K d.name d.name d.st fa fd->iA P w K mg base CX0 n fa fd d.ps (qN K (RL.au p.T n) fn.mp f)
 | 0,f,d,fn,hd,hf,fa,fd,F=>by
  have no:∀ vs H Q E,¬ qN K (RL.au p.T 0) fn.mp f vs H Q E:=fun vs H Q E h=>by
   unfold qN at h;split at h
   ·obtain⟨ds,r,_,e,_⟩:=h;cases e
   ·obtain⟨ds,r,o,e,_⟩:=h;cases e
  exact⟨fun vs H Q E h=>(no vs H Q E h).elim,fun A outer s H args us vs Q E _ _ _ _ h=>(no vs H Q E h).elim⟩
 | n+1,f,d,fn,hd,hf,fa,fd,F=>by
  have hok':=hok;unfold PT'.ok at hok';obtain⟨hl,hall⟩:=ae hok';rw[beq_iff_eq]at hl;rw[List.all_eq_true]at hall
  have hz:(p.Ds.zip p.T)[f]?=some (d,fn):=by
   rw[List.getElem?_zip_eq_some];exact⟨hd,hf⟩
  have hB:=hall (d,fn) (List.mem_of_getElem? hz);unfold fnB at hB;dsimp only at hB;obtain⟨hB,b7⟩:=ae hB;obtain⟨hB,b6⟩:=ae hB;obtain⟨hB,b5⟩:=ae hB;obtain⟨hB,b4⟩:=ae hB;obtain⟨hB,b3⟩:=ae hB;obtain⟨b1,b2⟩:=ae hB;rw[beq_iff_eq]at b2 b3;rw[decide_eq_true_eq]at b4;rw[List.all_eq_true]at b5 b6;have S:=yV b1
  have hM:∀ i,i<fn.ps->fn.M.contains i=true->i∈fn.mp:=fun i hi hm=>by
   have:=b5 i (List.mem_range.mpr hi);rw[hm]at this;simpa using this
  have hp2:∀ i∈fn.mp,i<fn.ps/\2<=fn.M.count i:=fun i hi=>by simpa using b6 i hi
  have unf:∀ ds r,RL.au p.T (n+1) f ds=some r->ds.length=fn.ps/\∃ o σ',RL.ah (RL.au p.T n) fn.M fn.body (ds.map some++List.replicate (fn.nn-fn.ps) none)=some (o,σ')/\(match o with | .nx=>RL.aS fn .non σ' | .rt d=>RL.aS fn d σ')=some r:=by
   intro ds r h;rw[RL.au,hf]at h;dsimp only[Option.bind_some]at h;split at h
   ·rename_i hlen;obtain⟨⟨o,σ'⟩,h1,h2⟩:=bind_some h;exact⟨hlen,o,σ',h1,h2⟩
   ·cases h
  refine Fun.ok F S (fun vs H Q E h=>?_) fun cdv A outer s H vs Q E hr h=>?_
  ·unfold qN at h;split at h
   ·obtain⟨ds,r,r1,e,_⟩:=h;rw[<-r1.length,(unf ds r e).1,b2]
   ·obtain⟨ds,r,o,e,a,_⟩:=h;rw[<-a.yI.length,(unf ds _ e).1,b2]
  ·-- the body's context
   have Y:YOk (p.cc d) (lC CX0 P w K mg base d.N d.name (bT d.st) fa cdv A outer s H E).nox (RL.au p.T n):={
    scope:=rfl
    names:=rfl
    nd:=S.nd
    calm:=rfl
    xe:=rfl
    hu:=by
     have:=hr.un;show(A.deeper _).units+100<cLine;lia
    blt:=tp.blt
    glb:=tp.glb
    fns:=fun g x mp hg=>by
     have hg':p.F[g]?=some (x,mp):=hg;unfold PT'.F at hg';rw[List.getElem?_map]at hg';obtain⟨⟨d',fn'⟩,q1,q2⟩:=map_some hg';cases q2;rw[List.getElem?_zip_eq_some]at q1;obtain⟨fa',fd',t1,t2,t3,t4⟩:=tp.defs g d' q1.1;exact⟨n,fa',fd',d'.ps,vZ hok tp n g d' fn' q1.1 q1.2 fa' fd' t2,hr,t1,t3,t4⟩
    fn:=fun _=>rfl }
   have body:=cH fn.body Y (M:=fn.M) _ b7;refine⟨_,body,?_⟩;have hst:start d.N vs=vs.map some++List.replicate (d.N.length-vs.length) none:=rfl;unfold qN at h;split at h
   ·rename_i hmp;obtain⟨ds,r,r1,e,k⟩:=h;obtain⟨hlen,o,σ',e1,e2⟩:=unf ds r e
    have hvl:vs.length=fn.ps:=by rw[<-r1.length];exact hlen
    refine⟨_,o,σ',?_,e1,?_⟩
    ·rw[hst,hvl,<-b3]
     exact A6 r1 (fun i hi=>by
      cases hc:fn.M.contains i with
      | false=>rfl
      |true=>
       have:=hM i hi hc;rw[hmp]at this
       cases this) hlen
    ·have noA:∀ a,¬ bc fn.M (start d.N vs) a:=fun a ⟨i,hi,ei⟩=>by
      rw[hst,bf]at ei;have h3:=(List.getElem?_eq_some_iff.mp ei).1;have:=hM i (by lia) hi;rw[hmp]at this;cases this
     cases o with
     |nx=>
      have hr':=uZ (d:=.non) e2 hmp;subst hr';intro σ1 H1 rv1 fr1;refine k .non H1 (fun b u eb=>(fr1.1 b u eb (noA b)).1) (by rw[Rep])
     |rt d0=>
      have hr':=uZ (d:=d0) e2 hmp;subst hr';intro σ1 H1 v H' rv1 fr1 sm rp;refine k v H' (fun b u eb=>sm _ _ (fr1.1 b u eb (noA b)).1) (rp _ fun q hq=>?_);obtain⟨u,hu⟩:=Option.ne_none_iff_exists'.mp hq;have:=fr1.1 q u hu (noA q);exact⟨(by rw[this.1];exact fun z=>nomatch z),this.2⟩
   ·rename_i hmp;obtain⟨ds,r,outs,e,a,k⟩:=h;obtain⟨hlen,o,σ',e1,e2⟩:=unf ds _ e
    have hvl:vs.length=fn.ps:=by rw[<-a.yI.length];exact hlen
    refine⟨_,o,σ',?_,e1,?_⟩
    ·rw[hst,hvl,<-b3];exact AY a hM (fun i hi=>kA (hp2 i hi).2) hlen
    ·-- the lists behind it
     have fin:∀ (d0:RL.D) (σ1:L2.St) (H1 H':Hp) (v:V),RL.aS fn d0 σ'=some (.tup (r::outs))->RVm K fn.M σ' σ1 H1->Fr' fn.M (start d.N vs) H σ1 H1->aw H1 H'->(d0.imm=true->Rep nP K H' d0 v)->Q v H':=by
      intro d0 σ1 H1 H' v ht rv1 fr1 sm rp;obtain⟨im,os,g1,g2⟩:=Cg ht hmp;cases g2;obtain⟨l1,l2⟩:=qc g1;refine k v H' (fun b u nb eb=>sm _ _ (fr1.1 b u eb fun⟨i,hi,ei⟩=>?_).1) (rp im) im ⟨l1,fun kk pp oo hk ho=>?_⟩
      ·rw[hst,bf]at ei;have h3:=(List.getElem?_eq_some_iff.mp ei).1;exact nb ⟨i,hM i (by lia) hi,ei⟩
      ·have hpm:=List.mem_of_getElem? hk;obtain⟨dp,ap,g3,g4,g5⟩:=a.own pp hpm;have g6:=fr1.2 pp (hp2 pp hpm).2
       have g7:(start d.N vs)[pp]?=some (some (.ref ap)):=by rw[hst,bf];exact g4
       rw[g7]at g6;obtain⟨v',g8,g9⟩:=rv1.val pp oo (l2 kk pp oo hk ho);rw[g6]at g8;cases g8;rw[if_pos (kA (hp2 pp hpm).2)]at g9;exact⟨ap,g4,g9.same sm⟩
     cases o with
     |nx=>
      intro σ1 H1 rv1 fr1
      exact fin .non σ1 H1 H1 .non e2 rv1 fr1 (aw.refl _) fun _=>by rw[Rep]
     |rt d0=>
      intro σ1 H1 v H' rv1 fr1 sm rp;exact fin d0 σ1 H1 H' v e2 rv1 fr1 sm fun im=>rp nP fun _ z=>z.elim
end
abbrev spL(n:Nat)(p:PT')(f:Nat)(K:PySem.W.Frag):Sp:=spF K (RL.au p.T n) f
def DO{n:Nat}{p:PT'}{f:Nat}{K:PySem.W.Frag}{H:Hp}{a:Addr}{ns:List Int}(hO:pD H)(hS:SqL K H a (ns.map V.int))(h:RL.au p.T n f [.scr (ns.map RL.D.int)]=some (.bl true)):spL n p f K [.ref a] H (fun v _=>v=.bl true) fun _ _ _=>False:=by
 refine⟨_,_,?_,h,fun v H' _ r=>aR r⟩;refine ab.cons ?_ ab.nil;rw[Rep];refine⟨a,ns.map V.int,rfl,?_,?_⟩
 ·rcases hS with(z | ⟨o,z⟩) | z
  ·rcases hO a with q | ⟨o,xs,q⟩
   ·rw[q]at z;cases z
   ·rw[q]at z;cases z
  ·exact .inl ⟨o,z⟩
  ·exact .inr (.inr z)
 ·clear hS h
  induction ns with
  | nil=>exact ab.nil
  | cons i r ih=>exact ab.cons aM ih
end RS
namespace K18
open PySem PySem.Spec PyProof.Rows L2
abbrev top(i:Nat):Stmt:=PySem.Challenge.pw_ribbonloft_k18_whole_numbers_of_many_fra.main.body.getD i (.Pass ⟨0,0,0,0⟩)
abbrev mkD(x:Str)(i n:Nat)(N:List Str):RS.iz:=⟨x,top i,N.take n,N⟩
abbrev Ds:List RS.iz:=[
 mkD "is_number" 7 1 ["value"],
 mkD "is_peg_count" 8 1 ["value"],
 mkD "check_pegs" 9 1 ["pegs"],
 mkD "is_pairing" 11 1 ["row", "place"],
 mkD "names_back" 12 2 ["row", "place", "other"],
 mkD "is_uncrossed" 13 1 ["row", "waiting", "place", "other"],
 mkD "tie" 14 3 ["row", "one", "other"],
 mkD "is_frame" 16 1 ["frame", "pegs", "alone", "peg", "other"],
 mkD "check_frame" 17 1 ["frame"],
 mkD "pegs_of" 18 1 ["frame"],
 mkD "brackets" 19 1 ["frame", "place", "other"],
 mkD "from_brackets" 20 1 ["text", "row", "waiting", "place", "sign"],
 mkD "is_brackets" 21 1 ["text", "depth", "sign"],
 mkD "round_place" 22 2 ["pegs", "peg"],
 mkD "in_round" 23 1 ["frame", "pegs", "peg"],
 mkD "moved" 24 2 ["frame", "to", "ends", "peg", "other"],
 mkD "how_many" 26 1 ["pegs"],
 mkD "numbered" 27 2 ["pegs", "number", "text", "depth", "ahead", "left", "opened"],
 mkD "number_of" 28 1 ["frame", "text", "depth", "ahead", "place", "sign"],
 mkD "ways" 29 2 ["steps", "height", "downward"],
 mkD "choices" 30 2 ["many", "chosen", "found", "at"],
 mkD "check_number" 31 2 ["number", "many"],
 mkD "_law_mix" 33 1 ["_law_seed", "_law_one", "_law_two"],
 mkD "_law_raw" 34 2 ["_law_script", "_law_k", "_law_cell", "_law_found", "_law_turn"],
 mkD "_law_digits" 35 3 ["_law_script", "_law_k", "_law_sizes", "_law_rest", "_law_found", "_law_size"],
 mkD "_law_same" 36 2 ["_law_told", "_law_due", "_law_one", "_law_other"],
 mkD "_law_circle" 37 1 ["_law_pegs"],
 mkD "_law_text_of" 38 1 ["_law_frame_here", "_law_circle_here", "_law_seen", "_law_text_here", "_law_peg"],
 mkD "_law_crosses" 39 2 ["_law_ends", "_law_one", "_law_a", "_law_b", "_law_c", "_law_d"],
 mkD "_law_good" 40 1 ["_law_frame_here", "_law_size", "_law_circle_here", "_law_ends", "_law_peg", "_law_other", "_law_one"],
 mkD "_law_plain" 41 1 ["_law_pegs", "_law_peg"],
 mkD "_law_hook" 42 2 ["_law_pegs", "_law_number", "_law_found", "_law_start"],
 mkD "_law_from_text" 43 1 ["_law_text_here", "_law_pegs", "_law_circle_here", "_law_found", "_law_line", "_law_place", "_law_sign", "_law_peg", "_law_other"],
 mkD "_law_text" 44 2 ["_law_raw_here", "_law_pegs", "_law_text_here", "_law_deep", "_law_left", "_law_up", "_law_step"],
 mkD "_law_rings_by" 45 3 ["_law_high", "_law_low", "_law_inner", "_law_pegs", "_law_head", "_law_peg", "_law_other", "_law_one", "_law_keep", "_law_go"],
 mkD "_law_hung" 46 2 ["_law_high", "_law_low", "_law_pegs", "_law_near", "_law_peg", "_law_found", "_law_gone", "_law_here", "_law_turn"],
 mkD "_law_over" 47 1 ["_law_frame_here", "_law_pegs", "_law_peg"],
 mkD "_law_frame" 48 3 ["_law_script", "_law_k", "_law_pegs", "_law_found", "_law_way", "_law_raw_here", "_law_number"],
 mkD "_law_count" 49 1 ["_law_pegs", "_law_found", "_law_size", "_law_k"],
 mkD "law" 50 1 ["_law_script", "_law_k", "_law_pegs", "_law_size", "_law_numbers", "_law_frames", "_law_told", "_law_frame_here", "_law_one", "_law_other", "_law_number"]]
abbrev p:RS.PT':=⟨["all", "any", "bool", "enumerate", "int", "isinstance", "len", "list", "max", "min", "range", "set", "sorted", "str", "sum", "tuple", "zip"],[("MOST_PEGS",10)],Ds,T⟩
def Hw:p.ok=true:=by decide +kernel
def all1{P:List Value->Prop}(h:∀ a0,P [a0]):∀ us:List Value,us.length=1->P us
 | [a0],_=>h a0
def all2{P:List Value->Prop}(h:∀ a0 a1,P [a0,a1]):∀ us:List Value,us.length=2->P us
 | [a0,a1],_=>h a0 a1
def mN{P:List Value->Prop}(h:∀ a0 a1 a2,P [a0,a1,a2]):∀ us:List Value,us.length=3->P us
 | [a0,a1,a2],_=>h a0 a1 a2
section
variable{K:PySem.W.Frag}{h:Heap}{mg:Str->Option Value}{x:Str}{st:Stmt}{f:Addr}{oc kV dc pm cd ct:Value}{od an:Option Addr}{sl:Array (Option Value)}{ps:List Str}
abbrev At(K:PySem.W.Frag)(mg:Str->Option Value)(x:Str)(st:Stmt)(ps:List Str):Prop:=∃ f fd,mg x=some (.ref f)/\Fun K x x st f fd/\PySem.W.keepIn K (.ref f)=true/\Binds K fd ps []
def Dj(X:K.In h)(G:h.Ns mainGlobals mg)(a:PySem.W.nsIn K mainGlobals x=some (some (.ref f)))(l:K.lookup f=some ⟨oc,od,.func (PySem.W.fnOf x x (gr st) (dQ st) (bT st) .none kV dc pm an cd ct),sl⟩)(c:PySem.W.codeIn K cd x=true)(k:PySem.W.keepIn K (.ref f)=true)
 (b:∀ (kV doc pm:Value) (an:Option Addr) (cdv ct:Value) (us:List Value),us.length=ps.length->bindArgs (PySem.W.fnOf x x (gr st) (dQ st) (bT st) .none kV doc pm an cdv ct) ⟨us,[]⟩=pure (ps.zip us)):At K mg x st ps :=
 ⟨f,_,PySem.W.mg_of X G a,wG (st:=st) l c k,k,(wG (st:=st) l c k).binds b⟩
abbrev nG(K:PySem.W.Frag)(mg:Str->Option Value):List RS.iz->Prop
 | []=>True
 | d::r=>At K mg d.name d.st d.ps/\nG K mg r
def nG.get:∀ {l:List RS.iz} {f:Nat} {d:RS.iz},nG K mg l->l[f]?=some d->At K mg d.name d.st d.ps
 | [],_,_,_,e=>by cases e
 | _::_,0,_,h,e=>by cases e;exact h.1
 | _::_,f+1,_,h,e=>nG.get (f:=f) h.2 e
abbrev AllP(P:Str->Prop):List Str->Prop
 | []=>True
 | x::r=>P x/\AllP P r
def AllP.get{P:Str->Prop}:∀ {l:List Str},AllP P l->x∈l->P x
 | _::_,h,e=>(List.mem_cons.mp e).elim (fun z=>z▸h.1) fun z=>AllP.get h.2 z
abbrev mZ(K:PySem.W.Frag):List (Str × Int)->Prop
 | []=>True
 | q::r=>(∃ t,PySem.W.nsIn K mainGlobals q.1=some (some (.int q.2 t)))/\mZ K r
def mZ.get{i:Int}:∀ {l:List (Str × Int)},mZ K l->l.lookup x=some i->∃ t,PySem.W.nsIn K mainGlobals x=some (some (.int i t))
 | [],_,e=>by cases e
 | q::_,h,e=>by
  rw[List.lookup_cons]at e
  cases hb:x == q.1 with
  | true=>rw[hb]at e;cases e;rw[eq_of_beq hb];exact h.1
  | false=>rw[hb]at e;exact mZ.get h.2 e
structure Tp(K:PySem.W.Frag)(mg:Str->Option Value):Prop where
 t1:nG K mg Ds
 t2:AllP (fun x=>PySem.W.nsIn K mainGlobals x=some none) p.B
 t3:mZ K p.G
def Dw(X:K.In h)(G:h.Ns mainGlobals mg)(A:Tp K mg):RS.zI p K mg where
 defs:=fun f d e=>A.t1.get e
 blt:=fun x hx=>PySem.W.mg_none_of X G (A.t2.get hx)
 glb:=fun x i hx=>let ⟨t,ht⟩:=A.t3.get hx;⟨_,PySem.W.mg_of X G ht,t,rfl⟩
end
end K18
end
namespace PySem.W.Fast
local macro_rules|`(universe $x*)=>do pure (Lean.mkNullNode (<-x.mapM fun x=>`(theorem $(Lean.mkIdent (.mkSimple s!"tw{x.getId.toString.foldl (fun a c=>52*a+c.toNat-if c.toNat<97 then 65 else 71) 0}")) :True:=trivial)))
universe BvtQRhSHYrXk BYXBOrsilrJc RhpTzJhmuMw DGqvWxGJTQQ enBPKspVpHE BxgGwYUIxeSY CRovlrlgBSOI DsWKRFbVlyI BmvADQXJzRio BoPIUYsBBlMg CRfxtCjzwjkh xrFpwFersRt cdnyKQWzTdN CKcQDLjTWWup CGrwGKFqIXbV MCvKilmTBsB BJdfLSETrfJd CLDEoZLvPXIR CUWHHidNXYkR BPUgtjybJMxt jVwdUczqiIC yOkqlgoyQrG BsDMJhVmZYJu BrhenUgJaxLW BRmjybWEfaUS BHautUGRoKfW CTcwIbJFnPhe ZFHcFVfPzhe BcZmRhHByWUz CEqcuJFbChgT BsWWvgxwGZZf CTXMdQrzMckz BvRNwfqOetiL QUEkFmkLVLX CHqCWbNEUFnn BsahbaNpUbhf BTzbLnwwezJf oaYxEMQtBkD BdAiwMYQKTEj CStABtrhcYHX aUJJGCOSOib jpPeceNxBkE CNCPQXlJGRVw lryFmPkPlmc JzBIlxGBvxA BeStvSzCGCPY BFazQLPllFLY TQvgOobSTsE BYsRaSVxcCxw CREVKTFQXIzo xAEeYFegjo CEAHmWkEmREl BcgJVoweVaxx BTbGUGXXEvEl CGciqRIlalJh BXuUFiezVeol BwBaPdMZFjvJ BFmcPdlXWMcV JChnImPXaZx CIoSMIXpvyVC BoSsyhrYFHAW CBdazEXUCQXa uZfLNLtVBNy BroEjrMGScXa BTuaBRmLofZi aUToroVdVhC KIkmKhDopBi zbjBKOwNIhS BMLzsrzSIlXK BhCTFtFMlVly CKbcCTArdkDL BxQVYlsDejdz BZuFnPEGTNav LKvEXXrohPr pbZetzHzEon oYQoPEPDIxT VFpYCzWQJCP CXQgTLmmZSzr BtsVwDEETHCv uBBXeXNVzqP BQLjgxXeKPIX EVWBikaLCxT VAAmvsxYxfr CNJTKxYCLEtD TpnPNwqMeIH BUTPEdnjOOkX JelnyqJpEbs lOWZayuNmWw DEsZTIxZLAY BtyXETdnHzpE BbjycrHBgjCw LUoPHbjvUNE BkAgMGhFIcYo BdBQDlaqrGYJ BysmmbMEtQPd GnaETanStUp OqcJIfxpwex CDatiNGdOB BbHldKQHkux BVKgwxIZiGmR CXYaaKANEHXO RBxTFtlXimy BdAYOPwmMUsa QlEYeDsGItm BdhxjqgcFkiC BhAJXDenvtpm BwoNJIsDKzRG WLndQmVWGdG BrDCfBhtLHaS eBniPQNWcwK jiCFeHEgKsa WMPAlRWClkq mIeDyqKeYIq mopwhqzzaGy dzetwmhaLIa QZnCQnaZAMa CRKZZPniOeCD CLBYWFQFMEOT BLOnPihtAKhX szgLFDXrdgb BphgznCBaDZn CTPUbepsQNcr BusxBQLAZFPv BFrybUUlNyLP CLaRLPZevCdH JthiAkxqedI SXkaLmnOvoc BReZDjELaLeE BOlTeFdtxSbQ tSERVYpLPXQ CBsutPyxBbgc CMckVgRoHGdI CLrlIjkPxEmU BpPcNzXXdXBI BqbddlJSuhfQ BHQrhQzfEpbg RcMRtjZvSsc ZYsxPBQLzOk RBKnLLEmyUc BiUUNyNoxbxp oZiTiEWYAEd aizMHKSOJgd JfBODuMTkHB zpqKsDWiyLx lDHTCkHbZp ZcpKeCndyCF BBdDXqUKTKYO BxvwsTkCCXGG BiJvFfUWnpGG szFvsEBXYIu DqXGHitaWFq BVfUMFFJnVRq BACgLEILAcqG GRZJbSapWdq BsGIpTieTXSX BfItRxsUnwqn BYTKrfDWBgnD CJEfaeTAlbdb NhAQZRwahrD BiyGcDyRaBgf BFzuFJEcJQgv bLsDJGuHnVb CSXwArAYtFLD rkrUnBsNFfT CUVyijFFvXYf IHaioBUjFjj vFilDCVHkeY BXpSNUmhonwA xgpQwPaWQyo BUcCIafJHIio BOxykHiPdKCo BipMetDRoqPE BKjetAnKkKts BYHokfuCeWLU VmVlljNJIHk BDUCINngrkVs CBHxuSeLgDog BSbZobRBolZs zmBRQaPornU BkWLGsREZdcw dZkUcHiUwcA BKjoCureeWTU zrmOGpJZWkA LzwuLQglUzU BAEFbnQwaHwB wtMvCgieSCJ UdISjSnylcx ckJZfWxEYip BOBzzZEWMox BcEpAeCgMdyZ CPSNzUPaCXrG FdsxjIUmyGa uymftYUkmoy BZVqaRJUpWqL CBaSEhuJxbn BFHFvvhiMHJP BIoeVSeVsnEz ecIWJHJkVHX EMzLaIQBnBP MoDBIrbXuCr ZzOOGbRatur BqeAoVZlEftf ZJBWpXMSLBP wmPGDZaubzn bPoGPkLjYjX CLtIlOuhsUVP BMrQayPEulTI BoJJADqrdKCM BsaiVCuvroKM dcsvwyIYUoU BCbtyYWNQPRw BsdhjImISKRg VeFVjtSwSnp IrkMjSVHBnZ ttHRAntZXad afKuntQHfWN IveGtEdWDYF OqHaqMyZOUl BLzAqekLbKOd BBzjDLvqJDCd CNlamfcdtOsl HcKbNkBgqJh CUGxEFfYrMKt LRZHyiFlkPp BeSuxMXaUYMF YQiaOTNbMcF sqKNiICUSyt rHYKByxNpHZ QUNvlwortPa BRWCsNMHWQra BQsXQkiMNJae YjgIfeOEljK ByVDsPnFCOvK zBdQZYChsGe BUixwTJEuGZi CNYugRDEtOLa BKSBcqnMGEra CFXxAaaNYzYm NiDdKbwqLQn BmsVQVtkjMJj jsyroLFNmcn BHvZsTgmdsdT BksPwpntgPOP CNcewoPwHZbL BcNAJWwedlGv NjppgiFolDL BjsEVeWopzWv yrxnyeOWYSv BQiTZpAwDDlD qhrqnzzdIBD BhrgbQQFAKQ CWcnbVbbopzs iCsHmKrObig IsoBhoneHjs BcPFXiOUvuGA BMrtkkOvRaQY CJPVYMMdNnFk tzMRRcrcadU pVjrdOkcXdE rkGIecPlXSA CInaBzpnrLoJ BfgeHRsODDTN BEQBjRPahGix rzgPVgVqGZF WXCqvcQgSoZ piXIpXLcmPN CWPsVPwSVKEJ otGiWQYYBih jriuELlSmOh JJacNfNTQLe CPPpxwUtEhca CWesnYrhbkaS CESIBUIAjcuC BIDtGEwHrRYq BxyIbhgkGVCC VgeNiYzNNnf BrYPCTRSxoiT PSikdzyrzgL IEYJbqtvRIL thrbGDciecr hifMGYbGuYb CGRUIVlMwGRn CDYZxjMEMqXP CVZNozRKwTXf CGHztXZTdVNn BNWAnGSmExmU NKjxpuqzCdY BvWogQXdVCEM PUFfvpftLw BGeeoklbBTWU GcBNYLdDAZI krBzGeaVJzw CFCyEuiLhQDA TpCahOayKmk BEfLEYHNzyjA hStVdElZUXx CWLnhaqMUosN BGYsupXdLQst BrTzALWeEKpp BEwSfZDvkTJZ BBNIReLRikkN BVqUblgRlqVZ BdJYzLzRTxrx COHJPVaTEVdJ BHlNqXUVlGZp TRLOcKJFDEd BBAZHsyApkCV BYfWnoRxCoxJ zAAseOwgita faDGpLMXfAu YuNHeghmpRa BCxvPymnPuHy CTwIQSheHPTy BQiZIgHfFuyW qWhydlBumum BIxtYcVPteGm CXSXowAzelyG CJHcmnpFzpSG kpnOcDpHUri UktGbVPibjS djwQzVAqRwu CAEDVxidxzy tHRjeGPXGQe CDvvMmzveSUO ZqUwPZapJfi BNIjpyiiuZSG bRIozLNvlEe ObpQwkKEYe kHWEVdofksv PTbzBiDwzMf OUmElFoaauH BXlApaymBtdr KgORmnOptUf CSmbeMpROikv BgHTkxdNwXvD CKMwopuVqJFr BcOZHlXhOYcv BaOYxTeroHQP BKhpydsNIKHz wQaloPEZINb CQzGsRwCHMFb BqXJrRuGhfqH BHLiieCPrgvA
end PySem.W.Fast
open PySem PySem.W PyProof.Rows
set_option maxRecDepth 100000 in
set_option maxHeartbeats 0 in
theorem PySem.Challenge.cw_ribbonloft_k18_whole_numbers_of_many_fra_holds : PySem.Challenge.rw_ribbonloft_k18_whole_numbers_of_many_fra.Holds := by
 w_on;o_law;k_head;(case hw=>w_witness2)
 k_fill
 refine L2.yk (l:=PySem.Challenge.rw_ribbonloft_k18_whole_numbers_of_many_fra) (n:=63) (k:=30) (x := "_law_script") (CX:=L2.CX0) (sp:=RS.spL 30 K18.p 39) rfl (by decide) rfl ⟨rfl,by decide,by decide⟩ (fun w h Y=>PySem.W.kIn_of Y) ?F ?S ?C
 case F =>
  intro w mg fa h KX G hmg
  have T:K18.Tp (L2.KOf KX) mg:=by
   dsimp only[L2.KOf];constructor
   ·dsimp only[K18.nG,K18.Ds,K18.mkD,List.take]
    iterate 40 (refine' ⟨K18.Dj KX G ?a ?l ?c ?k ?b,?_⟩;(case a=>k_is);(case l=>k_is);(case c=>k_is);(case k=>k_is);(case b=>first | exact fun _ _ _ _ _ _=>K18.all1 fun _=>rfl | exact fun _ _ _ _ _ _=>K18.all2 fun _ _=>rfl | exact fun _ _ _ _ _ _=>K18.mN fun _ _ _=>rfl))
    exact True.intro
   ·dsimp only[K18.AllP,K18.p]
    iterate 17 (refine' ⟨?a,?_⟩;(case a=>k_is))
    exact True.intro
   ·dsimp only[K18.mZ,K18.p]
    iterate 1 (refine⟨⟨_,by k_is⟩,?_⟩)
    exact True.intro
  have tp:=K18.Dw KX G T;obtain⟨fa',fd,h1,h2,h3,h4⟩:=tp.defs 39 _ rfl;have e0:=hmg.symm.trans h1;cases e0;refine⟨fd,fun s u=>?_,fun base kb nb=>RS.vZ K18.Hw tp 30 39 _ _ rfl rfl _ _ h2⟩;obtain⟨oc,od,kV,doc,pm,an,cdv,ct,osl,e9,_,_⟩:=h2.ex;subst e9;exact .of_eq rfl
 case S=>exact fun K H a ns hl hO hS=>RS.DO hO hS (K18.main ns hl)
 case C=>exact fun _ _ _ _ h=>h
