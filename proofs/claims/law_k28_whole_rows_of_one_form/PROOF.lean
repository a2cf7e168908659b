import PyProof.Rows.All
import Wide.All
import OpenK.AllK
import Wide.FinOn
import PyProof.EqAt
import PyProof.EqKinds
import PyProof.TupleCall
import PySem.Str
import PyProof.NeKinds
import PyProof.CompMap
import PyProof.CompFree
import PyProof.EnumMake
import PyProof.Draws
import PyProof.ListRange
import PyProof.ConsumeWalk
import PyProof.Rows.SetFrom
import PyProof.SetRoads
import PyProof.ZipIter
import PyProof.Rows.SumAny
import PyProof.Rows.SortWalk
import PyProof.Rows.SeqMore2
import PyProof.Rows.SeqMore
import PyProof.StrWalks
import PyProof.SliceStr2
import PyProof.StrBlockI
import PyProof.StrOps2
import PySem.SetOps
import PyProof.SetScanFacts
import KE.KDictSum
import PyProof.DictWalks
import PyProof.DictRoadsH
import PyProof.TableCode
import PySem.Challenge.RW_ribbonloft_k28_whole_rows_of_one_form
set_option Elab.async false
set_option linter.all false
set_option maxRecDepth 100000
set_option maxHeartbeats 4000000
set_option autoImplicit true
set_option relaxedAutoImplicit true
set_option genSizeOf false
set_option genSizeOfSpec false
set_option genInjectivity false
section
local macro_rules
|`(def $d $s:optDeclSig $v:declVal)=>`(theorem $d $(Lean.TSyntax.mk (Lean.mkNode ``Lean.Parser.Command.declSig #[s.raw[0],s.raw[1][0]])):declSig $v:declVal)
|`(abbrev $d $s:optDeclSig $v:declVal)=>`(noncomputable def $d $s:optDeclSig $v:declVal)
namespace RL
open PySem (Str)
@[reducible]noncomputable def Ky:=Sum Int Str
set_option genInjectivity true in
inductive D where
 | non
 | bl (b:Bool)
 | int (i:Int)
 | str (x:Str)
 | tup (xs:List D)
 | lst (xs:List D)
 | dK (ks:List Ky) (vs:List D)
 | dT (ks:List (List Ky)) (vs:List D)
 | scr (xs:List D)
 | exc (c:Str)
 | fT (ks:List (List Ky))
 deriving Inhabited
mutual
noncomputable def D.imm:D->Bool
 | .tup xs=>ao xs
 | .lst _=>false
 | .dK _ _=>false
 | .dT _ _=>false
 | .scr xs=>ao xs
 | _=>true
noncomputable def ao:List D->Bool
 | []=>true
 | d::r=>d.imm&&ao r
end
inductive Bop where | add | sub | mul | fdiv | mod | pow
 deriving DecidableEq
inductive Cop where | lt | le | gt | ge | eq | ne
 deriving DecidableEq
inductive Bi where | len | list | tuple | int | all | any | lenSet | sorted | sortedSet | abs | sum | sortedS
 deriving DecidableEq
inductive Ty where | int | bool | list | tuple | str
 deriving DecidableEq
mutual
inductive E where
 | var (i:Nat)
 | cst (d:D)
 | glb (x:Str) (i:Int)
 | bin (o:Bop) (a b:E)
 | cmp (c:Cop) (a b:E)
 | chain (c c':Cop) (a b e:E)
 | isN (neg:Bool) (a:E)
 | and (a b:E)
 | or (a b:E)
 | not (a:E)
 | ifx (t a b:E)
 | tup (es:Es)
 | lst (es:Es)
 | ix (a b:E)
 | slT (a b:E)
 | rev (a:E)
 | call (f:Nat) (es:Es)
 | bi (b:Bi) (a:E)
 | min (a b:E)
 | isi (a:E) (t:Ty)
 | rng1 (a:E)
 | rng2 (a b:E)
 | rng3 (c:Int) (a b:E)
 | neg (a:E)
 | comp (e:E) (tg:List Nat) (it:It) (c:E)
 | compA (e:E) (tg:List Nat) (it:It)
 | frz (a:E)
 | cat (a b:E)
 | dt0
inductive Es where
 | nil
 | cons (e:E) (es:Es)
inductive It where
 | seq (e:E)
 | rng1 (a:E)
 | rng2 (a b:E)
 | rng3 (c:Int) (a b:E)
 | enm (e:E)
 | zip (a b:E)
end
mutual
inductive S where
 | asg (i:Nat) (e:E)
 | own (i:Nat) (e:E)
 | unp (is:List Nat) (e:E)
 | par3 (i j k:Nat) (a b c:E)
 | app (i:Nat) (e:E)
 | put (i:Nat) (k e:E)
 | ife (t:E) (a b:Ss)
 | ifp (i:Nat) (e:E) (a b:Ss)
 | forr (tg:List Nat) (it:It) (b:Ss)
 | whil (t:E) (b:Ss)
 | mexc (f:Nat) (es:Es) (ps ms:List Nat)
 | maug (i f:Nat) (es:Es) (ps ms:List Nat)
 | ret (e:E)
 | exc (e:E)
 | rais (c:Str) (ps:Es)
inductive Ss where
 | nil
 | cons (s:S) (r:Ss)
 | opn (j:Nat) (e:E) (r:Sq)
inductive Sq where
 | cls (r:Ss)
 | cons (s:S) (r:Sq)
 | opn (j:Nat) (e:E) (r:Sq)
 | frz (j:Nat) (r:Ss)
end
@[reducible]noncomputable def St:=List (Option D)
@[reducible]noncomputable def Cl:=Nat->List D->Option D
abbrev most:Nat:=100000
abbrev c8{α:Type}(xs:List α)(i:Int):Option α :=
 if 0<=i then xs[i.toNat]? else if -(xs.length:Int)<=i then xs[(i+xs.length).toNat]? else none
abbrev jY(n:Nat)(i:Int):Option Nat :=
 if 0<=i then(if i<n then some i.toNat else none)else if -(n:Int)<=i then some (i+n).toNat else none
abbrev cutAt(n:Nat)(i:Int):Nat:=if 0<=i then min i.toNat n else(i+n).toNat
abbrev aE:Bop->D->D->Option D
 | .add,.int a,.int b=>some (.int (a+b))
 | .add,.str a,.str b=>if a.length+b.length<=most then some (.str (a++b))else none
 | .add,.lst a,.lst b=>if a.length+b.length<=most then some (.lst (a++b))else none
 | .add,.tup a,.tup b=>if a.length+b.length<=most/\0<a.length then some (.tup (a++b))else none
 | .sub,.int a,.int b=>some (.int (a-b))
 | .mul,.int a,.int b=>if(-(2 ^ 64)<a/\a<2 ^ 64)\/(-(2 ^ 64)<b/\b<2 ^ 64)then some (.int (a*b))else none
 | .mul,.lst a,.int b=>if 0<=b/\b<=most/\a.length*b.toNat<=most then some (.lst (List.replicate b.toNat a).flatten)else none
 | .fdiv,.int a,.int b=>if 0<b/\b<2 ^ 200 then some (.int (a / b))else none
 | .mod,.int a,.int b=>if 0<b then some (.int (a%b))else none
 | .pow,.int a,.int b=>if 0<=b/\b<=1000/\a.natAbs<2 ^ 64 then some (.int (a ^ b.toNat))else none
 | _,_,_=>none
abbrev eqs(f:D->D->Option Bool):List D->List D->Option Bool
 | a::r,b::s=>(f a b).bind fun e=>(eqs f r s).map fun k=>e&&k
 | _,_=>some true
abbrev eqD:Nat->D->D->Option Bool
 | _,.int a,.int b=>some (a == b)
 | _,.str a,.str b=>some (a == b)
 | _,.bl a,.bl b=>some (a == b)
 | n+1,.tup a,.tup b=>(eqs (eqD n) a b).map fun k=>k&&a.length == b.length
 | n+1,.lst a,.lst b=>(eqs (eqD n) a b).map fun k=>k&&a.length == b.length
 | _,_,_=>none
abbrev aZ:Cop->D->D->Option Bool
 | .lt,.int a,.int b=>some (decide (a<b))
 | .le,.int a,.int b=>some (decide (a<=b))
 | .gt,.int a,.int b=>some (decide (b<a))
 | .ge,.int a,.int b=>some (decide (b<=a))
 | .eq,a,b=>eqD 8 a b
 | .ne,a,b=>(eqD 8 a b).map not
 | _,_,_=>none
abbrev truth:D->Option Bool
 | .bl b=>some b
 | .lst xs=>some (!xs.isEmpty)
 | .tup xs=>some (!xs.isEmpty)
 | .int i=>some (i != 0)
 | _=>none
abbrev kU:List D->Option (List Int)
 | []=>some []
 | .int i::r=>(kU r).map (i :: ·)
 | _=>none
abbrev cI:List D->Option (List Bool)
 | []=>some []
 | .bl i::r=>(cI r).map (i :: ·)
 | _=>none
abbrev strs?:List D->Option (List Str)
 | []=>some []
 | .str i::r=>(strs? r).map (i :: ·)
 | _=>none
abbrev sj(a:Int):List Int->List Int
 | []=>[a]
 | b::r=>if a<=b then a::b::r else b::sj a r
abbrev sortI:List Int->List Int
 | []=>[]
 | a::r=>sj a (sortI r)
abbrev vg(xs:List Int):List Int:=xs.foldl (fun m k=>if m.any (· == k)then m else m++[k]) []
abbrev items:D->Option (List D)
 | .lst xs=>some xs
 | .tup xs=>some xs
 | _=>none
abbrev iX:D->Option (List D)
 | .scr xs=>some xs
 | .lst xs=>some xs
 | .tup xs=>some xs
 | _=>none
@[simp] theorem itemsS_lst:iX (.lst xs)=some xs:=rfl
@[simp] theorem itemsS_tup:iX (.tup xs)=some xs:=rfl
abbrev gQ:D->Option (List D)
 | .lst xs=>some xs
 | .tup xs=>some xs
 | .str x=>some (x.cps.toList.map fun c=>.str ⟨#[c]⟩)
 | _=>none
abbrev oW:List Str->Bool
 | a::b::r=>!decide (b.cps.toList<a.cps.toList)&&oW (b::r)
 | _=>true
abbrev biV:Bi->D->Option D
 | .len,.str x=>if x.length<=most then some (.int x.length)else none
 | .len,.dK ks _=>some (.int ks.length)
 | .len,.dT ks _=>some (.int ks.length)
 | .len,d=>(items d).map fun xs=>.int xs.length
 | .list,d=>(items d).map .lst
 | .tuple,d=>(items d).map .tup
 | .int,.bl b=>some (.int (if b then 1 else 0))
 | .int,.int i=>some (.int i)
 | .int,_=>none
 | .all,.lst xs=>(cI xs).map fun bs=>.bl (bs.all id)
 | .any,.lst xs=>(cI xs).map fun bs=>.bl (bs.any id)
 | .all,_=>none
 | .any,_=>none
 | .lenSet,.lst xs=>if xs.length<=1000 then(kU xs).map fun is=>.int (vg is).length else none
 | .lenSet,_=>none
 | .sorted,.lst xs=>if xs.length<64 then(kU xs).map fun is=>.lst ((sortI is).map .int)else none
 | .sorted,_=>none
 | .sortedSet,.lst xs=>if xs.length<=5 then(kU xs).map fun is=>.lst ((sortI (vg is)).map .int)else none
 | .sortedSet,_=>none
 | .abs,.int i=>some (.int (if i<0 then -i else i))
 | .abs,_=>none
 | .sortedS,.lst xs=>(strs? xs).bind fun ss=>if oW ss then some (.lst xs)else none
 | .sortedS,_=>none
 | .sum,.lst xs=>(kU xs).map fun is=>.int is.sum
 | .sum,_=>none
abbrev eR:Ty->D->Option Bool
 | .int,.int _=>some true
 | .int,.bl _=>some true
 | .bool,.bl _=>some true
 | .list,.lst _=>some true
 | .tuple,.tup _=>some true
 | .str,.str _=>some true
 | _,.non=>some false
 | _,.bl _=>some false
 | _,.int _=>some false
 | _,.str _=>some false
 | _,.tup _=>some false
 | _,.lst _=>some false
 | _,_=>none
abbrev keyOf:D->Option Ky
 | .int i=>some (.inl i)
 | .str x=>some (.inr x)
 | _=>none
abbrev keysOf:List D->Option (List Ky)
 | []=>some []
 | d::r=>(keyOf d).bind fun k=>(keysOf r).map (k :: ·)
abbrev i8{κ:Type} [DecidableEq κ]:List κ->List D->κ->Option D
 | k::ks,v::vs,x=>if k=x then some v else i8 ks vs x
 | _,_,_=>none
abbrev putD{κ:Type} [DecidableEq κ](ks:List κ)(vs:List D)(x:κ)(d:D):List κ × List D :=
 if x∈ks then(ks,List.zipWith (fun k v=>if k=x then d else v) ks vs)else(ks++[x],vs++[d])
abbrev ixV:D->D->Option D
 | .lst xs,.int i=>c8 xs i
 | .tup xs,.int i=>c8 xs i
 | .str x,.int i=>if x.length<=most then(c8 x.cps.toList i).map fun c=>.str ⟨#[c]⟩else none
 | _,_=>none
abbrev G3:D->D->Option D
 | .dK ks vs,k=>(keyOf k).bind (i8 ks vs)
 | .dT ks vs,.tup k=>(keysOf k).bind (i8 ks vs)
 | _,_=>none
abbrev G2:D->D->D->Option D
 | .dK ks vs,k,z=>(keyOf k).map fun q=>(i8 ks vs q).getD z
 | .dT ks vs,.tup k,z=>(keysOf k).map fun q=>(i8 ks vs q).getD z
 | _,_,_=>none
abbrev G5:D->D->Option Bool
 | .dK ks vs,k=>(keyOf k).map fun k=>(i8 ks vs k).isSome
 | .dT ks vs,.tup k=>(keysOf k).map fun k=>(i8 ks vs k).isSome
 | .fT ks,.tup k=>(keysOf k).map fun k=>ks.any fun x=>decide (x=k)
 | _,_=>none
abbrev flat:D->Bool
 | .int _=>true
 | .str _=>true
 | _=>false
abbrev eqF:D->D->Bool
 | .int a,.int b=>a == b
 | .str a,.str b=>a == b
 | _,_=>false
abbrev inV(a b:D):Option Bool :=
 (items b).bind fun xs=>if flat a&&xs.all flat then some (xs.any fun x=>eqF x a)else none
abbrev oU:D->D->Option D
 | .scr xs,.int k=>some (.lst (xs.take (cutAt xs.length k)))
 | .lst xs,.int k=>some (.lst (xs.take (cutAt xs.length k)))
 | .tup xs,.int k=>if cutAt xs.length k<xs.length then some (.tup (xs.take (cutAt xs.length k)))else none
 | _,_=>none
abbrev cb(lo:Int):Nat->List D
 | 0=>[]
 | n+1=>.int lo::cb (lo+1) n
abbrev bB(c lo:Int):Nat->List D
 | 0=>[]
 | n+1=>.int lo::bB c (lo+c) n
abbrev bp(c a b:Int):Nat:=(if c > 0 then(if a<b then(b-a-1) / c+1 else 0)else(if a > b then(a-b-1) / (-c)+1 else 0)).toNat
abbrev cu:D->D->Option (List D)
 | .int a,.int b=>if(b-a).toNat<=most/\-(2 ^ 60)<=a/\a<2 ^ 60/\-(2 ^ 60)<=b/\b<2 ^ 60 then some (cb a (b-a).toNat)else none
 | _,_=>none
abbrev gz(c:Int):D->D->Option (List D)
 | .int a,.int b=>if c≠0/\-(2 ^ 60)<c/\c<2 ^ 60/\bp c a b<=most/\-(2 ^ 60)<=a/\a<2 ^ 60/\-(2 ^ 60)<=b/\b<2 ^ 60 then some (bB c a (bp c a b))else none
 | _,_=>none
abbrev cX(i:Int):List D->List D
 | []=>[]
 | d::r=>.tup [.int i,d]::cX (i+1) r
abbrev eD:List D->List D->List D
 | a::r,b::s=>.tup [a,b]::eD r s
 | _,_=>[]
abbrev aN:List Nat->List D->St->Option St
 | [],[],σ=>some σ
 | i::is,d::ds,σ=>aN is ds (σ.set i (some d))
 | _,_,_=>none
abbrev aV(tg:List Nat)(d:D)(σ:St):Option St :=
 match tg with
 | [i]=>some (σ.set i (some d))
 | tg=>match d with
  | .tup ds=>aN tg ds σ
  | .lst ds=>aN tg ds σ
  | _=>none
abbrev k6(y:Option D)(ys:List D):Option (List D) :=
 match y with
 | some e=>if e.imm then some (e::ys)else none
 | none=>some ys
abbrev cG(f:St->Option (Option D))(tg:List Nat)(σ:St):List D->Option (List D)
 | []=>some []
 | d::r=>(aV tg d σ).bind fun σ1=>(f σ1).bind fun y=>(cG f tg σ r).bind (k6 y)
abbrev aG:D->Bool
 | .lst xs=>ao xs
 | .dK _ vs=>ao vs
 | .dT _ vs=>ao vs
 | _=>false
abbrev FC(f:St->Option D)(fr:Bool)(tg:List Nat)(σ:St):List D->Option (List D)
 | []=>some []
 | d::r=>(aV tg d σ).bind fun σ1=>(f σ1).bind fun y=>if aG y&&fr then(FC f fr tg σ r).map (y :: ·)else none
abbrev fits(xs:List D):Option (List D):=if xs.length<=most then some xs else none
abbrev a9:E->Bool
 | .lst _=>true
 | .tup _=>true
 | .comp _ _ _ _=>true
 | .compA _ _ _=>true
 | .bin _ _ _=>true
 | .cat _ _=>true
 | .slT _ _=>true
 | .rev _=>true
 | .call _ _=>true
 | .bi _ _=>true
 | .rng1 _=>true
 | .rng2 _ _=>true
 | .rng3 _ _ _=>true
 | .dt0=>true
 | _=>false
abbrev yY(n c:Str):Bool:=n == c || c == "RibbonError" || c == "ValueError"
abbrev B9(neg:Bool):D->Option D
 | .non=>some (.bl (!neg))
 | .dK _ _=>none
 | .dT _ _=>none
 | .fT _=>none
 | _=>some (.bl neg)
abbrev uz(y:Option D):D->Option D
 | .bl true=>y
 | .bl false=>some (.bl false)
 | _=>none
abbrev orV(y:Option D):D->Option D
 | .bl false=>y
 | .bl true=>some (.bl true)
 | _=>none
abbrev C5:D->Option D
 | .lst xs=>some (.lst xs.reverse)
 | .tup xs=>some (.tup xs.reverse)
 | _=>none
abbrev yq:D->Option D
 | .int i=>some (.int (-i))
 | _=>none
abbrev y9:D->D->Option D
 | .int i,.int j=>some (.int (if j<i then j else i))
 | _,_=>none
abbrev Gr:D->D->Option D
 | .str x,.str y=>match y.cps.toList with
  | [c]=>some (.int (x.cps.toList.count c:Nat))
  | _=>none
 | _,_=>none
abbrev G4:D->D->Option D
 | .str x,.int k=>if 0<=k/\x.length<=most then some (.str ⟨(x.cps.toList.take k.toNat).toArray⟩)else none
 | _,_=>none
abbrev Gw:D->D->Option D
 | .str x,.int k=>if 0<=k/\x.length<=most then some (.str ⟨(x.cps.toList.drop k.toNat).toArray⟩)else none
 | _,_=>none
abbrev Gy:D->D->D->D->Option D
 | .str x,y,.str z,w=>if x≠z/\y.imm=true/\w.imm=true then some (.dK [.inr x,.inr z] [y,w])else none
 | _,_,_,_=>none
abbrev Gu:D->D->Option D
 | .str x,.int n=>if 1<n/\n<=1000/\0<x.length/\x.length<=100 then some (.str ⟨(List.replicate n.toNat x.cps.toList).flatten.toArray⟩)else none
 | _,_=>none
abbrev kyD:Ky->D
 | .inl i=>.int i
 | .inr x=>.str x
abbrev G0:D->Option (List D)
 | .fT ks=>some (ks.map fun k=>.tup (k.map kyD))
 | _=>none
abbrev Fz:D->Option D
 | .lst xs=>if ao xs then some (.scr xs)else none
 | _=>none
abbrev FP:D->D->Option D
 | .scr a,.lst b=>if a.length+b.length<=most then some (.lst (a++b))else none
 | _,_=>none
abbrev FA:D->Option D
 | .dT ks _=>some (.fT ks)
 | _=>none
@[simp] theorem sv_andt {y:Option D}:uz y (.bl true)=y:=rfl
@[simp] theorem sv_andf {y:Option D}:uz y (.bl false)=some (.bl false):=rfl
@[simp] theorem sv_ort {y:Option D}:orV y (.bl true)=some (.bl true):=rfl
@[simp] theorem sv_orf {y:Option D}:orV y (.bl false)=y:=rfl
@[simp] theorem sv_min {i j:Int}:y9 (.int i) (.int j)=some (.int (if j<i then j else i)):=rfl
@[simp] theorem sv_neg {i:Int}:yq (.int i)=some (.int (-i)):=rfl
mutual
noncomputable def ev(cl:Cl)(σ:St):E->Option D
 | .var i=>(σ[i]?).bind id
 | .cst d=>some d
 | .glb _ i=>some (.int i)
 | .bin o a b=>(ev cl σ a).bind fun x=>(ev cl σ b).bind fun y=>aE o x y
 | .cmp c a b=>(ev cl σ a).bind fun x=>(ev cl σ b).bind fun y=>(aZ c x y).map .bl
 | .chain c c' a b e=>(ev cl σ a).bind fun x=>(ev cl σ b).bind fun y=>(aZ c x y).bind fun k=>if k then(ev cl σ e).bind fun z=>(aZ c' y z).map .bl else some (.bl false)
 | .isN neg a=>(ev cl σ a).bind (B9 neg)
 | .and a b=>(ev cl σ a).bind (uz (ev cl σ b))
 | .or a b=>(ev cl σ a).bind (orV (ev cl σ b))
 | .not a=>((ev cl σ a).bind truth).map fun k=>.bl (!k)
 | .ifx t a b=>((ev cl σ t).bind truth).bind fun k=>if k then ev cl σ a else ev cl σ b
 | .tup es=>(evs cl σ es).map .tup
 | .lst es=>(evs cl σ es).map .lst
 | .ix a b=>(ev cl σ a).bind fun x=>(ev cl σ b).bind fun y=>ixV x y
 | .slT a b=>(ev cl σ a).bind fun x=>(ev cl σ b).bind fun y=>oU x y
 | .rev a=>(ev cl σ a).bind C5
 | .call f es=>(evs cl σ es).bind fun ds=>cl f ds
 | .bi b a=>(ev cl σ a).bind fun x=>biV b x
 | .min a b=>(ev cl σ a).bind fun x=>(ev cl σ b).bind fun y=>y9 x y
 | .isi a t=>(ev cl σ a).bind fun x=>(eR t x).map .bl
 | .rng1 a=>(ev cl σ a).bind fun x=>(cu (.int 0) x).map .lst
 | .rng2 a b=>(ev cl σ a).bind fun x=>(ev cl σ b).bind fun y=>(cu x y).map .lst
 | .rng3 c a b=>(ev cl σ a).bind fun x=>(ev cl σ b).bind fun y=>(gz c x y).map .lst
 | .neg a=>(ev cl σ a).bind yq
 | .comp e tg it c=>(bw cl σ it).bind fun ds=>(fits ds).bind fun ds=>(cG (fun σ1=>((ev cl σ1 c).bind truth).bind fun k=>if k then(ev cl σ1 e).map some else some none) tg σ ds).map .lst
 | .compA e tg it=>(bw cl σ it).bind fun ds=>(fits ds).bind fun ds=>(cG (fun σ1=>(ev cl σ1 e).map some) tg σ ds).map .lst
 | .frz a=>(ev cl σ a).bind fun x=>if a9 a then Fz x else none
 | .cat a b=>(ev cl σ a).bind fun x=>(ev cl σ b).bind fun y=>FP x y
 | .dt0=>some (.dT [] [])
noncomputable def evs(cl:Cl)(σ:St):Es->Option (List D)
 | .nil=>some []
 | .cons e es=>(ev cl σ e).bind fun d=>(evs cl σ es).map (d :: ·)
noncomputable def bw(cl:Cl)(σ:St):It->Option (List D)
 | .seq e=>(ev cl σ e).bind iX
 | .rng1 a=>(ev cl σ a).bind fun x=>cu (.int 0) x
 | .rng2 a b=>(ev cl σ a).bind fun x=>(ev cl σ b).bind fun y=>cu x y
 | .rng3 c a b=>(ev cl σ a).bind fun x=>(ev cl σ b).bind fun y=>gz c x y
 | .enm e=>(ev cl σ e).bind fun x=>(gQ x).map (cX 0)
 | .zip a b=>(ev cl σ a).bind fun x=>(ev cl σ b).bind fun y=>(items x).bind fun xs=>(items y).bind fun ys=>if xs.length=ys.length then some (eD xs ys)else none
end
abbrev clX(cl:Cl)(f:Nat)(ds:List D):Option Str:=(cl (f+1000) ds).bind fun d=>match d with
 | .str x=>some x
 | _=>none
mutual
noncomputable def evX(cl:Cl)(σ:St):E->Option Str
 | .call f es=>match evs cl σ es with
  | some ds=>clX cl f ds
  | none=>Cg cl σ es
 | .ix a _=>evX cl σ a
 | _=>none
noncomputable def Cg(cl:Cl)(σ:St):Es->Option Str
 | .nil=>none
 | .cons e es=>match ev cl σ e with
  | some _=>Cg cl σ es
  | none=>evX cl σ e
end
abbrev written:D->Bool
 | .int i=>decide (i.natAbs<2 ^ 1900)
 | _=>false
inductive Out where
 | nx
 | rt (d:D)
abbrev avE(M:List Nat):E->Bool
 | .var j=>!M.contains j
 | .ix a _=>avE M a
 | .call _ _=>true
 | .ifx _ a b=>avE M a&&avE M b
 | _=>false
abbrev u6(M:List Nat):It->Bool
 | .seq e=>avE M e || a9 e
 | .enm e=>avE M e || a9 e
 | .zip a b=>(avE M a || a9 a)&&(avE M b || a9 b)
 | _=>true
abbrev bF(M:List Nat)(e:E)(d:D):Bool :=
 d.imm || (aG d&&(a9 e || match e with | .var i=>M.contains i | _=>false))
abbrev b0(M:List Nat)(e:E)(d:D):Bool:=d.imm || (aG d&&a9 e) || avE M e
abbrev isVar:E->Bool
 | .var _=>true
 | _=>false
abbrev cW(M ps:List Nat):Nat->Es->List D->Bool
 | _,.nil,[]=>true
 | q,.cons e es,d::ds=>(if ps.contains q then isVar e else b0 M e d)&&cW M ps (q+1) es ds
 | _,_,_=>false
abbrev mi:D->D->D->Option D
 | .lst xs,.int k,d=>(jY xs.length k).map fun j=>.lst (xs.set j d)
 | .dK ks vs,k,d=>(keyOf k).bind fun k=>if ks.length<most then some (.dK (putD ks vs k d).1 (putD ks vs k d).2)else none
 | .dT ks vs,.tup k,d=>(keysOf k).bind fun k=>if ks.length<most then some (.dT (putD ks vs k d).1 (putD ks vs k d).2)else none
 | _,_,_=>none
abbrev aP(f:St->Option (Out × St))(tg:List Nat):List D->St->Option (Out × St)
 | [],σ=>some (.nx,σ)
 | d::r,σ=>if d.imm then(aV tg d σ).bind fun σ1=>(f σ1).bind fun p=>match p.1 with
   | .nx=>aP f tg r p.2
   | .rt d=>some (.rt d,p.2)
  else none
abbrev whF(t:St->Option Bool)(f:St->Option (Out × St)):Nat->St->Option (Out × St)
 | 0,_=>none
 | n+1,σ=>(t σ).bind fun k=>if k then(f σ).bind fun p=>match p.1 with
   | .nx=>whF t f n p.2
   | .rt d=>some (.rt d,p.2)
  else some (.nx,σ)
abbrev zb(f:St->Option (Out × St))(fx:St->Option (Str × St))(tg:List Nat):List D->St->Option (Str × St)
 | [],_=>none
 | d::r,σ=>if d.imm then(aV tg d σ).bind fun σ1=>match f σ1 with
   | some p=>match p.1 with
    | .nx=>zb f fx tg r p.2
    | .rt _=>none
   | none=>fx σ1
  else none
abbrev Gx:D->Option (D × D)
 | .lst xs=>(xs[xs.length-1]?).map fun d=>(d,.lst xs.dropLast)
 | _=>none
abbrev Gz:D->Option D
 | .lst xs=>some (.lst xs.reverse)
 | _=>none
abbrev Gs(σ:St)(r w:Nat)(l:D):D->Option (Out × St)
 | .tup [_,R]=>some (.nx,(σ.set w (some l)).set r (some R))
 | _=>none
abbrev Gv:D->D->Option D
 | .str a,.str b=>if a.length+b.length<=most then some (.str (a++b))else none
 | _,_=>none
mutual
noncomputable def evS(cl:Cl)(M:List Nat):S->St->Option (Out × St)
 | .asg i e,σ=>(ev cl σ e).bind fun d=>if b0 M e d then some (.nx,σ.set i (some d))else none
 | .own i e,σ=>(ev cl σ e).bind fun d=>if aG d&&a9 e then some (.nx,σ.set i (some d))else none
 | .unp is e,σ=>(ev cl σ e).bind fun d=>(items d).bind fun ds=>if ao ds then(aN is ds σ).map fun σ1=>(.nx,σ1)else none
 | .par3 i j k a b c,σ=>(ev cl σ a).bind fun x=>(ev cl σ b).bind fun y=>(ev cl σ c).bind fun z=>if x.imm&&y.imm&&z.imm then some (.nx,((σ.set i (some x)).set j (some y)).set k (some z))else none
 | .app i e,σ=>(ev cl σ e).bind fun d=>((σ[i]?).bind id).bind fun l=>match l with
  | .lst xs=>if d.imm&&decide (xs.length<most)then some (.nx,σ.set i (some (.lst (xs++[d]))))else none
  | _=>none
 | .put i k e,σ=>(ev cl σ e).bind fun d=>(ev cl σ k).bind fun kk=>((σ[i]?).bind id).bind fun l=>if d.imm then(mi l kk d).map fun l'=>(.nx,σ.set i (some l'))else none
 | .ife t a b,σ=>((ev cl σ t).bind truth).bind fun k=>if k then ag cl M a σ else ag cl M b σ
 | .ifp i e a b,σ=>((σ[i]?).bind id).bind fun l=>match l with
  | .lst xs=>(xs[xs.length-1]?).bind fun d=>(ev cl (σ.set i (some (.lst xs.dropLast))) e).bind fun y=>match d,y with
   | .int p,.int q=>if decide (p=q)then ag cl M b (σ.set i (some (.lst xs.dropLast)))else ag cl M a (σ.set i (some (.lst xs.dropLast)))
   | _,_=>none
  | _=>none
 | .forr tg it b,σ=>(bw cl σ it).bind fun ds=>aP (ag cl M b) tg ds σ
 | .whil t b,σ=>whF (fun σ=>(ev cl σ t).bind truth) (ag cl M b) most σ
 | .mexc f es ps ms,σ=>(evs cl σ es).bind fun ds=>if cW M ps 0 es ds then(cl f ds).bind fun r=>match r with
  | .tup (_::outs)=>(aN ms outs σ).map fun σ1=>(.nx,σ1)
  | _=>none
  else none
 | .maug i f es ps ms,σ=>((σ[i]?).bind id).bind fun x=>(evs cl σ es).bind fun ds=>if cW M ps 0 es ds then(cl f ds).bind fun r=>match r with
  | .tup (y::outs)=>match x,y with
   | .int a,.int b=>(aN ms outs σ).map fun σ1=>(.nx,σ1.set i (some (.int (a+b))))
   | _,_=>none
  | _=>none
  else none
 | .ret e,σ=>(ev cl σ e).bind fun d=>if bF M e d then some (.rt d,σ)else none
 | .exc e,σ=>(ev cl σ e).map fun _=>(.nx,σ)
 | .rais _ _,_=>none
noncomputable def ag(cl:Cl)(M:List Nat):Ss->St->Option (Out × St)
 | .nil,σ=>some (.nx,σ)
 | .cons s r,σ=>(evS cl M s σ).bind fun p=>match p.1 with
  | .nx=>ag cl M r p.2
  | .rt d=>some (.rt d,p.2)
 | .opn j e r,σ=>(ev cl σ e).bind fun d=>if aG d&&a9 e then tB cl M (j::M) r (σ.set j (some d))else none
noncomputable def tB(cl:Cl)(M:List Nat):List Nat->Sq->St->Option (Out × St)
 | _,.cls r,σ=>ag cl M r σ
 | M1,.cons s r,σ=>(evS cl M1 s σ).bind fun p=>match p.1 with
  | .nx=>tB cl M M1 r p.2
  | .rt _=>none
 | M1,.opn j e r,σ=>(ev cl σ e).bind fun d=>if aG d&&a9 e then tB cl M (j::M1) r (σ.set j (some d))else none
 | _,.frz j r,σ=>(((σ[j]?).bind id).bind FA).bind fun d=>ag cl M r (σ.set j (some d))
noncomputable def Gb(cl:Cl)(M:List Nat):S->St->Option (Str × St)
 | .asg _ e,σ=>(evX cl σ e).map fun x=>(x,σ)
 | .own _ e,σ=>(evX cl σ e).map fun x=>(x,σ)
 | .unp _ e,σ=>(evX cl σ e).map fun x=>(x,σ)
 | .exc e,σ=>(evX cl σ e).map fun x=>(x,σ)
 | .ret e,σ=>(evX cl σ e).map fun x=>(x,σ)
 | .ife t a b,σ=>((ev cl σ t).bind truth).bind fun k=>if k then l8 cl M a σ else l8 cl M b σ
 | .forr tg it b,σ=>(bw cl σ it).bind fun ds=>zb (ag cl M b) (l8 cl M b) tg ds σ
 | .rais c ps,σ=>(evs cl σ ps).bind fun ds=>if ds.all written then some (c,σ)else none
 | _,_=>none
noncomputable def l8(cl:Cl)(M:List Nat):Ss->St->Option (Str × St)
 | .nil,_=>none
 | .cons s r,σ=>match evS cl M s σ with
  | some p=>match p.1 with
   | .nx=>l8 cl M r p.2
   | .rt _=>none
  | none=>Gb cl M s σ
 | .opn _ _ _,_=>none
end
def bg:ev cl σ (.var i)=((σ[i]?).bind id):=rfl
def dB:ev cl σ (.cst d)=(some d):=rfl
def Eo:ev cl σ (.glb y1 i)=(some (.int i)):=rfl
def dU:ev cl σ (.bin o a b)=((ev cl σ a).bind fun x=>(ev cl σ b).bind fun y=>aE o x y):=rfl
def gn:ev cl σ (.cmp c a b)=((ev cl σ a).bind fun x=>(ev cl σ b).bind fun y=>(aZ c x y).map .bl):=rfl
def jF:ev cl σ (.chain c c' a b e)=((ev cl σ a).bind fun x=>(ev cl σ b).bind fun y=>(aZ c x y).bind fun k=>if k then(ev cl σ e).bind fun z=>(aZ c' y z).map .bl else some (.bl false)):=rfl
def Ei:ev cl σ (.isN neg a)=((ev cl σ a).bind (B9 neg)):=rfl
def jK:ev cl σ (.and a b)=((ev cl σ a).bind (uz (ev cl σ b))):=rfl
def xa:ev cl σ (.or a b)=((ev cl σ a).bind (orV (ev cl σ b))):=rfl
def lG:ev cl σ (.not a)=(((ev cl σ a).bind truth).map fun k=>.bl (!k)):=rfl
def yW:ev cl σ (.ifx t a b)=(((ev cl σ t).bind truth).bind fun k=>if k then ev cl σ a else ev cl σ b):=rfl
def zr:ev cl σ (.tup es)=((evs cl σ es).map .tup):=rfl
def tw:ev cl σ (.lst es)=((evs cl σ es).map .lst):=rfl
def ue:ev cl σ (.ix a b)=((ev cl σ a).bind fun x=>(ev cl σ b).bind fun y=>ixV x y):=rfl
def Ez:ev cl σ (.slT a b)=((ev cl σ a).bind fun x=>(ev cl σ b).bind fun y=>oU x y):=rfl
def EI:ev cl σ (.rev a)=((ev cl σ a).bind C5):=rfl
def bT:ev cl σ (.call f es)=((evs cl σ es).bind fun ds=>cl f ds):=rfl
def pV:ev cl σ (.bi b a)=((ev cl σ a).bind fun x=>biV b x):=rfl
def EM:ev cl σ (.min a b)=((ev cl σ a).bind fun x=>(ev cl σ b).bind fun y=>y9 x y):=rfl
def ES:ev cl σ (.isi a t)=((ev cl σ a).bind fun x=>(eR t x).map .bl):=rfl
def vR:ev cl σ (.rng1 a)=((ev cl σ a).bind fun x=>(cu (.int 0) x).map .lst):=rfl
def v8:ev cl σ (.rng2 a b)=((ev cl σ a).bind fun x=>(ev cl σ b).bind fun y=>(cu x y).map .lst):=rfl
def Eg:ev cl σ (.rng3 c a b)=((ev cl σ a).bind fun x=>(ev cl σ b).bind fun y=>(gz c x y).map .lst):=rfl
def E5:ev cl σ (.neg a)=((ev cl σ a).bind yq):=rfl
def we:ev cl σ (.comp e tg it c)=((bw cl σ it).bind fun ds=>(fits ds).bind fun ds=>(cG (fun σ1=>((ev cl σ1 c).bind truth).bind fun k=>if k then(ev cl σ1 e).map some else some none) tg σ ds).map .lst):=rfl
def r9:ev cl σ (.compA e tg it)=((bw cl σ it).bind fun ds=>(fits ds).bind fun ds=>(cG (fun σ1=>(ev cl σ1 e).map some) tg σ ds).map .lst):=rfl
def gw:evS cl M (.asg i e) σ=((ev cl σ e).bind fun d=>if b0 M e d then some (.nx,σ.set i (some d))else none):=rfl
def nT:evS cl M (.own i e) σ=((ev cl σ e).bind fun d=>if aG d&&a9 e then some (.nx,σ.set i (some d))else none):=rfl
def E2:evS cl M (.unp is e) σ=((ev cl σ e).bind fun d=>(items d).bind fun ds=>if ao ds then(aN is ds σ).map fun σ1=>(.nx,σ1)else none):=rfl
def yP:evS cl M (.app i e) σ=((ev cl σ e).bind fun d=>((σ[i]?).bind id).bind fun l=>match l with
  | .lst xs=>if d.imm&&decide (xs.length<most)then some (.nx,σ.set i (some (.lst (xs++[d]))))else none
  | _=>none):=rfl
def zm:evS cl M (.put i k e) σ=((ev cl σ e).bind fun d=>(ev cl σ k).bind fun kk=>((σ[i]?).bind id).bind fun l=>if d.imm then(mi l kk d).map fun l'=>(.nx,σ.set i (some l'))else none):=rfl
def eE:evS cl M (.ife t a b) σ=(((ev cl σ t).bind truth).bind fun k=>if k then ag cl M a σ else ag cl M b σ):=rfl
def E3:evS cl M (.ifp i e a b) σ=(((σ[i]?).bind id).bind fun l=>match l with
  | .lst xs=>(xs[xs.length-1]?).bind fun d=>(ev cl (σ.set i (some (.lst xs.dropLast))) e).bind fun y=>match d,y with
   | .int p,.int q=>if decide (p=q)then ag cl M b (σ.set i (some (.lst xs.dropLast)))else ag cl M a (σ.set i (some (.lst xs.dropLast)))
   | _,_=>none
  | _=>none):=rfl
def gM:evS cl M (.forr tg it b) σ=((bw cl σ it).bind fun ds=>aP (ag cl M b) tg ds σ):=rfl
def Du:evS cl M (.whil t b) σ=(whF (fun σ=>(ev cl σ t).bind truth) (ag cl M b) most σ):=rfl
def qC:evS cl M (.mexc f es ps ms) σ=((evs cl σ es).bind fun ds=>if cW M ps 0 es ds then(cl f ds).bind fun r=>match r with
  | .tup (_::outs)=>(aN ms outs σ).map fun σ1=>(.nx,σ1)
  | _=>none
  else none):=rfl
def BX:evS cl M (.maug i f es ps ms) σ=(((σ[i]?).bind id).bind fun x=>(evs cl σ es).bind fun ds=>if cW M ps 0 es ds then(cl f ds).bind fun r=>match r with
  | .tup (y::outs)=>match x,y with
   | .int a,.int b=>(aN ms outs σ).map fun σ1=>(.nx,σ1.set i (some (.int (a+b))))
   | _,_=>none
  | _=>none
  else none):=rfl
def da:evS cl M (.ret e) σ=((ev cl σ e).bind fun d=>if bF M e d then some (.rt d,σ)else none):=rfl
def oj:evS cl M (.exc e) σ=((ev cl σ e).map fun _=>(.nx,σ)):=rfl
def oz:evS cl M (.rais y1 y2) σ=(none):=rfl
def C4:aE .add (.lst a) (.lst b)=(if a.length+b.length<=most then some (.lst (a++b))else none):=rfl
def wI:aE .mul (.int a) (.int b)=(if(-(2 ^ 64)<a/\a<2 ^ 64)\/(-(2 ^ 64)<b/\b<2 ^ 64)then some (.int (a*b))else none):=rfl
def FE:aE .mul (.lst a) (.int b)=(if 0<=b/\b<=most/\a.length*b.toNat<=most then some (.lst (List.replicate b.toNat a).flatten)else none):=rfl
def FT:aE .fdiv (.int a) (.int b)=(if 0<b/\b<2 ^ 200 then some (.int (a / b))else none):=rfl
def FH:aE .mod (.int a) (.int b)=(if 0<b then some (.int (a%b))else none):=rfl
def Dr:mi (.lst xs) (.int k) d=((jY xs.length k).map fun j=>.lst (xs.set j d)):=rfl
def DW:ixV (.lst xs) (.int i)=(c8 xs i):=rfl
def qh:aV [i] d σ=some (σ.set i (some d)):=rfl
def Ec:aV (a::b::t) (.tup ds) σ=aN (a::b::t) ds σ:=rfl
def tV:aN [] [] σ=some σ:=rfl
def uo:aN (i::is) (d::ds) σ=aN is ds (σ.set i (some d)):=rfl
def EN:biV .len (.lst xs)=some (.int xs.length):=rfl
def zh:biV .len (.tup xs)=some (.int xs.length):=rfl
def xG:biV .list d=(items d).map .lst:=rfl
def uk:biV .tuple d=(items d).map .tup:=rfl
def F9:biV .all (.lst xs)=(cI xs).map fun bs=>.bl (bs.all id):=rfl
def Et:biV .len (.str x)=if x.length<=most then some (.int x.length)else none:=rfl
def Fo:biV .sortedS (.lst xs)=(strs? xs).bind fun ss=>if oW ss then some (.lst xs)else none:=rfl
def F3:avE M (.call f es)=true:=rfl
def DM:avE M (.var j)=!M.contains j:=rfl
set_option autoImplicit false
structure Fn where
 ps:Nat
 nn:Nat
 M:List Nat
 mp:List Nat
 body:Ss
abbrev cT(σ:St):List Nat->Option (List D)
 | []=>some []
 | i::is=>((σ[i]?).bind id).bind fun d=>(cT σ is).map (d :: ·)
abbrev aJ(fn:Fn)(d:D)(σ:St):Option D :=
 if fn.mp.isEmpty then some d else if d.imm then(cT σ fn.mp).map fun os=>.tup (d::os)else none
abbrev a8(T:List Fn):Nat->Cl
 | 0,_,_=>none
 | n+1,f,ds=>match T[f]? with
  | some fn=>if ds.length=fn.ps then(ag (a8 T n) fn.M fn.body (ds.map some++List.replicate (fn.nn-fn.ps) none)).bind fun p=>match p.1 with
   | .nx=>aJ fn .non p.2
   | .rt d=>aJ fn d p.2
   else none
  | none=>(T[f-1000]?).bind fun fn=>if ds.length=fn.ps/\fn.mp=[]then(l8 (a8 T n) fn.M fn.body (ds.map some++List.replicate (fn.nn-fn.ps) none)).map fun p=>.str p.1 else none
end RL
namespace RT
open RL
abbrev d7:Fn :=
 ⟨1,1,[],[],(.cons (.ret (.and (.isi (.var 0) .int) (.not (.isi (.var 0) .bool)))) .nil)⟩
abbrev c7(f_is_number:Nat):Fn :=
 ⟨1,1,[],[],(.cons (.ret (.and (.call f_is_number (.cons (.var 0) .nil)) (.chain .le .le (.cst (.int 1)) (.var 0) (.glb "MOST_PEGS" 10)))) .nil)⟩
abbrev dX(f_is_peg_count:Nat):Fn :=
 ⟨1,1,[],[],(.cons (.ife (.not (.call f_is_peg_count (.cons (.var 0) .nil))) (.cons (.rais "BadPegs" (.cons (.glb "MOST_PEGS" 10) .nil)) .nil) .nil) .nil)⟩
abbrev l4:Fn :=
 ⟨3,3,[0,0],[0],(.cons (.put 0 (.var 1) (.var 2)) (.cons (.put 0 (.var 2) (.var 1)) .nil))⟩
abbrev eW:Fn :=
 ⟨1,1,[],[],(.cons (.ret (.bin .fdiv (.bi .len (.var 0)) (.cst (.int 2)))) .nil)⟩
abbrev jG(f_check_pegs:Nat):Fn :=
 ⟨1,1,[],[],(.cons (.exc (.call f_check_pegs (.cons (.var 0) .nil))) (.cons (.ret (.bi .tuple (.bin .add (.rng2 (.var 0) (.bin .mul (.cst (.int 2)) (.var 0))) (.rng1 (.var 0))))) .nil))⟩
abbrev lW(f_hang_hook f_plain f_check_row:Nat):Ss :=
 (.cons (.maug 3 f_hang_hook (.cons (.var 2) (.cons (.var 4) .nil)) [0] [2]) .nil)
abbrev kY(f_hang_hook f_plain f_check_row:Nat):Fn :=
 ⟨2,5,[2],[],(.cons (.exc (.call f_check_row (.cons (.var 0) (.cons (.var 1) .nil)))) (.cons (.own 2 (.bi .list (.call f_plain (.cons (.var 0) .nil)))) (.cons (.asg 3 (.cst (.int 0))) (.cons (.forr [4] (.seq (.var 1)) (lW f_hang_hook f_plain f_check_row)) (.cons (.ret (.tup (.cons (.bi .tuple (.var 2)) (.cons (.var 3) .nil)))) .nil)))))⟩
abbrev d8(f_tie f_pegs_of:Nat):Fn :=
 ⟨2,4,[0,0],[0],(.cons (.asg 2 (.bin .add (.call f_pegs_of (.cons (.var 0) .nil)) (.var 1))) (.cons (.asg 3 (.bin .add (.var 2) (.cst (.int 1)))) (.cons (.ife (.cmp .eq (.ix (.var 0) (.var 2)) (.var 3)) (.cons (.ret (.cst (.int 1))) .nil) .nil) (.cons (.mexc f_tie (.cons (.var 0) (.cons (.ix (.var 0) (.var 2)) (.cons (.ix (.var 0) (.var 3)) .nil))) [0] [0]) (.cons (.mexc f_tie (.cons (.var 0) (.cons (.var 2) (.cons (.var 3) .nil))) [0] [0]) (.cons (.ret (.cst (.int 0))) .nil))))))⟩
abbrev gm(f_is_number:Nat):Fn :=
 ⟨2,2,[],[],(.cons (.ret (.and (.call f_is_number (.cons (.var 1) .nil)) (.chain .le .le (.cst (.int 0)) (.var 1) (.bin .sub (.var 0) (.cst (.int 2)))))) .nil)⟩
abbrev fX(f_is_hook f_check_pegs:Nat):Ss :=
 (.cons (.ife (.not (.call f_is_hook (.cons (.var 0) (.cons (.var 2) .nil)))) (.cons (.rais "BadHook" (.cons (.var 2) (.cons (.var 0) .nil))) .nil) .nil) .nil)
abbrev eT(f_is_hook f_check_pegs:Nat):Fn :=
 ⟨2,3,[],[],(.cons (.exc (.call f_check_pegs (.cons (.var 0) .nil))) (.cons (.forr [2] (.seq (.var 1)) (fX f_is_hook f_check_pegs)) .nil))⟩
abbrev jk:Fn :=
 ⟨1,3,[],[],(.cons (.asg 1 (.bin .mod (.bin .add (.bin .mul (.var 0) (.cst (.int 48271))) (.cst (.int 11))) (.cst (.int 2147483647)))) (.cons (.asg 2 (.bin .mod (.bin .add (.bin .add (.bin .mul (.var 1) (.var 1)) (.bin .mul (.cst (.int 40692)) (.var 1))) (.var 0)) (.cst (.int 2147483399)))) (.cons (.ret (.bin .mod (.bin .add (.bin .add (.bin .mul (.var 2) (.var 2)) (.bin .mul (.cst (.int 69621)) (.var 2))) (.var 1)) (.cst (.int 2147483563)))) .nil)))⟩
abbrev iF(f_law_mix:Nat):Ss :=
 (.cons (.asg 3 (.bin .add (.bin .mul (.var 3) (.cst (.int 2147483563))) (.call f_law_mix (.cons (.bin .add (.bin .add (.var 2) (.bin .mul (.cst (.int 1009)) (.var 1))) (.bin .mul (.cst (.int 7919)) (.var 4))) .nil)))) .nil)
abbrev iS(f_law_mix:Nat):Fn :=
 ⟨2,5,[],[],(.cons (.asg 2 (.bin .add (.bin .mul (.cst (.int 7)) (.var 1)) (.cst (.int 3)))) (.cons (.ife (.cmp .gt (.bi .len (.var 0)) (.cst (.int 0))) (.cons (.asg 2 (.bin .add (.ix (.var 0) (.bin .mod (.var 1) (.bi .len (.var 0)))) (.bin .mul (.cst (.int 9973)) (.bin .fdiv (.var 1) (.bi .len (.var 0)))))) .nil) .nil) (.cons (.ife (.and (.cmp .lt (.var 1) (.bi .len (.var 0))) (.cmp .ge (.var 2) (.bin .pow (.cst (.int 10)) (.cst (.int 18))))) (.cons (.ret (.bin .sub (.var 2) (.bin .pow (.cst (.int 10)) (.cst (.int 18))))) .nil) .nil) (.cons (.asg 3 (.cst (.int 0))) (.cons (.forr [4] (.rng1 (.cst (.int 40))) (iF f_law_mix)) (.cons (.ret (.var 3)) .nil))))))⟩
abbrev fy(f_law_raw:Nat):Ss :=
 (.cons (.app 4 (.bin .mod (.var 3) (.var 5))) (.cons (.asg 3 (.bin .fdiv (.var 3) (.var 5))) .nil))
abbrev eF(f_law_raw:Nat):Fn :=
 ⟨3,6,[4],[],(.cons (.asg 3 (.call f_law_raw (.cons (.var 0) (.cons (.var 1) .nil)))) (.cons (.own 4 (.lst .nil)) (.cons (.forr [5] (.seq (.var 2)) (fy f_law_raw)) (.cons (.ret (.var 4)) .nil))))⟩
abbrev fQ(f_names_back:Nat):Fn :=
 ⟨1,2,[],[],(.cons (.ret (.and (.isi (.var 0) .tuple) (.bi .all (.compA (.call f_names_back (.cons (.var 0) (.cons (.var 1) .nil))) [1] (.rng1 (.bi .len (.var 0))))))) .nil)⟩
abbrev fU(f_is_number:Nat):Fn :=
 ⟨2,3,[],[],(.cons (.asg 2 (.ix (.var 0) (.var 1))) (.cons (.ret (.and (.call f_is_number (.cons (.var 2) .nil)) (.and (.chain .le .lt (.cst (.int 0)) (.var 2) (.bi .len (.var 0))) (.cmp .eq (.ix (.var 0) (.var 2)) (.var 1))))) .nil))⟩
abbrev bz:Ss :=
 (.cons (.ife (.cmp .gt (.var 3) (.var 2)) (.cons (.app 1 (.var 2)) .nil) (.cons (.ife (.cmp .eq (.var 3) (.var 2)) (.cons (.ife (.var 1) (.cons (.ret (.cst (.bl false))) .nil) .nil) .nil) (.cons (.ifp 1 (.var 3) (.cons (.ret (.cst (.bl false))) .nil) .nil) .nil)) .nil)) .nil)
abbrev eN:Fn :=
 ⟨1,4,[1],[],(.cons (.own 1 (.lst .nil)) (.cons (.forr [2,3] (.enm (.var 0)) (bz)) (.cons (.ret (.cst (.bl true))) .nil)))⟩
abbrev fD(f_is_uncrossed f_in_round f_is_pairing f_is_peg_count f_pegs_of:Nat):Fn :=
 ⟨1,5,[],[],(.cons (.asg 1 (.call f_pegs_of (.cons (.var 0) .nil))) (.cons (.ife (.or (.cmp .ne (.bi .len (.var 0)) (.bin .mul (.cst (.int 2)) (.var 1))) (.or (.not (.call f_is_peg_count (.cons (.var 1) .nil))) (.not (.call f_is_pairing (.cons (.var 0) .nil))))) (.cons (.ret (.cst (.bl false))) .nil) .nil) (.cons (.asg 2 (.comp (.var 3) [3,4] (.enm (.var 0)) (.cmp .eq (.var 3) (.var 4)))) (.cons (.ret (.and (.not (.var 2)) (.call f_is_uncrossed (.cons (.call f_in_round (.cons (.var 0) .nil)) .nil)))) .nil))))⟩
abbrev dA(f_is_frame:Nat):Fn :=
 ⟨1,1,[],[],(.cons (.ife (.not (.call f_is_frame (.cons (.var 0) .nil))) (.cons (.rais "BadFrame" .nil) .nil) .nil) .nil)⟩
abbrev cK:Fn :=
 ⟨2,2,[],[],(.cons (.ret (.ifx (.cmp .lt (.var 1) (.var 0)) (.var 1) (.bin .sub (.bin .sub (.bin .mul (.cst (.int 3)) (.var 0)) (.cst (.int 1))) (.var 1)))) .nil)⟩
abbrev eg(f_moved f_round_place f_pegs_of:Nat):Fn :=
 ⟨1,3,[],[],(.cons (.asg 1 (.call f_pegs_of (.cons (.var 0) .nil))) (.cons (.ret (.call f_moved (.cons (.var 0) (.cons (.compA (.call f_round_place (.cons (.var 1) (.cons (.var 2) .nil))) [2] (.rng1 (.bin .mul (.cst (.int 2)) (.var 1)))) .nil)))) .nil))⟩
abbrev kr:Ss :=
 (.cons (.put 2 (.ix (.var 1) (.var 3)) (.ix (.var 1) (.var 4))) .nil)
abbrev gY:Fn :=
 ⟨2,5,[2],[],(.cons (.own 2 (.bin .mul (.lst (.cons (.cst (.int 0)) .nil)) (.bi .len (.var 0)))) (.cons (.forr [3,4] (.enm (.var 0)) (kr)) (.cons (.ret (.bi .tuple (.var 2))) .nil)))⟩
abbrev cY(f_law_same:Nat):Fn :=
 ⟨2,4,[],[],(.cons (.ife (.isN false (.var 1)) (.cons (.ret (.isN false (.var 0))) .nil) .nil) (.cons (.ife (.or (.cmp .ne (.isi (.var 0) .bool) (.isi (.var 1) .bool)) (.cmp .ne (.isi (.var 0) .int) (.isi (.var 1) .int))) (.cons (.ret (.cst (.bl false))) .nil) .nil) (.cons (.ife (.or (.cmp .ne (.isi (.var 0) .list) (.isi (.var 1) .list)) (.cmp .ne (.isi (.var 0) .tuple) (.isi (.var 1) .tuple))) (.cons (.ret (.cst (.bl false))) .nil) .nil) (.cons (.ife (.and (.not (.isi (.var 1) .list)) (.not (.isi (.var 1) .tuple))) (.cons (.ret (.and (.cmp .eq (.isi (.var 0) .str) (.isi (.var 1) .str)) (.cmp .eq (.var 0) (.var 1)))) .nil) .nil) (.cons (.ret (.and (.cmp .eq (.bi .len (.var 0)) (.bi .len (.var 1))) (.bi .all (.compA (.call f_law_same (.cons (.var 2) (.cons (.var 3) .nil))) [2,3] (.zip (.var 0) (.var 1)))))) .nil)))))⟩
abbrev dk(f_pegs_of:Nat):Fn :=
 ⟨2,3,[],[],(.cons (.ret (.comp (.var 2) [2] (.rng1 (.bin .sub (.call f_pegs_of (.cons (.var 0) .nil)) (.cst (.int 1)))) (.cmp .eq (.ix (.var 0) (.bin .add (.var 1) (.var 2))) (.bin .add (.bin .add (.var 1) (.var 2)) (.cst (.int 1)))))) .nil)⟩
abbrev dR(f_neighbours_tied f_take_off f_check_frame:Nat):Ss :=
 (.cons (.app 2 (.ix (.var 3) (.cst (.int 0)))) (.cons (.mexc f_take_off (.cons (.var 1) (.cons (.ix (.var 3) (.cst (.int 0))) .nil)) [0] [1]) (.cons (.asg 3 (.call f_neighbours_tied (.cons (.var 1) (.cons (.cst (.int 0)) .nil)))) .nil)))
abbrev eS(f_neighbours_tied f_take_off f_check_frame:Nat):Fn :=
 ⟨1,4,[1,2],[],(.cons (.exc (.call f_check_frame (.cons (.var 0) .nil))) (.cons (.own 1 (.bi .list (.var 0))) (.cons (.own 2 (.lst .nil)) (.cons (.asg 3 (.call f_neighbours_tied (.cons (.var 1) (.cons (.cst (.int 0)) .nil)))) (.cons (.whil (.var 3) (dR f_neighbours_tied f_take_off f_check_frame)) (.cons (.ret (.var 2)) .nil))))))⟩
abbrev i5(f_tie f_next_across:Nat):Fn :=
 ⟨2,4,[0,0],[0],(.cons (.asg 2 (.call f_next_across (.cons (.var 0) (.cons (.var 1) .nil)))) (.cons (.asg 3 (.ix (.var 0) (.var 2))) (.cons (.mexc f_tie (.cons (.var 0) (.cons (.var 2) (.cons (.var 1) .nil))) [0] [0]) (.cons (.mexc f_tie (.cons (.var 0) (.cons (.var 3) (.cons (.bin .add (.var 1) (.cst (.int 1))) .nil))) [0] [0]) .nil))))⟩
abbrev fz(f_pegs_of:Nat):Fn :=
 ⟨2,5,[],[],(.cons (.asg 2 (.call f_pegs_of (.cons (.var 0) .nil))) (.cons (.asg 3 (.bin .add (.rev (.rng1 (.var 1))) (.rng2 (.var 2) (.bin .add (.bin .add (.var 2) (.var 1)) (.cst (.int 1)))))) (.cons (.ret (.ix (.comp (.var 4) [4] (.seq (.var 3)) (.cmp .gt (.bin .mod (.ix (.var 0) (.var 4)) (.var 2)) (.var 1))) (.cst (.int 0)))) .nil)))⟩
end RT
namespace M
abbrev hg(l r:Nat)(g:Nat->Nat):Nat->Nat:=fun x=>if g l=r then g x else if x=r then l else if x=l then r else if x=g r then g l else if x=g l then g r else g x
section
def Bm(e:g l=r):hg l r g=g:=by funext x;unfold hg;rw[if_pos e]
def CF(hlr:l≠r)(h:∀ x,g (g x)=x)(n1:g l≠l)(n2:g r≠r)(x:Nat):hg l r g (hg l r g x)=x:=by
 by_cases e:g l=r
 ·rw[Bm e];exact h x
 ·have k:∀ y,hg l r g y=if y=r then l else if y=l then r else if y=g r then g l else if y=g l then g r else g y:=fun y=>by unfold hg;rw[if_neg e]
  rw[k x,k];grind
def xg(hlr:l≠r)(h:∀ x,g (g x)=x)(n1:g l≠l)(n2:g r≠r)(nx:g x≠x):hg l r g x≠x:=by
 unfold hg;grind
end
end M
namespace RL
abbrev evF(cl:Cl)(fn:Fn)(ds:List D):Option D:=if ds.length=fn.ps then(ag cl fn.M fn.body (ds.map some++List.replicate (fn.nn-fn.ps) none)).bind fun p=>match p.1 with
  | .nx=>aJ fn .non p.2
  | .rt d=>aJ fn d p.2
  else none
def az(h:T[f]?=some fn):a8 T (n+1) f ds=evF (a8 T n) fn ds:=by
 rw[a8,h];rfl
abbrev L(xs:List Nat):List D:=xs.map fun(i:Nat)=>.int (i:Int)
def rC(I:List D->St->Prop):∀ (ds done:List D) (σ:St),(∀ pre d post σ,done++ds=pre++d::post->I pre σ->d.imm=true/\∃ σ2,(aV tg d σ).bind f=some (.nx,σ2)/\I (pre++[d]) σ2)->I done σ->∃ σ',aP f tg ds σ=some (.nx,σ')/\I (done++ds) σ'
 | [],done,σ,_,h=>⟨σ,rfl,by simpa using h⟩
 | d::ds,done,σ,hs,h=>by
  obtain⟨im,σ2,h1,h3⟩:=hs done d ds σ rfl h;obtain⟨σ',h4,h5⟩:=rC I ds (done++[d]) σ2 (fun pre e post σ he=>hs pre e post σ (by simpa using he)) h3;refine⟨σ',?_,by simpa using h5⟩;rw[aP,if_pos im]
  cases hb:aV tg d σ with
  | none=>rw[hb]at h1;cases h1
  |some σ1=>
   rw[hb]at h1;simp only[Option.bind_some]at h1 ⊢;rw[h1];exact h4
def rY(I:List D->St->Prop)(h0:I [] σ)(hs:∀ pre d post σ,ds=pre++d::post->I pre σ->d.imm=true/\∃ σ2,(aV tg d σ).bind f=some (.nx,σ2)/\I (pre++[d]) σ2):∃ σ',aP f tg ds σ=some (.nx,σ')/\I ds σ' :=
 rC I ds [] σ (by simpa using hs) h0
@[simp] theorem tf_lst:a9 (.lst a)=true:=rfl
@[simp] theorem tf_tup:a9 (.tup a)=true:=rfl
@[simp] theorem tf_comp:a9 (.comp a b c d)=true:=rfl
@[simp] theorem tf_compA:a9 (.compA a b c)=true:=rfl
@[simp] theorem tf_bin:a9 (.bin a b c)=true:=rfl
@[simp] theorem tf_slT:a9 (.slT a b)=true:=rfl
@[simp] theorem tf_rev:a9 (.rev a)=true:=rfl
@[simp] theorem tf_call:a9 (.call a b)=true:=rfl
@[simp] theorem tf_bi:a9 (.bi a b)=true:=rfl
@[simp] theorem tf_rng1:a9 (.rng1 a)=true:=rfl
@[simp] theorem tf_rng2:a9 (.rng2 a b)=true:=rfl
@[simp] theorem tf_rng3:a9 (.rng3 a b c)=true:=rfl
@[simp] theorem tf_dt0:a9 .dt0=true:=rfl
end RL
namespace RM
open RL RT
section basics
def jT:aZ .lt (.int a) (.int b)=some (decide (a<b)):=rfl
def qi:aZ .le (.int a) (.int b)=some (decide (a<=b)):=rfl
def mh:aZ .gt (.int a) (.int b)=some (decide (b<a)):=rfl
def DG:aZ .ge (.int a) (.int b)=some (decide (b<=a)):=rfl
def gE:aZ .eq (.int a) (.int b)=some (a == b):=rfl
def FR:aZ .ne (.int a) (.int b)=some (!(a == b)):=rfl
def bO:aE .add (.int a) (.int b)=some (.int (a+b)):=rfl
def gj:aE .sub (.int a) (.int b)=some (.int (a-b)):=rfl
def dY(h:0<b):aE .mod (.int a) (.int b)=some (.int (a%b)):=FH.trans (if_pos h)
def nS(h:0<b)(h':b<2 ^ 200):aE .fdiv (.int a) (.int b)=some (.int (a / b)):=FT.trans (if_pos ⟨h,h'⟩)
def cU(h1:-(2 ^ 64)<a)(h2:a<2 ^ 64):aE .mul (.int a) (.int b)=some (.int (a*b)):=wI.trans (if_pos (.inl ⟨h1,h2⟩))
def uD(h1:-(2 ^ 64)<b)(h2:b<2 ^ 64):aE .mul (.int a) (.int b)=some (.int (a*b)):=wI.trans (if_pos (.inr ⟨h1,h2⟩))
def G1(k:Bool):truth (.bl k)=some k:=rfl
end basics
def rB(h:L xs=pre++d::post):∃ p x q,xs=p++x::q/\pre=L p/\d=.int (x:Nat)/\post=L q:=by
 unfold L at h;obtain⟨p,r,rfl,h1,h2⟩:=List.map_eq_append_iff.mp h;obtain⟨x,q,rfl,h3,h4⟩:=List.map_eq_cons_iff.mp h2;exact⟨p,x,q,rfl,h1.symm,h3.symm,h4.symm⟩
def ub:∀ {a b:List Nat},L a=L b->a=b
 | [],[],_=>rfl
 | [],_::_,h=>by simp[L]at h
 | _::_,[],h=>by simp[L]at h
 | x::a,y::b,h=>by
  unfold L at h;rw[List.map_cons,List.map_cons,List.cons.injEq]at h
  have h1:(x:Int)=y:=by injection h.1
  rw[ub (a:=a) (b:=b) h.2,Int.ofNat_inj.mp h1]
def k9(I:List Nat->St->Prop)(h0:I [] σ)(hs:∀ p x q σ,xs=p++x::q->I p σ->∃ σ2,(aV tg (.int (x:Nat)) σ).bind f=some (.nx,σ2)/\I (p++[x]) σ2):∃ σ',aP f tg (L xs) σ=some (.nx,σ')/\I xs σ':=by
 obtain⟨σ',e,p,hp,hi⟩:=rY (f:=f) (tg:=tg) (ds:=L xs) (σ:=σ) (fun pre σ=>∃ p,pre=L p/\I p σ) ⟨[],rfl,h0⟩ (by
  rintro pre d post σ hd ⟨p',hp',hi⟩;obtain⟨p,x,q,rfl,rfl,rfl,rfl⟩:=rB hd;have:=ub hp';subst this;obtain⟨σ2,h1,h2⟩:=hs p x q σ rfl hi
  exact⟨rfl,σ2,h1,p++[x],by simp[L],h2⟩)
 have:=ub hp;subst this;exact⟨σ',e,hi⟩
def bP(xs:List Nat):(L xs).length=xs.length:=by simp[L]
def sV(xs:List Nat)(i:Nat):(L xs)[i]?=(xs[i]?).map fun(i:Nat)=>.int (i:Int):=by simp[L]
def yE(xs:List Nat)(i j:Nat):(L xs).set i (.int j)=L (xs.set i j):=by simp[L,List.map_set]
def cq:∀ xs:List Nat,ao (L xs)=true
 | []=>rfl
 | x::xs=>by
  show((D.int x).imm&&ao (L xs))=true;rw[cq xs];rfl
def dM(xs ys:List Nat):L (xs++ys)=L xs++L ys:=by simp[L]
def fR(xs:List α)(i:Nat):c8 xs (i:Int)=xs[i]?:=by
 unfold c8;rw[if_pos (Int.natCast_nonneg i)];rfl
def x5(h:i<n):jY n (i:Int)=some i:=by
 unfold jY;rw[if_pos (Int.natCast_nonneg i),if_pos (by lia)];rfl
def kq(a:Nat):∀ n:Nat,cb (a:Int) n=L (List.range' a n)
 | 0=>rfl
 | n+1=>by
  rw[cb,List.range'_succ];have:=kq (a+1) n;rw[show((a+1:Nat):Int)=(a:Int)+1 by lia]at this;rw[this];rfl
def gq{a b:Nat}(h1:a<=1000)(h2:b<=1000):cu (.int a) (.int b)=some (L (List.range' a (b-a))):=by
 dsimp only[cu]
 have:((b:Int)-a).toNat=b-a:=by lia
 rw[if_pos ⟨by unfold most;lia,by lia,by lia,by lia,by lia⟩,this,kq]
section
def fv(i:Int):evF cl d7 [.int i]=some (.bl true):=rfl
def gf(h:∀ i:Int,cl f [.int i]=some (.bl true))(i:Int):evF cl (c7 f) [.int i]=some (.bl (decide (1<=i/\i<=10))):=by
 simp[evF,c7,ag,da,jK,bT,jF,dB,Eo,bg,evs,h,qi,bF,D.imm,aJ];by_cases h1:1<=i<;>simp[h1,bF,D.imm,aJ]
def mr(h:cl f [.int i]=some (.bl true)):evF cl (dX f) [.int i]=some .non:=by
 simp[evF,dX,ag,eE,oz,bT,lG,bg,evs,h,truth,aJ]
def sG(xs:List Nat)(hi:i<xs.length)(hj:j<xs.length):evF cl l4 [.lst (L xs),.int i,.int j]=some (.tup [.non,.lst (L ((xs.set i j).set j i))]):=by
 simp[evF,l4,ag,zm,bg,evs,Dr,jY,hi,hj,D.imm,aJ,cT,bP,yE]
def jQ(xs:List D):evF cl eW [.lst xs]=some (.int (xs.length / 2)):=rfl
def oN(xs:List D):evF cl eW [.tup xs]=some (.int (xs.length / 2)):=rfl
abbrev ay(n:Nat):List Nat:=List.range' n n++List.range' 0 n
def run_plain{f:Nat}{n:Nat}(hn:n<=10)(h:cl f [.int n]=some .non):evF cl (jG f) [.int n]=some (.tup (L (ay n))):=by
 have e1:=gq (a:=n) (b:=2*n) (by lia) (by lia);rw[show 2*n-n=n by lia,show((2*n:Nat):Int)=2*(n:Int) by lia]at e1;have e2:=gq (a:=0) (b:=n) (by lia) (by lia);rw[Nat.sub_zero]at e2
 have e3:aE .mul (.int 2) (.int n)=some (.int (2*n)):=by
  rw[wI];rw[if_pos (by lia)]
 have e4:aE .add (.lst (L (List.range' n n))) (.lst (L (List.range' 0 n)))=some (.lst (L (ay n))):=by
  rw[C4];rw[if_pos (by simp[bP,most];lia),ay,dM]
 simp only[Int.natCast_zero]at e2;simp[evF,jG,ag,oj,da,pV,dU,dB,vR,v8,bg,bT,evs,h,e1,e2,e3,e4,xG,uk,items,bF,D.imm,cq,aJ]
def qL(h:∀ i:Int,cl f [.int i]=some (.bl true))(n i:Int):evF cl (gm f) [.int n,.int i]=some (.bl (decide (0<=i/\i<=n-2))):=by
 simp[evF,gm,ag,da,jK,dU,bT,jF,dB,bg,evs,h,qi,gj];by_cases h1:0<=i<;>simp[h1,bF,D.imm,aJ]
def nH{f g:Nat}{n:Nat}{row:List Nat}(h1:cl g [.int n]=some .non)(h2:∀ i∈row,cl f [.int n,.int i]=some (.bl true)):evF cl (eT f g) [.int n,.lst (L row)]=some .non:=by
 obtain⟨σ',e,o',rfl⟩:=rY (f:=ag cl [] (fX f g)) (tg:=[2]) (ds:=L row) (σ:=[some (.int n),some (.lst (L row)),none])
  (fun _ σ=>∃ o,σ=[some (.int n),some (.lst (L row)),o]) ⟨none,rfl⟩ (by
   rintro pre d post σ hd ⟨o,rfl⟩;obtain⟨p,x,q,rfl,rfl,rfl,rfl⟩:=rB hd;have hx:=h2 x (by simp);refine⟨rfl,[some (.int n),some (.lst (L (p++x::q))),some (.int x)],?_,⟨_,rfl⟩⟩
   simp[qh,fX,ag,eE,oz,bT,lG,bg,evs,hx,truth])
 simp[evF,eT,ag,oj,gM,bg,bT,evs,h1,bw,items];simp[e,aJ]
abbrev at'(f:List Nat)(x:Nat):Nat:=(f[x]?).getD x
abbrev aC(f:List Nat)(l:Nat):List Nat:=if at' f l=l+1 then f else(((f.set (at' f l) (at' f (l+1))).set (at' f (l+1)) (at' f l)).set l (l+1)).set (l+1) l
abbrev dC(f:List Nat)(l:Nat):Nat:=if at' f l=l+1 then 1 else 0
structure Frm(n:Nat)(f:List Nat):Prop where
 len:f.length=2*n
 lt:∀ x,x<2*n->at' f x<2*n
 inv:∀ x,at' f (at' f x)=x
 no:∀ x,x<2*n->at' f x≠x
def df(h:x<f.length):f[x]?=some (at' f x):=by simp[at',h]
def gS(h:f.length<=x):at' f x=x:=by simp[at',h]
def bH(h:i<f.length):at' (f.set i j) x=if x=i then j else at' f x:=by
 unfold at';rw[List.getElem?_set];by_cases e:i=x
 ·subst e;simp[h]
 ·simp[e,Ne.symm e]
def dQ(F:Frm n f)(hl:l+1<2*n):at' (aC f l)=M.hg l (l+1) (at' f):=by
 funext x;unfold aC M.hg;have a1:=F.lt l (by lia);have a2:=F.lt (l+1) hl;have hlen:=F.len;by_cases e:at' f l=l+1
 ·rw[if_pos e,if_pos e]
 ·rw[if_neg e,if_neg e,bH (by simp;lia),bH (by simp;lia),bH (by simp;lia),bH (by lia)]
def dI:(aC f l).length=f.length:=by
 unfold aC;split
 ·rfl
 ·simp
def qb(F:Frm n f)(hl:l+1<2*n):Frm n (aC f l):=by
 have n1:=F.no l (by lia);have n2:=F.no (l+1) hl;refine⟨by rw[dI];exact F.len,fun x hx=>?_,fun x=>?_,fun x hx=>?_⟩
 ·rw[dQ F hl];unfold M.hg;have a1:=F.lt l (by lia);have a2:=F.lt (l+1) hl;have a3:=F.lt x hx
  repeat' split
  all_goals lia
 ·rw[dQ F hl];exact M.CF (by lia) F.inv n1 n2 x
 ·rw[dQ F hl];exact M.xg (by lia) F.inv n1 n2 (F.no x hx)
def Di(F:f.length=2*n)(G:g.length=2*n)(h:at' f=at' g):f=g:=by
 apply List.ext_getElem?;intro i;by_cases hi:i<2*n
 ·rw[df (by lia),df (by lia),h]
 ·rw[List.getElem?_eq_none (by lia),List.getElem?_eq_none (by lia)]
def nJ(F:Frm n f)(hi:i+1<n)(hp:∀ xs:List D,cl f_pegs [.lst xs]=some (.int (xs.length / 2)))
 (ht:∀ (xs:List Nat) (i j:Nat),i<xs.length->j<xs.length->cl f_tie [.lst (L xs),.int i,.int j]=some (.tup [.non,.lst (L ((xs.set i j).set j i))])) :
  evF cl (d8 f_tie f_pegs) [.lst (L f),.int i]=some (.tup [.int (dC f (n+i)),.lst (L (aC f (n+i)))]):=by
 have hlen:=F.len
 have h2:((2*n:Nat):Int) / 2=n:=by lia
 have g1:((L f).length:Int) / 2=n:=by rw[bP,hlen];exact h2
 have hl:n+i+1<2*n:=by lia
 have k1:f[n+i]?=some (at' f (n+i)):=df (by lia);have k2:f[n+i+1]?=some (at' f (n+i+1)):=df (by lia)
 have p1:∀ k:Nat,c8 (L f) ((n:Int)+(k:Int))=(f[n+k]?).map fun(i:Nat)=>.int (i:Int):=fun k=>by
  have:=fR (L f) (n+k);rw[show((n+k:Nat):Int)=(n:Int)+(k:Int) by lia]at this;rw[this,sV]
 have p2:=p1 (i+1);rw[show(n:Int)+((i+1:Nat):Int)=(n:Int)+(i:Int)+1 by lia,show n+(i+1)=n+i+1 by lia]at p2;have a1:=F.lt (n+i) (by lia);have a2:=F.lt (n+i+1) hl;have t1:=ht f (at' f (n+i)) (at' f (n+i+1)) (by lia) (by lia);have t2:=ht ((f.set (at' f (n+i)) (at' f (n+i+1))).set (at' f (n+i+1)) (at' f (n+i))) (n+i) (n+i+1) (by simp;lia) (by simp;lia);rw[show((n+i:Nat):Int)=(n:Int)+(i:Int) by lia,show((n+i+1:Nat):Int)=(n:Int)+(i:Int)+1 by lia]at t2;by_cases e:at' f (n+i)=n+i+1
 ·have e':((at' f (n+i):Nat):Int)=(n:Int)+(i:Int)+1:=by lia
  simp[evF,d8,ag,gw,eE,qC,da,dU,gn,dB,ue,bg,bT,evs,hp,g1,bO,b0,D.imm,DW,p1,p2,k1,k2,gE,truth,e',bF,aJ,cT,dC,aC,e]
 ·have e':¬ ((at' f (n+i):Nat):Int)=(n:Int)+(i:Int)+1:=by lia
  simp[evF,d8,ag,gw,eE,qC,da,dU,gn,dB,ue,bg,bT,evs,hp,g1,bO,b0,D.imm,DW,p1,p2,k1,k2,gE,truth,e',bF,aJ,cT,dC,aC,e,cW,isVar,t1,t2,tV,uo]
end
end RM
namespace RL
section
def bC:ag cl M .nil σ=some (.nx,σ):=by rw[ag]
def ef(h:evS cl M s σ=some (.nx,σ'))(k:ag cl M r σ'=res):ag cl M (.cons s r) σ=res:=by
 rw[ag,h];exact k
def nY(h:evS cl M s σ=some (.rt d,σ')):ag cl M (.cons s r) σ=some (.rt d,σ'):=by
 rw[ag,h];rfl
def bc(h:ev cl σ e=some d)(ok:b0 M e d=true)(k:ag cl M r (σ.set i (some d))=res):ag cl M (.cons (.asg i e) r) σ=res :=
 ef (by rw[gw,h];show(if b0 M e d=true then _ else _)=_;rw[if_pos ok]) k
def eY(h:ev cl σ e=some d)(ok:(aG d&&a9 e)=true)(k:ag cl M r (σ.set i (some d))=res):ag cl M (.cons (.own i e) r) σ=res :=
 ef (by rw[nT,h];show(if(aG d&&a9 e)=true then _ else _)=_;rw[if_pos ok]) k
def CO(h:ev cl σ e=some d)(k:ag cl M r σ=res):ag cl M (.cons (.exc e) r) σ=res :=
 ef (by rw[oj,h];rfl) k
def bI(h:ev cl σ e=some d)(ok:bF M e d=true):ag cl M (.cons (.ret e) r) σ=some (.rt d,σ) :=
 nY (by rw[da,h];show(if bF M e d=true then _ else _)=_;rw[if_pos ok])
def iO(h:(ev cl σ t).bind truth=some true)(h1:ag cl M a σ=some (.nx,σ'))(k:ag cl M r σ'=res):ag cl M (.cons (.ife t a b) r) σ=res :=
 ef (by rw[eE,h];exact h1) k
def hJ(h:(ev cl σ t).bind truth=some true)(h1:ag cl M a σ=some (.rt d,σ')):ag cl M (.cons (.ife t a b) r) σ=some (.rt d,σ') :=
 nY (by rw[eE,h];exact h1)
def kR(h:(ev cl σ t).bind truth=some false)(h1:ag cl M b σ=some (.nx,σ'))(k:ag cl M r σ'=res):ag cl M (.cons (.ife t a b) r) σ=res :=
 ef (by rw[eE,h];exact h1) k
def jw(h:(ev cl σ t).bind truth=some false)(h1:ag cl M b σ=some (.rt d,σ')):ag cl M (.cons (.ife t a b) r) σ=some (.rt d,σ') :=
 nY (by rw[eE,h];exact h1)
def cZ(h:(ev cl σ t).bind truth=some false)(k:ag cl M r σ=res):ag cl M (.cons (.ife t a .nil) r) σ=res:=kR h bC k
def kO(h:ev cl σ e=some d)(hd:items d=some ds)(im:ao ds=true)(hs:aN is ds σ=some σ')(k:ag cl M r σ'=res):ag cl M (.cons (.unp is e) r) σ=res :=
 ef (by rw[E2,h,Option.bind_some,hd];show(if ao ds=true then _ else _)=_;rw[if_pos im,hs];rfl) k
def vv(h:ev cl σ e=some d)(hi:(σ[i]?).bind id=some (.lst xs))(im:d.imm=true)(hl:xs.length<most)(k:ag cl M r (σ.set i (some (.lst (xs++[d]))))=res):ag cl M (.cons (.app i e) r) σ=res :=
 ef (by rw[yP,h,Option.bind_some,hi];show(if(d.imm&&decide (xs.length<most))=true then _ else _)=_;rw[if_pos (by rw[im,decide_eq_true hl];rfl)]) k
def kT(h:bw cl σ it=some ds)(h1:aP (ag cl M b) tg ds σ=some (.nx,σ'))(k:ag cl M r σ'=res):ag cl M (.cons (.forr tg it b) r) σ=res :=
 ef (by rw[gM,h];exact h1) k
def sq(h:bw cl σ it=some ds)(h1:aP (ag cl M b) tg ds σ=some (.rt d,σ')):ag cl M (.cons (.forr tg it b) r) σ=some (.rt d,σ') :=
 nY (by rw[gM,h];exact h1)
def Cj(h1:whF (fun σ=>(ev cl σ t).bind truth) (ag cl M b) most σ=some (.nx,σ'))(k:ag cl M r σ'=res):ag cl M (.cons (.whil t b) r) σ=res :=
 ef (by rw[Du];exact h1) k
def mn(h:evs cl σ es=some ds)(ok:cW M ps 0 es ds=true)(hc:cl f ds=some (.tup (d::outs)))(hs:aN ms outs σ=some σ')(k:ag cl M r σ'=res):ag cl M (.cons (.mexc f es ps ms) r) σ=res :=
 ef (by rw[qC,h,Option.bind_some,if_pos ok,hc,Option.bind_some];show Option.map _ (aN ms outs σ)=_;rw[hs];rfl) k
def ae(h:(σ[i]?).bind id=some d):ev cl σ (.var i)=some d:=by rw[bg];exact h
def ak:ev cl σ (.cst d)=some d:=by rw[dB]
def x_call(h:evs cl σ es=some ds)(hc:cl f ds=some d):ev cl σ (.call f es)=some d:=by rw[bT,h];exact hc
def cD:evs cl σ .nil=some []:=by rw[evs]
def bf(h:ev cl σ e=some d)(hr:evs cl σ es=some ds):evs cl σ (.cons e es)=some (d::ds):=by rw[evs,h,Option.bind_some,hr];rfl
def lK(h:ev cl σ e=some d)(hc:cl f [d]=some x):ev cl σ (.call f (.cons e .nil))=some x:=x_call (bf h cD) hc
def ja(h:ev cl σ e=some d)(h':ev cl σ e'=some d')(hc:cl f [d,d']=some x):ev cl σ (.call f (.cons e (.cons e' .nil)))=some x:=x_call (bf h (bf h' cD)) hc
def Bk(h:ev cl σ e=some d)(h':ev cl σ e'=some d')(h'':ev cl σ e''=some d'')(hc:cl f [d,d',d'']=some x):ev cl σ (.call f (.cons e (.cons e' (.cons e'' .nil))))=some x:=x_call (bf h (bf h' (bf h'' cD))) hc
def au(h:ev cl σ e=some x)(h':ev cl σ e'=some y)(hb:aE o x y=some d):ev cl σ (.bin o e e')=some d:=by rw[dU,h,Option.bind_some,h'];exact hb
def aY(h:ev cl σ e=some x)(h':ev cl σ e'=some y)(hb:aZ o x y=some k):ev cl σ (.cmp o e e')=some (.bl k):=by rw[gn,h,Option.bind_some,h',Option.bind_some,hb];rfl
def iE(h:ev cl σ e=some x)(h':ev cl σ e'=some y)(hb:ixV x y=some d):ev cl σ (.ix e e')=some d:=by rw[ue,h,Option.bind_some,h'];exact hb
def dm(h:ev cl σ e=some x)(hb:biV o x=some d):ev cl σ (.bi o e)=some d:=by rw[pV,h];exact hb
def En(h:ev cl σ e=some x)(h':ev cl σ e'=some y)(hb:oU x y=some d):ev cl σ (.slT e e')=some d:=by rw[Ez,h,Option.bind_some,h'];exact hb
def Fg(h:ev cl σ e=some (.lst xs)):ev cl σ (.rev e)=some (.lst xs.reverse):=by rw[EI,h];rfl
def c6{t:Ty}(h:ev cl σ e=some x)(hb:eR t x=some k):ev cl σ (.isi e t)=some (.bl k):=by rw[ES,h,Option.bind_some,hb];rfl
def ot(h:ev cl σ e=some (.int k)):ev cl σ (.neg e)=some (.int (-k)):=by rw[E5,h];rfl
def EG(h:ev cl σ e=some (.int x))(h':ev cl σ e'=some (.int y)):ev cl σ (.min e e')=some (.int (if y<x then y else x)):=by rw[EM,h,Option.bind_some,h'];rfl
def sC(h:ev cl σ e=some x)(h':ev cl σ e'=some y)(h'':ev cl σ e''=some z)(b1:aZ c x y=some true)(b2:aZ c' y z=some k):ev cl σ (.chain c c' e e' e'')=some (.bl k):=by rw[jF,h,Option.bind_some,h',Option.bind_some,b1,Option.bind_some,if_pos rfl,h'',Option.bind_some,b2];rfl
def wY(h:ev cl σ e=some x)(h':ev cl σ e'=some y)(b1:aZ c x y=some false):ev cl σ (.chain c c' e e' e'')=some (.bl false):=by rw[jF,h,Option.bind_some,h',Option.bind_some,b1];rfl
def zT(h:ev cl σ e=some x)(hr:cu (.int 0) x=some ds):ev cl σ (.rng1 e)=some (.lst ds):=by rw[vR,h,Option.bind_some,hr];rfl
def zG(h:ev cl σ e=some x)(h':ev cl σ e'=some y)(hr:cu x y=some ds):ev cl σ (.rng2 e e')=some (.lst ds):=by rw[v8,h,Option.bind_some,h',Option.bind_some,hr];rfl
def iy(h:evs cl σ es=some ds):ev cl σ (.lst es)=some (.lst ds):=by rw[tw,h];rfl
def yT(h:evs cl σ es=some ds):ev cl σ (.tup es)=some (.tup ds):=by rw[zr,h];rfl
def dS(h:ev cl σ e=some (.bl true))(h':ev cl σ e'=some d):ev cl σ (.and e e')=some d:=by rw[jK,h];exact h'
def iT(h:ev cl σ e=some (.bl false)):ev cl σ (.and e e')=some (.bl false):=by rw[jK,h];rfl
def xS(h:ev cl σ e=some (.bl false))(h':ev cl σ e'=some d):ev cl σ (.or e e')=some d:=by rw[xa,h];exact h'
def Fl(h:(ev cl σ e).bind truth=some k):ev cl σ (.not e)=some (.bl (!k)):=by rw[lG,h];rfl
def hW(h:ev cl σ e=some (.bl k)):ev cl σ (.not e)=some (.bl (!k)):=Fl (by rw[h];rfl)
def bX(h:ev cl σ e=some (.bl k)):(ev cl σ e).bind truth=some k:=by rw[h];rfl
def rE(h:bw cl σ it=some ds)(hf:ds.length<=most)(hm:cG (fun σ1=>(ev cl σ1 e).map some) tg σ ds=some ys):ev cl σ (.compA e tg it)=some (.lst ys):=by
 rw[r9,h,Option.bind_some,fits,if_pos hf,Option.bind_some,hm];rfl
def vY(h:bw cl σ it=some ds)(hf:ds.length<=most)(hm:cG (fun σ1=>((ev cl σ1 t).bind truth).bind fun k=>if k then(ev cl σ1 e).map some else some none) tg σ ds=some ys):ev cl σ (.comp e tg it t)=some (.lst ys):=by
 rw[we,h,Option.bind_some,fits,if_pos hf,Option.bind_some,hm];rfl
def gR(h:ev cl σ e=some x)(hr:cu (.int 0) x=some ds):bw cl σ (.rng1 e)=some ds:=by rw[bw,h];exact hr
def Ce(h:ev cl σ e=some x)(hr:iX x=some ds):bw cl σ (.seq e)=some ds:=by rw[bw,h];exact hr
def EO(h:ev cl σ e=some x)(hr:items x=some ds):bw cl σ (.seq e)=some ds:=Ce h (by
 cases x with
 | lst _=>exact hr
 | tup _=>exact hr
 | _=>cases hr)
def Ff(h:ev cl σ e=some x)(h':ev cl σ e'=some y)(hx:items x=some xs)(hy:items y=some ys)(hl:xs.length=ys.length):bw cl σ (.zip e e')=some (eD xs ys):=by rw[bw,h,Option.bind_some,h',Option.bind_some,hx,Option.bind_some,hy,Option.bind_some,if_pos hl]
def EY(hk:(match x with | .non=>some (D.bl (!n)) | .dK _ _=>none | .dT _ _=>none | .fT _=>none | _=>some (.bl n))=some (D.bl k))(h:ev cl σ e=some x):ev cl σ (.isN n e)=some (.bl k):=by rw[Ei,h];exact hk
def yI(h:ev cl σ e=some x)(hr:gQ x=some ds):bw cl σ (.enm e)=some (cX 0 ds):=by rw[bw,h,Option.bind_some,hr];rfl
end
def sD(im:d.imm=true)(hb:aV tg d σ=some σ1)(h:f σ1=some (.nx,σ2))(k:aP f tg r σ2=res):aP f tg (d::r) σ=res:=by
 rw[aP,if_pos im,hb,Option.bind_some,h];exact k
def bo(hl:ds.length=fn.ps)(hm:fn.mp=[])(h:ag cl fn.M fn.body (ds.map some++List.replicate (fn.nn-fn.ps) none)=some (.rt d,σ')):evF cl fn ds=some d:=by
 unfold evF;rw[if_pos hl,h];show aJ fn d σ'=_;unfold aJ;rw[hm];rfl
end RL
set_option maxHeartbeats 1000000
namespace RL
open PySem (Str)
section
end
end RL
namespace RT
open RL
end RT
namespace RM
open RL RT
section
abbrev hangs(n:Nat):List Nat->List Nat × Nat->List Nat × Nat
 | [],s=>s
 | i::row,s=>hangs n row (aC s.1 (n+i),s.2+dC s.1 (n+i))
def jg(n:Nat):∀ (a b:List Nat) (s:List Nat × Nat),hangs n (a++b) s=hangs n b (hangs n a s)
 | [],_,_=>rfl
 | i::a,b,s=>by
  rw[List.cons_append,hangs,hangs,jg n a b]
def nh:∀ {row:List Nat} {s:List Nat × Nat},(∀ i∈row,i+1<n)->Frm n s.1->Frm n (hangs n row s).1
 | [],_,_,F=>F
 | i::row,s,h,F=>by
  rw[hangs];have:=h i List.mem_cons_self;exact nh (fun j hj=>h j (List.mem_cons_of_mem _ hj)) (qb F (by lia))
def plain_at(n x:Nat):at' (ay n) x=if x<n then n+x else if x<2*n then x-n else x:=by
 unfold at' ay;by_cases h1:x<n
 ·rw[List.getElem?_append_left (by simpa using h1),if_pos h1];simp[h1]
 ·rw[List.getElem?_append_right (by simpa using h1),if_neg h1];by_cases h2:x<2*n
  ·rw[if_pos h2];simp[show x-n<n by lia]
  ·rw[if_neg h2];simp[show ¬ x-n<n by lia]
def bj(n:Nat):Frm n (ay n):=by
 refine⟨by simp[ay];lia,fun x hx=>?_,fun x=>?_,fun x hx=>?_⟩
 ·rw[plain_at];repeat' split
  all_goals lia
 ·rw[plain_at,plain_at];repeat' split
  all_goals lia
 ·rw[plain_at];repeat' split
  all_goals lia
def xY{hh pl cr:Nat}{n:Nat}(hn:n<=10)(hrow:∀ i∈row,i+1<n)(h1:cl cr [.int n,.lst (L row)]=some .non)(h2:cl pl [.int n]=some (.tup (L (ay n))))
 (h3:∀ (f:List Nat) (i:Nat),Frm n f->i+1<n->cl hh [.lst (L f),.int i]=some (.tup [.int (dC f (n+i)),.lst (L (aC f (n+i)))])) :
  evF cl (kY hh pl cr) [.int n,.lst (L row)]=some (.tup [.tup (L (hangs n row (ay n,0)).1),.int (hangs n row (ay n,0)).2]):=by
 obtain⟨σ',e,o',rfl⟩:=k9 (f:=ag cl [2] (lW hh pl cr)) (tg:=[4]) (xs:=row) (σ:=[some (.int n),some (.lst (L row)),some (.lst (L (ay n))),some (.int 0),none])
  (fun p σ=>∃ o,σ=[some (.int n),some (.lst (L row)),some (.lst (L (hangs n p (ay n,0)).1)),some (.int (hangs n p (ay n,0)).2),o]) ⟨none,rfl⟩ (by
   rintro p x q σ rfl ⟨o,rfl⟩;have F:Frm n (hangs n p (ay n,0)).1:=nh (fun i hi=>hrow i (by simp[hi])) (bj n);have hx:=h3 (hangs n p (ay n,0)).1 x F (hrow x (by simp));refine⟨[some (.int n),some (.lst (L (p++x::q))),some (.lst (L (hangs n (p++[x]) (ay n,0)).1)),some (.int (hangs n (p++[x]) (ay n,0)).2),some (.int x)],?_,_,rfl⟩
   simp[qh,lW,ag,BX,bg,evs,hx,cW,isVar,b0,D.imm,tV,uo,jg,hangs])
 simp[evF,kY,ag,gw,oj,gM,nT,da,pV,bT,dB,zr,bg,evs,h1,h2,bw,items,xG,uk,aG,cq,b0,D.imm];simp[e,evs,xG,uk,items,bF,D.imm,ao,cq,aJ]
end
abbrev LI(xs:List Int):List D:=xs.map D.int
def wq(xs:List Int):(LI xs).length=xs.length:=by simp[LI]
def vb:∀ xs:List Int,ao (LI xs)=true
 | []=>rfl
 | x::xs=>by
  show((D.int x).imm&&ao (LI xs))=true;rw[vb xs];rfl
section
def mod_lt{a b:Int}(h:0<b):0<=a%b/\a%b<b:=⟨Int.emod_nonneg _ (by lia),Int.emod_lt_of_pos _ h⟩
def zH(s:Int):∃ m:Int,evF cl jk [.int s]=some (.int m):=by
 have a1:=mod_lt (a:=s*48271+11) (b:=2147483647) (by decide);generalize h1:(s*48271+11)%2147483647=one at a1;have a2:=mod_lt (a:=one*one+40692*one+s) (b:=2147483399) (by decide);generalize h2:(one*one+40692*one+s)%2147483399=two at a2
 exact⟨_,bo rfl rfl (bc (d:=.int one) (au (au (au (ae rfl) ak (uD (by decide) (by decide))) ak bO) ak (by rw[dY (by decide),h1])) rfl
  (bc (d:=.int two) (au (au (au (au (ae rfl) (ae rfl) (cU (by lia) (by lia))) (au ak (ae rfl) (cU (by decide) (by decide))) bO) (ae rfl) bO) ak (by rw[dY (by decide),h2])) rfl
  (bI (au (au (au (au (ae rfl) (ae rfl) (cU (by omega) (by omega))) (au ak (ae rfl) (cU (by decide) (by decide))) bO) (ae rfl) bO) ak (dY (by decide))) rfl)))⟩
def A7{f:Nat}(h:∀ s:Int,∃ m:Int,cl f [.int s]=some (.int m)){ns:List Int}(hl:ns.length<=63){k:Nat}(hk:k<=1000):∃ r:Int,evF cl (iS f) [.lst (LI ns),.int k]=some (.int r):=by
 have pw:aE .pow (.int 10) (.int 18)=some (.int 1000000000000000000):=rfl
 have rest:∀ c:Int,∃ r σ',ag cl [] (.cons (.asg 3 (.cst (.int 0))) (.cons (.forr [4] (.rng1 (.cst (.int 40))) (iF f)) (.cons (.ret (.var 3)) .nil))) [some (.lst (LI ns)),some (.int k),some (.int c),none,none]=some (.rt (.int r),σ'):=by
  intro c;have hr:cu (.int 0) (.int 40)=some (L (List.range' 0 40)):=congrArg some (kq 0 40)
  obtain⟨σ',e,r,o,rfl⟩:=k9 (f:=ag cl [] (iF f)) (tg:=[4]) (xs:=List.range' 0 40) (σ:=[some (.lst (LI ns)),some (.int k),some (.int c),some (.int 0),none])
   (fun p σ=>∃ (r:Int) (o:Option D),σ=[some (.lst (LI ns)),some (.int k),some (.int c),some (.int r),o]) ⟨0,none,rfl⟩ (by
    rintro p x q σ hx ⟨r,o,rfl⟩;obtain⟨m,hm⟩:=h (c+1009*k+7919*x)
    exact⟨_,bc (au (au (ae rfl) ak (uD (by decide) (by decide))) (lK (au (au (ae rfl) (au ak (ae rfl) (cU (by decide) (by decide))) bO) (au ak (ae rfl) (cU (by decide) (by decide))) bO) hm) bO) rfl bC,_,_,rfl⟩)
  exact⟨r,_,bc ak rfl (kT (gR ak hr) e (bI (ae rfl) rfl))⟩
 have len:biV .len (.lst (LI ns))=some (.int ns.length):=congrArg (fun n:Nat=>some (D.int n)) (wq ns)
 have first:ev cl [some (.lst (LI ns)),some (.int k),none,none,none] (.bin .add (.bin .mul (.cst (.int 7)) (.var 1)) (.cst (.int 3)))=some (.int (7*k+3)):=au (au ak (ae rfl) (cU (by decide) (by decide))) ak bO
 by_cases h0:0<ns.length
 ·have hmod:=mod_lt (a:=(k:Int)) (b:=(ns.length:Int)) (by lia);obtain⟨j,hj⟩:=Int.eq_ofNat_of_zero_le hmod.1
  have hjl:j<ns.length:=by lia
  have ix:ixV (.lst (LI ns)) (.int ((k:Int)%ns.length))=some (.int ns[j]):=by
   show c8 (LI ns) _=_;rw[hj,fR];simp[LI,hjl]
  obtain⟨r,σ',hr⟩:=rest (ns[j]+9973*((k:Int) / ns.length));generalize hc:ns[j]+9973*((k:Int) / ns.length)=cell at hr
  have cel:∀ {r':Ss} {res:Option (Out × St)},ag cl [] r' [some (.lst (LI ns)),some (.int k),some (.int cell),none,none]=res->ag cl [] (.cons (.asg 2 (.bin .add (.bin .mul (.cst (.int 7)) (.var 1)) (.cst (.int 3)))) (.cons (.ife (.cmp .gt (.bi .len (.var 0)) (.cst (.int 0))) (.cons (.asg 2 (.bin .add (.ix (.var 0) (.bin .mod (.var 1) (.bi .len (.var 0)))) (.bin .mul (.cst (.int 9973)) (.bin .fdiv (.var 1) (.bi .len (.var 0)))))) .nil) .nil) r')) [some (.lst (LI ns)),some (.int k),none,none,none]=res:=fun z =>
   bc first rfl (iO (bX (aY (dm (ae rfl) len) ak (by rw[mh,decide_eq_true (by lia)]))) (bc (d:=.int cell) (au (iE (ae rfl) (au (ae rfl) (dm (ae rfl) len) (dY (by lia))) ix) (au ak (au (ae rfl) (dm (ae rfl) len) (nS (by lia) (by lia))) (cU (by decide) (by decide))) (by rw[bO,hc])) rfl bC) z)
  by_cases h1:k<ns.length
  ·have c1:aZ .lt (.int (k:Nat)) (.int (ns.length:Nat))=some true:=by rw[jT,decide_eq_true (by lia)]
   by_cases h2:(1000000000000000000:Int)<=cell
   ·exact⟨_,bo rfl rfl (cel (hJ (bX (dS (aY (ae rfl) (dm (ae rfl) len) c1) (aY (ae rfl) (au ak ak pw) (by rw[DG,decide_eq_true h2])))) (bI (au (ae rfl) (au ak ak pw) gj) rfl)))⟩
   ·exact⟨r,bo rfl rfl (cel (cZ (bX (dS (aY (ae rfl) (dm (ae rfl) len) c1) (aY (ae rfl) (au ak ak pw) (by rw[DG,decide_eq_false h2])))) hr))⟩
  ·exact⟨r,bo rfl rfl (cel (cZ (bX (iT (aY (ae rfl) (dm (ae rfl) len) (by rw[jT,decide_eq_false (by lia)])))) hr))⟩
 ·obtain⟨r,σ',hr⟩:=rest (7*k+3);exact⟨r,bo rfl rfl (bc first rfl (cZ (bX (aY (dm (ae rfl) len) ak (by rw[mh,decide_eq_false (by lia)]))) (cZ (bX (iT (aY (ae rfl) (dm (ae rfl) len) (by rw[jT,decide_eq_false (by lia)])))) hr)))⟩
end
section
abbrev iR(ds sizes:List Nat):Prop:=ds.length=sizes.length/\∀ (i d s:Nat),ds[i]?=some d->sizes[i]?=some s->d<s
def iR.snoc(h:iR ds sizes)(hd:d<s):iR (ds++[d]) (sizes++[s]):=by
 refine⟨by simp[h.1],fun i x y h1 h2=>?_⟩;by_cases hi:i<ds.length
 ·rw[List.getElem?_append_left hi]at h1;rw[List.getElem?_append_left (by rw[<-h.1];exact hi)]at h2;exact h.2 i x y h1 h2
 ·rw[List.getElem?_append_right (by lia)]at h1;rw[List.getElem?_append_right (by rw[<-h.1];lia)]at h2;rw[h.1]at h1
  cases hk:i-sizes.length with
  | zero=>rw[hk]at h1 h2;simp at h1 h2;lia
  | succ k=>rw[hk]at h1;simp at h1
def uh(h:cl f [scr,.int k]=some (.int r))(hp:∀ s∈sizes,0<s/\s<2 ^ 200)(hlen:sizes.length<=1000):∃ ds:List Nat,iR ds sizes/\evF cl (eF f) [scr,.int k,.lst (L sizes)]=some (.lst (L ds)):=by
 obtain⟨σ',e,r',ds,o,hds,rfl⟩:=k9 (f:=ag cl [4] (fy f)) (tg:=[5]) (xs:=sizes) (σ:=[some scr,some (.int k),some (.lst (L sizes)),some (.int r),some (.lst []),none])
  (fun p σ=>∃ (r:Int) (ds:List Nat) (o:Option D),iR ds p/\σ=[some scr,some (.int k),some (.lst (L sizes)),some (.int r),some (.lst (L ds)),o]) ⟨r,[],none,⟨rfl,by simp⟩,rfl⟩ (by
   rintro p x q σ hx ⟨r,ds,o,hds,rfl⟩;have hx0:=hp x (by rw[hx];simp)
   have hpl:p.length<1000:=by
    have:=congrArg List.length hx;simp at this;lia
   have hx1:(0:Int)<x:=by lia
   have hx2:(x:Int)<2 ^ 200:=by
    have:=hx0.2;lia
   obtain⟨d,hd⟩:=Int.eq_ofNat_of_zero_le (Int.emod_nonneg r (show(x:Int)≠0 by lia))
   have hdx:d<x:=by
    have:=Int.emod_lt_of_pos r hx1;lia
   refine⟨[some scr,some (.int k),some (.lst (L sizes)),some (.int (r / x)),some (.lst (L (ds++[d]))),some (.int x)],?_,_,_,_,hds.snoc hdx,rfl⟩
   have hl:(L ds).length<most:=by
    rw[bP,hds.1];unfold most;lia
   simp[qh,fy,ag,yP,gw,dU,bg,dY hx1,nS hx1 hx2,hd,D.imm,hl,b0,dM]
   rfl)
 refine⟨ds,hds,?_⟩;simp[evF,eF,ag,gw,gM,nT,da,tw,bg,bT,evs,bw,items,h,b0,D.imm,aG,ao];simp[e,bF,aG,cq,aJ]
end
section
end
section
end
def qN(h:(List.range k).map g=p++x::q):p.length<k/\x=g p.length:=by
 have l:((List.range k).map g).length=(p++x::q).length:=by rw[h]
 have e:((List.range k).map g)[p.length]?=(p++x::q)[p.length]?:=by rw[h]
 simp at l e;obtain⟨y,hy,e⟩:=e;refine⟨by lia,?_⟩;rw[List.getElem?_range (by lia)]at hy;cases hy;exact e.symm
abbrev rd(n q:Nat):Nat:=if q<n then q else 3*n-1-q
def aM(h:q<2*n):rd n q<2*n:=by unfold rd;split<;>omega
def bu(h:q<2*n):rd n (rd n q)=q:=by
 unfold rd;by_cases e:q<n
 ·rw[if_pos e,if_pos e]
 ·rw[if_neg e,if_neg (by omega)];lia
def oK(hp:p<2*n)(hq:q<2*n)(h:rd n p=rd n q):p=q:=by rw[<-bu hp,h,bu hq]
abbrev rnd(n:Nat)(f:List Nat)(q:Nat):Nat:=rd n (at' f (rd n q))
structure Val(n:Nat)(f:List Nat):Prop where
 frm:Frm n f
 nox:∀ q q',q<2*n->q'<2*n->¬ (q<q'/\q'<rnd n f q/\rnd n f q<rnd n f q')
abbrev mj(n:Nat):List Nat:=(List.range (2*n)).map (rd n)
def AA{n q:Nat}(h:q<2*n):ixV (.lst (L (mj n))) (.int (q:Int))=some (.int ((rd n q:Nat):Int)):=by
 show c8 _ _=_;rw[fR,sV];simp[mj,h]
def Bz{f:List Nat}{i j:Nat}(h:i<f.length):mi (.lst (L f)) (.int (i:Int)) (.int (j:Int))=some (.lst (L (f.set i j))):=by
 rw[Dr];rw[bP,x5 h];simp[yE]
def uF(im:∀ x,(g x).imm=true):∀ xs:List Nat,(∀ x∈xs,(aV tg (.int (x:Nat)) σ).bind F=some (some (g x)))->cG F tg σ (L xs)=some (xs.map g)
 | [],_=>rfl
 | x::r,h=>by
  have a:=h x (by simp);have b:=uF im r (fun y hy=>h y (by simp[hy]));rw[show L (x::r)=.int x::L r from rfl,cG]
  cases hb:aV tg (.int (x:Nat)) σ with
  | none=>rw[hb]at a;cases a
  |some σ1=>
   rw[hb]at a;simp only[Option.bind_some]at a ⊢;rw[a,b];simp[k6,im]
def F2(xs:List Nat)(g:Nat->Nat):(xs.map fun x=>D.int (g x:Nat))=L (xs.map g):=by simp[L]
def CA(h:xs.length<=1000):fits (L xs)=some (L xs):=by
 unfold fits;rw[if_pos (by rw[bP];unfold most;lia)]
def dE{n:Nat}(h:n<=1000):cu (.int 0) (.int n)=some (L (List.range n)):=by
 have e2:=gq (a:=0) (b:=n) (by lia) h;rw[Nat.sub_zero,<-List.range_eq_range']at e2;exact e2
def mL(h:q<2*n):rnd n (ay n) q=2*n-1-q:=by
 unfold rnd rd;by_cases c:q<n
 ·rw[if_pos c,plain_at,if_pos c,if_neg (by lia)];lia
 ·have e:at' (ay n) (3*n-1-q)=2*n-1-q:=by rw[plain_at,if_neg (by omega),if_pos (by omega)];lia
  rw[if_neg c,e,if_pos (by omega)]
def gg(n:Nat):Val n (ay n):=by
 refine⟨bj n,fun q q' h1 h2=>?_⟩;rw[mL h1,mL h2];omega
abbrev aw(n i:Nat):List Nat:=aC (ay n) (n+i)
def fH(h:i+1<n):at' (aw n i) x=if x=n+i+1 then n+i else if x=n+i then n+i+1 else if x=i+1 then i else if x=i then i+1 else if x<n then n+x else if x<2*n then x-n else x:=by
 have F:=bj n;unfold aw aC
 have a1:at' (ay n) (n+i)=i:=by rw[plain_at,if_neg (by lia),if_pos (by lia)];lia
 have a2:at' (ay n) (n+i+1)=i+1:=by rw[plain_at,if_neg (by lia),if_pos (by lia)];lia
 have hl:=F.len;rw[a1,a2,if_neg (by lia),bH (by simp;lia),bH (by simp;lia),bH (by simp;lia),bH (by lia),plain_at]
set_option synthInstance.maxSize 10000 in
set_option synthInstance.maxHeartbeats 0 in
def wH:∀ n,n<11->∀ i,i<n->i+1<n->∀ q,q<2*n->∀ q',q'<2*n->¬ (q<q'/\q'<rnd n (aw n i) q/\rnd n (aw n i) q<rnd n (aw n i) q'):=by decide +kernel
def cA(hn:n<=10)(h:i+1<n):Val n (aw n i):=⟨qb (bj n) (by lia),fun q q' h1 h2=>wH n (by lia) i (by lia) h q h1 q' h2⟩
def half{xs:List D}(h:xs.length=2*n):biV .len (.tup xs)=some (.int (2*n)):=by
 simp[zh,h]
section dicts
variable [DecidableEq κ]
end dicts
abbrev pick(h l:List Nat)(b:Bool):List Nat:=if b then h else l
abbrev stp(n:Nat)(h l:List Nat)(s:Bool × Nat):Bool × Nat:=if s.1=decide (n<=s.2)then(!s.1,at' (pick h l (!s.1)) ((s.2+n)%(2*n)))else s
abbrev itr(n:Nat)(h l:List Nat):Nat->Bool × Nat->Bool × Nat
 | 0,s=>s
 | i+1,s=>stp n h l (itr n h l i s)
section
def BN(hh:∀ x,x<2*n->at' h x<2*n)(hl:∀ x,x<2*n->at' l x<2*n)(hs:s.2<2*n):(stp n h l s).2<2*n:=by
 unfold stp;split
 ·have m:(s.2+n)%(2*n)<2*n:=Nat.mod_lt _ (by lia);cases s.1
  ·exact hh _ m
  ·exact hl _ m
 ·exact hs
def p8(hh:∀ x,x<2*n->at' h x<2*n)(hl:∀ x,x<2*n->at' l x<2*n)(hs:s.2<2*n):∀ i,(itr n h l i s).2<2*n
 | 0=>hs
 | i+1=>BN hh hl (p8 hh hl hs i)
abbrev beg(n:Nat)(h l:List Nat)(p:Nat):Bool × Nat:=(decide (p<n),at' (pick h l (decide (p<n))) p)
abbrev a6(n:Nat)(h l:List Nat):List Nat:=(List.range (2*n)).map fun p=>(itr n h l (4*n) (beg n h l p)).2
end
section
end
abbrev di(n:Nat)(f:List Nat):List Nat:=(List.range (2*n)).map fun p=>if p<n then(if at' f p<n then at' f p else p+n)else(if at' f (p-n)<n then at' f (p-n)+n else p-n)
def pC(h:p<2*n):at' (di n f) p=if p<n then(if at' f p<n then at' f p else p+n)else(if at' f (p-n)<n then at' f (p-n)+n else p-n):=by
 unfold di;rw[at'];rw[List.getElem?_map,List.getElem?_range h];rfl
def gb(hs:stp n h l s=s):∀ i,itr n h l i s=s
 | 0=>rfl
 | i+1=>by rw[itr,gb hs i,hs]
def lM(hs:stp n h l s=t)(ht:stp n h l t=t):∀ i,itr n h l (i+1) s=t
 | 0=>hs
 | i+1=>by rw[itr,lM hs ht i,ht]
section
end
def kK(im:∀ x,(g x).imm=true):∀ xs:List Nat,(∀ x∈xs,(aV tg (h x) σ).bind F=some (if c x then some (g x)else none))->cG F tg σ (xs.map h)=some ((xs.filter c).map g)
 | [],_=>rfl
 | x::r,hh=>by
  have a:=hh x (by simp);have b:=kK im r (fun y hy=>hh y (by simp[hy]));rw[List.map_cons,cG]
  cases hb:aV tg (h x) σ with
  | none=>rw[hb]at a;cases a
  |some σ1=>
   rw[hb]at a;simp only[Option.bind_some]at a ⊢;rw[a,b];cases hc:c x<;>simp[k6,im,hc]
abbrev pr(f:List Nat)(p:Nat):D:=.tup [.int (p:Nat),.int (at' f p:Nat)]
def qQ:∀ (f:List Nat) (k:Nat),cX (k:Int) (L f)=(List.range f.length).map fun p=>.tup [.int ((k+p:Nat):Int),.int (at' f p:Nat)]
 | [],k=>rfl
 | x::r,k=>by
  rw[show L (x::r)=.int x::L r from rfl,cX,show(k:Int)+1=((k+1:Nat):Int) by lia,qQ r (k+1),List.length_cons,List.range_succ_eq_map,List.map_cons,List.map_map];congr 1;apply List.map_congr_left;intro p hp;simp at hp
  have e:at' (x::r) (p+1)=at' r p:=by simp[at',hp]
  simp[e];lia
def qu(h:f.length=m):cX 0 (L f)=(List.range m).map (pr f):=by
 have:=qQ f 0;rw[h]at this;simp only[Nat.zero_add]at this;exact this
def vn(g:β->D)(im:∀ b,(g b).imm=true)(I:List β->St->Prop):∀ (w done:List β) (σ:St),(∀ u b v σ,done++w=u++b::v->I u σ->∃ σ2,(aV tg (g b) σ).bind f=some (.nx,σ2)/\I (u++[b]) σ2)->I done σ->∃ σ',aP f tg (w.map g) σ=some (.nx,σ')/\I (done++w) σ'
 | [],done,σ,_,h=>⟨σ,rfl,by simpa using h⟩
 | b::w,done,σ,hs,h=>by
  obtain⟨σ2,h1,h3⟩:=hs done b w σ rfl h;obtain⟨σ',h4,h5⟩:=vn g im I w (done++[b]) σ2 (fun pre e post σ he=>hs pre e post σ (by simpa using he)) h3;refine⟨σ',?_,by simpa using h5⟩;rw[List.map_cons,aP,if_pos (im b)]
  cases hb:aV tg (g b) σ with
  | none=>rw[hb]at h1;cases h1
  |some σ1=>
   rw[hb]at h1;simp only[Option.bind_some]at h1 ⊢;rw[h1];exact h4
section
variable{n:Nat}
def kJ(hp:p<2*n):evF cl cK [.int n,.int (p:Nat)]=some (.int (rd n p:Nat)):=by
 have e1:aE .mul (.int 3) (.int n)=some (.int (3*n)):=cU (by decide) (by decide);by_cases c:p<n
 ·have c1:decide ((p:Int)<n)=true:=by simp;lia
  simp[evF,cK,ag,da,dU,gn,dB,yW,bg,jT,c1,truth,bF,D.imm,aJ,rd,c]
 ·have c1:decide ((p:Int)<n)=false:=by simp;lia
  simp[evF,cK,ag,da,dU,gn,dB,yW,bg,jT,c1,truth,e1,gj,bF,D.imm,aJ,rd,c];lia
def ug{T:D}{c:List D->D}{to:Nat->Nat}(hc:c=.tup\/c=.lst)(hn:n<=10)(F:Frm n f)(hT:∀ p:Nat,p<2*n->ixV T (.int (p:Nat))=some (.int (to p:Nat)))(hlt:∀ p,p<2*n->to p<2*n)(inj:∀ p q,p<2*n->q<2*n->to p=to q->p=q) :
  ∃ E:List Nat,E.length=2*n/\(∀ p,p<2*n->at' E (to p)=to (at' f p))/\evF cl gY [c (L f),T]=some (.tup (L E)):=by
 have ln:biV .len (c (L f))=some (.int (2*n)):=by rcases hc with rfl | rfl<;>simp[EN,zh,bP,F.len]
 have it:gQ (c (L f))=some (L f):=by rcases hc with rfl | rfl<;>rfl
 have en:=qu F.len
 have e0:aE .mul (.lst [.int 0]) (.int (2*(n:Int)))=some (.lst (L (List.replicate (2*n) 0))):=by
  rw[FE];rw[if_pos ⟨by lia,by unfold most;lia,by simp[most];lia⟩]
  have:(2*(n:Int)).toNat=2*n:=by lia
  rw[this];simp[L]
 obtain⟨σ',e,E,o3,o4,rfl,El,EE⟩:=vn (f:=ag cl [2] kr) (tg:=[3,4]) (pr f) (fun _=>rfl)
  (fun u σ=>∃ (E:List Nat) (o3 o4:Option D),σ=[some (c (L f)),some T,some (.lst (L E)),o3,o4]/\E.length=2*n/\∀ p∈u,at' E (to p)=to (at' f p))
  (List.range (2*n)) [] [some (c (L f)),some T,some (.lst (L (List.replicate (2*n) 0))),none,none] (by
   rintro u p v σ hu ⟨E,o3,o4,rfl,El,EE⟩
   have hp:p<2*n:=by
    have:p∈List.range (2*n):=by
     simp only[List.nil_append]at hu;rw[hu];simp
    simpa using this
   have hpu:∀ x∈u,x<2*n/\x≠p:=by
    intro x hx;simp only[List.nil_append]at hu;have nd:(List.range (2*n)).Nodup:=List.nodup_range
    have m:x∈List.range (2*n):=by rw[hu];simp[hx]
    rw[hu,List.nodup_append]at nd;exact⟨by simpa using m,nd.2.2 x hx p (by simp)⟩
   have t1:=hT p hp;have t2:=hT (at' f p) (F.lt p hp);have pt:=Bz (f:=E) (i:=to p) (j:=to (at' f p)) (by have:=hlt p hp;lia);refine⟨_,?_,E.set (to p) (to (at' f p)),some (.int (p:Nat)),some (.int (at' f p:Nat)),rfl,by simp[El],fun x hx=>?_⟩
   ·simp[Ec,tV,uo,pr,kr,ag,zm,ue,bg,t1,t2,D.imm,pt]
   ·rw[bH (by have:=hlt p hp;lia)];simp at hx;rcases hx with hx | rfl
    ·rw[if_neg (fun c=>(hpu x hx).2 (inj x p (hpu x hx).1 hp c))];exact EE x hx
    ·rw[if_pos rfl])
  ⟨_,none,none,rfl,by simp,by simp⟩
 refine⟨E,El,fun p hp=>EE p (by simp[hp]),?_⟩;simp only[evF,gY,ag,gM,nT,da,pV,dU,dB,tw,bg,evs,bw,itemsS_lst,itemsS_tup];simp[evs,ln,e0,aG,cq,it,en];rw[e];simp[ag,uk,items,bF,D.imm,cq,aJ]
def vN{T:D}{to:Nat->Nat}(hn:n<=10)(F:Frm n f)(hT:∀ p:Nat,p<2*n->ixV T (.int (p:Nat))=some (.int (to p:Nat)))(hlt:∀ p,p<2*n->to p<2*n)(inj:∀ p q,p<2*n->q<2*n->to p=to q->p=q) :
  ∃ E:List Nat,E.length=2*n/\(∀ p,p<2*n->at' E (to p)=to (at' f p))/\evF cl gY [.tup (L f),T]=some (.tup (L E)):=ug (.inl rfl) hn F hT hlt inj
def nL{c:List D->D}(hc:c=.tup\/c=.lst)(hn:n<=10)(F:Frm n f)(hpo:∀ xs:List D,cl fpo [c xs]=some (.int (xs.length / 2)))(hrp:∀ p:Nat,p<2*n->cl frp [.int n,.int (p:Nat)]=some (.int (rd n p:Nat)))
 (hm:∃ E:List Nat,E.length=2*n/\(∀ p,p<2*n->at' E (rd n p)=rd n (at' f p))/\cl fm [c (L f),.lst (L (mj n))]=some (.tup (L E))) :
  ∃ E:List Nat,E.length=2*n/\(∀ q,q<2*n->at' E q=rnd n f q)/\evF cl (eg fm frp fpo) [c (L f)]=some (.tup (L E)):=by
 obtain⟨E,El,EE,hm⟩:=hm;refine⟨E,El,fun q hq=>?_,?_⟩
 ·have:=EE (rd n q) (aM hq);rw[bu hq]at this;exact this
 ·have e1:aE .mul (.int 2) (.int n)=some (.int (2*n)):=cU (by decide) (by decide);have r2:=dE (n:=2*n) (by lia);rw[show((2*n:Nat):Int)=2*(n:Int) by lia]at r2;have ft:=CA (xs:=List.range (2*n)) (by simp;lia);have po:=hpo (L f);rw[bP,F.len,show(((2*n:Nat):Int) / 2)=(n:Int) by lia]at po
  have mc:=uF (F:=fun σ1=>(ev cl σ1 (.call frp (.cons (.var 1) (.cons (.var 2) .nil)))).map some) (tg:=[2]) (σ:=[some (c (L f)),some (.int n),none]) (g:=fun p=>.int (rd n p:Nat)) (fun _=>rfl) (List.range (2*n)) (by
   intro x hx;simp at hx;have:=hrp x hx
   simp[qh,bT,bg,evs,this])
  rw[F2,show(List.range (2*n)).map (fun p=>rd n p)=mj n from rfl]at mc;simp only[evF,eg,ag,gw,da,bT,bg,dU,r9,dB,evs,bw,itemsS_lst,itemsS_tup];simp[evs,po,b0,D.imm,e1,r2,ft];simp[bT,bg,evs]at mc;rw[mc];simp[hm,bF,D.imm,cq,aJ]
def qk(hn:n<=10)(F:Frm n f)(hpo:∀ xs:List D,cl fpo [.tup xs]=some (.int (xs.length / 2)))(hrp:∀ p:Nat,p<2*n->cl frp [.int n,.int (p:Nat)]=some (.int (rd n p:Nat)))
 (hm:∃ E:List Nat,E.length=2*n/\(∀ p,p<2*n->at' E (rd n p)=rd n (at' f p))/\cl fm [.tup (L f),.lst (L (mj n))]=some (.tup (L E))) :
  ∃ E:List Nat,E.length=2*n/\(∀ q,q<2*n->at' E q=rnd n f q)/\evF cl (eg fm frp fpo) [.tup (L f)]=some (.tup (L E)):=nL (.inl rfl) hn F hpo hrp hm
end
structure Op(r:Nat->Nat)(k:Nat)(W:List Nat):Prop where
 up:W.Pairwise (·<·)
 mem:∀ p,p∈W↔p<k/\k<=r p
section
def Op.push(O:Op r k W)(inv:∀ q,q<m->r (r q)=q)(hk:k<m)(h:k<r k):Op r (k+1) (W++[k]):=by
 refine⟨?_,fun p=>?_⟩
 ·rw[List.pairwise_append];exact⟨O.up,by simp,fun a ha b hb=>by simp at hb;have:=(O.mem a).mp ha;lia⟩
 ·simp only[List.mem_append,List.mem_singleton,O.mem];constructor
  ·rintro(⟨a,b⟩ | rfl)
   ·refine⟨by lia,?_⟩;by_cases c:r p=k
    ·have:=inv p (by lia);rw[c]at this;lia
    ·lia
   ·lia
  ·rintro⟨a,b⟩;by_cases c:p=k
   ·exact .inr c
   ·exact .inl ⟨by lia,by lia⟩
end
section
def pA(h1:1<=n)(hn:n<=10)(V:Val n f)(hpo:∀ xs:List D,cl fo [.tup xs]=some (.int (xs.length / 2)))(hc:cl fc [.int n]=some (.bl true))(hp:cl fp [.tup (L f)]=some (.bl true))
 (hi:∃ E:List Nat,E.length=2*n/\(∀ q,q<2*n->at' E q=rnd n f q)/\cl fi [.tup (L f)]=some (.tup (L E)))
 (hu:∀ E:List Nat,E.length=2*n->(∀ q,q<2*n->at' E (at' E q)=q)->(∀ q,q<2*n->at' E q≠q)->(∀ q q',q<2*n->q'<2*n->¬ (q<q'/\q'<at' E q/\at' E q<at' E q'))->(∀ q,q<2*n->at' E q<2*n)->cl fu [.tup (L E)]=some (.bl true)) :
  evF cl (fD fu fi fp fc fo) [.tup (L f)]=some (.bl true):=by
 have F:=V.frm;obtain⟨E,El,Ea,hi⟩:=hi;have rl:∀ q,q<2*n->rnd n f q<2*n:=fun q hq=>aM (F.lt _ (aM hq))
 have hu:=hu E El (fun q hq=>by
   rw[Ea q hq,Ea _ (rl q hq)];unfold rnd
   rw[bu (F.lt _ (aM hq)),F.inv,bu hq]) (fun q hq e=>by
   rw[Ea q hq]at e;unfold rnd at e;have:=congrArg (rd n) e;rw[bu (F.lt _ (aM hq))]at this
   exact F.no _ (aM hq) this) (fun q q' h h'=>by
   rw[Ea q h,Ea q' h']
   exact V.nox q q' h h') (fun q hq=>by rw[Ea q hq];exact rl q hq)
 have e1:aE .mul (.int 2) (.int n)=some (.int (2*n)):=cU (by decide) (by decide);have ln:=half (xs:=L f) (n:=n) (by rw[bP,F.len]);have po:=hpo (L f);rw[bP,F.len,show(((2*n:Nat):Int) / 2)=(n:Int) by lia]at po;have en:=qu F.len
 have ft:fits ((List.range (2*n)).map (pr f))=some ((List.range (2*n)).map (pr f)):=by
  unfold fits;rw[if_pos (by simp[most];lia)]
 have mc:=kK (F:=fun σ1=>((ev cl σ1 (.cmp .eq (.var 3) (.var 4))).bind truth).bind fun k=>if k then(ev cl σ1 (.var 3)).map some else some none) (tg:=[3,4]) (σ:=[some (.tup (L f)),some (.int n),none,none,none]) (h:=pr f) (g:=fun p=>.int (p:Nat)) (c:=fun _=>false) (fun _=>rfl) (List.range (2*n)) (by
  intro x hx;simp at hx;have c2:((x:Int) == (at' f x:Nat))=false:=beq_eq_false_iff_ne.mpr (by have:=F.no x hx;lia)
  simp[Ec,tV,uo,pr,gn,bg,gE,c2,truth])
 rw[show(List.range (2*n)).filter (fun _=>false)=[]from List.filter_eq_nil_iff.mpr (by simp),List.map_nil]at mc
 have ne0:aZ .ne (.int (2*(n:Int))) (.int (2*(n:Int)))=some false:=by
  rw[FR];simp
 simp only[evF,fD,ag,gw,eE,da,bT,bg,jK,pV,dU,gn,we,dB,lG,xa,evs,bw,itemsS_lst,itemsS_tup];simp[evs,po,b0,D.imm,ln,e1,ne0,hc,hp,truth,ag,bw,gQ,en,ft];simp[gn,bg]at mc;rw[mc];simp[ag,evs,aG,ao,hi,hu,truth,bF,D.imm,aJ,F3]
def lF(h:cl fi [x]=some (.bl true)):evF cl (dA fi) [x]=some .non:=by
 simp[evF,dA,ag,eE,oz,bT,lG,bg,evs,h,truth,aJ]
end
def pK{β:Type}{F:St->Option (Option D)}{tg:List Nat}{σ:St}{h g:β->D}(im:∀ x,(g x).imm=true):∀ xs:List β,(∀ x∈xs,(aV tg (h x) σ).bind F=some (some (g x)))->cG F tg σ (xs.map h)=some (xs.map g)
 | [],_=>rfl
 | x::r,hh=>by
  have a:=hh x (by simp);have b:=pK im r (fun y hy=>hh y (by simp[hy]));rw[List.map_cons,cG]
  cases hb:aV tg (h x) σ with
  | none=>rw[hb]at a;cases a
  |some σ1=>
   rw[hb]at a;simp only[Option.bind_some]at a ⊢;rw[a,b];simp[k6,im]
def nR(x:Bool):aZ .ne (.bl x) (.bl x)=some false:=by cases x<;>rfl
def Ew(x:Bool):aZ .eq (.bl x) (.bl x)=some true:=by cases x<;>rfl
section
def lV(hN:(match d with | .non=>some (D.bl (!false)) | .dK _ _=>none | .dT _ _=>none | .fT _=>none | _=>some (.bl false))=some (D.bl false))(hb:eR .bool d=some kb)(hi:eR .int d=some ki)(hl:eR .list d=some kl)(ht:eR .tuple d=some kt)
 (k:ag cl [] r [some d,some d,none,none]=res):ag cl [] (.cons (.ife (.isN false (.var 1)) (.cons (.ret (.isN false (.var 0))) .nil) .nil) (.cons (.ife (.or (.cmp .ne (.isi (.var 0) .bool) (.isi (.var 1) .bool)) (.cmp .ne (.isi (.var 0) .int) (.isi (.var 1) .int))) (.cons (.ret (.cst (.bl false))) .nil) .nil) (.cons (.ife (.or (.cmp .ne (.isi (.var 0) .list) (.isi (.var 1) .list)) (.cmp .ne (.isi (.var 0) .tuple) (.isi (.var 1) .tuple))) (.cons (.ret (.cst (.bl false))) .nil) .nil) r))) [some d,some d,none,none]=res :=
 cZ (bX (EY hN (ae rfl))) (cZ (bX (xS (aY (c6 (ae rfl) hb) (c6 (ae rfl) hb) (nR _)) (aY (c6 (ae rfl) hi) (c6 (ae rfl) hi) (nR _)))) (cZ (bX (xS (aY (c6 (ae rfl) hl) (c6 (ae rfl) hl) (nR _)) (aY (c6 (ae rfl) ht) (c6 (ae rfl) ht) (nR _)))) k))
def uL(hN:(match d with | .non=>some (D.bl (!false)) | .dK _ _=>none | .dT _ _=>none | .fT _=>none | _=>some (.bl false))=some (D.bl false))(hb:eR .bool d=some kb)(hi:eR .int d=some ki)(hl:eR .list d=some false)(ht:eR .tuple d=some false)(hs:eR .str d=some ks)(he:aZ .eq d d=some true):evF cl (cY fs) [d,d]=some (.bl true) :=
 bo rfl rfl (lV hN hb hi hl ht (hJ (bX (dS (hW (c6 (ae rfl) hl)) (hW (c6 (ae rfl) ht)))) (bI (dS (aY (c6 (ae rfl) hs) (c6 (ae rfl) hs) (Ew _)) (aY (ae rfl) (ae rfl) he)) rfl)))
end
def same_int(a:Int):evF cl (cY fs) [.int a,.int a]=some (.bl true):=uL rfl rfl rfl rfl rfl rfl (by rw[gE,beq_self_eq_true])
def kz:∀ xs:List D,eD xs xs=xs.map fun x=>.tup [x,x]
 | []=>rfl
 | x::r=>by simp[eD,kz r]
def uP:∀ xs:List β,cI (xs.map fun _=>D.bl true)=some (xs.map fun _=>true)
 | []=>rfl
 | x::r=>by simp[cI,uP r]
def xx{fs:Nat}{d:D}{xs:List D}(hd:d=.tup xs\/d=.lst xs)(hl:xs.length<=1000)(h:∀ x∈xs,cl fs [x,x]=some (.bl true)):evF cl (cY fs) [d,d]=some (.bl true):=by
 have al:biV .all (.lst (xs.map fun _=>.bl true))=some (.bl true):=by
  simp only[F9,uP];simp
 have mc:=pK (F:=fun σ1=>(ev cl σ1 (.call fs (.cons (.var 2) (.cons (.var 3) .nil)))).map some) (tg:=[2,3]) (σ:=[some d,some d,none,none]) (h:=fun x=>.tup [x,x]) (g:=fun _=>.bl true) (fun _=>rfl) xs (by
  intro x hx;show(ev cl [some d,some d,some x,some x] (.call fs (.cons (.var 2) (.cons (.var 3) .nil)))).map some=_;rw[ja (ae rfl) (ae rfl) (h x hx)]
  rfl)
 have it:items d=some xs:=by rcases hd with rfl | rfl<;>rfl
 have ln:biV .len d=some (.int xs.length):=by rcases hd with rfl | rfl<;>rfl
 have lq:aZ .eq (.int (xs.length:Int)) (.int (xs.length:Int))=some true:=by simp[gE]
 have lz:(eD xs xs).length<=most:=by rw[kz,List.length_map];unfold most;lia
 rw[<-kz]at mc;have tl:∀ {res:Option (Out × St)},some (Out.rt (.bl true),[some d,some d,none,none])=res->ag cl [] (.cons (.ret (.and (.cmp .eq (.bi .len (.var 0)) (.bi .len (.var 1))) (.bi .all (.compA (.call fs (.cons (.var 2) (.cons (.var 3) .nil))) [2,3] (.zip (.var 0) (.var 1)))))) .nil) [some d,some d,none,none]=res:=fun e=>(bI (dS (aY (dm (ae rfl) ln) (dm (ae rfl) ln) lq) (dm (rE (Ff (ae rfl) (ae rfl) it it rfl) lz mc) al)) rfl).trans e;rcases hd with rfl | rfl
 ·exact bo rfl rfl (lV rfl rfl rfl rfl rfl (cZ (bX (dS (hW (k:=false) (c6 (ae rfl) rfl)) (hW (k:=true) (c6 (ae rfl) rfl)))) (tl rfl)))
 ·exact bo rfl rfl (lV rfl rfl rfl rfl rfl (cZ (bX (iT (hW (k:=true) (c6 (ae rfl) rfl)))) (tl rfl)))
end RM
set_option maxHeartbeats 1000000
namespace RM
open RL RT
def uE(g:β->D)(im:∀ b,(g b).imm=true)(I:List β->St->Prop):∀ (w done:List β) (σ:St),(∀ u b v σ,done++w=u++b::v->I u σ->(∃ σ2,(aV tg (g b) σ).bind f=some (.nx,σ2)/\I (u++[b]) σ2)\/(B/\∃ σ2,(aV tg (g b) σ).bind f=some (.rt d,σ2)))->I done σ->(∃ σ',aP f tg (w.map g) σ=some (.nx,σ')/\I (done++w) σ')\/(B/\∃ σ',aP f tg (w.map g) σ=some (.rt d,σ'))
 | [],done,σ,_,h=>.inl ⟨σ,rfl,by simpa using h⟩
 | b::w,done,σ,hs,h=>by
  rcases hs done b w σ rfl h with⟨σ2,h1,h3⟩ | ⟨hB,σ2,h1⟩
  ·have go:∀ {r:Option (Out × St)},aP f tg (w.map g) σ2=r->aP f tg ((b::w).map g) σ=r:=fun {r} e=>by
    rw[List.map_cons,aP,if_pos (im b)]
    cases hb:aV tg (g b) σ with
    | none=>rw[hb]at h1;cases h1
    |some σ1=>
     rw[hb]at h1;simp only[Option.bind_some]at h1 ⊢;rw[h1];exact e
   rcases uE (d:=d) (B:=B) g im I w (done++[b]) σ2 (fun pre e post σ he=>hs pre e post σ (by simpa using he)) h3 with⟨σ',h4,h5⟩ | ⟨hB,σ',h4⟩
   ·exact .inl ⟨σ',go h4,by simpa using h5⟩
   ·exact .inr ⟨hB,σ',go h4⟩
  ·refine .inr ⟨hB,σ2,?_⟩;rw[List.map_cons,aP,if_pos (im b)]
   cases hb:aV tg (g b) σ with
   | none=>rw[hb]at h1;cases h1
   |some σ1=>
    rw[hb]at h1;simp only[Option.bind_some]at h1 ⊢;rw[h1];rfl
def vV(hi:(σ[i]?).bind id=some (.lst (xs++[.int p])))(h:ev cl (σ.set i (some (.lst xs))) e=some (.int q))(k:ag cl M (.cons (.ife (.cst (.bl (decide (p=q)))) b a) r) (σ.set i (some (.lst xs)))=res):ag cl M (.cons (.ifp i e a b) r) σ=res:=by
 have l:evS cl M (.ifp i e a b) σ=if decide (p=q)=true then ag cl M b (σ.set i (some (.lst xs)))else ag cl M a (σ.set i (some (.lst xs))):=by
  rw[E3,hi,Option.bind_some];show((xs++[D.int p])[(xs++[D.int p]).length-1]?).bind _=_;rw[show(xs++[D.int p])[(xs++[D.int p]).length-1]?=some (.int p) by simp,Option.bind_some,List.dropLast_concat,h];rfl
 have r':evS cl M (.ife (.cst (.bl (decide (p=q)))) b a) (σ.set i (some (.lst xs)))=if decide (p=q)=true then ag cl M b (σ.set i (some (.lst xs)))else ag cl M a (σ.set i (some (.lst xs))):=by
  rw[eE,ak];rfl
 rw[ag,r',<-l,<-ag]at k;exact k
abbrev Nx(r:Nat->Nat)(m:Nat):Prop:=∀ q q',q<q'->q'<r q->r q<m->¬ (r q<r q'\/r q'=q')
structure Oq(r:Nat->Nat)(k:Nat)(W:List Nat):Prop extends Op r k W where
 nx:Nx r k
 al:∀ q q',q<q'->q'<k->k<=r q->r q'≠q'
section
def Oq.push(O:Oq r k W)(inv:∀ q,q<m->r (r q)=q)(hk:k<m)(h:k<r k):Oq r (k+1) (W++[k]) where
 toOp:=O.toOp.push inv hk h
 nx:=fun q q' h1 h2 h3=>by
  by_cases c:r q=k
  ·exfalso;have:=inv q (by lia);rw[c]at this;lia
  ·exact O.nx q q' h1 h2 (by lia)
 al:=fun q q' h1 h2 h3=>by
  by_cases c:q'=k
  ·subst c;lia
  ·exact O.al q q' h1 (by lia) (by lia)
def Oq.alone(O:Oq r k [])(inv:∀ q,q<m->r (r q)=q)(hk:k<m)(h:r k=k):Oq r (k+1) []:=by
 have no:∀ q,q<k->k<=r q->False:=fun q h1 h2=>by
  have:=(O.mem q).mpr ⟨h1,h2⟩;cases this
 refine⟨⟨.nil,fun p=>⟨fun h=>(by cases h),fun⟨a,b⟩=>?_⟩⟩,fun q q' h1 h2 h3=>?_,fun q q' h1 h2 h3=>?_⟩
 ·by_cases c:p=k
  ·subst c;lia
  ·exact(no p (by lia) (by lia)).elim
 ·by_cases c:r q=k
  ·exfalso;have:=inv q (by lia);rw[c,h]at this;lia
  ·exact O.nx q q' h1 h2 (by lia)
 ·exact(no q (by lia) (by lia)).elim
def Oq.pop(O:Oq r k (W0++[r k]))(inv:∀ q,q<m->r (r q)=q)(hk:k<m)(h:r k<k):Oq r (k+1) W0:=by
 have up:=O.up;rw[List.pairwise_append]at up;refine⟨⟨up.1,fun p=>?_⟩,fun q q' h1 h2 h3=>?_,fun q q' h1 h2 h3=>?_⟩
 ·constructor
  ·intro hp;have lt:=up.2.2 p hp (r k) (by simp);have:=(O.mem p).mp (by simp[hp]);refine⟨by lia,?_⟩;by_cases c:r p=k
   ·have i:=inv p (by lia);rw[c]at i;lia
   ·lia
  ·rintro⟨a,b⟩
   have pk:p≠k:=by rintro rfl;lia
   have:=(O.mem p).mpr ⟨by lia,by lia⟩;simp at this;rcases this with h | h
   ·exact h
   ·rw[h,inv k hk]at b;lia
 ·by_cases c:r q=k
  ·have i:=inv q (by lia);rw[c]at i;subst i;rintro(z | z)
   ·have mq:=(O.mem q').mpr ⟨by lia,by lia⟩;simp at mq;rcases mq with mq | mq
    ·have:=up.2.2 q' mq (r k) (by simp);lia
    ·lia
   ·exact O.al (r k) q' h1 (by lia) (by lia) z
  ·exact O.nx q q' h1 h2 (by lia)
 ·by_cases c:q'=k
  ·subst c;lia
  ·exact O.al q q' h1 (by lia) (by lia)
end
def zK{cl:Cl}{m:Nat}{E:List Nat}(hm:m<=1000)(El:E.length=m)(inv:∀ q,q<m->at' E (at' E q)=q)(lt:∀ q,q<m->at' E q<m):∃ b:Bool,evF cl eN [.tup (L E)]=some (.bl b)/\(b=true->Nx (at' E) m)/\(Nx (at' E) m->b=true):=by
 have en:=qu El
 have st:=uE (B:=¬ Nx (at' E) m) (f:=ag cl [1] bz) (tg:=[2,3]) (d:=.bl false) (pr E) (fun _=>rfl)
  (fun u σ=>∃ (W:List Nat) (o2 o3:Option D),σ=[some (.tup (L E)),some (.lst (L W)),o2,o3]/\Oq (at' E) u.length W/\W.length<=u.length)
  (List.range m) [] [some (.tup (L E)),some (.lst (L [])),none,none] (by
   rintro u p v σ hu ⟨W,o2,o3,rfl,O,Wl⟩;obtain⟨hk,hp⟩:=qN (g:=id) (by simpa using hu);simp only[id]at hp;subst hp
   have ml:(L W).length<most:=by rw[bP];unfold most;lia
   by_cases c:u.length<at' E u.length
   ·refine .inl ⟨_,show ag cl [1] bz [some (.tup (L E)),some (.lst (L W)),some (.int (u.length:Nat)),some (.int (at' E u.length:Nat))]=some (.nx,_)from iO (bX (aY (k:=true) (ae rfl) (ae rfl) (by rw[mh,decide_eq_true (by lia)]))) (vv (ae rfl) rfl rfl ml bC) bC,W++[u.length],some (.int (u.length:Nat)),some (.int (at' E u.length:Nat)),?_,?_,?_⟩
    ·rw[dM];rfl
    ·rw[List.length_append];exact O.push inv hk c
    ·simp;lia
   ·have cg:(ev cl [some (.tup (L E)),some (.lst (L W)),some (.int (u.length:Nat)),some (.int (at' E u.length:Nat))] (.cmp .gt (.var 3) (.var 2))).bind truth=some false:=bX (aY (k:=false) (ae rfl) (ae rfl) (by rw[mh,decide_eq_false (by lia)]));by_cases c2:at' E u.length=u.length
    ·have ce:(ev cl [some (.tup (L E)),some (.lst (L W)),some (.int (u.length:Nat)),some (.int (at' E u.length:Nat))] (.cmp .eq (.var 3) (.var 2))).bind truth=some true:=bX (aY (k:=true) (ae rfl) (ae rfl) (by rw[gE,c2,beq_self_eq_true]))
     cases W with
     |nil=>
      exact .inl ⟨_,show ag cl [1] bz [some (.tup (L E)),some (.lst (L [])),some (.int (u.length:Nat)),some (.int (at' E u.length:Nat))]=some (.nx,_)from kR cg (iO ce (cZ (by rw[ae rfl];rfl) bC) bC) bC,[],_,_,rfl,by rw[List.length_append];exact O.alone inv hk c2,by simp⟩
     |cons w W=>
      exact .inr ⟨fun N=>by
       obtain⟨w1,w2⟩:=(O.mem w).mp (List.mem_cons_self ..)
       have wk:at' E w≠u.length:=fun z=>by
        have:=inv w (by lia);rw[z,c2]at this;lia
       exact N w u.length w1 (by lia) (lt w (by lia)) (.inr c2),_,show ag cl [1] bz [some (.tup (L E)),some (.lst (L (w::W))),some (.int (u.length:Nat)),some (.int (at' E u.length:Nat))]=some (.rt (.bl false),_)from jw cg (hJ ce (hJ (by rw[ae rfl];rfl) (bI ak rfl)))⟩
    ·have ce:(ev cl [some (.tup (L E)),some (.lst (L W)),some (.int (u.length:Nat)),some (.int (at' E u.length:Nat))] (.cmp .eq (.var 3) (.var 2))).bind truth=some false:=bX (aY (k:=false) (ae rfl) (ae rfl) (by rw[gE,beq_eq_false_iff_ne.mpr (by lia)]));have m1:at' E u.length∈W:=(O.mem _).mpr ⟨by lia,by rw[inv _ hk];exact Nat.le_refl _⟩;have ne:W≠[]:=List.ne_nil_of_mem m1;have dl:=List.dropLast_concat_getLast ne;generalize W.getLast ne=z at dl;generalize W.dropLast=W0 at dl;subst dl
     have hi:(([some (D.tup (L E)),some (.lst (L (W0++[z]))),some (.int (u.length:Nat)),some (.int (at' E u.length:Nat))]:St)[1]?).bind id=some (.lst (L W0++[.int (z:Nat)])):=by rw[dM];rfl
     by_cases c3:z=at' E u.length
     ·refine .inl ⟨_,show ag cl [1] bz [some (.tup (L E)),some (.lst (L (W0++[z]))),some (.int (u.length:Nat)),some (.int (at' E u.length:Nat))]=some (.nx,_)from kR cg (kR ce (vV hi (ae rfl) (iO (by rw[ak,decide_eq_true (by lia)];rfl) bC bC)) bC) bC,W0,_,_,rfl,?_,?_⟩
      ·rw[List.length_append];subst c3;exact O.pop inv hk (by lia)
      ·simp at Wl ⊢;lia
     ·exact .inr ⟨fun N=>by
       have up:=O.up;rw[List.pairwise_append]at up
       have m0:at' E u.length∈W0:=by
        rcases List.mem_append.mp m1 with h | h
        ·exact h
        ·exact absurd (List.mem_singleton.mp h).symm c3
       have lz:=up.2.2 _ m0 z (by simp);have zz:=(O.mem z).mp (by simp)
       have zk:at' E z≠u.length:=fun q=>by
        have:=inv z (by lia);rw[q]at this;exact c3 this.symm
       have i:=inv u.length hk
       exact N (at' E u.length) z lz (by rw[i];exact zz.1) (by rw[i];exact hk) (.inl (by rw[i];lia)),_,show ag cl [1] bz [some (.tup (L E)),some (.lst (L (W0++[z]))),some (.int (u.length:Nat)),some (.int (at' E u.length:Nat))]=some (.rt (.bl false),_)from jw cg (jw ce (vV hi (ae rfl) (jw (by rw[ak,decide_eq_false (by lia)];rfl) (bI ak rfl))))⟩)
  ⟨[],none,none,rfl,⟨⟨by simp,by simp⟩,fun q q' _ _ h=>absurd h (Nat.not_lt_zero _),fun q q' _ h=>absurd h (Nat.not_lt_zero _)⟩,by simp⟩
 rw[<-en]at st
 rcases st with⟨σ',e,W,o2,o3,rfl,O,_⟩ | ⟨nN,σ',e⟩
 ·refine⟨true,bo rfl rfl (eY (iy cD) rfl (kT (yI (ae rfl) rfl) e (bI ak rfl))),fun _=>?_,fun _=>rfl⟩;have:=O.nx;rw[List.nil_append,List.length_range]at this;exact this
 ·exact⟨false,bo rfl rfl (eY (iy cD) rfl (sq (yI (ae rfl) rfl) e)),(fun h=>by cases h),fun N=>absurd N nN⟩
end RM
set_option maxHeartbeats 1000000
namespace RM
open RL RT
abbrev xi(xs:List Int)(p:Nat):Int:=(xs[p]?).getD 0
abbrev nb(xs:List Int)(p:Nat):Bool:=decide (0<=xi xs p/\xi xs p<xs.length)&&decide (xi xs (xi xs p).toNat=p)
def yM(h:p<xs.length):ixV (.tup (LI xs)) (.int (p:Nat))=some (.int (xi xs p)):=by
 show c8 _ _=_;rw[fR];simp[LI,xi,h]
def pj(xs:List Int):biV .len (.tup (LI xs))=some (.int (xs.length:Nat)):=congrArg (fun n:Nat=>some (D.int n)) (wq xs)
def bls(g:β->Bool):∀ xs:List β,cI (xs.map fun x=>D.bl (g x))=some (xs.map g)
 | []=>rfl
 | x::r=>by rw[List.map_cons,cI,bls g r];rfl
def A4(g:β->Bool)(xs:List β):biV .all (.lst (xs.map fun x=>D.bl (g x)))=some (.bl (xs.all g)):=by
 show(cI (xs.map fun x=>D.bl (g x))).map _=_;rw[bls,Option.map_some,List.all_map];rfl
section
def Cq(hnum:∀ i:Int,cl fn [.int i]=some (.bl true))(hp:p<xs.length):evF cl (fU fn) [.tup (LI xs),.int (p:Nat)]=some (.bl (nb xs p)):=by
 unfold nb;have a1:ev cl [some (.tup (LI xs)),some (.int (p:Nat)),some (.int (xi xs p))] (.call fn (.cons (.var 2) .nil))=some (.bl true):=lK (ae rfl) (hnum _);have as:∀ {res:Option (Out × St)} {r:Ss},ag cl [] r [some (.tup (LI xs)),some (.int (p:Nat)),some (.int (xi xs p))]=res->ag cl [] (.cons (.asg 2 (.ix (.var 0) (.var 1))) r) [some (.tup (LI xs)),some (.int (p:Nat)),none]=res:=fun h=>bc (iE (ae rfl) (ae rfl) (yM hp)) rfl h;by_cases c:0<=xi xs p/\xi xs p<xs.length
 ·rw[decide_eq_true c,Bool.true_and];obtain⟨j,hj⟩:=Int.eq_ofNat_of_zero_le c.1;rw[hj]at c as a1 ⊢;have i2:=yM (xs:=xs) (p:=j) (by lia)
  exact bo rfl rfl (as (bI (dS a1 (dS (sC (k:=true) ak (ae rfl) (dm (ae rfl) (pj xs)) (by rw[qi,decide_eq_true c.1]) (by rw[jT,decide_eq_true c.2])) (aY (iE (ae rfl) (ae rfl) i2) (ae rfl) (by
   rw[gE,Int.toNat_natCast]
   congr 1)))) rfl))
 ·rw[decide_eq_false c,Bool.false_and];by_cases c1:0<=xi xs p
  ·exact bo rfl rfl (as (bI (dS a1 (iT (sC (k:=false) ak (ae rfl) (dm (ae rfl) (pj xs)) (by rw[qi,decide_eq_true c1]) (by rw[jT,decide_eq_false (fun z=>c ⟨c1,z⟩)])))) rfl))
  ·exact bo rfl rfl (as (bI (dS a1 (iT (wY ak (ae rfl) (by rw[qi,decide_eq_false c1])))) rfl))
def qJ(hm:xs.length<=1000)(hb:∀ p:Nat,p<xs.length->cl fb [.tup (LI xs),.int (p:Nat)]=some (.bl (nb xs p))):evF cl (fQ fb) [.tup (LI xs)]=some (.bl ((List.range xs.length).all (nb xs))):=by
 have mc:=pK (F:=fun σ1=>(ev cl σ1 (.call fb (.cons (.var 0) (.cons (.var 1) .nil)))).map some) (tg:=[1]) (σ:=[some (.tup (LI xs)),none]) (h:=fun p=>.int (p:Nat)) (g:=fun p=>.bl (nb xs p)) (fun _=>rfl) (List.range xs.length) (by
  intro p hp;show(ev cl [some (.tup (LI xs)),some (.int (p:Nat))] (.call fb (.cons (.var 0) (.cons (.var 1) .nil)))).map some=_;rw[ja (ae rfl) (ae rfl) (hb p (List.mem_range.mp hp))]
  rfl)
 exact bo rfl rfl (bI (dS (c6 (ae rfl) rfl) (dm (rE (gR (dm (ae rfl) (pj xs)) (dE hm)) (by rw[bP,List.length_range];unfold most;lia) mc) (A4 _ _))) rfl)
def Gf(f:List Nat):L f=LI (f.map Int.ofNat):=by unfold L LI;rw[List.map_map];rfl
def t7(len:h.length=m)(lt:∀ q,q<m->at' h q<m)(inv:∀ q,q<m->at' h (at' h q)=q):(List.range (h.map Int.ofNat).length).all (nb (h.map Int.ofNat))=true:=by
 have x1:∀ q,q<m->xi (h.map Int.ofNat) q=(at' h q:Nat):=fun q hq=>by simp[xi,at',show q<h.length by lia]
 rw[List.all_eq_true,List.length_map,len];intro q hq;have hq:=List.mem_range.mp hq;have l:=lt q hq;unfold nb;rw[x1 q hq,Int.toNat_natCast,x1 _ l,inv q hq,List.length_map,len];rw[decide_eq_true ⟨by lia,by lia⟩];simp
end
structure Dg(T:List Fn)(mx rw dg:Nat):Prop where
 FY:T[mx]?=some jk
 F8:T[rw]?=some (iS mx)
 Fw:T[dg]?=some (eF rw)
def Dg.digits{T:List Fn}{mx rw dg:Nat}(h:Dg T mx rw dg){ns:List Int}(hl:ns.length<=63)(n:Nat){k:Nat}{sizes:List Nat}(hk:k<=1000)(hp:∀ s∈sizes,0<s/\s<2 ^ 200)(hz:sizes.length<=1000) :
  ∃ ds:List Nat,iR ds sizes/\a8 T (n+3) dg [.lst (LI ns),.int k,.lst (L sizes)]=some (.lst (L ds)):=by
 obtain⟨r,hr⟩:=A7 (cl:=a8 T (n+1)) (f:=mx) (fun s=>by
  obtain⟨m,hm⟩:=zH (cl:=a8 T n) s
  exact⟨m,(az h.FY).trans hm⟩) hl hk
 obtain⟨ds,h1,h2⟩:=uh (cl:=a8 T (n+2)) (f:=rw) ((az h.F8).trans hr) hp hz;exact⟨ds,h1,(az h.Fw).trans h2⟩
section
variable{T:List Fn}{mx rw dg pl hk ci ft tx rg hu ov fr:Nat}
end
structure Ck(T:List Fn)(nu pc pa nb un if' cf po rp ir mv:Nat):Prop where
 FX:T[nu]?=some d7
 F1:T[pc]?=some (c7 nu)
 Gk:T[pa]?=some (fQ nb)
 F7:T[nb]?=some (fU nu)
 FU:T[un]?=some eN
 E7:T[if']?=some (fD un ir pa pc po)
 Fx:T[cf]?=some (dA if')
 BQ:T[po]?=some eW
 Fy:T[rp]?=some cK
 F5:T[ir]?=some (eg mv rp po)
 Gj:T[mv]?=some gY
section
variable{T:List Fn}{nu pc pa nb un if' cf po rp ir mv:Nat}
def Ck.num(h:Ck T nu pc pa nb un if' cf po rp ir mv)(n:Nat)(i:Int):a8 T (n+1) nu [.int i]=some (.bl true):=(az h.FX).trans (fv i)
def Ck.FJ(h:Ck T nu pc pa nb un if' cf po rp ir mv)(n:Nat)(i:Int):a8 T (n+2) pc [.int i]=some (.bl (decide (1<=i/\i<=10))):=(az h.F1).trans (gf (h.num n) i)
def Ck.of(h:Ck T nu pc pa nb un if' cf po rp ir mv)(n:Nat)(xs:List D):a8 T (n+1) po [.tup xs]=some (.int (xs.length / 2)):=(az h.BQ).trans (oN xs)
def Ck.ofL(h:Ck T nu pc pa nb un if' cf po rp ir mv)(n:Nat)(xs:List D):a8 T (n+1) po [.lst xs]=some (.int (xs.length / 2)):=(az h.BQ).trans (jQ xs)
def Ck.place(h:Ck T nu pc pa nb un if' cf po rp ir mv)(n:Nat){k p:Nat}(hp:p<2*k):a8 T (n+1) rp [.int k,.int (p:Nat)]=some (.int (rd k p:Nat)):=(az h.Fy).trans (kJ hp)
def Ck.move(h:Ck T nu pc pa nb un if' cf po rp ir mv)(n:Nat){k:Nat}{f:List Nat}{U:D}{to:Nat->Nat}(hk:k<=10)(F:Frm k f)(hT:∀ p:Nat,p<2*k->ixV U (.int (p:Nat))=some (.int (to p:Nat)))(hlt:∀ p,p<2*k->to p<2*k)(inj:∀ p q,p<2*k->q<2*k->to p=to q->p=q) :
  ∃ E:List Nat,E.length=2*k/\(∀ p,p<2*k->at' E (to p)=to (at' f p))/\a8 T (n+1) mv [.tup (L f),U]=some (.tup (L E)):=by
 obtain⟨E,h1,h2,h3⟩:=vN (cl:=a8 T n) (T:=U) (to:=to) hk F hT hlt inj;exact⟨E,h1,h2,(az h.Gj).trans h3⟩
def Ck.round(h:Ck T nu pc pa nb un if' cf po rp ir mv)(n:Nat){k:Nat}{f:List Nat}(hk:k<=10)(F:Frm k f):∃ E:List Nat,E.length=2*k/\(∀ q,q<2*k->at' E q=rnd k f q)/\a8 T (n+2) ir [.tup (L f)]=some (.tup (L E)):=by
 obtain⟨E,h1,h2,h3⟩:=qk (cl:=a8 T (n+1)) (fm:=mv) (frp:=rp) (fpo:=po) hk F (h.of n) (fun p hp=>h.place n hp) (h.move n (U:=.lst (L (mj k))) (to:=rd k) hk F (fun p hp=>AA hp) (fun p hp=>aM hp) (fun p q hp hq h=>oK hp hq h));exact⟨E,h1,h2,(az h.F5).trans h3⟩
def Ck.frame(h:Ck T nu pc pa nb un if' cf po rp ir mv)(n:Nat){k:Nat}{f:List Nat}(h1:1<=k)(hk:k<=10)(V:Val k f):a8 T (n+4) if' [.tup (L f)]=some (.bl true) :=
 (az h.E7).trans (pA h1 hk V (h.of (n+2)) (by rw[h.FJ (n+1),decide_eq_true (by lia)])
  (by
   have F:=V.frm;have p:=(az (n:=n+2) h.Gk).trans (qJ (xs:=f.map Int.ofNat) (by rw[List.length_map,F.len];lia) fun q hq=>(az h.F7).trans (Cq (h.num n) hq));rw[t7 F.len F.lt (fun q _=>F.inv q),<-Gf]at p
   exact p)
  (h.round (n+1) hk V.frm) (fun E a b c d l=>(az h.FU).trans (by
   obtain⟨w,e,_,hb⟩:=zK (cl:=a8 T (n+2)) (m:=2*k) (by lia) a b l
   rw[hb fun q q' x y z w=>by
    have:=d q q' (by lia) (by lia);have:=c q' (by lia)
    lia]at e
   exact e)))
def Ck.check(h:Ck T nu pc pa nb un if' cf po rp ir mv)(n:Nat){k:Nat}{f:List Nat}(h1:1<=k)(hk:k<=10)(V:Val k f):a8 T (n+5) cf [.tup (L f)]=some .non:=(az h.Fx).trans (lF (h.frame n h1 hk V))
end
abbrev Cyc(a b c d:Nat):Prop:=(a<b/\b<c/\c<d)\/(b<c/\c<d/\d<a)\/(c<d/\d<a/\a<b)\/(d<a/\a<b/\b<c)
def rP{m:Nat}{r:Nat->Nat}(inv:∀ q,q<m->r (r q)=q)(nox:∀ q q',q<m->q'<m->¬ (q<q'/\q'<r q/\r q<r q'))(ha:a<m)(hb:b<m)(hc:c<m)(hd:d<m)(e1:r a=c)(e2:r b=d):¬ Cyc a b c d:=by
 have e3:r c=a:=by rw[<-e1];exact inv a ha
 have e4:r d=b:=by rw[<-e2];exact inv b hb
 rintro(h | h | h | h)
 ·exact nox a b ha hb ⟨h.1,by lia,by lia⟩
 ·exact nox b c hb hc ⟨h.1,by lia,by lia⟩
 ·exact nox c d hc hd ⟨h.1,by lia,by lia⟩
 ·exact nox d a hd ha ⟨h.1,by lia,by lia⟩
def du(hf:f.length=n)(hg:g.length=n)(h:∀ x,x<n->at' f x=at' g x):f=g:=by
 refine List.ext_getElem? fun x=>?_;by_cases hx:x<n
 ·rw[df (by lia),df (by lia),h x hx]
 ·rw[List.getElem?_eq_none (by lia),List.getElem?_eq_none (by lia)]
structure Way(n:Nat)(to ba:Nat->Nat):Prop where
 lt:∀ p,p<2*n->to p<2*n
 blt:∀ p,p<2*n->ba p<2*n
 tb:∀ p,p<2*n->to (ba p)=p
 bt:∀ p,p<2*n->ba (to p)=p
 cyc:∀ a b c d,a<2*n->b<2*n->c<2*n->d<2*n->a<b->b<c->c<d->Cyc (rd n (ba (rd n a))) (rd n (ba (rd n b))) (rd n (ba (rd n c))) (rd n (ba (rd n d)))\/Cyc (rd n (ba (rd n d))) (rd n (ba (rd n c))) (rd n (ba (rd n b))) (rd n (ba (rd n a)))
abbrev aO(n:Nat)(to ba:Nat->Nat)(f:List Nat):List Nat:=(List.range (2*n)).map fun p=>to (at' f (ba p))
def eP(n:Nat)(to ba:Nat->Nat)(f:List Nat):(aO n to ba f).length=2*n:=by simp[aO]
def bb(h:p<2*n):at' (aO n to ba f) p=to (at' f (ba p)):=by
 simp[aO,at',h]
def Way.inj(W:Way n to ba)(hp:p<2*n)(hq:q<2*n)(h:to p=to q):p=q:=by rw[<-W.bt p hp,h,W.bt q hq]
def Way.val{n:Nat}{to ba:Nat->Nat}(W:Way n to ba)(V:Val n f):Val n (aO n to ba f):=by
 have F:=V.frm;have hl:=eP n to ba f;refine⟨⟨hl,fun x hx=>?_,fun x=>?_,fun x hx e=>?_⟩,fun q q' hq hq' h=>?_⟩
 ·rw[bb hx];exact W.lt _ (F.lt _ (W.blt _ hx))
 ·by_cases hx:x<2*n
  ·have h1:=F.lt _ (W.blt _ hx);rw[bb hx,bb (W.lt _ h1),W.bt _ h1,F.inv,W.tb _ hx]
  ·rw[gS (f:=aO n to ba f) (x:=x) (by lia),gS (by lia)]
 ·rw[bb hx]at e;have h1:=F.lt _ (W.blt _ hx)
  have:at' f (ba x)=ba x:=by rw[<-W.bt _ h1,e]
  exact F.no _ (W.blt _ hx) this
 ·obtain⟨h1,h2,h3⟩:=h;have rl:∀ q,q<2*n->rnd n f q<2*n:=fun q hq=>aM (F.lt _ (aM hq))
  have rr:∀ q,q<2*n->rnd n f (rnd n f q)=q:=fun q hq=>by
   unfold rnd;rw[bu (F.lt _ (aM hq)),F.inv,bu hq]
  have key:∀ q,q<2*n->rnd n (aO n to ba f) q<2*n/\rnd n f (rd n (ba (rd n q)))=rd n (ba (rd n (rnd n (aO n to ba f) q))):=fun q hq=>by
   have a1:=aM hq;have a2:=W.blt _ a1;have a3:=F.lt _ a2;unfold rnd;rw[bb a1];refine⟨aM (W.lt _ a3),?_⟩;rw[bu a2,bu (W.lt _ a3),W.bt _ a3]
  obtain⟨k1,k2⟩:=key q hq;obtain⟨k3,k4⟩:=key q' hq';have bl:∀ q,q<2*n->rd n (ba (rd n q))<2*n:=fun q hq=>aM (W.blt _ (aM hq));rcases W.cyc q q' _ _ hq hq' k1 k3 h1 h2 h3 with c | c
  ·exact rP rr V.nox (bl _ hq) (bl _ hq') (bl _ k1) (bl _ k3) k2 k4 c
  ·refine rP rr V.nox (bl _ k3) (bl _ k1) (bl _ hq') (bl _ hq) ?_ ?_ c
   ·rw[<-k4,rr _ (bl _ hq')]
   ·rw[<-k2,rr _ (bl _ hq)]
abbrev ovr(n p:Nat):Nat:=if p<n then p+n else p-n
abbrev mir(n p:Nat):Nat:=if p<n then n-1-p else 3*n-1-p
def yU(c:q<n):rd n q=q:=by unfold rd;rw[if_pos c]
def ze(c:¬ q<n):rd n q=3*n-1-q:=by unfold rd;rw[if_neg c]
def eI(c:q<n):ovr n q=q+n:=by unfold ovr;rw[if_pos c]
def jf(c:¬ q<n):ovr n q=q-n:=by unfold ovr;rw[if_neg c]
def bJ(hp:p<2*n):ovr n p<2*n/\ovr n (ovr n p)=p:=by
 by_cases c:p<n
 ·rw[eI c,jf (by lia)];exact⟨by lia,by lia⟩
 ·rw[jf c,eI (by omega)];exact⟨by lia,by lia⟩
def kG(hq:q<2*n):rd n (ovr n (rd n q))=2*n-1-q:=by
 by_cases c:q<n
 ·rw[yU c,eI c,ze (by lia)];lia
 ·rw[ze c,jf (by omega),yU (by omega)];lia
def cw(n:Nat):Way n (ovr n) (ovr n) :=
 ⟨fun p hp=>(bJ hp).1,fun p hp=>(bJ hp).1,fun p hp=>(bJ hp).2,fun p hp=>(bJ hp).2,fun a b c d ha hb hc hd h1 h2 h3=>.inr (.inl (by
  rw[kG ha,kG hb,kG hc,kG hd]
  exact⟨by lia,by lia,by omega⟩))⟩
def zC(W:Way n to ba)(W':Way n to' ba'):aO n to' ba' (aO n to ba f)=aO n (fun p=>to' (to p)) (fun p=>ba (ba' p)) f:=by
 refine du (n:=2*n) (eP ..) (eP ..) fun p hp=>?_;rw[bb hp,bb (W'.blt _ hp),bb hp]
def Bv(F:Frm n f)(h1:∀ p,p<2*n->to p=p)(h2:∀ p,p<2*n->ba p=p):aO n to ba f=f:=by
 refine du (n:=2*n) (eP ..) F.len fun p hp=>?_;rw[bb hp,h2 p hp,h1 _ (F.lt _ hp)]
def cE:∀ {a b:List Nat},a.Nodup->(∀ x∈a,x∈b)->a.length<=b.length
 | [],_,_,_=>Nat.zero_le _
 | x::r,b,hn,h=>by
  rw[List.nodup_cons]at hn;have hx:=h x List.mem_cons_self;have:=cE (a:=r) (b:=b.erase x) hn.2 fun y hy=>(List.mem_erase_of_ne (fun e=>hn.1 (by rw[<-e];exact hy))).mpr (h y (List.mem_cons_of_mem _ hy));rw[List.length_erase_of_mem hx]at this;have:0<b.length:=List.length_pos_of_mem hx;simp only[List.length_cons];lia
abbrev cnt(n:Nat)(P:Nat->Bool):Nat:=((List.range n).filter P).length
def ET(hl:ns.length<=63):oU (.scr (LI ns)) (.int 63)=some (.lst (LI ns)):=by
 show some (D.lst ((LI ns).take (cutAt (LI ns).length 63)))=_;rw[List.take_of_length_le]
 have:(LI ns).length=ns.length:=by simp[LI]
 rw[this];unfold cutAt;rw[if_pos (by decide)];have:(63:Int).toNat=63:=rfl;lia
section
end
section
variable{nu pc pa nb un if' cf po rp ir mv:Nat}
def Bw{n:Nat}{to ba:Nat->Nat}{f E:List Nat}(W:Way n to ba)(h1:E.length=2*n)(h2:∀ p,p<2*n->at' E (to p)=to (at' f p)):E=aO n to ba f:=by
 refine du h1 (eP ..) fun p hp=>?_;rw[bb hp];have:=h2 (ba p) (W.blt _ hp);rw[W.tb _ hp]at this;exact this
end
end RM
set_option maxHeartbeats 1000000
namespace RT
open RL
end RT
namespace RM
open RL RT
section
end
structure Two(m:Nat)(a b:Nat->Nat):Prop where
 al:∀ x,x<m->a x<m
 bl:∀ x,x<m->b x<m
 ai:∀ x,x<m->a (a x)=x
 bi:∀ x,x<m->b (b x)=x
abbrev wk(a b:Nat->Nat)(x:Nat):Nat->Nat
 | 0=>x
 | k+1=>if k%2=0 then b (wk a b x k)else a (wk a b x k)
abbrev Stp(a b:Nat->Nat)(x k:Nat):Prop:=wk a b x (k+1)=wk a b x k\/wk a b x (k+1)=x
noncomputable instance{a b:Nat->Nat}{x k:Nat}:Decidable (Stp a b x k):=inferInstanceAs (Decidable (_\/_))
section
def d9(h:k%2=0):wk a b x (k+1)=b (wk a b x k):=by rw[wk,if_pos h]
def gv(h:k%2=1):wk a b x (k+1)=a (wk a b x k):=by rw[wk,if_neg (by lia)]
def iC(T:Two m a b)(hx:x<m):∀ k,wk a b x k<m
 | 0=>hx
 | k+1=>by
  rw[wk];split
  ·exact T.bl _ (iC T hx k)
  ·exact T.al _ (iC T hx k)
def hG(T:Two m a b)(hx:x<m)(k:Nat):(if k%2=0 then b (wk a b x (k+1))else a (wk a b x (k+1)))=wk a b x k:=by
 have h:=iC T hx k;rw[wk];split
 ·exact T.bi _ h
 ·exact T.ai _ h
def D5(T:Two m a b)(hx:x<m)(hp:i%2=j%2)(h:wk a b x (i+1)=wk a b x (j+1)):wk a b x i=wk a b x j:=by
 rw[<-hG T hx i,<-hG T hx j,h,hp]
def qU(T:Two m a b)(hx:x<m)(hs:∀ j,j<k->¬ Stp a b x j)(hd:d%2=1):∀ i,i+(d+1)<=k->wk a b x i≠wk a b x (i+(d+1))
 | 0,hk,h=>hs d (by lia) (.inr (by rw[Nat.zero_add]at h;exact h.symm))
 | i+1,hk,h=>qU T hx hs hd i (by lia) (D5 T hx (i:=i) (j:=i+(d+1)) (by lia) (by rw[h];congr 1;lia))
def wb(T:Two m a b)(hx:x<m)(hs:∀ j,j<k->¬ Stp a b x j):∀ (c i:Nat),i+(2*c+1)<=k->wk a b x i≠wk a b x (i+(2*c+1))
 | 0,i,hk,h=>hs i (by lia) (.inl h.symm)
 | c+1,i,hk,h=>by
  refine wb T hx hs c (i+1) (by lia) ?_;have h1:=hG T hx (i+(2*c+2));rw[show i+(2*c+2)+1=i+(2*(c+1)+1) by lia,<-h]at h1
  have h2:wk a b x (i+1)=if(i+(2*c+2))%2=0 then b (wk a b x i)else a (wk a b x i):=by
   rw[wk]
   have:(i+(2*c+2))%2=i%2:=by lia
   rw[this]
  rw[h2,h1];congr 1;lia
def jC(T:Two m a b)(hx:x<m)(hs:∀ j,j<k->¬ Stp a b x j)(hij:i<j)(hj:j<=k):wk a b x i≠wk a b x j:=by
 obtain⟨d,rfl⟩:∃ d,j=i+(d+1):=⟨j-i-1,by lia⟩
 by_cases c:d%2=1
 ·exact qU T hx hs c i hj
 ·obtain⟨e,rfl⟩:∃ e,d=2*e:=⟨d / 2,by lia⟩
  exact wb T hx hs e i hj
def least{P:Nat->Prop} [DecidablePred P]:∀ n,P n->∃ k,k<=n/\P k/\∀ j,j<k->¬ P j:=by
 intro n
 induction n using Nat.strongRecOn with
 |_ n ih=>
  intro h;by_cases c:∃ j,j<n/\P j
  ·obtain⟨j,hj,hp⟩:=c;obtain⟨k,h1,h2,h3⟩:=ih j hj hp;exact⟨k,by lia,h2,h3⟩
  ·exact⟨n,Nat.le_refl _,h,fun j hj hp=>c ⟨j,hj,hp⟩⟩
def jS(T:Two m a b)(hx:x<m):∃ k,k<m/\Stp a b x k/\∀ j,j<k->¬ Stp a b x j:=by
 by_cases c:∃ k,k<m/\Stp a b x k
 ·obtain⟨k,h1,h2⟩:=c;obtain⟨j,h3,h4,h5⟩:=least k h2;exact⟨j,by lia,h4,h5⟩
 ·exfalso;have hs:∀ j,j<m->¬ Stp a b x j:=fun j hj h=>c ⟨j,hj,h⟩
  have nd:((List.range (m+1)).map (wk a b x)).Nodup:=by
   rw[List.nodup_iff_pairwise_ne,List.pairwise_map];refine List.Pairwise.imp_of_mem ?_ (List.pairwise_lt_range (n:=m+1));intro i j hi hj hlt;exact jC T hx hs hlt (by have:=List.mem_range.mp hj;lia)
  have:=cE nd (b:=List.range m) fun y hy=>by
   obtain⟨i,_,rfl⟩:=List.mem_map.mp hy;exact List.mem_range.mpr (iC T hx i)
  simp at this;lia
inductive Cn (a b:Nat->Nat) (x:Nat):Nat->Prop
 | refl:Cn a b x x
 | sa {y:Nat}:Cn a b x y->Cn a b x (a y)
 | sb {y:Nat}:Cn a b x y->Cn a b x (b y)
def Cn.lt(T:Two m a b)(hx:x<m)(h:Cn a b x y):y<m:=by
 induction h with
 | refl=>exact hx
 | sa _ ih=>exact T.al _ ih
 | sb _ ih=>exact T.bl _ ih
def Cn.trans(h:Cn a b x y)(h':Cn a b y z):Cn a b x z:=by
 induction h' with
 | refl=>exact h
 | sa _ ih=>exact .sa ih
 | sb _ ih=>exact .sb ih
def Cn.symm(T:Two m a b)(hx:x<m)(h:Cn a b x y):Cn a b y x:=by
 induction h with
 | refl=>exact .refl
 |@sa y h ih=>
  have:=Cn.sa (a:=a) (b:=b) (Cn.refl (x:=a y));rw[T.ai _ (h.lt T hx)]at this;exact this.trans ih
 |@sb y h ih=>
  have:=Cn.sb (a:=a) (b:=b) (Cn.refl (x:=b y));rw[T.bi _ (h.lt T hx)]at this;exact this.trans ih
def kL:∀ k,Cn a b x (wk a b x k)
 | 0=>.refl
 | k+1=>by
  rw[wk];split
  ·exact .sb (kL k)
  ·exact .sa (kL k)
def sM(T:Two m a b)(hx:x<m)(st:Stp a b x k)(hs:∀ j,j<k->¬ Stp a b x j)(h:a x=x\/∀ y,Cn a b x y->a y≠y/\b y≠y)(hy:Cn a b x y):∃ i,i<=k/\wk a b x i=y:=by
 have bx:∃ i,i<=k/\wk a b x i=b x:=by
  by_cases c:k=0
  ·subst c;refine⟨0,Nat.le_refl _,?_⟩;rcases st with st | st
   ·rw[d9 rfl]at st;exact st.symm
   ·rw[d9 rfl]at st;exact st.symm
  ·exact⟨1,by lia,d9 rfl⟩
 have key:∀ j,0<j->j<=k->(∃ i,i<=k/\wk a b x i=a (wk a b x j))/\∃ i,i<=k/\wk a b x i=b (wk a b x j):=by
  intro j h0 hj;have prev:=hG T hx (j-1);rw[show j-1+1=j by omega]at prev
  have next:∃ i,i<=k/\wk a b x i=wk a b x (j+1):=by
   by_cases c:j<k
   ·exact⟨j+1,by lia,rfl⟩
   ·have:j=k:=by lia
    subst this;rcases st with st | st
    ·exact⟨j,Nat.le_refl _,st.symm⟩
    ·exact⟨0,by lia,st.symm⟩
  by_cases c:j%2=0
  ·rw[if_neg (by lia)]at prev
   rw[d9 c]at next
   exact⟨⟨j-1,by lia,prev.symm⟩,next⟩
  ·rw[if_pos (by lia)]at prev
   rw[gv (by lia)]at next
   exact⟨next,⟨j-1,by omega,prev.symm⟩⟩
 have ax:∃ i,i<=k/\wk a b x i=a x:=by
  rcases h with h | h
  ·exact⟨0,by lia,h.symm⟩
  ·rcases st with st | st
   ·exfalso;have hc:=h _ (kL k);by_cases c:k%2=0
    ·rw[d9 c]at st;exact hc.2 st
    ·rw[gv (by lia)]at st;exact hc.1 st
   ·by_cases c:k%2=0
    ·exfalso;rw[d9 c]at st
     have e:wk a b x k=b x:=by
      have:=congrArg b st;rw[T.bi _ (iC T hx k)]at this;exact this
     by_cases k0:k=0
     ·subst k0;exact(h x .refl).2 e.symm
     ·have:wk a b x 1=b x:=d9 rfl;exact jC T hx hs (i:=1) (j:=k) (by lia) (Nat.le_refl _) (by rw[this,e])
    ·rw[gv (by lia)]at st
     exact⟨k,Nat.le_refl _,by
      have:=congrArg a st;rw[T.ai _ (iC T hx k)]at this
      exact this⟩
 induction hy with
 | refl=>exact⟨0,by lia,rfl⟩
 |sa _ ih=>
  obtain⟨i,hi,rfl⟩:=ih;by_cases c:i=0
  ·subst c;exact ax
  ·exact(key i (by lia) hi).1
 |sb _ ih=>
  obtain⟨i,hi,rfl⟩:=ih;by_cases c:i=0
  ·subst c;exact bx
  ·exact(key i (by lia) hi).2
def mB(T:Two m a b)(hx:x<m)(st:Stp a b x k)(hs:∀ j,j<k->¬ Stp a b x j)(hb:∀ y,y<m->b y≠y)(ha:a x=x):k%2=1/\a (wk a b x k)=wk a b x k:=by
 have lk:=iC T hx k;by_cases c:k%2=0
 ·exfalso;rcases st with st | st
  ·rw[d9 c]at st;exact hb _ lk st
  ·rw[d9 c]at st
   have e:wk a b x k=b x:=by
    have:=congrArg b st;rw[T.bi _ lk]at this;exact this
   by_cases k0:k=0
   ·subst k0;exact hb x hx e.symm
   ·have:wk a b x 1=b x:=d9 rfl;exact jC T hx hs (i:=1) (j:=k) (by lia) (Nat.le_refl _) (by rw[this,e])
 ·refine⟨by lia,?_⟩;rcases st with st | st
  ·rw[gv (by lia)]at st;exact st
  ·exfalso;rw[gv (by lia)]at st
   have e:wk a b x k=x:=by rw[<-T.ai _ lk,st,ha]
   exact jC T hx hs (i:=0) (j:=k) (by lia) (Nat.le_refl _) e.symm
end
structure aU(m:Nat)(a b:Nat->Nat)(S:List Nat):Prop where
 lt:∀ s∈S,s<m
 nd:S.Pairwise fun s t=>¬ Cn a b s t
 ring:∀ s∈S,∀ y,Cn a b s y->a y≠y/\b y≠y
 all:∀ x,x<m->(∃ s,s<m/\(a s=s\/b s=s)/\Cn a b s x)\/∃ s∈S,Cn a b s x
def aU.le{m:Nat}{a b:Nat->Nat}(T:Two m a b){S S':List Nat}(R:aU m a b S)(R':aU m a b S'):S.length<=S'.length:=by
 have pick:∀ s∈S,∃ t∈S',Cn a b t s:=fun s hs=>by
  rcases R'.all s (R.lt s hs)with⟨q,h1,h2,h3⟩ | h
  ·exfalso;have:=R.ring s hs q (h3.symm T h1);rcases h2 with h2 | h2
   ·exact this.1 h2
   ·exact this.2 h2
  ·exact h
 have:∀ s,∃ t,s∈S->t∈S'/\Cn a b t s:=fun s=>by
  by_cases hs:s∈S
  ·obtain⟨t,h1,h2⟩:=pick s hs;exact⟨t,fun _=>⟨h1,h2⟩⟩
  ·exact⟨0,fun z=>absurd z hs⟩
 obtain⟨g,hg⟩:=Classical.axiomOfChoice this
 have nd:(S.map g).Nodup:=by
  rw[List.nodup_iff_pairwise_ne,List.pairwise_map];refine List.Pairwise.imp_of_mem ?_ R.nd;intro s t hs ht hn e;obtain⟨h1,h2⟩:=hg s hs;obtain⟨h3,h4⟩:=hg t ht;rw[<-e]at h4;exact hn ((h2.symm T (R'.lt _ h1)).trans h4)
 have:=cE nd (b:=S') fun y hy=>by
  obtain⟨s,hs,rfl⟩:=List.mem_map.mp hy;exact(hg s hs).1
 simpa using this
def aU.one{m:Nat}{a b:Nat->Nat}(T:Two m a b){S S':List Nat}(R:aU m a b S)(R':aU m a b S'):S.length=S'.length:=Nat.le_antisymm (R.le T R') (R'.le T R)
section
abbrev wks(a b:Nat->Nat)(x k:Nat):List Nat:=(List.range (k+1)).map (wk a b x)
end
section
variable{cl:Cl}
abbrev Pth(m:Nat)(a b:Nat->Nat)(y:Nat):Prop:=∃ s,s<m/\(a s=s\/b s=s)/\Cn a b s y
def zY:y∈wks a b x k↔∃ i,i<=k/\wk a b x i=y:=by
 unfold wks;rw[List.mem_map];constructor
 ·rintro⟨i,hi,e⟩;exact⟨i,by have:=List.mem_range.mp hi;lia,e⟩
 ·rintro⟨i,hi,e⟩;exact⟨i,List.mem_range.mpr (by lia),e⟩
end
abbrev jn(n x:Nat):Nat:=if x<n then x else if x<2*n then x+n else if x<3*n then x-n else x
abbrev rb(n:Nat)(h l:List Nat)(x:Nat):Nat:=if x<2*n then at' h x else 2*n+at' l (x-2*n)
abbrev out(n p:Nat):Nat:=if p<n then p else p+2*n
section
def two(F:Frm n h)(G:Frm n l):Two (4*n) (jn n) (rb n h l):=by
 refine⟨fun x hx=>?_,fun x hx=>?_,fun x hx=>?_,fun x hx=>?_⟩
 ·unfold jn;(repeat' split)<;>lia
 ·unfold rb;split
  ·have:=F.lt x (by lia);lia
  ·have:=G.lt (x-2*n) (by omega);lia
 ·unfold jn;(repeat' split)<;>lia
 ·unfold rb;by_cases c:x<2*n
  ·rw[if_pos c,if_pos (F.lt x c),F.inv]
  ·rw[if_neg c,if_neg (by lia),Nat.add_sub_cancel_left,G.inv];omega
def de(F:Frm n h)(G:Frm n l)(hx:x<4*n):rb n h l x≠x:=by
 unfold rb;split
 ·rename_i c;exact F.no x c
 ·have:=G.no (x-2*n) (by omega);lia
def aH(hp:p<2*n):out n p<4*n:=by unfold out;split<;>lia
def eZ(hp:p<2*n):jn n (out n p)=out n p:=by unfold out jn;(repeat' split)<;>lia
def lR(e:out n p=out n q)(hp:p<2*n)(hq:q<2*n):p=q:=by unfold out at e;(repeat' split at e)<;>lia
def Cw(hx:x<4*n)(e:jn n x=x):∃ p,p<2*n/\x=out n p:=by
 by_cases c:x<n
 ·exact⟨x,by lia,by unfold out;rw[if_pos c]⟩
 ·have:3*n<=x:=by
   unfold jn at e
   (repeat' split at e)<;>lia
  exact⟨x-2*n,by lia,by unfold out;rw[if_neg (by lia)];lia⟩
abbrev en2(n:Nat)(s:Bool × Nat):Nat:=if s.1 then s.2 else 2*n+s.2
def DH(hs:s.2<2*n)(c:s.1=decide (n<=s.2)):en2 n (stp n h l s)=rb n h l (jn n (en2 n s)):=by
 obtain⟨b,q⟩:=s;unfold stp;rw[if_pos c];dsimp only at c hs ⊢;rw[c];clear c;by_cases c:n<=q
 ·have e:(q+n)%(2*n)=q-n:=by rw[Nat.mod_eq_sub_mod (by lia),Nat.mod_eq_of_lt (by omega)];lia
  have e2:jn n q=q+n:=by unfold jn;rw[if_neg (by lia),if_pos hs]
  simp only[c,decide_true,Bool.not_true,en2,pick,if_true,Bool.false_eq_true,if_false,e,e2,rb];rw[if_neg (by lia),show q+n-2*n=q-n by lia]
 ·have e:(q+n)%(2*n)=q+n:=Nat.mod_eq_of_lt (by lia)
  have e2:jn n (2*n+q)=n+q:=by unfold jn;rw[if_neg (by lia),if_neg (by lia),if_pos (by lia)];lia
  simp only[c,decide_false,Bool.not_false,en2,pick,if_true,Bool.false_eq_true,if_false,e,e2,rb];rw[if_pos (by lia),Nat.add_comm]
def tY(hs:s.2<2*n):s.1=decide (n<=s.2)↔jn n (en2 n s)≠en2 n s:=by
 obtain⟨b,q⟩:=s;dsimp only at hs;cases b
 ·simp only[en2,Bool.false_eq_true,if_false];by_cases c:n<=q
  ·simp only[c,decide_true,Bool.false_eq_true,false_iff,Classical.not_not];unfold jn;rw[if_neg (by lia),if_neg (by lia),if_neg (by lia)]
  ·simp only[c,decide_false,true_iff];unfold jn;rw[if_neg (by lia),if_neg (by lia),if_pos (by lia)];lia
 ·simp only[en2,if_true];by_cases c:n<=q
  ·simp only[c,decide_true,true_iff];unfold jn;rw[if_neg (by lia),if_pos hs];lia
  ·simp only[c,decide_false,Bool.true_eq_false,false_iff,Classical.not_not];unfold jn;rw[if_pos (by lia)]
def Ac(c:¬ s.1=decide (n<=s.2)):stp n h l s=s:=by
 unfold stp;rw[if_neg c]
def Dp(hp:p<2*n):en2 n (beg n h l p)=rb n h l (out n p):=by
 unfold beg en2 rb out pick;by_cases c:p<n
 ·simp only[c,decide_true,if_true];rw[if_pos (by lia)]
 ·simp only[c,decide_false,Bool.false_eq_true,if_false];rw[if_neg (by lia),show p+2*n-2*n=p by lia]
def xf(F:Frm n h)(G:Frm n l)(hp:p<2*n)(st:Stp (jn n) (rb n h l) (out n p) k)(hs:∀ j,j<k->¬ Stp (jn n) (rb n h l) (out n p) j) :
  ∀ j,en2 n (itr n h l j (beg n h l p))=wk (jn n) (rb n h l) (out n p) (if 2*j+1<=k then 2*j+1 else k):=by
 have T:=two F G;obtain⟨k1,k2⟩:=mB T (aH hp) st hs (fun y hy=>de F G hy) (eZ hp)
 have blt:(beg n h l p).2<2*n:=by
  unfold beg pick;dsimp only;split
  ·exact F.lt p hp
  ·exact G.lt p hp
 intro j
 induction j with
 |zero=>
  rw[if_pos (by lia)];show en2 n (beg n h l p)=_;rw[Dp hp];exact(d9 (k:=0) rfl).symm
 |succ j ih=>
  have hl:=p8 (fun x hx=>F.lt x hx) (fun x hx=>G.lt x hx) (h:=h) (l:=l) blt j;show en2 n (stp n h l (itr n h l j (beg n h l p)))=_;by_cases c:2*(j+1)+1<=k
  ·rw[if_pos (by lia)]at ih;rw[if_pos c]
   have ne:jn n (en2 n (itr n h l j (beg n h l p)))≠en2 n (itr n h l j (beg n h l p)):=by
    rw[ih];intro e;exact hs (2*j+1) (by lia) (.inl (by rw[gv (by lia)];exact e))
   rw[DH hl ((tY hl).mpr ne),ih,<-gv (a:=jn n) (b:=rb n h l) (x:=out n p) (k:=2*j+1) (by lia),<-d9 (a:=jn n) (b:=rb n h l) (x:=out n p) (k:=2*j+1+1) (by lia)];congr 1
  ·rw[if_neg c]
   have e:(if 2*j+1<=k then 2*j+1 else k)=k:=by split<;>lia
   rw[e]at ih;rw[Ac (fun z=>(tY hl).mp z (by rw[ih];exact k2)),ih]
def bU:(a6 n h l).length=2*n:=by simp[a6]
def pE(hp:p<2*n):at' (a6 n h l) p=(itr n h l (4*n) (beg n h l p)).2:=by simp[a6,at',hp]
def mJ(F:Frm n h)(G:Frm n l)(hp:p<2*n)(hk:k<4*n)(st:Stp (jn n) (rb n h l) (out n p) k)(hs:∀ j,j<k->¬ Stp (jn n) (rb n h l) (out n p) j) :
  at' (a6 n h l) p<2*n/\wk (jn n) (rb n h l) (out n p) k=out n (at' (a6 n h l) p):=by
 have T:=two F G;obtain⟨k1,k2⟩:=mB T (aH hp) st hs (fun y hy=>de F G hy) (eZ hp);have w:=xf F G hp st hs (4*n);rw[show(if 2*(4*n)+1<=k then 2*(4*n)+1 else k)=k by split<;>lia]at w;rw[pE hp]
 have blt:(beg n h l p).2<2*n:=by
  unfold beg pick;dsimp only;split
  ·exact F.lt p hp
  ·exact G.lt p hp
 have hl:=p8 (fun x hx=>F.lt x hx) (fun x hx=>G.lt x hx) (h:=h) (l:=l) blt (4*n);refine⟨hl,?_⟩;rw[<-w];have no:¬ (itr n h l (4*n) (beg n h l p)).1=decide (n<=(itr n h l (4*n) (beg n h l p)).2):=fun z=>(tY hl).mp z (by rw[w];exact k2);generalize itr n h l (4*n) (beg n h l p)=s at *;obtain⟨b,q⟩:=s;unfold en2 out;dsimp only at no hl ⊢;cases b
 ·rw[if_neg (by decide)];have:¬ q<n:=fun c=>no (by simp[show ¬ n<=q by lia]);rw[if_neg this];lia
 ·rw[if_pos rfl]
  have:q<n:=by
   apply Classical.byContradiction;intro c;exact no (by simp[show n<=q by lia])
  rw[if_pos this]
def found_iff(F:Frm n h)(G:Frm n l)(hp:p<2*n)(hq:q<2*n)(ne:p≠q):at' (a6 n h l) p=q↔Cn (jn n) (rb n h l) (out n p) (out n q):=by
 have T:=two F G;obtain⟨k,hk,st,hs⟩:=jS T (aH hp);obtain⟨e1,e2⟩:=mJ F G hp hk st hs;constructor
 ·intro e;rw[<-e,<-e2];exact kL k
 ·intro c;obtain⟨i,hi,e⟩:=sM T (aH hp) st hs (.inl (eZ hp)) c
  have fx:jn n (wk (jn n) (rb n h l) (out n p) i)=wk (jn n) (rb n h l) (out n p) i:=by rw[e];exact eZ hq
  have ik:i=k:=by
   apply Classical.byContradiction;intro z
   have i0:i≠0:=fun z=>by
    subst z;exact ne (lR e hp hq)
   by_cases c:i%2=1
   ·exact hs i (by lia) (.inl (by rw[gv c];exact fx))
   ·have:=hG T (aH hp) (i-1);rw[show i-1+1=i by lia,if_neg (by lia),fx]at this;exact hs (i-1) (by lia) (.inl (by rw[show i-1+1=i by lia];exact this))
  subst ik;rw[e2]at e;exact(lR e e1 hq)
def cj(F:Frm n h)(G:Frm n l):Frm n (a6 n h l):=by
 have T:=two F G
 have lt:∀ p,p<2*n->at' (a6 n h l) p<2*n/\at' (a6 n h l) p≠p:=fun p hp=>by
  obtain⟨k,hk,st,hs⟩:=jS T (aH hp);obtain⟨e1,e2⟩:=mJ F G hp hk st hs;obtain⟨k1,k2⟩:=mB T (aH hp) st hs (fun y hy=>de F G hy) (eZ hp);refine⟨e1,fun e=>?_⟩;rw[e]at e2;exact jC T (aH hp) hs (i:=0) (j:=k) (by lia) (Nat.le_refl _) e2.symm
 refine⟨bU,fun p hp=>(lt p hp).1,fun p=>?_,fun p hp=>(lt p hp).2⟩;by_cases hp:p<2*n
 ·obtain⟨l1,l2⟩:=lt p hp;have c:=(found_iff F G hp l1 (Ne.symm l2)).mp rfl;exact(found_iff F G l1 hp l2).mpr (c.symm T (aH hp))
 ·rw[gS (f:=a6 n h l) (x:=p) (by rw[bU];lia),gS (by rw[bU];lia)]
end
section
end
section
def Pth.step{m:Nat}{a b:Nat->Nat}{x y:Nat}(h:Pth m a b x)(c:Cn a b x y):Pth m a b y:=by
 obtain⟨s,h1,h2,h3⟩:=h;exact⟨s,h1,h2,h3.trans c⟩
def jc(hm:m<n):jn n (n+m)=2*n+m:=by unfold jn;rw[if_neg (by lia),if_pos (by lia)];lia
def ko(hm:m<n):jn n (2*n+m)=n+m:=by unfold jn;rw[if_neg (by lia),if_neg (by lia),if_pos (by lia)];lia
def u7(e:a x=y):Cn a b x y:=by rw[<-e];exact .sa .refl
def nZ(e:b x=y):Cn a b x y:=by rw[<-e];exact .sb .refl
def ky(F:Frm n h)(G:Frm n l)(hx:x<4*n)(np:¬ Pth (4*n) (jn n) (rb n h l) x):∃ m,m<n/\(x=n+m\/x=2*n+m)/\¬ Pth (4*n) (jn n) (rb n h l) (n+m):=by
 have no:jn n x≠x:=fun e=>np ⟨x,hx,.inl e,.refl⟩;by_cases c:x<2*n
 ·have:n<=x:=by
   apply Classical.byContradiction;intro z;exact no (by unfold jn;rw[if_pos (by lia)])
  exact⟨x-n,by omega,.inl (by lia),by rw[show n+(x-n)=x by lia];exact np⟩
 ·have:x<3*n:=by
   apply Classical.byContradiction;intro z;exact no (by unfold jn;rw[if_neg (by lia),if_neg (by lia),if_neg (by lia)])
  refine⟨x-2*n,by omega,.inr (by lia),fun z=>np (z.step ?_)⟩;have:=jc (n:=n) (m:=x-2*n) (by omega);rw[show 2*n+(x-2*n)=x by lia]at this;exact u7 this
end
section
end
section
variable{nu pc pa nb un if' cf po rp ir mv rn mk rg jb pu c2 hu:Nat}
end
section
variable{mx rw dg pl hk ci ft tx rg hu ov fr:Nat}
end
section
def jZ(hp:p<2*n):Cn (jn n) (rb n (ay n) f) (out n p) (2*n+p):=by
 unfold out;split
 ·rename_i c
  have e:rb n (ay n) f p=n+p:=by unfold rb;rw[if_pos (by lia),plain_at,if_pos c]
  exact(nZ e).trans (u7 (jc c))
 ·rw[Nat.add_comm];exact .refl
def k7(hp:p<2*n):Cn (jn n) (rb n f (ay n)) (out n p) p:=by
 unfold out;split
 ·exact .refl
 ·rename_i c
  have e:rb n f (ay n) (p+2*n)=2*n+(p-n):=by unfold rb;rw[if_neg (by lia),show p+2*n-2*n=p by lia,plain_at,if_neg c,if_pos hp]
  have:=ko (n:=n) (m:=p-n) (by lia);rw[show n+(p-n)=p by lia]at this;exact(nZ e).trans (u7 this)
def mf(F:Frm n f):a6 n (ay n) f=f:=by
 have T:=two (bj n) F;refine du bU F.len fun p hp=>?_;have hl:=F.lt p hp;refine(found_iff (bj n) F hp hl (Ne.symm (F.no p hp))).mpr ?_
 have e:rb n (ay n) f (2*n+p)=2*n+at' f p:=by unfold rb;rw[if_neg (by lia),show 2*n+p-2*n=p by lia]
 exact(jZ hp).trans ((nZ e).trans ((jZ hl).symm T (aH hl)))
def mz(F:Frm n f):a6 n f (ay n)=f:=by
 have T:=two F (bj n);refine du bU F.len fun p hp=>?_;have hl:=F.lt p hp;refine(found_iff F (bj n) hp hl (Ne.symm (F.no p hp))).mpr ?_
 have e:rb n f (ay n) p=at' f p:=by unfold rb;rw[if_pos hp]
 exact(k7 hp).trans ((nZ e).trans ((k7 hl).symm T (aH hl)))
def mC(F:Frm n f):aU (4*n) (jn n) (rb n (ay n) f) []:=by
 refine⟨by simp,.nil,by simp,fun x hx=>.inl ?_⟩;apply Classical.byContradiction;intro np;obtain⟨m,hm,_,nm⟩:=ky (bj n) F hx np;refine nm ⟨out n m,aH (by lia),.inl (eZ (by lia)),?_⟩;have:=Cn.sa (jZ (n:=n) (f:=f) (p:=m) (by lia));rw[ko hm]at this;exact this
def lZ(F:Frm n f):aU (4*n) (jn n) (rb n f (ay n)) []:=by
 refine⟨by simp,.nil,by simp,fun x hx=>.inl ?_⟩;apply Classical.byContradiction;intro np;obtain⟨m,hm,_,nm⟩:=ky F (bj n) hx np;exact nm ⟨out n (n+m),aH (by lia),.inl (eZ (by lia)),k7 (by lia)⟩
end
def kd{xs:List Nat}{b:Nat->Nat}(nd:xs.Nodup)(cl:∀ x∈xs,b x∈xs)(bi:∀ x∈xs,b (b x)=x)(no:∀ x∈xs,b x≠x):xs.length%2=0:=by
 have h1:(xs.filter fun x=>decide (x<b x)).length<=(xs.filter fun x=>decide (b x<x)).length:=by
  have:(xs.filter fun x=>decide (x<b x)).length=((xs.filter fun x=>decide (x<b x)).map b).length:=by simp
  rw[this];refine cE ?_ fun y hy=>?_
  ·rw[List.nodup_iff_pairwise_ne,List.pairwise_map];refine List.Pairwise.imp_of_mem ?_ (List.nodup_iff_pairwise_ne.mp (nd.filter _));intro x y hx hy hne e;rw[List.mem_filter]at hx hy;exact hne (by rw[<-bi x hx.1,e,bi y hy.1])
  ·obtain⟨x,hx,rfl⟩:=List.mem_map.mp hy;rw[List.mem_filter,decide_eq_true_eq]at hx ⊢;exact⟨cl x hx.1,by rw[bi x hx.1];exact hx.2⟩
 have h2:(xs.filter fun x=>decide (b x<x)).length<=(xs.filter fun x=>decide (x<b x)).length:=by
  have:(xs.filter fun x=>decide (b x<x)).length=((xs.filter fun x=>decide (b x<x)).map b).length:=by simp
  rw[this];refine cE ?_ fun y hy=>?_
  ·rw[List.nodup_iff_pairwise_ne,List.pairwise_map];refine List.Pairwise.imp_of_mem ?_ (List.nodup_iff_pairwise_ne.mp (nd.filter _));intro x y hx hy hne e;rw[List.mem_filter]at hx hy;exact hne (by rw[<-bi x hx.1,e,bi y hy.1])
  ·obtain⟨x,hx,rfl⟩:=List.mem_map.mp hy;rw[List.mem_filter,decide_eq_true_eq]at hx ⊢;exact⟨cl x hx.1,by rw[bi x hx.1];exact hx.2⟩
 have h3:∀ ys:List Nat,(∀ x∈ys,b x≠x)->ys.length=(ys.filter fun x=>decide (x<b x)).length+(ys.filter fun x=>decide (b x<x)).length:=by
  intro ys
  induction ys with
  | nil=>intro _;rfl
  |cons y ys ih=>
   intro h;have i:=ih fun x hx=>h x (List.mem_cons_of_mem _ hx);have hy:=h y List.mem_cons_self;rw[List.filter_cons,List.filter_cons];by_cases c:y<b y
   ·rw[if_pos (decide_eq_true c),if_neg (by rw[decide_eq_true_eq];lia)];simp only[List.length_cons];lia
   ·rw[if_neg (by rw[decide_eq_true_eq];exact c),if_pos (decide_eq_true (by lia))];simp only[List.length_cons];lia
 have:=h3 xs no;lia
section
abbrev rp(n x:Nat):Nat:=if x<2*n then rd n x else 2*n+rd n (x-2*n)
abbrev phi(n:Nat)(Q:List Nat)(x:Nat):Nat:=(Q.filter fun y=>decide (y<2*n↔x<2*n)&&decide (rp n y<rp n x)).length
def fq(Q:List Nat)(P R:Nat->Bool):(Q.filter P).length=(Q.filter fun y=>P y&&R y).length+(Q.filter fun y=>P y && !R y).length:=by
 induction Q with
 | nil=>rfl
 |cons y Q ih=>
  rw[List.filter_cons,List.filter_cons,List.filter_cons];cases P y<;>cases R y<;>simp[ih]<;>lia
def b9{Q:List Nat}(e:∀ y∈Q,P y=R y):(Q.filter P).length=(Q.filter R).length:=by rw[List.filter_congr e]
def kW(hx:x<4*n)(hy:y<4*n)(e:rp n x=rp n y):x=y:=by
 unfold rp at e;have:∀ q,q<2*n->rd n q<2*n:=fun q hq=>aM hq;split at e<;>split at e
 ·exact oK (by lia) (by lia) e
 ·have:=this x (by lia);lia
 ·have:=this y (by lia);lia
 ·have:=oK (n:=n) (p:=x-2*n) (q:=y-2*n) (by omega) (by omega) (by lia);omega
def uV(V:Val n h)(W:Val n l)(hx:x<4*n)(hy:y<4*n):¬ (rp n x<rp n y/\rp n y<rp n (rb n h l x)/\rp n (rb n h l x)<rp n (rb n h l y)):=by
 have F:=V.frm;have G:=W.frm;have T:=two F G;rintro⟨h1,h2,h3⟩;have r2:∀ q,q<2*n->rd n q<2*n:=fun q hq=>aM hq;by_cases cx:x<2*n
 ·have ex:rb n h l x=at' h x:=by unfold rb;rw[if_pos cx]
  have lx:=F.lt x cx;by_cases cy:y<2*n
  ·have ey:rb n h l y=at' h y:=by unfold rb;rw[if_pos cy]
   have ly:=F.lt y cy;rw[ex]at h2 h3;rw[ey]at h3;unfold rp at h1 h2 h3;rw[if_pos cx,if_pos cy]at h1;rw[if_pos cy,if_pos lx]at h2;rw[if_pos lx,if_pos ly]at h3;refine V.nox (rd n x) (rd n y) (aM cx) (aM cy) ?_;unfold rnd;rw[bu cx,bu cy];exact⟨h1,h2,h3⟩
  ·rw[ex]at h2;unfold rp at h2;rw[if_neg cy,if_pos lx]at h2;have:=r2 _ lx;lia
 ·have ex:rb n h l x=2*n+at' l (x-2*n):=by unfold rb;rw[if_neg cx]
  have lx:=G.lt (x-2*n) (by omega);by_cases cy:y<2*n
  ·unfold rp at h1;rw[if_neg cx,if_pos cy]at h1;have:=r2 _ cy;lia
  ·have ey:rb n h l y=2*n+at' l (y-2*n):=by unfold rb;rw[if_neg cy]
   have ly:=G.lt (y-2*n) (by omega);rw[ex]at h2 h3;rw[ey]at h3;unfold rp at h1 h2 h3;rw[if_neg cx,if_neg cy]at h1;rw[if_neg cy,if_neg (by lia),Nat.add_sub_cancel_left]at h2;rw[if_neg (by lia),if_neg (by lia),Nat.add_sub_cancel_left,Nat.add_sub_cancel_left]at h3;refine W.nox (rd n (x-2*n)) (rd n (y-2*n)) (aM (by omega)) (aM (by omega)) ?_;unfold rnd;rw[bu (by omega),bu (by omega)];exact⟨by lia,by lia,by lia⟩
structure Cls(n:Nat)(h l Q:List Nat):Prop where
 nd:Q.Nodup
 lt:∀ y∈Q,y<4*n
 b:∀ y∈Q,rb n h l y∈Q
 a:∀ y∈Q,jn n y∈Q
def mE(F:Frm n h)(G:Frm n l)(hx:x<4*n):rb n h l x<2*n↔x<2*n:=by
 unfold rb;split
 ·rename_i c;have:=F.lt x c;lia
 ·lia
def Fj(V:Val n h)(W:Val n l){Q:List Nat}(C:Cls n h l Q)(hx:x<4*n)(hq:x∉Q):phi n Q (rb n h l x)%2=phi n Q x%2:=by
 have F:=V.frm;have G:=W.frm;have T:=two F G
 have key:∀ x,x<4*n->x∉Q->rp n x<rp n (rb n h l x)->phi n Q (rb n h l x)%2=phi n Q x%2:=by
  intro x hx hq lt;have bl:=T.bl x hx;have bq:rb n h l x∉Q:=fun z=>hq (by have:=C.b _ z;rw[T.bi x hx]at this;exact this);have sd:=mE F G (h:=h) (l:=l) hx
  have e:phi n Q (rb n h l x)=phi n Q x+(Q.filter fun y=>decide (y<2*n↔x<2*n)&&(decide (rp n x<rp n y)&&decide (rp n y<rp n (rb n h l x)))).length:=by
   unfold phi;rw[fq Q (fun y=>decide (y<2*n↔rb n h l x<2*n)&&decide (rp n y<rp n (rb n h l x))) (fun y=>decide (rp n y<rp n x))];congr 1
   ·refine b9 fun y hy=>?_;rw[Bool.eq_iff_iff];simp only[Bool.and_eq_true,decide_eq_true_eq];rw[sd];lia
   ·refine b9 fun y hy=>?_;have ne:rp n y≠rp n x:=fun e=>hq (kW (C.lt y hy) hx e▸hy);rw[Bool.eq_iff_iff];simp only[Bool.and_eq_true,decide_eq_true_eq,Bool.not_eq_true',decide_eq_false_iff_not];rw[sd];lia
  have ev:=kd (b:=rb n h l) (xs:=Q.filter fun y=>decide (y<2*n↔x<2*n)&&(decide (rp n x<rp n y)&&decide (rp n y<rp n (rb n h l x)))) (C.nd.filter _) (fun y hy=>by
   simp only[List.mem_filter,Bool.and_eq_true,decide_eq_true_eq]at hy ⊢;obtain⟨y1,y2,y3,y4⟩:=hy;have ly:=C.lt y y1;have lb:=T.bl y ly;refine⟨C.b y y1,by rw[mE F G ly];exact y2,?_⟩;have n1:=uV V W hx ly;have n2:=uV V W lb hx;rw[T.bi y ly]at n2;have ne1:rp n (rb n h l y)≠rp n x:=fun e=>hq (kW lb hx e▸C.b y y1);have ne2:rp n (rb n h l y)≠rp n (rb n h l x):=fun e=>bq (kW lb bl e▸C.b y y1)
   lia) (fun y hy=>by
   simp only[List.mem_filter]at hy
   exact T.bi y (C.lt y hy.1)) (fun y hy=>by
   simp only[List.mem_filter]at hy
   exact de F G (C.lt y hy.1))
  lia
 by_cases c:rp n x<rp n (rb n h l x)
 ·exact key x hx hq c
 ·have bl:=T.bl x hx;have bq:rb n h l x∉Q:=fun z=>hq (by have:=C.b _ z;rw[T.bi x hx]at this;exact this);have ne:rp n (rb n h l x)≠rp n x:=fun e=>de F G hx (kW bl hx e);have:=key (rb n h l x) bl bq (by rw[T.bi x hx];lia);rw[T.bi x hx]at this;exact this.symm
def sr(F:Frm n h)(G:Frm n l){Q:List Nat}(C:Cls n h l Q):(Q.filter fun y=>decide (y<2*n)).length%2=0:=by
 have T:=two F G;refine kd (b:=rb n h l) (C.nd.filter _) (fun y hy=>?_) (fun y hy=>?_) (fun y hy=>?_)
 ·simp only[List.mem_filter,decide_eq_true_eq]at hy ⊢;exact⟨C.b y hy.1,(mE F G (C.lt y hy.1)).mpr hy.2⟩
 ·simp only[List.mem_filter]at hy;exact T.bi y (C.lt y hy.1)
 ·simp only[List.mem_filter]at hy;exact de F G (C.lt y hy.1)
set_option synthInstance.maxSize 10000 in
set_option synthInstance.maxHeartbeats 0 in
def gK:∀ n,n<11->∀ m,m<n->∀ y,y<4*n->(decide (y<2*n↔2*n+m<2*n)&&decide (rp n y<rp n (2*n+m)))=decide (2*n<=y/\y<2*n+m) /\
  (y≠n+m->(decide (y<2*n) && !decide (rp n y<rp n (n+m)))=decide (n<=y/\y<n+m))/\(decide (y<2*n↔n+m<2*n)&&decide (rp n y<rp n (n+m)))=(decide (y<2*n)&&decide (rp n y<rp n (n+m))) /\
  (2*n<=y->y<2*n+m->n<=jn n y/\jn n y<n+m)/\(n<=y->y<n+m->2*n<=jn n y/\jn n y<2*n+m):=by decide +kernel
def sE(hn:n<11)(F:Frm n h)(G:Frm n l){Q:List Nat}(C:Cls n h l Q)(hm:m<n)(hq:n+m∉Q):phi n Q (2*n+m)%2=phi n Q (n+m)%2:=by
 have T:=two F G
 have swap:(Q.filter fun y=>decide (2*n<=y/\y<2*n+m)).length=(Q.filter fun y=>decide (n<=y/\y<n+m)).length:=by
  have go:∀ (P R:Nat->Bool),(∀ y,y<4*n->P y=true->R (jn n y)=true)->(Q.filter P).length<=(Q.filter R).length:=fun P R hPR=>by
   have:(Q.filter P).length=((Q.filter P).map (jn n)).length:=by simp
   rw[this];refine cE ?_ fun y hy=>?_
   ·rw[List.nodup_iff_pairwise_ne,List.pairwise_map];refine List.Pairwise.imp_of_mem ?_ (List.nodup_iff_pairwise_ne.mp (C.nd.filter _));intro x y hx hy hne e;rw[List.mem_filter]at hx hy;exact hne (by rw[<-T.ai x (C.lt x hx.1),e,T.ai y (C.lt y hy.1)])
   ·obtain⟨x,hx,rfl⟩:=List.mem_map.mp hy;rw[List.mem_filter]at hx ⊢;exact⟨C.a x hx.1,hPR x (C.lt x hx.1) hx.2⟩
  refine Nat.le_antisymm (go _ _ fun y hy e=>?_) (go _ _ fun y hy e=>?_)
  ·rw[decide_eq_true_eq]at e ⊢;exact(gK n hn m hm y hy).2.2.2.1 e.1 e.2
  ·rw[decide_eq_true_eq]at e ⊢;exact(gK n hn m hm y hy).2.2.2.2 e.1 e.2
 have e1:phi n Q (2*n+m)=(Q.filter fun y=>decide (2*n<=y/\y<2*n+m)).length:=b9 fun y hy=>(gK n hn m hm y (C.lt y hy)).1
 have e2:phi n Q (n+m)+(Q.filter fun y=>decide (n<=y/\y<n+m)).length=(Q.filter fun y=>decide (y<2*n)).length:=by
  rw[fq Q (fun y=>decide (y<2*n)) (fun y=>decide (rp n y<rp n (n+m)))];congr 1
  ·exact b9 fun y hy=>(gK n hn m hm y (C.lt y hy)).2.2.1
  ·exact(b9 fun y hy=>(gK n hn m hm y (C.lt y hy)).2.1 fun e=>hq (e▸hy)).symm
 have e3:=sr F G C;lia
def Bh(hn:n<11)(V:Val n h)(W:Val n l)(C:Cls n h l Q)(hx:x<4*n)(hq:x∉Q)(c:Cn (jn n) (rb n h l) x z):z∉Q/\phi n Q z%2=phi n Q x%2:=by
 have F:=V.frm;have G:=W.frm;have T:=two F G
 induction c with
 | refl=>exact⟨hq,rfl⟩
 |@sa y hy ih=>
  obtain⟨i1,i2⟩:=ih;have ly:=hy.lt T hx;have nq:jn n y∉Q:=fun z=>i1 (by have:=C.a _ z;rw[T.ai y ly]at this;exact this);refine⟨nq,?_⟩;rw[<-i2];by_cases c1:y<n
  ·have:jn n y=y:=by unfold jn;rw[if_pos c1]
   rw[this]
  ·by_cases c2:y<2*n
   ·have e:y=n+(y-n):=by lia
    have:jn n y=2*n+(y-n):=by rw[e,jc (by lia)];lia
    rw[this];have:=sE hn F G C (m:=y-n) (by lia) (by rw[<-e];exact i1);rw[<-e]at this;exact this
   ·by_cases c3:y<3*n
    ·have e:y=2*n+(y-2*n):=by lia
     have ej:jn n y=n+(y-2*n):=by rw[e,ko (by lia)];lia
     have:=sE hn F G C (m:=y-2*n) (by lia) (by rw[<-ej];exact nq);rw[<-e,<-ej]at this;exact this.symm
    ·have:jn n y=y:=by unfold jn;rw[if_neg c1,if_neg c2,if_neg c3]
     rw[this]
 |@sb y hy ih=>
  obtain⟨i1,i2⟩:=ih;have ly:=hy.lt T hx;exact⟨fun z=>i1 (by have:=C.b _ z;rw[T.bi y ly]at this;exact this),by rw[Fj V W C ly i1,i2]⟩
end
section
def A2{Q:List Nat}(nd:Q.Nodup)(hu:u∈Q)(hv:v∈Q)(ne:u≠v)(only:∀ y∈Q,P y=true->y=u\/y=v):(Q.filter P).length=([u,v].filter P).length:=by
 have nz:[u,v].Nodup:=by simp[ne]
 refine Nat.le_antisymm (cE (nd.filter _) fun y hy=>?_) (cE (nz.filter _) fun y hy=>?_)
 ·rw[List.mem_filter]at hy ⊢;exact⟨by rcases only y hy.1 hy.2 with e | e<;>simp[e],hy.2⟩
 ·rw[List.mem_filter]at hy ⊢;refine⟨?_,hy.2⟩;have:=hy.1;simp only[List.mem_cons,List.not_mem_nil,or_false]at this;rcases this with rfl | rfl<;>assumption
abbrev psi(n p y:Nat):Bool:=(decide (y<n)&&decide (y<rd n p)) || (decide (3*n<=y)&&decide (rd n (y-2*n)<rd n p))
set_option synthInstance.maxSize 10000 in
set_option synthInstance.maxHeartbeats 0 in
def qT:∀ n,n<11->∀ p,p<2*n->∀ y,y<4*n->(p<n->(decide (y<2*n↔p<2*n)&&decide (rp n y<rp n p))=psi n p y) /\
  (¬ p<n->(decide (y<2*n↔p+2*n<2*n)&&decide (rp n y<rp n (p+2*n))&&decide (y<3*n))=decide (2*n<=y/\y<3*n) /\
   (decide (y<2*n↔p+2*n<2*n)&&decide (rp n y<rp n (p+2*n)) && !decide (y<3*n))=(decide (3*n<=y)&&decide (rd n (y-2*n)<rd n p)) /\
   (psi n p y&&decide (y<n))=decide (y<n)/\(psi n p y && !decide (y<n))=(decide (3*n<=y)&&decide (rd n (y-2*n)<rd n p))) /\
  (decide (y<2*n)&&decide (y<n))=decide (y<n)/\(decide (y<2*n) && !decide (y<n))=decide (n<=y/\y<2*n) /\
  (2*n<=y->y<3*n->n<=jn n y/\jn n y<2*n)/\(n<=y->y<2*n->2*n<=jn n y/\jn n y<3*n)/\(psi n p y=true->jn n y=y):=by decide +kernel
def rA(hn:n<11)(F:Frm n h)(G:Frm n l)(C:Cls n h l Q)(hp:p<2*n):phi n Q (out n p)%2=(Q.filter (psi n p)).length%2:=by
 have T:=two F G;have fin:=fun y (hy:y∈Q)=>qT n hn p hp y (C.lt y hy);by_cases c:p<n
 ·have eo:out n p=p:=by unfold out;rw[if_pos c]
  rw[eo];congr 1;exact b9 fun y hy=>(fin y hy).1 c
 ·have eo:out n p=p+2*n:=by unfold out;rw[if_neg c]
  rw[eo]
  have go:∀ (P R:Nat->Bool),(∀ y,y∈Q->P y=true->R (jn n y)=true)->(Q.filter P).length<=(Q.filter R).length:=fun P R hPR=>by
   have:(Q.filter P).length=((Q.filter P).map (jn n)).length:=by simp
   rw[this];refine cE ?_ fun y hy=>?_
   ·rw[List.nodup_iff_pairwise_ne,List.pairwise_map];refine List.Pairwise.imp_of_mem ?_ (List.nodup_iff_pairwise_ne.mp (C.nd.filter _));intro x y hx hy hne e;rw[List.mem_filter]at hx hy;exact hne (by rw[<-T.ai x (C.lt x hx.1),e,T.ai y (C.lt y hy.1)])
   ·obtain⟨x,hx,rfl⟩:=List.mem_map.mp hy;rw[List.mem_filter]at hx ⊢;exact⟨C.a x hx.1,hPR x hx.1 hx.2⟩
  have swap:(Q.filter fun y=>decide (2*n<=y/\y<3*n)).length=(Q.filter fun y=>decide (n<=y/\y<2*n)).length:=by
   refine Nat.le_antisymm (go _ _ fun y hy e=>?_) (go _ _ fun y hy e=>?_)
   ·rw[decide_eq_true_eq]at e ⊢;exact(fin y hy).2.2.2.2.1 e.1 e.2
   ·rw[decide_eq_true_eq]at e ⊢;exact(fin y hy).2.2.2.2.2.1 e.1 e.2
  have e1:phi n Q (p+2*n)=(Q.filter fun y=>decide (2*n<=y/\y<3*n)).length+(Q.filter fun y=>decide (3*n<=y)&&decide (rd n (y-2*n)<rd n p)).length:=by
   unfold phi;rw[fq Q (fun y=>decide (y<2*n↔p+2*n<2*n)&&decide (rp n y<rp n (p+2*n))) (fun y=>decide (y<3*n)),b9 fun y hy=>((fin y hy).2.1 c).1,b9 fun y hy=>((fin y hy).2.1 c).2.1]
  have e2:(Q.filter (psi n p)).length=(Q.filter fun y=>decide (y<n)).length+(Q.filter fun y=>decide (3*n<=y)&&decide (rd n (y-2*n)<rd n p)).length:=by
   rw[fq Q (psi n p) (fun y=>decide (y<n)),b9 fun y hy=>((fin y hy).2.1 c).2.2.1,b9 fun y hy=>((fin y hy).2.1 c).2.2.2]
  have e3:(Q.filter fun y=>decide (y<2*n)).length=(Q.filter fun y=>decide (y<n)).length+(Q.filter fun y=>decide (n<=y/\y<2*n)).length:=by
   rw[fq Q (fun y=>decide (y<2*n)) (fun y=>decide (y<n)),b9 fun y hy=>(fin y hy).2.2.1,b9 fun y hy=>(fin y hy).2.2.2.1]
  have e4:=sr F G C;rw[e1,e2,swap];rw[e3]at e4;clear e1 e2 e3 swap go fin;lia
def Ed(F:Frm n h)(G:Frm n l)(hs:s<2*n):∃ Q,Cls n h l Q/\∀ y,y∈Q↔Cn (jn n) (rb n h l) (out n s) y:=by
 have T:=two F G;obtain⟨k,hk,st,hn⟩:=jS T (aH hs)
 have mem:∀ y,y∈wks (jn n) (rb n h l) (out n s) k↔Cn (jn n) (rb n h l) (out n s) y:=fun y=>by
  rw[zY];exact⟨fun⟨i,_,e⟩=>e▸kL i,fun c=>sM T (aH hs) st hn (.inl (eZ hs)) c⟩
 refine⟨_,⟨?_,fun y hy=>((mem y).mp hy).lt T (aH hs),fun y hy=>(mem _).mpr (.sb ((mem y).mp hy)),fun y hy=>(mem _).mpr (.sa ((mem y).mp hy))⟩,mem⟩;unfold wks;rw[List.nodup_iff_pairwise_ne,List.pairwise_map];refine List.Pairwise.imp_of_mem ?_ (List.pairwise_lt_range (n:=k+1));intro i j hi hj hlt;exact jC T (aH hs) hn hlt (by have:=List.mem_range.mp hj;lia)
def jr(hp:p<2*n)(hq:q<2*n):psi n p (out n q)=decide (rd n q<rd n p):=by
 rw[Bool.eq_iff_iff];unfold psi out;simp only[Bool.and_eq_true,Bool.or_eq_true,decide_eq_true_eq];split
 ·rename_i c
  have:rd n q=q:=by unfold rd;rw[if_pos c]
  rw[this];lia
 ·rename_i c;rw[show q+2*n-2*n=q by lia];lia
def cQ(hn:n<=10)(V:Val n h)(W:Val n l):Val n (a6 n h l):=by
 have F:=V.frm;have G:=W.frm;have T:=two F G;have FF:=cj F G;refine⟨FF,fun q q' hq hq' hc=>?_⟩;obtain⟨c1,c2,c3⟩:=hc;have p1:=aM hq;have s1:=aM hq';unfold rnd at c2 c3;have ep:rd n (rd n q)=q:=bu hq;have es:rd n (rd n q')=q':=bu hq';generalize rd n q=p at *;generalize rd n q'=s at *;have lp:=FF.lt p p1;have ls:=FF.lt s s1;obtain⟨Q,C,mem⟩:=Ed F G s1;have su:out n s∈Q:=(mem _).mpr .refl;have sv:out n (at' (a6 n h l) s)∈Q:=(mem _).mpr ((found_iff F G s1 ls (Ne.symm (FF.no s s1))).mp rfl);have suv:out n s≠out n (at' (a6 n h l) s):=fun e=>FF.no s s1 (lR e s1 ls).symm
 have only:∀ t,t<2*n->out n t∈Q->t=s\/t=at' (a6 n h l) s:=fun t ht hm=>by
  by_cases c:s=t
  ·exact .inl c.symm
  ·exact .inr ((found_iff F G s1 ht c).mpr ((mem _).mp hm)).symm
 have pq:out n p∉Q:=fun z=>by
  rcases only p p1 z with e | e
  ·subst e;lia
  ·subst e;lia
 have pc:=(found_iff F G p1 lp (Ne.symm (FF.no p p1))).mp rfl;obtain⟨_,ph⟩:=Bh (by lia) V W C (aH p1) pq pc;rw[rA (by lia) F G C lp,rA (by lia) F G C p1]at ph
 have cnt2:∀ t,t<2*n->(Q.filter (psi n t)).length=([out n s,out n (at' (a6 n h l) s)].filter (psi n t)).length:=fun t ht=>by
  refine A2 C.nd su sv suv fun y hy e=>?_;have ly:=C.lt y hy;have:jn n y=y:=(qT n (by lia) t ht y ly).2.2.2.2.2.2 e;obtain⟨u,hu,rfl⟩:=Cw ly this;rcases only u hu hy with e | e
  ·exact .inl (by rw[e])
  ·exact .inr (by rw[e])
 rw[cnt2 p p1,cnt2 _ lp,List.filter_cons,List.filter_cons,List.filter_cons,List.filter_cons,jr lp s1,jr lp ls,jr p1 s1,jr p1 ls]at ph;rw[if_pos (by rw[decide_eq_true_eq];lia),if_neg (by rw[decide_eq_true_eq];lia),if_neg (by rw[decide_eq_true_eq];lia),if_neg (by rw[decide_eq_true_eq];lia)]at ph;simp at ph
end
section
variable{mx rw dg pl hk ci ft tx rg hu ov fr:Nat}
end
structure Fld(M:Nat)(a a' b:Nat->Nat)(N:Nat)(c f o:Nat->Nat):Prop where
 T:Two M a b
 T':Two M a' b
 T2:Two N c f
 ol:∀ p,p<N->o p<M
 oi:∀ p q,p<N->q<N->o p=o q->p=q
 fx:∀ x,x<M->a x=x->∃ p,p<N/\x=o p
 fo:∀ p,p<N->a (o p)=o p
 jo:∀ p,p<N->a' (o p)=o (c p)
 jj:∀ x,x<M->a x≠x->a' x=a x
 ff:∀ p q,p<N->q<N->p≠q->(f p=q↔Cn a b (o p) (o q))
 nb:∀ x,x<M->b x≠x
 nf:∀ p,p<N->f p≠p
section
def Fld.up(D:Fld M a a' b N c f o)(hx:x<M)(h:Cn a b x y):Cn a' b x y:=by
 induction h with
 | refl=>exact .refl
 |@sa y hy ih=>
  by_cases e:a y=y
  ·rw[e];exact ih
  ·rw[<-D.jj y (hy.lt D.T hx) e];exact .sa ih
 | @sb y hy ih=>exact .sb ih
def Fld.to(D:Fld M a a' b N c f o)(hp:p<N)(h:Cn c f p q):Cn a' b (o p) (o q):=by
 induction h with
 | refl=>exact .refl
 | @sa y hy ih=>rw[<-D.jo y (hy.lt D.T2 hp)];exact .sa ih
 |@sb y hy ih=>
  have ly:=hy.lt D.T2 hp;exact ih.trans (D.up (D.ol y ly) ((D.ff y _ ly (D.T2.bl y ly) (Ne.symm (D.nf y ly))).mp rfl))
def Fld.one(D:Fld M a a' b N c f o)(hq:q<N)(ht:t<N)(h2:Cn c f p q)(h3:Cn a b (o q) (o t)):Cn c f p t:=by
 by_cases z:q=t
 ·rw[<-z];exact h2
 ·have:=(D.ff q t hq ht z).mpr h3;rw[<-this];exact .sb h2
def Fld.back(D:Fld M a a' b N c f o)(hp:p<N)(h:Cn a' b (o p) y):∃ q,q<N/\Cn c f p q/\Cn a b (o q) y:=by
 induction h with
 | refl=>exact⟨p,hp,.refl,.refl⟩
 |@sa y hy ih=>
  obtain⟨q,h1,h2,h3⟩:=ih;have ly:=h3.lt D.T (D.ol q h1);by_cases e:a y=y
  ·obtain⟨t,ht,rfl⟩:=D.fx y ly e;exact⟨c t,D.T2.al t ht,.sa (D.one h1 ht h2 h3),by rw[D.jo t ht];exact .refl⟩
  ·exact⟨q,h1,h2,by rw[D.jj y ly e];exact .sa h3⟩
 |@sb y hy ih=>
  obtain⟨q,h1,h2,h3⟩:=ih;exact⟨q,h1,h2,.sb h3⟩
def Fld.iff(D:Fld M a a' b N c f o)(hp:p<N)(hq:q<N):Cn c f p q↔Cn a' b (o p) (o q) :=
 ⟨D.to hp,fun h=>by
  obtain⟨t,h1,h2,h3⟩:=D.back hp h
  exact D.one h1 hq h2 h3⟩
def Fld.ring(D:Fld M a a' b N c f o)(hx:x<M)(np:¬ Pth M a b x)(h:Cn a' b x y):Cn a b x y:=by
 induction h with
 | refl=>exact .refl
 |@sa y hy ih=>
  have ly:=ih.lt D.T hx;rw[D.jj y ly fun e=>np ⟨y,ly,.inl e,ih.symm D.T hx⟩];exact .sa ih
 | @sb y hy ih=>exact .sb ih
def Fld.rings(D:Fld M a a' b N c f o){S C:List Nat}(R:aU M a b S)(R':aU N c f C):aU M a' b (S++C.map o):=by
 have np:∀ s∈S,¬ Pth M a b s:=fun s hs ⟨q,h1,h2,h3⟩=>by
  have:=R.ring s hs q (h3.symm D.T h1);rcases h2 with h2 | h2
  ·exact this.1 h2
  ·exact this.2 h2
 refine⟨fun s hs=>?_,?_,fun s hs y h=>?_,fun x hx=>?_⟩
 ·rcases List.mem_append.mp hs with hs | hs
  ·exact R.lt s hs
  ·obtain⟨p,hp,rfl⟩:=List.mem_map.mp hs;exact D.ol p (R'.lt p hp)
 ·rw[List.pairwise_append,List.pairwise_map];refine⟨List.Pairwise.imp_of_mem (fun {s t} hs ht hn h=>hn (D.ring (R.lt s hs) (np s hs) h)) R.nd,List.Pairwise.imp_of_mem (fun {p q} hp hq hn h=>hn ((D.iff (R'.lt p hp) (R'.lt q hq)).mpr h)) R'.nd,fun s hs t ht h=>?_⟩;obtain⟨p,hp,rfl⟩:=List.mem_map.mp ht;have lp:=R'.lt p hp;exact np s hs ⟨o p,D.ol p lp,.inl (D.fo p lp),(D.ring (R.lt s hs) (np s hs) h).symm D.T (R.lt s hs)⟩
 ·rcases List.mem_append.mp hs with hs | hs
  ·have c1:=D.ring (R.lt s hs) (np s hs) h;have g:=R.ring s hs y c1;exact⟨by rw[D.jj y (c1.lt D.T (R.lt s hs)) g.1];exact g.1,g.2⟩
  ·obtain⟨p,hp,rfl⟩:=List.mem_map.mp hs;obtain⟨q,h1,h2,h3⟩:=D.back (R'.lt p hp) h;have ly:=h3.lt D.T (D.ol q h1);refine⟨fun e=>?_,D.nb y ly⟩;by_cases z:a y=y
   ·obtain⟨t,ht,rfl⟩:=D.fx y ly z;rw[D.jo t ht]at e;exact(R'.ring p hp t (D.one h1 ht h2 h3)).1 (D.oi _ _ (D.T2.al t ht) ht e)
   ·exact z ((D.jj y ly z).symm.trans e)
 ·by_cases z:Pth M a b x
  ·obtain⟨s,h1,h2,h3⟩:=z;have h2:a s=s:=h2.resolve_right (D.nb s h1);obtain⟨p,hp,rfl⟩:=D.fx s h1 h2;have u:=D.up h1 h3
   rcases R'.all p hp with⟨q,g1,g2,g3⟩ | ⟨q,g1,g2⟩
   ·have g2:=g2.resolve_right (D.nf q g1);exact .inl ⟨o q,D.ol q g1,.inl (by rw[D.jo q g1,g2]),(D.to g1 g3).trans u⟩
   ·exact .inr ⟨o q,List.mem_append.mpr (.inr (List.mem_map.mpr ⟨q,g1,rfl⟩)),(D.to (R'.lt q g1) g2).trans u⟩
  ·rcases R.all x hx with h | ⟨s,h1,h2⟩
   ·exact absurd h z
   ·exact .inr ⟨s,List.mem_append.mpr (.inl h1),D.up (R.lt s h1) h2⟩
end
def fV(T:Two m a b):∃ S,aU m a b S:=by
 classical
 refine⟨(List.range m).filter fun x=>decide ((∀ y,Cn a b x y->a y≠y/\b y≠y)/\∀ y,Cn a b x y->x<=y),fun s hs=>?_,?_,fun s hs y c=>?_,fun x hx=>?_⟩
 ·exact List.mem_range.mp (List.mem_filter.mp hs).1
 ·refine List.Pairwise.imp_of_mem ?_ (List.pairwise_lt_range.filter _);intro x y hx hy lt c;have hy:=List.mem_filter.mp hy;have lx:=List.mem_range.mp (List.mem_filter.mp hx).1;have:=(of_decide_eq_true hy.2).2 x (c.symm T lx);lia
 ·exact(of_decide_eq_true (List.mem_filter.mp hs).2).1 y c
 ·by_cases p:Pth m a b x
  ·exact .inl p
  ·refine .inr ?_;obtain⟨k,_,hk,hm⟩:=least (P:=fun k=>Cn a b x k) x .refl;have lk:=hk.lt T hx;refine⟨k,List.mem_filter.mpr ⟨List.mem_range.mpr lk,decide_eq_true ⟨fun y c=>?_,fun y c=>Nat.le_of_not_lt fun z=>hm y z (hk.trans c)⟩⟩,hk.symm T hx⟩;have cy:=hk.trans c;have ly:=cy.lt T hx;exact⟨fun e=>p ⟨y,ly,.inl e,cy.symm T hx⟩,fun e=>p ⟨y,ly,.inr e,cy.symm T hx⟩⟩
section
def Cn.map{t:Nat->Nat}(T:Two m a b)(ha:∀ x,x<m->t (a x)=a' (t x))(hb:∀ x,x<m->t (b x)=b' (t x))(hx:x<m)(c:Cn a b x y):Cn a' b' (t x) (t y):=by
 induction c with
 | refl=>exact .refl
 | @sa y hy ih=>rw[ha y (hy.lt T hx)];exact .sa ih
 | @sb y hy ih=>rw[hb y (hy.lt T hx)];exact .sb ih
def aU.map{t u:Nat->Nat}(T:Two m a b)(T':Two m a' b')(tl:∀ x,x<m->t x<m)(ul:∀ x,x<m->u x<m)(tu:∀ x,x<m->t (u x)=x)(ut:∀ x,x<m->u (t x)=x)
 (ha:∀ x,x<m->t (a x)=a' (t x))(hb:∀ x,x<m->t (b x)=b' (t x)){S:List Nat}(R:aU m a b S):aU m a' b' (S.map t):=by
 have ha':∀ x,x<m->u (a' x)=a (u x):=fun x hx=>by
  have:=ha (u x) (ul x hx);rw[tu x hx]at this;rw[<-this,ut _ (T.al _ (ul x hx))]
 have hb':∀ x,x<m->u (b' x)=b (u x):=fun x hx=>by
  have:=hb (u x) (ul x hx);rw[tu x hx]at this;rw[<-this,ut _ (T.bl _ (ul x hx))]
 have back:∀ {x y:Nat},x<m->Cn a' b' (t x) y->Cn a b x (u y):=fun {x y} hx c=>by
  have:=c.map T' ha' hb' (tl x hx);rw[ut x hx]at this;exact this
 refine⟨fun s hs=>?_,?_,fun s hs y c=>?_,fun x hx=>?_⟩
 ·obtain⟨x,hx,rfl⟩:=List.mem_map.mp hs;exact tl x (R.lt x hx)
 ·rw[List.pairwise_map];refine List.Pairwise.imp_of_mem ?_ R.nd;intro x y hx hy hn c;have:=back (R.lt x hx) c;rw[ut y (R.lt y hy)]at this;exact hn this
 ·obtain⟨x,hx,rfl⟩:=List.mem_map.mp hs;have ly:=c.lt T' (tl x (R.lt x hx));have:=R.ring x hx _ (back (R.lt x hx) c);refine⟨fun e=>this.1 ?_,fun e=>this.2 ?_⟩
  ·rw[<-ha' y ly,e]
  ·rw[<-hb' y ly,e]
 ·rcases R.all (u x) (ul x hx)with⟨s,h1,h2,h3⟩ | ⟨s,h1,h2⟩
  ·refine .inl ⟨t s,tl s h1,?_,?_⟩
   ·rcases h2 with h2 | h2
    ·exact .inl (by rw[<-ha s h1,h2])
    ·exact .inr (by rw[<-hb s h1,h2])
   ·have:=h3.map T ha hb h1;rw[tu x hx]at this;exact this
  ·refine .inr ⟨t s,List.mem_map.mpr ⟨s,h1,rfl⟩,?_⟩;have:=h2.map T ha hb (R.lt s h1);rw[tu x hx]at this;exact this
end
section
end
abbrev j3(n x:Nat):Nat:=if x<n then x else if x<2*n then x+n else if x<3*n then x-n else if x<4*n then x+n else if x<5*n then x-n else x
abbrev jB(n x:Nat):Nat:=if x<3*n then x else if x<4*n then x+n else if x<5*n then x-n else x
abbrev r3(n:Nat)(h m l:List Nat)(x:Nat):Nat:=if x<2*n then at' h x else 2*n+rb n m l (x-2*n)
abbrev oB(n p:Nat):Nat:=if p<3*n then p else p+2*n
def aU.part{m M:Nat}{a b a' b' t:Nat->Nat}(T':Two m a' b')(tl:∀ x,x<m->t x<M)(ti:∀ x y,x<m->y<m->t x=t y->x=y)(ha:∀ x,x<m->t (a' x)=a (t x))(hb:∀ x,x<m->t (b' x)=b (t x))(rest:∀ z,z<M->(∃ x,x<m/\z=t x)\/a z=z){S:List Nat}(R:aU m a' b' S):aU M a b (S.map t):=by
 have back:∀ {x w:Nat},x<m->Cn a b (t x) w->∃ v,v<m/\w=t v/\Cn a' b' x v:=fun {x w} hx c=>by
  induction c with
  | refl=>exact⟨x,hx,rfl,.refl⟩
  |sa _ ih=>
   obtain⟨v,h1,rfl,h2⟩:=ih;exact⟨_,T'.al v h1,(ha v h1).symm,.sa h2⟩
  |sb _ ih=>
   obtain⟨v,h1,rfl,h2⟩:=ih;exact⟨_,T'.bl v h1,(hb v h1).symm,.sb h2⟩
 refine⟨fun s hs=>?_,?_,fun s hs y c=>?_,fun z hz=>?_⟩
 ·obtain⟨x,hx,rfl⟩:=List.mem_map.mp hs;exact tl x (R.lt x hx)
 ·rw[List.pairwise_map];refine List.Pairwise.imp_of_mem (fun {x y} hx hy hn c=>?_) R.nd;obtain⟨v,h1,h2,h3⟩:=back (R.lt x hx) c;exact hn (by rw[ti y v (R.lt y hy) h1 h2];exact h3)
 ·obtain⟨x,hx,rfl⟩:=List.mem_map.mp hs;obtain⟨v,h1,rfl,h3⟩:=back (R.lt x hx) c;have g:=R.ring x hx v h3;exact⟨fun e=>g.1 (ti _ _ (T'.al v h1) h1 ((ha v h1).trans e)),fun e=>g.2 (ti _ _ (T'.bl v h1) h1 ((hb v h1).trans e))⟩
 ·rcases rest z hz with⟨x,hx,rfl⟩ | e
  ·rcases R.all x hx with⟨s,h1,h2,h3⟩ | ⟨s,h1,h2⟩
   ·refine .inl ⟨t s,tl s h1,?_,h3.map T' ha hb h1⟩;rcases h2 with h2 | h2
    ·exact .inl (by rw[<-ha s h1,h2])
    ·exact .inr (by rw[<-hb s h1,h2])
   ·exact .inr ⟨t s,List.mem_map.mpr ⟨s,h1,rfl⟩,h2.map T' ha hb (R.lt s h1)⟩
  ·exact .inl ⟨z,hz,.inl e,.refl⟩
section
def jH(F:Frm n h)(hx:x<4*n):r3 n h m l x=rb n h m x:=by
 unfold r3 rb;by_cases c:x<2*n
 ·rw[if_pos c,if_pos c]
 ·rw[if_neg c,if_neg c,if_pos (by omega)]
def EJ(hx:4*n<=x):r3 n h m l x=4*n+at' l (x-4*n):=by
 unfold r3 rb;rw[if_neg (by lia),if_neg (by lia),show x-2*n-2*n=x-4*n by lia];lia
def lu:r3 n h m l (2*n+x)=2*n+rb n m l x:=by
 unfold r3;rw[if_neg (by lia),show 2*n+x-2*n=x by lia]
def jI(F:Frm n h)(G:Frm n m)(H:Frm n l)(hx:x<6*n):r3 n h m l x<6*n/\r3 n h m l (r3 n h m l x)=x/\r3 n h m l x≠x:=by
 by_cases c:x<2*n
 ·have e:r3 n h m l x=at' h x:=by unfold r3;rw[if_pos c]
  have lt:=F.lt x c;rw[e];refine⟨by lia,?_,F.no x c⟩;unfold r3;rw[if_pos lt];exact F.inv x
 ·obtain⟨y,rfl⟩:∃ y,x=2*n+y:=⟨x-2*n,by omega⟩
  have T:=two G H
  have ly:y<4*n:=by lia
  have lt:=T.bl y ly;rw[lu];refine⟨by lia,by rw[lu,T.bi y ly],?_⟩;have:=de G H ly;lia
def oh(F:Frm n h)(G:Frm n m)(H:Frm n l)(jl:∀ x,x<6*n->j x<6*n)(jj:∀ x,x<6*n->j (j x)=x):Two (6*n) j (r3 n h m l):=⟨jl,fun x hx=>(jI F G H hx).1,jj,fun x hx=>(jI F G H hx).2.1⟩
def gr(hp:p<2*n):rb n f g p=at' f p:=by unfold rb;rw[if_pos hp]
def fB:rb n f g (2*n+p)=2*n+at' g p:=by unfold rb;rw[if_neg (by lia),show 2*n+p-2*n=p by lia]
def vy(h1:a x=x)(h2:a (b x)=b x)(h3:b (b x)=x)(c:Cn a b x y):y=x\/y=b x:=by
 induction c with
 | refl=>exact .inl rfl
 |sa _ ih=>
  rcases ih with rfl | rfl
  ·exact .inl h1
  ·exact .inr h2
 |sb _ ih=>
  rcases ih with rfl | rfl
  ·exact .inr rfl
  ·exact .inl h3
set_option synthInstance.maxSize 10000 in
set_option synthInstance.maxHeartbeats 0 in
def yH:∀ n,n<11->∀ x,x<6*n->(jn n x<6*n/\jn n (jn n x)=x)/\(j3 n x<6*n/\j3 n (j3 n x)=x)/\(jB n x<6*n/\jB n (jB n x)=x)/\(jn n x=x->x<n\/3*n<=x)/\(jn n x≠x->j3 n x=jn n x)/\(jB n x=x->x<3*n\/5*n<=x)/\(jB n x≠x->j3 n x=jB n x):=by decide +kernel
set_option synthInstance.maxSize 10000 in
set_option synthInstance.maxHeartbeats 0 in
def zl:∀ n,n<11->∀ p,p<4*n->(out n p<6*n/\jn n (out n p)=out n p/\j3 n (out n p)=out n (jn n p))/\(oB n p<6*n/\jB n (oB n p)=oB n p/\j3 n (oB n p)=oB n (jn n p)):=by decide +kernel
def eC(c:¬ p<n):out n p=p+2*n:=by unfold out;rw[if_neg c]
def fP(c:p<n):out n p=p:=by unfold out;rw[if_pos c]
def gi(c:p<3*n):oB n p=p:=by unfold oB;rw[if_pos c]
def jv(c:¬ p<3*n):oB n p=p+2*n:=by unfold oB;rw[if_neg c]
def sX(e:out n p=out n q):p=q:=by
 by_cases c:p<n
 ·rw[fP c]at e;by_cases d:q<n
  ·rw[fP d]at e;exact e
  ·rw[eC d]at e;lia
 ·rw[eC c]at e;by_cases d:q<n
  ·rw[fP d]at e;lia
  ·rw[eC d]at e;lia
def xt(e:oB n p=oB n q):p=q:=by
 by_cases c:p<3*n
 ·rw[gi c]at e;by_cases d:q<3*n
  ·rw[gi d]at e;exact e
  ·rw[jv d]at e;lia
 ·rw[jv c]at e;by_cases d:q<3*n
  ·rw[gi d]at e;lia
  ·rw[jv d]at e;lia
def vt(hn:n<11)(F:Frm n h)(G:Frm n m)(H:Frm n l):Fld (6*n) (jn n) (j3 n) (r3 n h m l) (4*n) (jn n) (rb n (a6 n h m) l) (out n):=by
 have FF:=cj F G;have f3:=yH n hn;have f4:=zl n hn;have T4:Two (4*n) (jn n) (rb n h m):=two F G
 have T4':Two (4*n) (jn n) (r3 n h m l):=⟨T4.al,fun x hx=>by rw[jH F hx];exact T4.bl x hx,T4.ai,fun x hx=>by rw[jH F hx,jH F (T4.bl x hx)];exact T4.bi x hx⟩
 refine⟨oh F G H (fun x hx=>(f3 x hx).1.1) (fun x hx=>(f3 x hx).1.2),oh F G H (fun x hx=>(f3 x hx).2.1.1) (fun x hx=>(f3 x hx).2.1.2),two FF H,
  fun p hp=>(f4 p hp).1.1,fun p q _ _ e=>sX e,fun x hx e=>?_,fun p hp=>(f4 p hp).1.2.1,fun p hp=>(f4 p hp).1.2.2,fun x hx e=>(f3 x hx).2.2.2.2.1 e,fun p q hp hq ne=>?_,fun x hx=>(jI F G H hx).2.2,fun p hp=>de FF H hp⟩
 ·rcases(f3 x hx).2.2.2.1 e with c | c
  ·exact⟨x,by lia,(fP c).symm⟩
  ·exact⟨x-2*n,by lia,by rw[eC (by lia)];lia⟩
 ·by_cases c:p<2*n
  ·have lo:=aH c;rw[gr c];constructor
   ·rintro rfl;have lf:=FF.lt p c;exact((found_iff F G c lf ne).mp rfl).map T4 (t:=fun x=>x) (fun x hx=>rfl) (fun x hx=>(jH F hx).symm) lo
   ·intro z;have z:=z.map T4' (t:=fun x=>x) (a':=jn n) (b':=rb n h m) (fun x hx=>rfl) (fun x hx=>jH F hx) lo;have lz:=z.lt T4 lo
    have lq:q<2*n:=by
     by_cases d:q<n
     ·lia
     ·rw[eC d]at lz;lia
    exact(found_iff F G c lq ne).mpr z
  ·obtain⟨y,rfl⟩:∃ y,p=2*n+y:=⟨p-2*n,by lia⟩
   have ly:y<2*n:=by lia
   have la:=H.lt y ly
   have eo:∀ y,out n (2*n+y)=4*n+y:=fun y=>by rw[eC (by lia)];lia
   have er:∀ y,r3 n h m l (4*n+y)=4*n+at' l y:=fun y=>by rw[EJ (by lia),Nat.add_sub_cancel_left]
   have ej:∀ y,jn n (4*n+y)=4*n+y:=fun y=>by unfold jn;rw[if_neg (by lia),if_neg (by lia),if_neg (by lia)]
   rw[fB,eo];constructor
   ·rintro rfl;rw[eo,<-er];exact .sb .refl
   ·intro z;have e2:=(jI (l:=l) F G H (x:=4*n+y) (by lia)).2.1;rcases vy (ej y) (by rw[er,ej]) e2 z with w | w
    ·exact absurd (sX ((eo y).trans w.symm)) ne
    ·rw[er,<-eo]at w;exact sX w.symm
def zj(y:Nat):jB n (2*n+y)=2*n+jn n y:=by
 unfold jB jn;by_cases c:y<n
 ·rw[if_pos c,if_pos (by lia)]
 ·rw[if_neg c,if_neg (by lia)];by_cases d:y<2*n
  ·rw[if_pos d,if_pos (by lia)];lia
  ·rw[if_neg d,if_neg (by lia)];by_cases e:y<3*n
   ·rw[if_pos e,if_pos (by lia)];lia
   ·rw[if_neg e,if_neg (by lia)]
def wu(hn:n<11)(F:Frm n h)(G:Frm n m)(H:Frm n l):Fld (6*n) (jB n) (j3 n) (r3 n h m l) (4*n) (jn n) (rb n h (a6 n m l)) (oB n):=by
 have FF:=cj G H;have f3:=yH n hn;have f4:=zl n hn;have T4:Two (4*n) (jn n) (rb n m l):=two G H
 have eo:∀ y,oB n (2*n+y)=2*n+out n y:=fun y=>by
  by_cases c:y<n
  ·rw[gi (by lia),fP c]
  ·rw[jv (by lia),eC c];lia
 have ej:=zj (n:=n)
 refine⟨oh F G H (fun x hx=>(f3 x hx).2.2.1.1) (fun x hx=>(f3 x hx).2.2.1.2),oh F G H (fun x hx=>(f3 x hx).2.1.1) (fun x hx=>(f3 x hx).2.1.2),two F FF,
  fun p hp=>(f4 p hp).2.1,fun p q _ _ e=>xt e,fun x hx e=>?_,fun p hp=>(f4 p hp).2.2.1,fun p hp=>(f4 p hp).2.2.2,fun x hx e=>(f3 x hx).2.2.2.2.2.2 e,fun p q hp hq ne=>?_,fun x hx=>(jI F G H hx).2.2,fun p hp=>de F FF hp⟩
 ·rcases(f3 x hx).2.2.2.2.2.1 e with c | c
  ·exact⟨x,by lia,(gi c).symm⟩
  ·exact⟨x-2*n,by lia,by rw[jv (by lia)];lia⟩
 ·by_cases c:p<2*n
  ·have la:=F.lt p c;have eb:∀ {y:Nat},y<2*n->oB n y=y:=fun {y} hy=>gi (by lia)
   have er:∀ {y:Nat},y<2*n->r3 n h m l y=at' h y:=fun {y} hy=>by unfold r3;rw[if_pos hy]
   have ejj:∀ {y:Nat},y<2*n->jB n y=y:=fun {y} hy=>by unfold jB;rw[if_pos (by lia)]
   rw[gr c,eb c];constructor
   ·rintro rfl;rw[eb la,<-er c];exact .sb .refl
   ·intro z;have e2:=(jI (l:=l) F G H (x:=p) (by lia)).2.1;rcases vy (ejj c) (by rw[er c,ejj la]) e2 z with w | w
    ·exact absurd (xt ((eb c).trans w.symm)) ne
    ·rw[er c,<-eb la]at w;exact xt w.symm
  ·obtain⟨y,rfl⟩:∃ y,p=2*n+y:=⟨p-2*n,by lia⟩
   have ly:y<2*n:=by lia
   have lo:=aH ly;rw[fB,eo];constructor
   ·rintro rfl;have lf:=FF.lt y ly;rw[eo];exact((found_iff G H ly lf (by lia)).mp rfl).map T4 (t:=fun x=>2*n+x) (fun x hx=>(ej x).symm) (fun x hx=>lu.symm) lo
   ·intro z
    have back:∀ {x w:Nat},x<4*n->Cn (jB n) (r3 n h m l) (2*n+x) w->∃ v,w=2*n+v/\Cn (jn n) (rb n m l) x v:=fun {x w} hx cc=>by
     induction cc with
     | refl=>exact⟨x,rfl,.refl⟩
     |sa _ ih=>
      obtain⟨v,rfl,hv⟩:=ih;exact⟨_,ej v,.sa hv⟩
     |sb _ ih=>
      obtain⟨v,rfl,hv⟩:=ih;exact⟨_,lu,.sb hv⟩
    obtain⟨v,hv,cv⟩:=back lo z
    obtain⟨u,rfl⟩:∃ u,q=2*n+u:=⟨q-2*n,by
     by_cases d:q<3*n
     ·rw[gi d]at hv;lia
     ·lia⟩
    rw[eo]at hv;have:v=out n u:=Nat.add_left_cancel hv.symm;subst this;rw[(found_iff G H ly (show u<2*n by lia) (by lia)).mpr cv]
def qK(hn:n<11)(F:Frm n h)(G:Frm n m)(H:Frm n l):a6 n (a6 n h m) l=a6 n h (a6 n m l):=by
 have A:=cj F G;have B:=cj G H;have C:=cj A H;refine du bU bU fun p hp=>?_;have lq:=C.lt p hp;have ne:=Ne.symm (C.no p hp);have c1:=((vt hn F G H).iff (aH hp) (aH lq)).mp ((found_iff A H hp lq ne).mp rfl)
 have e:∀ {p:Nat},p<2*n->out n (out n p)=oB n (out n p):=fun {p} hp=>by
  by_cases c:p<n
  ·rw[fP c,fP c,gi (by lia)]
  ·rw[eC c,eC (by lia),jv (by lia)]
 rw[e hp,e lq]at c1;exact((found_iff F B hp lq ne).mpr (((wu hn F G H).iff (aH hp) (aH lq)).mpr c1)).symm
def qO(hn:n<11)(F:Frm n h)(G:Frm n m)(H:Frm n l){S1 S2 S3 S4:List Nat}(R1:aU (4*n) (jn n) (rb n h m) S1)(R2:aU (4*n) (jn n) (rb n (a6 n h m) l) S2)(R3:aU (4*n) (jn n) (rb n m l) S3)(R4:aU (4*n) (jn n) (rb n h (a6 n m l)) S4):S1.length+S2.length=S3.length+S4.length:=by
 have a1:=R1.part (M:=6*n) (a:=jn n) (b:=r3 n h m l) (t:=fun x=>x) (two F G) (fun x hx=>by lia) (fun _ _ _ _ e=>e) (fun _ _=>rfl) (fun x hx=>(jH F hx).symm) (fun z hz=>by
  by_cases c:z<4*n
  ·exact .inl ⟨z,c,rfl⟩
  ·exact .inr (by unfold jn;rw[if_neg (by lia),if_neg (by lia),if_neg (by lia)]))
 have a3:=R3.part (M:=6*n) (a:=jB n) (b:=r3 n h m l) (t:=fun x=>2*n+x) (two G H) (fun x hx=>by lia) (fun _ _ _ _ e=>by lia) (fun x hx=>(zj x).symm) (fun x hx=>lu.symm) (fun z hz=>by
  by_cases c:z<2*n
  ·exact .inr (by unfold jB;rw[if_pos (by lia)])
  ·exact .inl ⟨z-2*n,by omega,by lia⟩)
 have f1:=vt hn F G H;have b1:=f1.rings a1 R2;have b2:=(wu hn F G H).rings a3 R4;have:=b1.one f1.T' b2;simpa using this
end
end RM
set_option maxHeartbeats 1000000
namespace RM
open RL RT
section
def kF(c:x<n):stp n h l (true,x)=(true,x):=by
 unfold stp;rw[if_neg (by simp;exact c)]
def u9(c:¬ x<n):stp n h l (false,x)=(false,x):=by
 unfold stp;rw[if_neg (by simp;lia)]
def BB(c:¬ x<n)(d:x<2*n):stp n h l (true,x)=(false,at' l (x-n)):=by
 unfold stp;rw[if_pos (by simp;lia)];show(false,at' l ((x+n)%(2*n)))=_;rw[show(x+n)%(2*n)=x-n by rw[Nat.mod_eq_sub_mod (by lia),Nat.mod_eq_of_lt (by omega)];lia]
def wC(c:x<n):stp n h l (false,x)=(true,at' h (x+n)):=by
 unfold stp;rw[if_pos (by simp;exact c)];show(true,at' h ((x+n)%(2*n)))=_;rw[Nat.mod_eq_of_lt (by lia)]
def Bp(h1:1<=n)(F:Frm n f)(G:Frm n g)(s:∀ p,p<n->at' f p<n->at' g p=at' f p):a6 n (di n f) g=g:=by
 have q:∀ x,x<n->¬ at' f x<n->(∀ i,(itr n (di n f) g (i+1) (false,at' g x)).2=at' g x):=by
  intro x hx nx i;by_cases c:at' g x<n
  ·have k:¬ at' f (at' g x)<n:=fun k=>by
    have:=s _ c k;rw[G.inv]at this;have e:=F.inv (at' g x);rw[<-this]at e;lia
   have e:stp n (di n f) g (false,at' g x)=(true,at' g x):=by
    rw[wC c,pC (by lia),if_neg (by lia),show at' g x+n-n=at' g x by lia,if_neg k]
   rw[lM e (kF c)]
  ·rw[gb (u9 c)]
 apply Di (n:=n) (by simp[a6]) G.len;funext p;by_cases hp:p<2*n
 ·rw[show at' (a6 n (di n f) g) p=(itr n (di n f) g (4*n) (beg n (di n f) g p)).2 by simp[a6,at',hp],show 4*n=(4*n-2)+2 by lia];by_cases c:p<n
  ·rw[show beg n (di n f) g p=(true,at' (di n f) p) by simp[beg,c,pick],pC hp,if_pos c];by_cases d:at' f p<n
   ·rw[if_pos d,gb (kF d),s p c d]
   ·rw[if_neg d]
    have e:stp n (di n f) g (true,p+n)=(false,at' g p):=by rw[BB (by lia) (by lia),show p+n-n=p by lia]
    have step:∀ i,itr n (di n f) g (i+1) (true,p+n)=itr n (di n f) g i (false,at' g p):=fun i=>by
     induction i with
     | zero=>exact e
     | succ i ih=>rw[itr,ih];rfl
    rw[step];exact q p c d _
  ·rw[show beg n (di n f) g p=(false,at' g p) by simp[beg,c,pick]];by_cases d:at' g p<n
   ·have k:¬ at' f (at' g p)<n:=fun k=>by
     have:=s _ d k;rw[G.inv]at this;lia
    have e:stp n (di n f) g (false,at' g p)=(true,at' g p):=by
     rw[wC d,pC (by lia),if_neg (by lia),show at' g p+n-n=at' g p by lia,if_neg k]
    rw[lM e (kF d)]
   ·rw[gb (u9 d)]
 ·rw[gS (by simp[a6];lia),gS (by rw[G.len];lia)]
end
end RM
set_option maxHeartbeats 1000000
namespace RT
open RL
end RT
namespace RM
open RL RT
section
variable{nu pc pa nb un if' cf po rp ir mv rn mk rg jb pu c2 hu:Nat}
end
end RM
set_option maxHeartbeats 1000000
namespace RM
open RL RT
abbrev rgN(n:Nat)(h l:List Nat):Nat:=Classical.epsilon fun r=>∃ S,aU (4*n) (jn n) (rb n h l) S/\S.length=r
section
def eU(F:Frm n h)(G:Frm n l){S:List Nat}(R:aU (4*n) (jn n) (rb n h l) S):rgN n h l=S.length:=by
 have:=Classical.epsilon_spec (p:=fun r=>∃ S,aU (4*n) (jn n) (rb n h l) S/\S.length=r) ⟨_,S,R,rfl⟩;obtain⟨S',R',e⟩:=this;exact e.symm.trans (R'.one (two F G) R)
abbrev bY(n:Nat)(a b:List Nat × Nat):List Nat × Nat:=(a6 n a.1 b.1,rgN n a.1 b.1+a.2+b.2)
def ud(hn:n<=10){a b c:List Nat × Nat}(A:Frm n a.1)(B:Frm n b.1)(C:Frm n c.1):bY n (bY n a b) c=bY n a (bY n b c):=by
 have AB:=cj A B;have BC:=cj B C;obtain⟨S1,R1⟩:=fV (two A B);obtain⟨S2,R2⟩:=fV (two AB C);obtain⟨S3,R3⟩:=fV (two B C);obtain⟨S4,R4⟩:=fV (two A BC);have e:=qO (by lia) A B C R1 R2 R3 R4;rw[<-eU A B R1,<-eU AB C R2,<-eU B C R3,<-eU A BC R4]at e;unfold bY;refine Prod.ext (qK (by lia) A B C) ?_;dsimp only;lia
def xX{a:List Nat × Nat}(A:Frm n a.1):bY n a (ay n,0)=a:=by
 unfold bY;refine Prod.ext (mz A) ?_;dsimp only;rw[eU A (bj n) (lZ A)];simp
def kc{a:List Nat × Nat}(A:Frm n a.1):bY n (ay n,0) a=a:=by
 unfold bY;refine Prod.ext (mf A) ?_;dsimp only;rw[eU (bj n) A (mC A)];simp
abbrev i6(n:Nat)(a:List Nat × Nat)(fs:List (List Nat)):List Nat × Nat:=fs.foldl (fun a f=>bY n a (f,0)) a
abbrev stk(n:Nat)(fs:List (List Nat)):List Nat × Nat:=i6 n (ay n,0) fs
def yv(hn:n<=10)(V:∀ f∈fs,Val n f):∀ {a:List Nat × Nat},Val n a.1->Val n (i6 n a fs).1:=by
 induction fs with
 | nil=>exact fun A=>A
 | cons f r ih=>exact fun {a} A=>ih (fun g hg=>V g (by simp[hg])) (a:=bY n a (f,0)) (cQ hn A (V f (by simp)))
def zX(hn:n<=10)(V:∀ f∈fs,Val n f):Val n (stk n fs).1:=yv hn V (gg n)
def xP(hn:n<=10)(V:∀ f∈fs,Val n f):∀ {a:List Nat × Nat},Val n a.1->i6 n a fs=bY n a (stk n fs):=by
 induction fs with
 | nil=>exact fun A=>(xX A.frm).symm
 |cons f r ih=>
  intro a A;have Vf:=V f (by simp);have Vr:∀ g∈r,Val n g:=fun g hg=>V g (by simp[hg]);have i1:=ih Vr (a:=bY n a (f,0)) (cQ hn A Vf);have i2:=ih Vr (a:=bY n (ay n,0) (f,0)) (cQ hn (gg n) Vf);rw[kc (a:=(f,0)) Vf.frm]at i2;have e1:i6 n a (f::r)=i6 n (bY n a (f,0)) r:=rfl;have e2:stk n (f::r)=i6 n (bY n (ay n,0) (f,0)) r:=rfl;rw[e1,i1,e2,kc (a:=(f,0)) Vf.frm,i2,ud hn (b:=(f,0)) A.frm Vf.frm (zX hn Vr).frm]
def wU(hn:n<=10)(Vf:Val n f)(Vr:∀ g∈r,Val n g):stk n (f::r)=bY n (f,0) (stk n r):=by
 have e2:stk n (f::r)=i6 n (bY n (ay n,0) (f,0)) r:=rfl;rw[e2,kc (a:=(f,0)) Vf.frm,xP hn Vr (a:=(f,0)) Vf]
def vQ{s t s':Nat->Nat}(W:Way n s s')(F:Frm n h)(G:Frm n l)(F':Frm n h')(G':Frm n l')(tl:∀ x,x<4*n->t x<4*n)(tt:∀ x,x<4*n->t (t x)=x)(tj:∀ x,x<4*n->t (jn n x)=jn n (t x))(tb:∀ x,x<4*n->t (rb n h l x)=rb n h' l' (t x))(to:∀ p,p<2*n->t (out n p)=out n (s p)) :
  a6 n h' l'=aO n s s' (a6 n h l)/\rgN n h' l'=rgN n h l:=by
 have FF:=cj F G;have T:=two F G;constructor
 ·refine Bw W bU fun p hp=>?_;have lq:=FF.lt p hp;have ne:=Ne.symm (FF.no p hp);have c:=((found_iff F G hp lq ne).mp rfl).map T tj tb (aH hp);rw[to p hp,to _ lq]at c;exact(found_iff F' G' (W.lt p hp) (W.lt _ lq) (fun e=>ne ((W.bt p hp).symm.trans ((congrArg s' e).trans (W.bt _ lq))))).mpr c
 ·obtain⟨S,R⟩:=fV T;have R':=R.map T (two F' G') (t:=t) (u:=t) tl tl tt tt tj tb;rw[eU F' G' R',eU F G R,List.length_map]
abbrev ovT(n x:Nat):Nat:=if x<2*n then 2*n+ovr n x else ovr n (x-2*n)
abbrev miT(n x:Nat):Nat:=if x<2*n then mir n x else 2*n+mir n (x-2*n)
set_option synthInstance.maxSize 10000 in
set_option synthInstance.maxHeartbeats 0 in
def E1:∀ n,n<11->∀ x,x<4*n->(ovT n x<4*n/\ovT n (ovT n x)=x/\ovT n (jn n x)=jn n (ovT n x))/\(miT n x<4*n/\miT n (miT n x)=x/\miT n (jn n x)=jn n (miT n x)):=by decide +kernel
def E9:∀ n,n<11->∀ p,p<2*n->ovT n (out n p)=out n (ovr n p)/\miT n (out n p)=out n (mir n p):=by decide +kernel
def mN(hn:n<=10)(V:Val n h)(W:Val n l):a6 n (aO n (ovr n) (ovr n) l) (aO n (ovr n) (ovr n) h)=aO n (ovr n) (ovr n) (a6 n h l)/\rgN n (aO n (ovr n) (ovr n) l) (aO n (ovr n) (ovr n) h)=rgN n h l:=by
 have wo:=cw n;have oo:∀ {p},p<2*n->ovr n (ovr n p)=p:=fun {p} hp=>wo.bt p hp;have f:=E1 n (by lia);refine vQ (t:=ovT n) wo V.frm W.frm (wo.val W).frm (wo.val V).frm (fun x hx=>(f x hx).1.1) (fun x hx=>(f x hx).1.2.1) (fun x hx=>(f x hx).1.2.2) (fun x hx=>?_) (fun p hp=>(E9 n (by lia) p hp).1);unfold ovT;by_cases c:x<2*n
 ·have lx:=V.frm.lt x c;rw[gr c,if_pos lx,if_pos c,fB,bb (wo.lt x c),oo c]
 ·obtain⟨y,rfl⟩:∃ y,x=2*n+y:=⟨x-2*n,by lia⟩
  have ly:y<2*n:=by lia
  rw[fB,if_neg (by lia),if_neg c,Nat.add_sub_cancel_left,Nat.add_sub_cancel_left,gr (wo.lt y ly),bb (wo.lt y ly),oo ly]
end
end RM
set_option maxHeartbeats 1000000
namespace RT
open RL
end RT
namespace RM
open RL RT
section
end
section
variable{nu pc pa nb un if' cf po rp ir mv:Nat}
end
section
def nW(F:Frm n f):aO n (ovr n) (ovr n) (aO n (ovr n) (ovr n) f)=f:=by
 rw[zC (cw n) (cw n)];exact Bv F (fun p hp=>(cw n).bt p hp) (fun p hp=>(cw n).bt p hp)
def Ex(F:Frm n f)(hp:p<n):at' (aO n (ovr n) (ovr n) f) p=if at' f (n+p)<n then at' f (n+p)+n else at' f (n+p)-n:=by
 rw[bb (by lia),eI hp,Nat.add_comm p n];rfl
end
abbrev Has(n:Nat)(a b:List Nat):Prop:=∀ p,p<n->at' a p<n->at' b p=at' a p
section
def v7(hp:∀ p,p<n->at' h p<n->p<2*n):Has n h (a6 n h l):=fun p c d=>by
 rw[pE (by lia),show beg n h l p=(true,at' h p) by simp[beg,c,pick],gb (kF d)]
end
end RM
set_option maxHeartbeats 1000000
namespace RM
open RL RT
def zS:∀ n,n<11->∀ i,i<n->i+1<n->di n (aw n i)=aw n i:=by decide +kernel
def qF:∀ n,n<11->∀ i,i<n->i+1<n->aO n (ovr n) (ovr n) (aw n i)=aw n i:=by decide +kernel
section
def qB(hi:i+1<n)(F:Frm n f):Has n (aw n i) f↔at' f i=i+1:=by
 constructor
 ·intro H
  have e:at' (aw n i) i=i+1:=by
   rw[fH hi,if_neg (by omega),if_neg (by omega),if_neg (by omega),if_pos rfl]
  have:=H i (by omega) (by omega);omega
 ·intro e p hp c;rw[fH hi,if_neg (by omega),if_neg (by omega)]at c ⊢;by_cases c1:p=i+1
  ·rw[if_pos c1,c1,<-e,F.inv]
  ·rw[if_neg c1]at c ⊢;by_cases c2:p=i
   ·rw[if_pos c2,c2];exact e
   ·rw[if_neg c2,if_pos hp]at c;omega
def sT(hn:n<=10)(hi:i+1<n)(F:Frm n f):a6 n (aw n i) f=f↔at' f i=i+1:=by
 constructor
 ·intro e
  have H:Has n (aw n i) (a6 n (aw n i) f):=v7 fun _ _ _=>by omega
  rw[e]at H;exact(qB hi F).mp H
 ·intro e;have:=Bp (n:=n) (f:=aw n i) (by omega) (cA hn hi).frm F ((qB hi F).mpr e);rw[zS n (by omega) i (by omega) hi]at this;exact this
def uw(hn:n<=10)(hi:i+1<n)(F:Frm n f)(e:at' f i=i+1):aU (4*n) (jn n) (rb n (aw n i) f) [n+i]:=by
 have G:=(cA hn hi).frm
 have e':at' f (i+1)=i:=by rw[<-e,F.inv]
 have h1:at' (aw n i) (n+i)=n+i+1:=by rw[fH hi,if_neg (by omega),if_pos rfl]
 have h2:at' (aw n i) (n+(i+1))=n+i:=by rw[fH hi,if_pos (by omega)]
 have b1:rb n (aw n i) f (n+i)=n+(i+1):=by rw[gr (by omega),h1];rfl
 have i1:i<n:=by omega
 have j1:=jc i1;have j2:=jc hi;have j3:=ko i1;have j4:=ko hi
 have cls:∀ y,Cn (jn n) (rb n (aw n i) f) (n+i) y->y=n+i\/y=n+(i+1)\/y=2*n+i\/y=2*n+(i+1):=by
  intro y h
  induction h with
  | refl=>exact .inl rfl
  |sa _ ih=>
   rcases ih with rfl | rfl | rfl | rfl
   ·exact .inr (.inr (.inl j1))
   ·exact .inr (.inr (.inr j2))
   ·exact .inl j3
   ·exact .inr (.inl j4)
  |sb _ ih=>
   rcases ih with rfl | rfl | rfl | rfl
   ·exact .inr (.inl b1)
   ·exact .inl (by rw[gr (by omega),h2])
   ·exact .inr (.inr (.inr (by rw[fB,e])))
   ·exact .inr (.inr (.inl (by rw[fB,e'])))
 refine⟨fun s hs=>?_,List.pairwise_singleton _ _,fun s hs y hy=>?_,fun x hx=>?_⟩
 ·rw[List.mem_singleton.mp hs];omega
 ·rw[List.mem_singleton.mp hs]at hy;have c:=cls y hy
  have n0:0<n:=by omega
  rcases c with rfl | rfl | rfl | rfl
  ·exact⟨by rw[j1];omega,de G F (by omega)⟩
  ·exact⟨by rw[j2];omega,de G F (by omega)⟩
  ·exact⟨by rw[j3];omega,de G F (by omega)⟩
  ·exact⟨by rw[j4];omega,de G F (by omega)⟩
 ·by_cases np:Pth (4*n) (jn n) (rb n (aw n i) f) x
  ·exact .inl np
  ·obtain⟨m,hm,cm,nm⟩:=ky G F hx np
   have cm:Cn (jn n) (rb n (aw n i) f) (n+m) x:=by
    rcases cm with rfl | rfl
    ·exact .refl
    ·have:=Cn.sa (a:=jn n) (b:=rb n (aw n i) f) (x:=n+m) .refl;rw[jc hm]at this;exact this
   by_cases c1:m=i
   ·subst c1;exact .inr ⟨n+m,List.mem_singleton.mpr rfl,cm⟩
   ·by_cases c2:m=i+1
    ·subst c2;refine .inr ⟨n+i,List.mem_singleton.mpr rfl,Cn.trans ?_ cm⟩;have:=Cn.sb (a:=jn n) (b:=rb n (aw n i) f) (x:=n+i) .refl;rw[b1]at this;exact this
    ·refine absurd ⟨m,by omega,.inl ?_,?_⟩ nm
     ·unfold jn;rw[if_pos hm]
     ·have:=Cn.sb (a:=jn n) (b:=rb n (aw n i) f) (x:=m) .refl;rw[gr (by omega),fH hi,if_neg (by omega),if_neg (by omega),if_neg c2,if_neg c1,if_pos hm]at this;exact this
abbrev dH(n:Nat)(f:List Nat):List Nat:=(List.range (n-1)).filter fun i=>decide (at' f i=i+1)
def xv(hn:n<=10)(hi:i+1<n)(V:Val n f):(a6 n f (aw n i)=f↔at' f (n+i)=n+i+1)/\(at' f (n+i)=n+i+1->rgN n f (aw n i)=1):=by
 have K:=cA hn hi;have V':=(cw n).val V;have ho:aO n (ovr n) (ovr n) (aw n i)=aw n i:=qF n (by omega) i (by omega) hi;have p:=mN hn V K;rw[ho]at p
 have t:at' (aO n (ovr n) (ovr n) f) i=i+1↔at' f (n+i)=n+i+1:=by
  have l:=V.frm.lt (n+i) (by omega);rw[Ex V.frm (by omega)];split<;>omega
 refine⟨?_,fun e=>?_⟩
 ·rw[<-t,<-sT hn hi V'.frm,p.1];constructor
  ·intro e;rw[e]
  ·intro e;have:=congrArg (aO n (ovr n) (ovr n)) e;rw[nW V.frm,nW (cQ hn V K).frm]at this;exact this
 ·rw[<-p.2,eU K.frm V'.frm (uw hn hi V'.frm (t.mpr e))];rfl
def D4(x y:Nat):aZ .eq (.int (x:Nat)) (.int (y:Nat))=some (decide (x=y)):=by
 rw[gE];congr 1;rw[Bool.eq_iff_iff,beq_iff_eq,decide_eq_true_eq];omega
def sub_one(h1:1<=n):aE .sub (.int (n:Nat)) (.int 1)=some (.int ((n-1:Nat):Int)):=by
 rw[gj];congr 2;omega
end
section
variable{nu pc pa nb un if' cf po rp ir mv:Nat}
end
end RM
set_option maxHeartbeats 1000000
namespace RM
open RL RT
section
variable{cl:Cl}
end
section
variable{T:List Fn}{nu pc:Nat}
def zy{ish n:Nat}{k i:Nat}(hnu:T[nu]?=some d7)(his:T[ish]?=some (gm nu))(hi:i+1<k):a8 T (n+2) ish [.int (k:Nat),.int (i:Nat)]=some (.bl true):=by
 refine(az his).trans ((qL (fun i=>(az hnu).trans (fv i)) _ _).trans ?_);rw[decide_eq_true (by omega)]
def Dn{cp n:Nat}{k:Nat}(hnu:T[nu]?=some d7)(hpc:T[pc]?=some (c7 nu))(hcp:T[cp]?=some (dX pc))(h1:1<=k)(hk:k<=10):a8 T (n+3) cp [.int (k:Nat)]=some .non:=by
 refine(az hcp).trans (mr ((az hpc).trans ((gf (fun i=>(az hnu).trans (fv i)) _).trans ?_)));rw[decide_eq_true (by omega)]
end
end RM
namespace RT
open RL
end RT
namespace RM
open RL RT
abbrev prD(a:List Nat × Nat):D:=.tup [.tup (L a.1),.int (a.2:Nat)]
def AU(f:List Nat):(D.tup (L f)).imm=true:=by simp[D.imm,cq]
section
variable{nu pc pa nb un if' cf po rp ir mv rn mk rg jb pu c2 hu:Nat}
end
end RM
set_option maxHeartbeats 1000000
namespace RT
open RL
end RT
namespace RM
open RL RT
section
end
end RM
set_option maxHeartbeats 1000000
namespace RM
open RL RT
section
def tm(hn:n<=10)(hi:i+1<n)(V:Val n f)(ne:at' f (n+i)≠n+i+1) :
  (∀ p,p<2*n->p≠n+i->p≠n+i+1->Cn (jn n) (rb n f (aw n i)) (out n p) p)/\Cn (jn n) (rb n f (aw n i)) (n+i) (n+i+1)/\Cn (jn n) (rb n f (aw n i)) (out n (n+i)) (out n (n+i+1)):=by
 have hk:=fun x=>fH (n:=n) (i:=i) (x:=x) hi;refine⟨fun p hp h1 h2=>?_,?_,?_⟩
 ·by_cases c:p<n
  ·unfold out;rw[if_pos c];exact .refl
  ·obtain⟨j,rfl⟩:∃ j,p=n+j:=⟨p-n,by lia⟩
   have hj:j<n:=by lia
   have e0:out n (n+j)=2*n+(n+j):=by unfold out;rw[if_neg (by lia)];lia
   have e1:rb n f (aw n i) (2*n+(n+j))=2*n+j:=by
    rw[fB,hk,if_neg (by lia),if_neg (by lia),if_neg (by lia),if_neg (by lia),if_neg (by lia),if_pos (by lia)];lia
   rw[e0];have c1:=Cn.sb (a:=jn n) (b:=rb n f (aw n i)) (x:=2*n+(n+j)) .refl;rw[e1]at c1;have c2:=Cn.sa c1;rw[ko hj]at c2;exact c2
 ·have c1:=Cn.sa (a:=jn n) (b:=rb n f (aw n i)) (x:=n+i) .refl;rw[jc (by lia)]at c1;have c2:=Cn.sb c1;rw[fB,hk,if_neg (by lia),if_neg (by lia),if_neg (by lia),if_pos rfl]at c2;have c3:=Cn.sa c2;rw[ko hi]at c3;exact c3
 ·have e0:out n (n+i)=2*n+(n+i):=by unfold out;rw[if_neg (by lia)];lia
  have e1:out n (n+i+1)=2*n+(n+i+1):=by unfold out;rw[if_neg (by lia)];lia
  have c1:=Cn.sb (a:=jn n) (b:=rb n f (aw n i)) (x:=2*n+(n+i)) .refl;rw[fB,hk,if_neg (by lia),if_pos rfl]at c1;rw[e0,e1];exact c1
def iz(hn:n<=10)(hi:i+1<n)(V:Val n f):a6 n f (aw n i)=aC f (n+i)/\rgN n f (aw n i)=dC f (n+i):=by
 by_cases ne:at' f (n+i)=n+i+1
 ·have z:=xv hn hi V;unfold aC dC;rw[if_pos ne,if_pos ne];exact⟨z.1.mpr ne,z.2 ne⟩
 ·have F:=V.frm;have K:=(cA hn hi).frm;have T2:=two F K;obtain⟨r1,r2,r3⟩:=tm hn hi V ne;have a1:=F.lt (n+i) (by lia);have b1:=F.lt (n+i+1) (by lia);have a2:=F.no (n+i) (by lia);have b2:=F.no (n+i+1) (by lia);have ia:=F.inv (n+i);have ib:=F.inv (n+i+1);have b3:at' f (n+i+1)≠n+i:=fun e=>ne (by rw[e]at ib;exact ib)
  have st:∀ p,p<2*n->Cn (jn n) (rb n f (aw n i)) p (at' f p):=fun p hp=>by
   have:=Cn.sb (a:=jn n) (b:=rb n f (aw n i)) (x:=p) .refl;rw[gr hp]at this;exact this
  have back:∀ p,p<2*n->p≠n+i->p≠n+i+1->Cn (jn n) (rb n f (aw n i)) p (out n p):=fun p hp h1 h2=>(r1 p hp h1 h2).symm T2 (aH hp)
  have key:∀ p,p<2*n->at' (a6 n f (aw n i)) p=at' (aC f (n+i)) p:=fun p hp=>by
   have h:at' (aC f (n+i)) p=M.hg (n+i) (n+i+1) (at' f) p:=by rw[dQ F (by lia)]
   rw[h];unfold M.hg;rw[if_neg ne];by_cases c1:p=n+i+1
   ·rw[if_pos c1,found_iff F K hp (by lia) (by lia),c1];exact r3.symm T2 (aH (by lia))
   ·rw[if_neg c1];by_cases c2:p=n+i
    ·rw[if_pos c2,found_iff F K hp (by lia) (by lia),c2];exact r3
    ·rw[if_neg c2];by_cases c3:p=at' f (n+i+1)
     ·rw[if_pos c3]
      have nn:p≠at' f (n+i):=fun e=>by
       have:at' f (at' f (n+i))=at' f (at' f (n+i+1)):=by rw[<-e,<-c3]
       lia
      rw[found_iff F K hp a1 nn];have s1:=(r1 p hp c2 c1).trans (st p hp);rw[c3,ib]at s1;have s2:=s1.trans (r2.symm T2 (by lia));have s3:=s2.trans (st _ (by lia));rw[c3];exact s3.trans (back _ a1 a2 ne)
     ·rw[if_neg c3];by_cases c4:p=at' f (n+i)
      ·rw[if_pos c4];have nn:p≠at' f (n+i+1):=c3;rw[found_iff F K hp b1 nn];have s1:=(r1 p hp c2 c1).trans (st p hp);rw[c4,ia]at s1;have s2:=s1.trans r2;have s3:=s2.trans (st _ (by lia));rw[c4];exact s3.trans (back _ b1 b3 b2)
      ·rw[if_neg c4];have ip:=F.inv p;have n1:at' f p≠n+i:=fun e=>c4 (by rw[<-e,ip]);have n2:at' f p≠n+i+1:=fun e=>c3 (by rw[<-e,ip]);rw[found_iff F K hp (F.lt p hp) (fun e=>F.no p hp e.symm)];exact((r1 p hp c2 c1).trans (st p hp)).trans (back _ (F.lt p hp) n1 n2)
  refine⟨?_,?_⟩
  ·apply List.ext_getElem?;intro p;by_cases hp:p<2*n
   ·rw[df (by rw[bU];exact hp),df (by rw[dI,F.len];exact hp),key p hp]
   ·rw[List.getElem?_eq_none (by rw[bU];lia),List.getElem?_eq_none (by rw[dI,F.len];lia)]
  ·have R:aU (4*n) (jn n) (rb n f (aw n i)) []:=by
    have fix:∀ p,p<2*n->jn n (out n p)=out n p:=fun p hp=>by unfold out jn;(repeat' split)<;>lia
    have pth:∀ p,p<2*n->p≠n+i->p≠n+i+1->∀ {x},Cn (jn n) (rb n f (aw n i)) p x->∃ s,s<4*n/\(jn n s=s\/rb n f (aw n i) s=s)/\Cn (jn n) (rb n f (aw n i)) s x:=fun p hp h1 h2 x c=>⟨out n p,aH hp,.inl (fix p hp),(r1 p hp h1 h2).trans c⟩
    have mid:∀ j,j<n->∀ {x},Cn (jn n) (rb n f (aw n i)) (n+j) x->∃ s,s<4*n/\(jn n s=s\/rb n f (aw n i) s=s)/\Cn (jn n) (rb n f (aw n i)) s x:=fun j hj x c=>by
     by_cases h1:j=i
     ·subst h1;exact pth _ a1 a2 ne (((st (n+j) (by lia)).symm T2 (by lia)).trans c)
     ·by_cases h2:j=i+1
      ·subst h2;exact pth _ b1 b3 b2 (((st (n+i+1) (by lia)).symm T2 (by lia)).trans c)
      ·exact pth _ (by lia) (by lia) (by lia) c
    refine aU.mk (fun s hs=>by cases hs) List.Pairwise.nil (fun s hs=>by cases hs) fun x hx=>Or.inl ?_;by_cases c1:x<n
    ·exact⟨x,hx,.inl (by unfold jn;rw[if_pos c1]),.refl⟩
    ·by_cases c2:x<2*n
     ·obtain⟨j,rfl⟩:∃ j,x=n+j:=⟨x-n,by lia⟩
      exact mid j (by lia) .refl
     ·by_cases c3:x<3*n
      ·obtain⟨j,rfl⟩:∃ j,x=2*n+j:=⟨x-2*n,by lia⟩
       have c:=Cn.sa (a:=jn n) (b:=rb n f (aw n i)) (x:=n+j) .refl;rw[jc (by lia)]at c;exact mid j (by lia) c
      ·exact⟨x,hx,.inl (by unfold jn;rw[if_neg c1,if_neg c2,if_neg c3]),.refl⟩
   rw[eU F K R];unfold dC;rw[if_neg ne];rfl
def nv(hn:n<=10):∀ (row:List Nat) (s:List Nat × Nat),(∀ j∈row,j+1<n)->Val n s.1->hangs n row s=i6 n s (row.map (aw n))
 | [],s,_,_=>rfl
 | j::row,s,h,V=>by
  have hj:=h j (.head _);obtain⟨e1,e2⟩:=iz hn hj V
  have e:bY n s (aw n j,0)=(aC s.1 (n+j),s.2+dC s.1 (n+j)):=by
   unfold bY;refine Prod.ext e1 ?_;show rgN n s.1 (aw n j)+s.2+0=_;rw[e2];show _=s.2+dC s.1 (n+j);lia
  show hangs n row (aC s.1 (n+j),s.2+dC s.1 (n+j))=i6 n (bY n s (aw n j,0)) (row.map (aw n));rw[e];refine nv hn row _ (fun k hk=>h k (.tail _ hk)) ?_;rw[<-e1];exact cQ hn V (cA hn hj)
end
end RM
set_option maxHeartbeats 1000000
namespace RM
open RL RT
abbrev sP(n:Nat)(f:List Nat)(s p:Nat):Bool:=decide (p%n<=s/\s<at' f p%n)
abbrev sm(n:Nat)(f:List Nat)(s:Nat):Nat:=cnt (2*n) (sP n f s)
section
def AD:∀ n,n<11->∀ p,p<2*n->ovr n p%n=p%n/\mir n p%n=n-1-p%n:=by decide +kernel
def qz(g:Nat->Nat)(h:∀ p,p<m->P p=true->g p<m/\P (g p)=true/\g (g p)=p/\g p≠p):cnt m P%2=0:=by
 unfold cnt
 have mem:∀ x,x∈(List.range m).filter P↔x<m/\P x=true:=fun x=>by rw[List.mem_filter,List.mem_range]
 refine kd (b:=g) (List.nodup_range.filter _) (fun x hx=>?_) (fun x hx=>?_) (fun x hx=>?_)
 ·obtain⟨a,b⟩:=(mem x).mp hx;exact(mem _).mpr ⟨(h x a b).1,(h x a b).2.1⟩
 ·obtain⟨a,b⟩:=(mem x).mp hx;exact(h x a b).2.2.1
 ·obtain⟨a,b⟩:=(mem x).mp hx;exact(h x a b).2.2.2
def se:∀ xs:List Nat,(∀ x∈xs,(if A x then 1 else 0)=(if B x then 1 else 0)+(if C x then 1 else 0))->(xs.filter A).length=(xs.filter B).length+(xs.filter C).length
 | [],_=>rfl
 | x::r,h=>by
  have ih:=se r fun y hy=>h y (List.mem_cons_of_mem _ hy);have hx:=h x (List.mem_cons_self ..);rw[List.filter_cons,List.filter_cons,List.filter_cons];cases a:A x<;>cases b:B x<;>cases c:C x<;>rw[a,b,c]at hx<;>simp at hx ⊢<;>lia
def AJ(hn:n<=10)(F:Frm n f)(s:Nat):sm n f s%2=0:=by
 have W:=cw n
 have e1:cnt (2*n) (fun p=>decide (p%n<=s))%2=0:=qz (ovr n) fun p hp h=>by
  rw[decide_eq_true_eq]at h;rw[decide_eq_true_eq,(AD n (by lia) p hp).1];exact⟨W.lt p hp,h,W.bt p hp,by unfold ovr;split<;>lia⟩
 have e2:cnt (2*n) (fun p=>decide (p%n<=s/\at' f p%n<=s))%2=0:=qz (at' f) fun p hp h=>by
  rw[decide_eq_true_eq]at h;rw[decide_eq_true_eq,F.inv];exact⟨F.lt p hp,⟨h.2,h.1⟩,rfl,F.no p hp⟩
 have e3:cnt (2*n) (fun p=>decide (p%n<=s))=cnt (2*n) (fun p=>decide (p%n<=s/\at' f p%n<=s))+sm n f s:=by
  unfold sm cnt;refine se _ fun x _=>?_;unfold sP;by_cases c:x%n<=s
  ·by_cases d:at' f x%n<=s
   ·rw[if_pos (decide_eq_true c),if_pos (decide_eq_true ⟨c,d⟩),if_neg (by rw[decide_eq_true_eq];lia)]
   ·rw[if_pos (decide_eq_true c),if_neg (by rw[decide_eq_true_eq];lia),if_pos (by rw[decide_eq_true_eq];lia)]
  ·rw[if_neg (by rw[decide_eq_true_eq];lia),if_neg (by rw[decide_eq_true_eq];lia),if_neg (by rw[decide_eq_true_eq];lia)]
 lia
end
end RM
set_option maxHeartbeats 1000000
namespace RM
abbrev tkF(I L Q:Nat)(R:Nat->Nat)(x:Nat):Nat:=if x=L then I else if x=I then L else if x=Q then I+1 else if x=I+1 then Q else R x
abbrev inA(I L x:Nat):Prop:=(L<I/\L<x/\x<I)\/(I<L/\(L<x\/x<I))
def yn(lt:∀ x,x<m->R x<m)(inv:∀ x,x<m->R (R x)=x)(no:∀ x,x<m->R x≠x)
 (nox:∀ q q',q<m->q'<m->¬ (q<q'/\q'<R q/\R q<R q'))(hI:I+1<m)(hL:L<m)(e1:R I=I+1)(e2:R L=Q)(hc:(L<I/\I+1<Q)\/(I+1<Q/\Q<L))
 (clA:∀ x,x<m->inA I L x->inA I L (R x)):∀ q q',q<m->q'<m->¬ (q<q'/\q'<tkF I L Q R q/\tkF I L Q R q<tkF I L Q R q'):=by
 have e3:R (I+1)=I:=by rw[<-e1,inv I (by lia)]
 have e4:R Q=L:=by rw[<-e2,inv L hL]
 have hQ:Q<m:=by rw[<-e2];exact lt L hL
 have side:∀ x,x<m->x≠L->x≠I->x≠Q->x≠I+1->(R x≠L/\R x≠I/\R x≠Q/\R x≠I+1)/\(inA I L x↔inA I L (R x))/\((I+1<x/\x<Q)↔(I+1<R x/\R x<Q)):=by
  intro x hx h1 h2 h3 h4;have ix:=inv x hx;have lx:=lt x hx;have n1:R x≠L:=fun e=>h3 (by rw[<-ix,e,e2]);have n2:R x≠I:=fun e=>h4 (by rw[<-ix,e,e1]);have n3:R x≠Q:=fun e=>h1 (by rw[<-ix,e,e4]);have n4:R x≠I+1:=fun e=>h2 (by rw[<-ix,e,e3])
  have a1:inA I L x↔inA I L (R x):=⟨clA x hx,fun h=>by have:=clA (R x) lx h;rw[ix]at this;exact this⟩
  refine⟨⟨n1,n2,n3,n4⟩,a1,?_⟩
  rcases hc with⟨k1,k2⟩ | ⟨k1,k2⟩
  ·constructor
   ·intro⟨g1,g2⟩
    have na:¬ (L<R x/\R x<I):=fun h=>by
     rcases a1.mpr (.inl ⟨k1,h.1,h.2⟩)with z | z<;>lia
    have c2:=nox L x hL hx;have d1:=nox (R x) L lx hL;rw[e2]at c2 d1;rw[ix]at d1;lia
   ·intro⟨g1,g2⟩
    have na:¬ (L<x/\x<I):=fun h=>by
     rcases a1.mp (.inl ⟨k1,h.1,h.2⟩)with z | z<;>lia
    have d2:=nox L (R x) hL lx;have c1:=nox x L hx hL;rw[e2]at d2 c1;rw[ix]at d2;lia
  ·constructor
   ·intro⟨g1,g2⟩
    have na:¬ (L<R x\/R x<I):=fun h=>by
     rcases a1.mpr (.inr ⟨by lia,h⟩)with z | z<;>lia
    have c3:=nox x Q hx hQ;rw[e4]at c3;lia
   ·intro⟨g1,g2⟩
    have na:¬ (L<x\/x<I):=fun h=>by
     rcases a1.mp (.inr ⟨by lia,h⟩)with z | z<;>lia
    have d3:=nox (R x) Q lx hQ;rw[e4,ix]at d3;lia
 have tL:tkF I L Q R L=I:=by unfold tkF;rw[if_pos rfl]
 have tI:tkF I L Q R I=L:=by unfold tkF;rw[if_neg (by lia),if_pos rfl]
 have tQ:tkF I L Q R Q=I+1:=by unfold tkF;rw[if_neg (by lia),if_neg (by lia),if_pos rfl]
 have tJ:tkF I L Q R (I+1)=Q:=by unfold tkF;rw[if_neg (by lia),if_neg (by lia),if_neg (by lia),if_pos rfl]
 have tO:∀ x,x≠L->x≠I->x≠Q->x≠I+1->tkF I L Q R x=R x:=fun x a b c d=>by unfold tkF;rw[if_neg a,if_neg b,if_neg c,if_neg d]
 have four:∀ x,(x=L\/x=I\/x=Q\/x=I+1)\/(x≠L/\x≠I/\x≠Q/\x≠I+1):=fun x=>by lia
 have one:∀ x,x<m->x≠L->x≠I->x≠Q->x≠I+1->((L<I->((L<x/\x<I)↔(L<R x/\R x<I)))/\(I<L->((I<x/\x<L)↔(I<R x/\R x<L))))/\((I+1<x/\x<Q)↔(I+1<R x/\R x<Q)):=fun x hx p1 p2 p3 p4=>by
  obtain⟨⟨n1,n2,n3,n4⟩,a1,a2⟩:=side x hx p1 p2 p3 p4;refine⟨⟨fun k=>⟨fun h=>?_,fun h=>?_⟩,fun k=>⟨fun h=>?_,fun h=>?_⟩⟩,a2⟩
  ·rcases a1.mp (.inl ⟨k,h.1,h.2⟩)with z | z<;>lia
  ·rcases a1.mpr (.inl ⟨k,h.1,h.2⟩)with z | z<;>lia
  ·have na:¬ (L<R x\/R x<I):=fun h'=>by rcases a1.mpr (.inr ⟨k,h'⟩)with z | z<;>lia
   lia
  ·have na:¬ (L<x\/x<I):=fun h'=>by rcases a1.mp (.inr ⟨k,h'⟩)with z | z<;>lia
   lia
 intro q q' hq hq' ⟨h1,h2,h3⟩
 rcases four q with o | ⟨p1,p2,p3,p4⟩
 ·rcases four q' with o' | ⟨p1,p2,p3,p4⟩
  ·rcases o with rfl | rfl | rfl | rfl<;>rcases o' with rfl | rfl | rfl | rfl<;>first | lia | skip
   all_goals simp only[tL,tI,tQ,tJ]at h2 h3
   all_goals lia
  ·obtain⟨⟨s1,s2⟩,s3⟩:=one q' hq' p1 p2 p3 p4;rw[tO q' p1 p2 p3 p4]at h3;rcases o with rfl | rfl | rfl | rfl
   ·rw[tL]at h2 h3;have:=s1 (by lia);lia
   ·rw[tI]at h2 h3;have:=s2 (by lia);lia
   ·rw[tQ]at h2 h3;lia
   ·rw[tJ]at h2 h3;lia
 ·rw[tO q p1 p2 p3 p4]at h2 h3
  rcases four q' with o' | ⟨r1,r2,r3,r4⟩
  ·obtain⟨⟨s1,s2⟩,s3⟩:=one q hq p1 p2 p3 p4;rcases o' with rfl | rfl | rfl | rfl
   ·rw[tL]at h3;have:=s1 (by lia);lia
   ·rw[tI]at h3;have:=s2 (by lia);lia
   ·rw[tQ]at h3;lia
   ·rw[tJ]at h3;lia
  ·rw[tO q' r1 r2 r3 r4]at h3;exact nox q q' hq hq' ⟨h1,h2,h3⟩
end RM
set_option maxHeartbeats 1000000
namespace RM
open RL RT
def xl(k:Nat)(P:Nat->Bool):cnt (k+1) P=cnt k P+if P k then 1 else 0:=by
 unfold cnt;rw[List.range_succ,List.filter_append,List.length_append,List.filter_cons];split<;>rfl
def pO(h:x<f.length):ixV (.lst (L f)) (.int (x:Nat))=some (.int (at' f x:Nat)):=by
 show c8 _ _=_;rw[fR,sV,df h];rfl
def Ag(x:Nat)(h:0<q):aE .mod (.int (x:Nat)) (.int (q:Nat))=some (.int ((x%q:Nat):Int)):=by
 rw[dY (by omega)];congr 2
section
end
end RM
set_option maxHeartbeats 1000000
namespace RM
abbrev bG:Nat->(Nat->Nat)->Nat
 | 0,_=>0
 | m+1,g=>bG m g+g m
def dW:∀ {m:Nat},(∀ p,p<m->g p=g' p)->bG m g=bG m g'
 | 0,_=>rfl
 | m+1,h=>by rw[bG,bG,dW fun p hp=>h p (Nat.lt_succ_of_lt hp),h m (Nat.lt_succ_self m)]
def mT:∀ {m:Nat},(∀ p,p<m->g p<=g' p)->bG m g<=bG m g'
 | 0,_=>Nat.le_refl _
 | m+1,h=>Nat.add_le_add (mT fun p hp=>h p (Nat.lt_succ_of_lt hp)) (h m (Nat.lt_succ_self m))
def eG(c:Nat):∀ m,bG m (fun _=>c)=m*c
 | 0=>(Nat.zero_mul c).symm
 | m+1=>by rw[bG,eG c m,Nat.succ_mul]
def m5(P:Nat->Bool):∀ m,cnt m P=bG m (fun p=>if P p then 1 else 0)
 | 0=>rfl
 | m+1=>by rw[xl,m5 P m,bG]
def dJ:∀ {m:Nat},x<m->(∀ p,p<m->p≠x->g' p=g p)->bG m g'+g x=bG m g+g' x
 | 0,h,_=>nomatch h
 | m+1,h,e=>by
  rw[bG,bG];by_cases c:x=m
  ·subst c;rw[dW (g:=g') (g':=g) fun p hp=>e p (Nat.lt_succ_of_lt hp) (Nat.ne_of_lt hp),Nat.add_right_comm]
  ·have:=dJ (m:=m) (Nat.lt_of_le_of_ne (Nat.le_of_lt_succ h) c) fun p hp=>e p (Nat.lt_succ_of_lt hp);rw[e m (Nat.lt_succ_self m) (Ne.symm c),Nat.add_right_comm,this,Nat.add_right_comm]
def F4(hx:x<m)(hy:y<m)(hu:u<m)(hv:v<m)(d1:x≠y)(d2:x≠u)(d3:x≠v)(d4:y≠u)(d5:y≠v)(d6:u≠v)(e:∀ p,p≠x->p≠y->p≠u->p≠v->g' p=g p) :
  bG m g'+(g x+g y+g u+g v)=bG m g+(g' x+g' y+g' u+g' v):=by
 have s1:=dJ (g:=g) (g':=fun p=>if p=x then g' x else g p) hx (fun p _ h=>if_neg h);have s2:=dJ (g:=fun p=>if p=x then g' x else g p) (g':=fun p=>if p=y then g' y else if p=x then g' x else g p) hy (fun p _ h=>if_neg h);have s3:=dJ (g:=fun p=>if p=y then g' y else if p=x then g' x else g p) (g':=fun p=>if p=u then g' u else if p=y then g' y else if p=x then g' x else g p) hu (fun p _ h=>if_neg h)
 have s4:=dJ (g:=fun p=>if p=u then g' u else if p=y then g' y else if p=x then g' x else g p) (g':=g') hv (fun p _ h=>by
  show g' p=if p=u then g' u else if p=y then g' y else if p=x then g' x else g p;by_cases c1:p=u
  ·rw[if_pos c1,c1]
  ·by_cases c2:p=y
   ·rw[if_neg c1,if_pos c2,c2]
   ·by_cases c3:p=x
    ·rw[if_neg c1,if_neg c2,if_pos c3,c3]
    ·rw[if_neg c1,if_neg c2,if_neg c3,e p c3 c2 c1 h])
 rw[if_pos rfl]at s1 s2 s3;rw[if_neg (Ne.symm d1)]at s2;rw[if_neg (Ne.symm d4),if_neg (Ne.symm d2)]at s3;rw[if_neg (Ne.symm d6),if_neg (Ne.symm d5),if_neg (Ne.symm d3)]at s4;lia
abbrev bt(s a b:Nat):Nat:=if decide (a<=s/\s<b)=true then 1 else 0
abbrev br(s a b:Nat):Nat:=bt s a b+bt s b a
abbrev tw2(s i:Nat):Nat:=if s=i then 2 else 0
abbrev wdt(n:Nat)(f:List Nat):Nat:=bG (n-1) (sm n f)
def vw(s:Nat):sm n f s=bG (2*n) fun p=>bt s (p%n) (at' f p%n):=m5 _ _
def Gp(hx:x<2*n)(hy:y<2*n)(hu:u<2*n)(hv:v<2*n)(d1:x≠y)(d2:x≠u)(d3:x≠v)(d4:y≠u)(d5:y≠v)(d6:u≠v)
 (a1:at' f x=y)(a2:at' f y=x)(a3:at' f u=v)(a4:at' f v=u)(b1:at' f' x=u)(b2:at' f' u=x)(b3:at' f' y=v)(b4:at' f' v=y)(e:∀ p,p≠x->p≠y->p≠u->p≠v->at' f' p=at' f p) :
  sm n f' s+(br s (x%n) (y%n)+br s (u%n) (v%n))=sm n f s+(br s (x%n) (u%n)+br s (y%n) (v%n)):=by
 have q:=F4 (g:=fun p=>bt s (p%n) (at' f p%n)) (g':=fun p=>bt s (p%n) (at' f' p%n)) hx hy hu hv d1 d2 d3 d4 d5 d6 (fun p h1 h2 h3 h4=>by rw[e p h1 h2 h3 h4]);rw[a1,a2,a3,a4,b1,b2,b3,b4,<-vw,<-vw]at q;unfold br;lia
def yh:∀ s,s<10->∀ i,i<9->∀ a,a<i+1->∀ b,b<10->i<b->br s i (i+1)+br s a b=br s i a+br s (i+1) b+tw2 s i:=by decide +kernel
def AH:∀ {m:Nat},i<m->bG m (fun s=>tw2 s i)=2
 | m,h=>by
  have:=dJ (g:=fun _=>0) (g':=fun s=>tw2 s i) h (fun p _ q=>if_neg q);rw[eG]at this;unfold tw2 at *;rw[if_pos rfl]at this;simpa using this
def pP(u v:Nat->Nat):∀ m,bG m (fun p=>u p+v p)=bG m u+bG m v
 | 0=>rfl
 | m+1=>by rw[bG,bG,bG,pP u v m,Nat.add_add_add_comm]
end RM
set_option maxHeartbeats 1000000
namespace RM
structure Acr(n:Nat)(f:List Nat)(i l:Nat):Prop where
 loc:l<i\/(n<=l/\l<=n+i)
 far:i<at' f l%n
 up:l<i->∀ x,l<x->x<i->at' f x%n<=i
 dn:n<=l->∀ x,(x<i\/(n<=x/\x<l))->at' f x%n<=i
abbrev tkL(f:List Nat)(i l:Nat):List Nat:=(((f.set l i).set i l).set (at' f l) (i+1)).set (i+1) (at' f l)
section
def md2(h:z<2*n):(z<n/\z%n=z)\/(n<=z/\z%n=z-n):=by
 by_cases c:z<n
 ·exact .inl ⟨c,Nat.mod_eq_of_lt c⟩
 ·refine .inr ⟨by lia,?_⟩;rw[show z=n+(z-n) by lia,Nat.add_mod_left,Nat.mod_eq_of_lt (by lia)];lia
def rd2:(z<n/\rd n z=z)\/(n<=z/\rd n z=3*n-1-z):=by
 unfold rd;by_cases c:z<n
 ·rw[if_pos c];exact .inl ⟨c,rfl⟩
 ·rw[if_neg c];exact .inr ⟨by lia,rfl⟩
def Acr.four(A:Acr n f i l)(F:Frm n f)(hi:i+1<n)(e:at' f i=i+1):l<2*n/\at' f l<2*n/\l≠i/\l≠i+1/\at' f l≠i/\at' f l≠i+1/\at' f l≠l/\at' f (i+1)=i:=by
 have hl:l<2*n:=by rcases A.loc with h | h<;>lia
 have v:=F.inv l;have w:=F.inv i;rw[e]at w
 have n1:l≠i:=by rcases A.loc with h | h<;>lia
 have n2:l≠i+1:=by rcases A.loc with h | h<;>lia
 refine⟨hl,F.lt l hl,n1,n2,fun z=>?_,fun z=>?_,F.no l hl,w⟩
 ·rw[z,e]at v;lia
 ·rw[z,w]at v;lia
def kE(A:Acr n f i l)(F:Frm n f)(hi:i+1<n)(e:at' f i=i+1)(x:Nat):at' (tkL f i l) x=if x=i+1 then at' f l else if x=at' f l then i+1 else if x=i then l else if x=l then i else at' f x:=by
 obtain⟨h1,h2,_⟩:=A.four F hi e;have len:=F.len;unfold tkL;rw[bH (by simp;lia),bH (by simp;lia),bH (by simp;lia),bH (by lia)]
def Ct(A:Acr n f i l)(F:Frm n f)(hi:i+1<n)(e:at' f i=i+1):Frm n (tkL f i l):=by
 obtain⟨h1,h2,n1,n2,n3,n4,n5,w⟩:=A.four F hi e;have ta:=kE A F hi e;have v:=F.inv l;refine⟨by unfold tkL;simp[F.len],fun x hx=>?_,fun x=>?_,fun x hx=>?_⟩
 ·rw[ta];have:=F.lt x hx
  (repeat' split)<;>lia
 ·by_cases c1:x=i+1
  ·rw[ta x,if_pos c1,ta,if_neg n4,if_pos rfl,c1]
  ·by_cases c2:x=at' f l
   ·rw[ta x,if_neg c1,if_pos c2,ta,if_pos rfl,c2]
   ·by_cases c3:x=i
    ·rw[ta x,if_neg c1,if_neg c2,if_pos c3,ta,if_neg n2,if_neg (Ne.symm n5),if_neg n1,if_pos rfl,c3]
    ·by_cases c4:x=l
     ·rw[ta x,if_neg c1,if_neg c2,if_neg c3,if_pos c4,ta,if_neg (by lia),if_neg (Ne.symm n3),if_pos rfl,c4]
     ·have vx:=F.inv x
      have m1:at' f x≠i+1:=fun z=>by rw[z,w]at vx;lia
      have m2:at' f x≠at' f l:=fun z=>by rw[z,v]at vx;lia
      have m3:at' f x≠i:=fun z=>by rw[z,e]at vx;lia
      have m4:at' f x≠l:=fun z=>by rw[z]at vx;lia
      rw[ta x,if_neg c1,if_neg c2,if_neg c3,if_neg c4,ta,if_neg m1,if_neg m2,if_neg m3,if_neg m4,vx]
 ·rw[ta];have:=F.no x hx
  (repeat' split)<;>lia
def vh(A:Acr n f i l)(F:Frm n f)(hi:i+1<n)(e:at' f i=i+1)(hq:q<2*n):rnd n (tkL f i l) q=tkF i (rd n l) (rd n (at' f l)) (rnd n f) q:=by
 obtain⟨h1,h2,n1,n2,n3,n4,n5,w⟩:=A.four F hi e
 have ri:rd n i=i:=by rcases rd2 (n:=n) (z:=i)with h | h<;>lia
 have rj:rd n (i+1)=i+1:=by rcases rd2 (n:=n) (z:=i+1)with h | h<;>lia
 have back:∀ z,z<2*n->(rd n q=z↔q=rd n z):=fun z hz=>⟨fun h=>by rw[<-h,bu hq],fun h=>by rw[h,bu hz]⟩
 unfold rnd tkF;rw[kE A F hi e];by_cases c1:rd n q=i+1
 ·have z1:q=i+1:=by have:=(back (i+1) (by lia)).mp c1;lia
  have y1:q≠rd n l:=fun z=>by have:=(back l h1).mpr z;lia
  have y2:q≠rd n (at' f l):=fun z=>by have:=(back _ h2).mpr z;lia
  rw[if_pos c1,if_neg y1,if_neg (by lia),if_neg y2,if_pos z1]
 ·have z1:q≠i+1:=fun z=>c1 (by rw[z,rj]);rw[if_neg c1];by_cases c2:rd n q=at' f l
  ·have z2:=(back _ h2).mp c2
   have y1:q≠rd n l:=fun z=>by have:=(back l h1).mpr z;lia
   have y2:q≠i:=fun z=>by rw[z,ri]at c2;lia
   rw[if_pos c2,if_neg y1,if_neg y2,if_pos z2,rj]
  ·have z2:q≠rd n (at' f l):=fun z=>c2 ((back _ h2).mpr z);rw[if_neg c2];by_cases c3:rd n q=i
   ·have z3:q=i:=by have:=(back i (by lia)).mp c3;lia
    have y1:q≠rd n l:=fun z=>by have:=(back l h1).mpr z;lia
    rw[if_pos c3,if_neg y1,if_pos z3]
   ·have z3:q≠i:=fun z=>c3 (by rw[z,ri]);rw[if_neg c3];by_cases c4:rd n q=l
    ·rw[if_pos c4,if_pos ((back l h1).mp c4),ri]
    ·have z4:q≠rd n l:=fun z=>c4 ((back l h1).mpr z);rw[if_neg c4,if_neg z4,if_neg z3,if_neg z2,if_neg z1]
def oD(A:Acr n f i l)(V:Val n f)(hi:i+1<n)(e:at' f i=i+1):Val n (tkL f i l):=by
 have F:=V.frm;obtain⟨h1,h2,n1,n2,n3,n4,n5,w⟩:=A.four F hi e
 have ri:rd n i=i:=by rcases rd2 (n:=n) (z:=i)with h | h<;>lia
 have rj:rd n (i+1)=i+1:=by rcases rd2 (n:=n) (z:=i+1)with h | h<;>lia
 have hL:rd n l<2*n:=aM h1
 have RL':rnd n f (rd n l)=rd n (at' f l):=by unfold rnd;rw[bu h1]
 have lt:∀ x,x<2*n->rnd n f x<2*n:=fun x hx=>aM (F.lt _ (aM hx))
 have inv:∀ x,x<2*n->rnd n f (rnd n f x)=x:=fun x hx=>by unfold rnd;rw[bu (F.lt _ (aM hx)),F.inv,bu hx]
 have no:∀ x,x<2*n->rnd n f x≠x:=fun x hx z=>by
  have:rd n (rnd n f x)=rd n x:=by rw[z]
  unfold rnd at this;rw[bu (F.lt _ (aM hx))]at this;exact F.no _ (aM hx) this
 have hQ1:i+1<rd n (at' f l):=by
  have far:=A.far
  rcases md2 h2 with⟨m1,m2⟩ | ⟨m1,m2⟩
  ·have:rd n (at' f l)=at' f l:=by unfold rd;rw[if_pos m1]
   lia
  ·have:rd n (at' f l)=3*n-1-at' f l:=by unfold rd;rw[if_neg (by lia)]
   lia
 have hQ2:∀ j,j<=i->rd n (at' f l)<2*n-1-j:=fun j hj=>by
  have far:=A.far
  rcases md2 h2 with⟨m1,m2⟩ | ⟨m1,m2⟩
  ·have:rd n (at' f l)=at' f l:=by unfold rd;rw[if_pos m1]
   lia
  ·have:rd n (at' f l)=3*n-1-at' f l:=by unfold rd;rw[if_neg (by lia)]
   lia
 have hL0:(l<i/\rd n l=l)\/(n<=l/\l<=n+i/\rd n l=3*n-1-l):=by
  rcases A.loc with g | g
  ·refine .inl ⟨g,?_⟩;unfold rd;rw[if_pos (by lia)]
  ·refine .inr ⟨g.1,g.2,?_⟩;unfold rd;rw[if_neg (by lia)]
 have hc:(rd n l<i/\i+1<rd n (at' f l))\/(i+1<rd n (at' f l)/\rd n (at' f l)<rd n l):=by
  rcases hL0 with⟨g,e0⟩ | ⟨g,g',e0⟩
  ·exact .inl ⟨by lia,hQ1⟩
  ·refine .inr ⟨hQ1,?_⟩;have:=hQ2 (l-n) (by lia);lia
 refine⟨Ct A F hi e,fun q q' hq hq'=>?_⟩;rw[vh A F hi e hq,vh A F hi e hq'];refine yn lt inv no V.nox (by lia) hL (by unfold rnd;rw[ri,e,rj]) RL' hc (fun x hx hA=>?_) q q' hq hq';have lx:=aM hx;have lz:=F.lt _ lx;have vz:=F.inv (rd n x);have y:=lt x hx;have ry:=inv x hx
 have RQ:rnd n f (rd n (at' f l))=rd n l:=by rw[<-RL',inv _ hL]
 have ey:(at' f (rd n x)<n->rnd n f x=at' f (rd n x))/\(n<=at' f (rd n x)->rnd n f x=3*n-1-at' f (rd n x)):=⟨fun h=>by show rd n (at' f (rd n x))=_;generalize at' f (rd n x)=w at h ⊢;unfold rd;rw[if_pos h],fun h=>by show rd n (at' f (rd n x))=_;generalize at' f (rd n x)=w at h ⊢;unfold rd;rw[if_neg (by lia)]⟩
 rcases hL0 with⟨g,e0⟩ | ⟨g,g',e0⟩
 ·have hx':l<x/\x<i:=by unfold inA at hA;lia
  have d0:rd n x=x:=by unfold rd;rw[if_pos (by lia)]
  rw[d0]at lz vz ey;have b:=A.up g x hx'.1 hx'.2
  have m1:at' f x≠i:=fun z=>by rw[z,e]at vz;lia
  have m2:at' f x≠l:=fun z=>by
   rw[z]at vz;have:=hQ1;rw[vz,d0]at this;lia
  rcases md2 lz with⟨z1,z2⟩ | ⟨z1,z2⟩
  ·have ez:=ey.1 z1;refine .inl ⟨by lia,?_,by lia⟩;by_cases c:at' f x<l
   ·have c1:=V.nox (rnd n f x) (rd n l) y hL;rw[ry,RL']at c1;exact absurd ⟨by lia,by lia,by lia⟩ c1
   ·lia
  ·have ez:=ey.2 z1;have c2:=V.nox (rd n l) x hL hx;rw[RL']at c2;have:=hQ2 (at' f x-n) (by lia);exact absurd ⟨by lia,by lia,by lia⟩ c2
 ·have hx':rd n l<x\/x<i:=by unfold inA at hA;lia
  have b:at' f (rd n x)%n<=i:=by
   refine A.dn g (rd n x) ?_;rcases hx' with h | h
   ·right
    have:rd n x=3*n-1-x:=by unfold rd;rw[if_neg (by lia)]
    lia
   ·left
    have:rd n x=x:=by unfold rd;rw[if_pos (by lia)]
    lia
  have m1:at' f (rd n x)≠i:=fun z=>by
   rw[z,e]at vz
   have:x=i+1:=by rw[<-bu hx,<-vz,rj]
   lia
  have m2:at' f (rd n x)≠l:=fun z=>by
   rw[z]at vz
   have:x=rd n (at' f l):=by rw[vz,bu hx]
   have:=hQ2 (l-n) (by lia);lia
  rcases md2 lz with⟨z1,z2⟩ | ⟨z1,z2⟩
  ·have ez:=ey.1 z1;exact .inr ⟨by lia,.inr (by lia)⟩
  ·have ez:=ey.2 z1;refine .inr ⟨by lia,.inl ?_⟩;have q1:=hQ2 (at' f (rd n x)-n) (by lia);have q2:=hQ2 (l-n) (by lia);by_cases c:rd n l<rnd n f x
   ·exact c
   ·have yl:rnd n f x<rd n l:=by lia
    have qy:rd n (at' f l)<rnd n f x:=by lia
    rcases hx' with h | h
    ·have c4:=V.nox (rd n (at' f l)) (rnd n f x) (aM h2) y;rw[RQ,ry]at c4;exact absurd ⟨qy,yl,h⟩ c4
    ·have c3:=V.nox x (rd n (at' f l)) hx (aM h2);rw[RQ]at c3;exact absurd ⟨by lia,qy,yl⟩ c3
def EX(hn:n<=10)(A:Acr n f i l)(F:Frm n f)(hi:i+1<n)(e:at' f i=i+1)(hs:s<n):sm n f s=sm n (tkL f i l) s+tw2 s i:=by
 obtain⟨h1,h2,n1,n2,n3,n4,n5,w⟩:=A.four F hi e;have ta:=kE A F hi e
 have q:=Gp (n:=n) (s:=s) (f:=f) (f':=tkL f i l) (x:=i) (y:=i+1) (u:=l) (v:=at' f l) (by lia) (by lia) h1 h2 (Nat.ne_of_lt (Nat.lt_succ_self i)) (Ne.symm n1) (Ne.symm n3) (Ne.symm n2) (Ne.symm n4) (Ne.symm n5) e w rfl (F.inv l)
  (by rw[ta,if_neg (Nat.ne_of_lt (Nat.lt_succ_self i)),if_neg (Ne.symm n3),if_pos rfl]) (by rw[ta,if_neg n2,if_neg (Ne.symm n5),if_neg n1,if_pos rfl]) (by rw[ta,if_pos rfl]) (by rw[ta,if_neg n4,if_pos rfl])
  (fun p a b c d=>by rw[ta,if_neg b,if_neg d,if_neg a,if_neg c])
 have lc:l%n<i+1:=by
  have ml:=md2 h1;rcases A.loc with g | g<;>lia
 have r:=yh s (Nat.lt_of_lt_of_le hs hn) i (by lia) _ lc _ (Nat.lt_of_lt_of_le (Nat.mod_lt (at' f l) (by lia)) hn) A.far;rw[Nat.mod_eq_of_lt (show i<n by lia),Nat.mod_eq_of_lt hi]at q;lia
def Ee(hn:n<=10)(A:Acr n f i l)(F:Frm n f)(hi:i+1<n)(e:at' f i=i+1):wdt n (tkL f i l)+2=wdt n f:=by
 have:=dW (m:=n-1) fun s hs=>EX hn A F hi e (s:=s) (by lia);rw[pP,AH (by lia)]at this;exact this.symm
end
end RM
set_option maxHeartbeats 1000000
namespace RM
section
def wX(hn:n<=10)(A:Acr n f i l)(V:Val n f)(hi:i+1<n)(e:at' f i=i+1):a6 n (aw n i) (tkL f i l)=f/\rgN n (aw n i) (tkL f i l)=0:=by
 have F:=V.frm;obtain⟨h1,h2,n1,n2,n3,n4,n5,w⟩:=A.four F hi e;have T:=oD A V hi e;have ta:=kE A F hi e;have K:=cA hn hi;have G:=(cw n).val T;have ho:aO n (ovr n) (ovr n) (aw n i)=aw n i:=qF n (by lia) i (by lia) hi;have p:=mN hn K T;rw[ho]at p;obtain⟨q1,q2⟩:=iz hn hi G
 have o1:ovr n (n+i)=i:=by rw[jf (by lia)];lia
 have o2:ovr n (n+i+1)=i+1:=by rw[jf (by lia)];lia
 have o3:ovr n i=n+i:=by rw[eI (by lia)];lia
 have o4:ovr n (i+1)=n+i+1:=by rw[eI hi];lia
 have inj:∀ a b,a<2*n->b<2*n->ovr n a=ovr n b->a=b:=fun a b ha hb z=>by rw[<-(bJ ha).2,z,(bJ hb).2]
 have g1:at' (aO n (ovr n) (ovr n) (tkL f i l)) (n+i)=ovr n l:=by rw[bb (by lia),o1,ta,if_neg (by lia),if_neg (Ne.symm n3),if_pos rfl]
 have g2:at' (aO n (ovr n) (ovr n) (tkL f i l)) (n+i+1)=ovr n (at' f l):=by rw[bb (by lia),o2,ta,if_pos rfl]
 have nl:ovr n l≠n+i+1:=fun z=>n2 (inj _ _ h1 (by lia) (by rw[z,o4]))
 have key:aC (aO n (ovr n) (ovr n) (tkL f i l)) (n+i)=aO n (ovr n) (ovr n) f:=by
  refine du (n:=2*n) (by rw[dI,G.frm.len]) ((cw n).val V).frm.len fun x hx=>?_;have lx:=bJ hx;rw[dQ G.frm (by lia)];unfold M.hg;have rhs:at' (aO n (ovr n) (ovr n) f) x=ovr n (at' f (ovr n x)):=bb hx;rw[g1,if_neg nl,g2,rhs];by_cases c1:x=n+i+1
  ·rw[if_pos c1,c1,o2,w,o3]
  ·rw[if_neg c1];by_cases c2:x=n+i
   ·rw[if_pos c2,c2,o1,e,o4]
   ·rw[if_neg c2];by_cases c3:x=ovr n (at' f l)
    ·rw[if_pos c3,c3,(bJ h2).2,F.inv]
    ·rw[if_neg c3];by_cases c4:x=ovr n l
     ·rw[if_pos c4,c4,(bJ h1).2]
     ·have d:∀ z,z<2*n->x≠ovr n z->ovr n x≠z:=fun z hz h h'=>h (by rw[<-h',lx.2]);rw[if_neg c4,bb hx,ta,if_neg (d (i+1) (by lia) (by rw[o4];exact c1)),if_neg (d _ h2 c3),if_neg (d i (by lia) (by rw[o3];exact c2)),if_neg (d l h1 c4)]
 refine⟨?_,?_⟩
 ·have:aO n (ovr n) (ovr n) (a6 n (aw n i) (tkL f i l))=aO n (ovr n) (ovr n) f:=by rw[<-p.1,q1,key]
  have:=congrArg (aO n (ovr n) (ovr n)) this;rw[nW (cQ hn K T).frm,nW F]at this;exact this
 ·rw[<-p.2,q2];unfold dC;rw[g1,if_neg nl]
end
end RM
set_option maxHeartbeats 1000000
namespace RM
abbrev bR(n i:Nat):List Nat:=(List.range i).reverse++List.range' n (i+1)
abbrev bef(n i a b:Nat):Prop:=(a<i/\b<i/\b<a)\/(a<i/\n<=b)\/(n<=a/\a<b)
section
def cS:x∈bR n i↔x<i\/(n<=x/\x<=n+i):=by
 unfold bR;rw[List.mem_append,List.mem_reverse,List.mem_range,List.mem_range'_1];lia
def qV:(bR n i).Pairwise (bef n i):=by
 unfold bR;rw[List.pairwise_append];refine⟨?_,?_,?_⟩
 ·rw[List.pairwise_reverse];refine List.Pairwise.imp_of_mem ?_ (List.pairwise_lt_range (n:=i));intro a b ha hb h;have:=List.mem_range.mp ha;have:=List.mem_range.mp hb;exact .inl ⟨by lia,by lia,h⟩
 ·refine List.Pairwise.imp_of_mem ?_ (List.pairwise_lt_range' (s:=n) (n:=i+1));intro a b ha hb h;have:=List.mem_range'_1.mp ha;exact .inr (.inr ⟨by lia,h⟩)
 ·intro a ha b hb;rw[List.mem_reverse,List.mem_range]at ha;have:=List.mem_range'_1.mp hb;exact .inr (.inl ⟨ha,by lia⟩)
def uY(hn:n<=10)(F:Frm n f)(hi:i+1<n)(e:at' f i=i+1):∃ p,p∈bR n i/\i<at' f p%n:=by
 by_cases c:∃ p,p<2*n/\p≠i/\p%n<=i/\i<at' f p%n
 ·obtain⟨p,h1,h2,h3,h4⟩:=c;refine⟨p,cS.mpr ?_,h4⟩;rcases md2 h1 with m | m<;>lia
 ·have ev:=AJ hn F i;unfold sm at ev;rw[m5,dW (g':=fun p=>if p=i then 1 else 0) fun p hp=>?_]at ev
  ·have s:=dJ (g:=fun _=>0) (g':=fun p=>if p=i then 1 else 0) (x:=i) (m:=2*n) (by lia) (fun p _ h=>if_neg h);rw[if_pos rfl,eG]at s;lia
  ·by_cases z:p=i
   ·rw[if_pos z];refine if_pos ?_;unfold sP;rw[z,e,Nat.mod_eq_of_lt (show i<n by lia),Nat.mod_eq_of_lt hi];simp
   ·rw[if_neg z];refine if_neg ?_;unfold sP;rw[decide_eq_true_eq];exact fun h=>c ⟨p,hp,z,h.1,h.2⟩
def pe(hn:n<=10)(F:Frm n f)(hi:i+1<n)(e:at' f i=i+1):∃ l r,(bR n i).filter (fun p=>decide (i<at' f p%n))=l::r/\Acr n f i l:=by
 obtain⟨p,hp,h⟩:=uY hn F hi e
 cases q:(bR n i).filter (fun p=>decide (i<at' f p%n))with
 |nil=>
  have:p∈(bR n i).filter (fun p=>decide (i<at' f p%n)):=List.mem_filter.mpr ⟨hp,decide_eq_true h⟩;rw[q]at this;cases this
 |cons l r=>
  obtain⟨pre,post,e1,e2,e3,_⟩:=List.filter_eq_cons_iff.mp q;have pw:=qV (n:=n) (i:=i);rw[e1,List.pairwise_append]at pw;have pl:=(List.pairwise_cons.mp pw.2.1).1
  have ml:l∈bR n i:=by rw[e1];simp
  have one:∀ x,x∈bR n i->x≠l->¬ bef n i l x->at' f x%n<=i:=fun x hx hne hb=>by
   rw[e1]at hx;rcases List.mem_append.mp hx with g | g
   ·have:=e2 x g;simpa using this
   ·cases g with
    | head=>exact absurd rfl hne
    | tail _ g=>exact absurd (pl x g) hb
  refine⟨l,r,rfl,cS.mp ml,by simpa using e3,fun g x h1 h2=>?_,fun g x hx=>?_⟩
  ·refine one x (cS.mpr (.inl h2)) (by lia) ?_;unfold bef;lia
  ·have:=cS.mp ml;refine one x (cS.mpr (by lia)) (by lia) ?_;unfold bef;lia
end
end RM
set_option maxHeartbeats 1000000
namespace RM
section
def rq(V:Val n f)(h:∀ i,i+1<n->at' f i≠i+1):∀ (d a:Nat),at' f a=a+1+d->¬ a+1+d<n:=by
 intro d
 induction d using Nat.strongRecOn with
 |ind d ih=>
  intro a e hb;have F:=V.frm;by_cases c:d=0
  ·subst c;exact h a hb e
  ·have ra:rnd n f a=a+1+d:=by unfold rnd;rw[show rd n a=a by unfold rd;rw[if_pos (by lia)],e];unfold rd;rw[if_pos hb]
   have ea:rd n (a+1)=a+1:=by unfold rd;rw[if_pos (by lia)]
   have r1:rnd n f (a+1)=rd n (at' f (a+1)):=by unfold rnd;rw[ea]
   have va:=F.inv a;have v1:=F.inv (a+1);have no1:=F.no (a+1) (by lia);have l1:=F.lt (a+1) (by lia)
   have nb:at' f (a+1)≠a+1+d:=fun z=>by rw[z,<-e,va]at v1;lia
   have na:at' f (a+1)≠a:=fun z=>by rw[z,e]at v1;lia
   have c1:=V.nox a (a+1) (by lia) (by lia);rw[ra,r1]at c1
   have hc:at' f (a+1)<a+1+d:=by
    by_cases z:at' f (a+1)<n
    ·have:rd n (at' f (a+1))=at' f (a+1):=by generalize at' f (a+1)=w at z ⊢;unfold rd;rw[if_pos z]
     rw[this]at c1;lia
    ·have:rd n (at' f (a+1))=3*n-1-at' f (a+1):=by generalize at' f (a+1)=w at z ⊢;unfold rd;rw[if_neg z]
     rw[this]at c1;lia
   by_cases lo:at' f (a+1)<a
   ·have c2:=V.nox (at' f (a+1)) a (by lia) (by lia)
    have r2:rnd n f (at' f (a+1))=a+1:=by
     unfold rnd;rw[show rd n (at' f (a+1))=at' f (a+1) by generalize at' f (a+1)=w at hc ⊢;unfold rd;rw[if_pos (by lia)],v1,ea]
    rw[r2,ra]at c2;lia
   ·obtain⟨d',hd⟩:∃ d',at' f (a+1)=a+1+1+d':=⟨at' f (a+1)-(a+2),by lia⟩
    exact ih d' (by lia) (a+1) hd (by lia)
def xW(V:Val n f)(h:∀ i,i+1<n->at' f i≠i+1)(hk:k<n):n<=at' f k:=by
 have F:=V.frm;by_cases c:at' f k<n
 ·exfalso;have no:=F.no k (by lia);by_cases g:k<at' f k
  ·obtain⟨d,hd⟩:∃ d,at' f k=k+1+d:=⟨at' f k-(k+1),by lia⟩
   exact rq V h d k hd (by lia)
  ·obtain⟨d,hd⟩:∃ d,k=at' f k+1+d:=⟨k-(at' f k+1),by lia⟩
   have v:=F.inv k;exact rq V h d (at' f k) (by rw[v];exact hd) (by lia)
 ·lia
def xD(V:Val n f)(h:∀ i,i+1<n->at' f i≠i+1):f=ay n:=by
 have F:=V.frm;have dn:=fun {k:Nat} (hk:k<n)=>xW V h hk
 have R:∀ k,k<n->rnd n f k=3*n-1-at' f k:=fun k hk=>by
  unfold rnd;rw[show rd n k=k by unfold rd;rw[if_pos hk]];have:=dn hk;generalize at' f k=w at this ⊢;unfold rd;rw[if_neg (by lia)]
 have up:∀ j k,j<k->k<n->at' f j<at' f k:=fun j k hj hk=>by
  have c:=V.nox j k (by lia) (by lia);rw[R j (by lia),R k hk]at c;have d1:=dn (show j<n by lia);have d2:=dn hk;have l1:=F.lt j (by lia);have l2:=F.lt k (by lia)
  have ne:at' f j≠at' f k:=fun z=>by
   have a:=F.inv j;have b:=F.inv k;rw[z,b]at a;lia
  lia
 have lo:∀ k,k<n->n+k<=at' f k:=fun k=>by
  induction k with
  | zero=>intro hk;exact dn hk
  |succ k ih=>
   intro hk;have:=ih (by lia);have:=up k (k+1) (by lia) hk;lia
 have hi:∀ d k,k+d+1=n->at' f k<=n+k:=fun d=>by
  induction d with
  | zero=>intro k hk;have:=F.lt k (by lia);lia
  |succ d ih=>
   intro k hk;have:=ih (k+1) (by lia);have:=up k (k+1) (by lia) (by lia);lia
 have eq:∀ k,k<n->at' f k=n+k:=fun k hk=>by
  have:=lo k hk;have:=hi (n-1-k) k (by lia);lia
 refine du F.len (bj n).len fun x hx=>?_;rw[plain_at];by_cases c:x<n
 ·rw[if_pos c,eq x c]
  try lia
 ·rw[if_neg c,if_pos hx];have:=F.inv (x-n);rw[eq (x-n) (by lia),show n+(x-n)=x by lia]at this;exact this
end
end RM
set_option maxHeartbeats 1000000
namespace RM
inductive Sr (n:Nat):List Nat->List Nat->Prop
 | done {f:List Nat} (h:dH n f=[]):Sr n f []
 | step {f r r' row:List Nat} {i l:Nat} (h:dH n f=i::r) (g:(bR n i).filter (fun p=>decide (i<at' f p%n))=l::r') (t:Sr n (tkL f i l) row):Sr n f (i::row)
section
def kj(h:dH n f=i::r):i+1<n/\at' f i=i+1:=by
 have:i∈dH n f:=by rw[h];exact .head _
 obtain⟨a,b⟩:=List.mem_filter.mp this;have:=List.mem_range.mp a;exact⟨by lia,of_decide_eq_true b⟩
def AZ(h:dH n f=[]):∀ i,i+1<n->at' f i≠i+1:=fun i hi e=>by
 have:i∈dH n f:=List.mem_filter.mpr ⟨List.mem_range.mpr (by lia),decide_eq_true e⟩;rw[h]at this;cases this
def uU(hn:n<=10)(F:Frm n f)(h:dH n f=i::r)(g:(bR n i).filter (fun p=>decide (i<at' f p%n))=l::r'):Acr n f i l:=by
 obtain⟨hi,e⟩:=kj h;obtain⟨l',r'',g',A⟩:=pe hn F hi e;rw[g]at g';cases g';exact A
def Ay:∀ n,n<11->∀ s,s<n->sm n (ay n) s=0:=by decide +kernel
def vB(hn:n<=10):wdt n (ay n)=0:=(dW fun s hs=>Ay n (by lia) s (by lia)).trans (eG 0 _)
def vi(h1:1<=n)(hn:n<=10)(S:Sr n f row):Val n f->(∀ j∈row,j+1<n)/\stk n (row.map (aw n))=(f,0)/\2*row.length=wdt n f:=by
 induction S with
 |done h=>
  intro V;have e:=xD V (AZ h);refine⟨fun j hj=>(by cases hj),?_,?_⟩
  ·rw[e];rfl
  ·rw[e,vB hn];rfl
 |@step f r r' row i l h g t ih=>
  intro V;obtain⟨hi,e⟩:=kj h;have A:=uU hn V.frm h g;have T:=oD A V hi e;obtain⟨i1,i2,i3⟩:=ih T;obtain⟨q1,q2⟩:=wX hn A V hi e;have s:=Ee hn A V.frm hi e
  have Vr:∀ g∈row.map (aw n),Val n g:=fun g hg=>by
   obtain⟨j,hj,rfl⟩:=List.mem_map.mp hg;exact cA hn (i1 j hj)
  refine⟨fun j hj=>?_,?_,?_⟩
  ·cases hj with
   | head=>exact hi
   | tail _ hj=>exact i1 j hj
  ·rw[List.map_cons,wU hn (cA hn hi) Vr,i2];unfold bY;rw[q1,q2];rfl
  ·rw[List.length_cons];lia
end
end RM
set_option maxHeartbeats 1000000
namespace RM
open RL RT
section
def Aw(h1:1<=n)(hn:n<=10)(F:Frm n f)(ho:cl po [.lst (L f)]=some (.int (n:Nat))):evF cl (dk po) [.lst (L f),.int 0]=some (.lst (L (dH n f))):=by
 have mc:=kK (F:=fun σ1=>((ev cl σ1 (.cmp .eq (.ix (.var 0) (.bin .add (.var 1) (.var 2))) (.bin .add (.bin .add (.var 1) (.var 2)) (.cst (.int 1))))).bind truth).bind fun k=>if k then(ev cl σ1 (.var 2)).map some else some none) (tg:=[2]) (σ:=[some (.lst (L f)),some (.int 0),none]) (h:=fun i=>.int (i:Nat)) (g:=fun i=>.int (i:Nat)) (c:=fun i=>decide (at' f i=i+1)) (fun _=>rfl) (List.range (n-1)) (by
  intro i hi;have hi:=List.mem_range.mp hi;show((ev cl [some (.lst (L f)),some (.int 0),some (.int (i:Nat))] (.cmp .eq (.ix (.var 0) (.bin .add (.var 1) (.var 2))) (.bin .add (.bin .add (.var 1) (.var 2)) (.cst (.int 1))))).bind truth).bind (fun k=>if k then(ev cl [some (.lst (L f)),some (.int 0),some (.int (i:Nat))] (.var 2)).map some else some none)=_
  have z:aE .add (.int 0) (.int (i:Nat))=some (.int (i:Nat)):=by rw[bO,Int.zero_add]
  rw[bX (aY (iE (ae rfl) (au (ae rfl) (ae rfl) z) (pO (by rw[F.len];omega))) (au (d:=.int ((i+1:Nat):Int)) (au (ae rfl) (ae rfl) z) ak rfl) (D4 _ _)),Option.bind_some,ae rfl]
  split<;>rfl)
 have r1:=dE (n:=n-1) (by omega);exact bo rfl rfl (bI (vY (gR (au (lK (ae rfl) ho) ak (sub_one h1)) r1) (by rw[bP,List.length_range];unfold most;omega) mc) (by unfold bF;rw[show ∀ xs:List Nat,aG (.lst (L xs))=true from fun xs=>cq xs];rfl))
def wK(hn:n<=10)(F:Frm n f)(hi:i+1<n)(g:(bR n i).filter (fun p=>decide (i<at' f p%n))=l::r')(ho:cl po [.lst (L f)]=some (.int (n:Nat))):evF cl (fz po) [.lst (L f),.int (i:Nat)]=some (.int (l:Nat)):=by
 have e1:=dE (n:=i) (by omega)
 have e2:cu (.int (n:Nat)) (.int ((n+i+1:Nat):Int))=some (L (List.range' n (i+1))):=by
  have:=gq (a:=n) (b:=n+i+1) (by omega) (by omega);rw[show n+i+1-n=i+1 by omega]at this;exact this
 have er:(L (List.range i)).reverse=L (List.range i).reverse:=by unfold L;rw[List.map_reverse]
 have ad:aE .add (.lst (L (List.range i).reverse)) (.lst (L (List.range' n (i+1))))=some (.lst (L (bR n i))):=by
  show(if(L (List.range i).reverse).length+(L (List.range' n (i+1))).length<=most then _ else none)=_;rw[if_pos (by rw[bP,bP,List.length_reverse,List.length_range,List.length_range'];unfold most;omega),<-dM];rfl
 have mc:=kK (F:=fun σ1=>((ev cl σ1 (.cmp .gt (.bin .mod (.ix (.var 0) (.var 4)) (.var 2)) (.var 1))).bind truth).bind fun k=>if k then(ev cl σ1 (.var 4)).map some else some none) (tg:=[4]) (σ:=[some (.lst (L f)),some (.int (i:Nat)),some (.int (n:Nat)),some (.lst (L (bR n i))),none]) (h:=fun i=>.int (i:Nat)) (g:=fun i=>.int (i:Nat)) (c:=fun p=>decide (i<at' f p%n)) (fun _=>rfl) (bR n i) (by
  intro p hp;have hp:=cS.mp hp;show((ev cl [some (.lst (L f)),some (.int (i:Nat)),some (.int (n:Nat)),some (.lst (L (bR n i))),some (.int (p:Nat))] (.cmp .gt (.bin .mod (.ix (.var 0) (.var 4)) (.var 2)) (.var 1))).bind truth).bind (fun k=>if k then(ev cl [some (.lst (L f)),some (.int (i:Nat)),some (.int (n:Nat)),some (.lst (L (bR n i))),some (.int (p:Nat))] (.var 4)).map some else some none)=_
  have cg:aZ .gt (.int ((at' f p%n:Nat):Int)) (.int (i:Nat))=some (decide (i<at' f p%n)):=by
   rw[mh];congr 1;rw[decide_eq_decide];omega
  rw[bX (aY (au (iE (ae rfl) (ae rfl) (pO (by rw[F.len];omega))) (ae rfl) (Ag _ (by omega))) (ae rfl) cg),Option.bind_some,ae rfl]
  split<;>rfl)
 rw[g]at mc
 have al:(bR n i).length<=100:=by unfold bR;rw[List.length_append,List.length_reverse,List.length_range,List.length_range'];omega
 have im:aG (.lst (L (bR n i)))=true:=cq _
 exact bo rfl rfl (bc (lK (ae rfl) ho) rfl (bc (au (Fg (zT (ae rfl) e1)) (zG (ae rfl) (au (d:=.int ((n+i+1:Nat):Int)) (au (ae rfl) (ae rfl) bO) ak rfl) e2) (by rw[er];exact ad)) (by unfold b0;rw[im];rfl)
  (bI (iE (vY (EO (ae rfl) rfl) (by rw[List.length_map];unfold most;omega) mc) ak rfl) rfl)))
def AX(hl:ds.length=fn.ps)(hm:fn.mp=[0])(h:ag cl fn.M fn.body (ds.map some++List.replicate (fn.nn-fn.ps) none)=some (.nx,σ'))(h0:(σ'[0]?).bind id=some x):evF cl fn ds=some (.tup [.non,x]):=by
 unfold evF;rw[if_pos hl,h];show aJ fn .non σ'=_;unfold aJ;rw[hm];show(cT σ' [0]).map _=_;rw[cT,h0];rfl
def xj(A:Acr n f i l)(F:Frm n f)(hi:i+1<n)(e:at' f i=i+1)(hna:cl na [.lst (L f),.int (i:Nat)]=some (.int (l:Nat)))
 (ht:∀ (xs:List Nat) (i j:Nat),i<xs.length->j<xs.length->cl ti [.lst (L xs),.int i,.int j]=some (.tup [.non,.lst (L ((xs.set i j).set j i))])):evF cl (i5 ti na) [.lst (L f),.int (i:Nat)]=some (.tup [.non,.lst (L (tkL f i l))]):=by
 obtain⟨h1,h2,_⟩:=A.four F hi e;have len:=F.len;have t1:=ht f l i (by omega) (by omega);have t2:=ht ((f.set l i).set i l) (at' f l) (i+1) (by simp;omega) (by simp;omega)
 exact AX rfl rfl (bc (ja (ae rfl) (ae rfl) hna) rfl (bc (iE (ae rfl) (ae rfl) (pO (by omega))) rfl
  (mn (bf (ae rfl) (bf (ae rfl) (bf (ae rfl) cD))) rfl t1 rfl
  (mn (bf (ae rfl) (bf (ae rfl) (bf (au (d:=.int ((i+1:Nat):Int)) (ae rfl) ak rfl) cD))) rfl t2 rfl bC)))) rfl
end
end RM
set_option maxHeartbeats 1000000
namespace RM
open RL RT
def Dz(hn:n<=10):wdt n f<=200:=by
 have a:wdt n f<=(n-1)*(2*n):=by
  rw[<-eG]
  exact mT fun s _=>by
   have:=List.length_filter_le (sP n f s) (List.range (2*n));rw[List.length_range]at this;exact this
 have b:(n-1)*(2*n)<=10*20:=Nat.mul_le_mul (by lia) (by lia);exact Nat.le_trans a b
section
abbrev srS(f0 f done:List Nat)(n:Nat):St:=[some (.tup (L f0)),some (.lst (L f)),some (.lst (L done)),some (.lst (L (dH n f)))]
def EZ(hn:n<=10)(hnt:∀ f:List Nat,Frm n f->cl nt [.lst (L f),.int 0]=some (.lst (L (dH n f))))
 (hto:∀ (f r':List Nat) (i l:Nat),Acr n f i l->Frm n f->i+1<n->at' f i=i+1->(bR n i).filter (fun p=>decide (i<at' f p%n))=l::r'->cl to [.lst (L f),.int (i:Nat)]=some (.tup [.non,.lst (L (tkL f i l))]))
 {f row:List Nat}(S:Sr n f row):∀ (done:List Nat) (fuel:Nat),Val n f->row.length<fuel->done.length+row.length<1000->∃ f',whF (fun σ=>(ev cl σ (.var 3)).bind truth) (ag cl [1,2] (dR nt to cf)) fuel (srS f0 f done n)=some (.nx,srS f0 f' (done++row) n):=by
 induction S with
 |@done f h=>
  intro done fuel V hf hd
  obtain⟨k,rfl⟩:∃ k,fuel=k+1:=⟨fuel-1,by omega⟩
  refine⟨f,?_⟩;rw[whF]
  have t:(ev cl (srS f0 f done n) (.var 3)).bind truth=some false:=by
   rw[ae (d:=.lst (L (dH n f))) rfl,h];rfl
  show((ev cl (srS f0 f done n) (.var 3)).bind truth).bind _=_;rw[t,List.append_nil];rfl
 |@step f r r' row i l h g t ih=>
  intro done fuel V hf hd
  obtain⟨k,rfl⟩:∃ k,fuel=k+1:=⟨fuel-1,by omega⟩
  obtain⟨hi,e⟩:=kj h;have A:=uU hn V.frm h g;have T:=oD A V hi e;rw[List.length_cons]at hf hd;obtain⟨f',q⟩:=ih (done++[i]) k T (by omega) (by rw[List.length_append,List.length_singleton];omega);refine⟨f',?_⟩;rw[whF]
  have tt:(ev cl (srS f0 f done n) (.var 3)).bind truth=some true:=by
   rw[ae (d:=.lst (L (dH n f))) rfl,h];rfl
  have v3:∀ σ:St,(σ[3]?).bind id=some (.lst (L (dH n f)))->ev cl σ (.ix (.var 3) (.cst (.int 0)))=some (.int (i:Nat)):=fun σ hσ=>iE (ae hσ) ak (by rw[h];rfl);have im:∀ xs:List Nat,aG (.lst (L xs))=true:=fun xs=>cq xs
  have body:ag cl [1,2] (dR nt to cf) (srS f0 f done n)=some (.nx,srS f0 (tkL f i l) (done++[i]) n):=by
   have ap:L done++[D.int (i:Nat)]=L (done++[i]):=by rw[dM];rfl
   refine vv (v3 _ rfl) (xs:=L done) rfl rfl (by rw[bP];unfold most;omega) ?_;rw[ap]
   exact mn (bf (ae rfl) (bf (v3 _ rfl) cD)) rfl (hto f r' i l A V.frm hi e g) rfl
    (bc (ja (ae rfl) ak (hnt _ T.frm)) (by unfold b0;rw[im];rfl) bC)
  show((ev cl (srS f0 f done n) (.var 3)).bind truth).bind _=_;rw[tt,Option.bind_some,if_pos rfl,body];show whF _ _ k (srS f0 (tkL f i l) (done++[i]) n)=_;rw[q,List.append_assoc];rfl
def oO(h1:1<=n)(hn:n<=10)(V:Val n f)(hcf:cl cf [.tup (L f)]=some .non)(hnt:∀ f:List Nat,Frm n f->cl nt [.lst (L f),.int 0]=some (.lst (L (dH n f))))
 (hto:∀ (f r':List Nat) (i l:Nat),Acr n f i l->Frm n f->i+1<n->at' f i=i+1->(bR n i).filter (fun p=>decide (i<at' f p%n))=l::r'->cl to [.lst (L f),.int (i:Nat)]=some (.tup [.non,.lst (L (tkL f i l))]))
 (S:Sr n f row):evF cl (eS nt to cf) [.tup (L f)]=some (.lst (L row)):=by
 have len:=(vi h1 hn S V).2.2;have le:=Dz (f:=f) hn;obtain⟨f',w⟩:=EZ (cf:=cf) (f0:=f) hn hnt hto S [] most V (by unfold most;omega) (by rw[List.length_nil];omega);have im:∀ xs:List Nat,aG (.lst (L xs))=true:=fun xs=>cq xs;rw[List.nil_append]at w
 exact bo rfl rfl (CO (lK (ae rfl) hcf) (eY (d:=.lst (L f)) (dm (ae rfl) rfl) (by rw[im];rfl) (eY (d:=.lst []) (iy cD) rfl
  (bc (ja (ae rfl) ak (hnt f V.frm)) (by unfold b0;rw[im];rfl) (Cj w (bI (d:=.lst (L row)) (ae rfl) (by unfold bF;rw[im];rfl)))))))
end
end RM
set_option maxHeartbeats 1000000
namespace RM
section
end
end RM
set_option maxHeartbeats 1000000
namespace RM
section
def rK(hn:n<=10)(hb:b+1<n)(V:Val n f):Val n (aC f b):=by
 have W:=cw n;have V1:=W.val V;have V2:=cQ hn V1 (cA hn hb);rw[(iz hn hb V1).1]at V2;have V3:=W.val V2;have F:=V.frm
 have e:aO n (ovr n) (ovr n) (aC (aO n (ovr n) (ovr n) f) (n+b))=aC f b:=by
  refine du (n:=2*n) (eP ..) (by rw[dI];exact F.len) fun x hx=>?_;rw[bb hx,dQ V1.frm (by omega),dQ F (by omega)]
  have o1:n+b=ovr n b:=by rw[eI (by omega),Nat.add_comm]
  have o2:ovr n b+1=ovr n (b+1):=by rw[eI (by omega),eI (by omega)];omega
  have g:∀ y,y<2*n->at' (aO n (ovr n) (ovr n) f) (ovr n y)=ovr n (at' f y):=fun y hy=>by rw[bb (bJ hy).1,(bJ hy).2]
  have ij:∀ {p q},p<2*n->q<2*n->ovr n p=ovr n q->p=q:=fun hp hq h=>W.inj hp hq h;have l1:=F.lt b (by omega);have l2:=F.lt (b+1) (by omega);have l3:=F.lt x hx;rw[o1,o2];unfold M.hg;rw[g b (by omega),g (b+1) (by omega),g x hx];by_cases c0:at' f b=b+1
  ·rw[if_pos c0,if_pos (by rw[c0]),(bJ l3).2]
  ·rw[if_neg c0,if_neg fun z=>c0 (ij l1 (by omega) z)];by_cases c1:x=b+1
   ·rw[if_pos c1,if_pos (by rw[c1]),(bJ (by omega)).2]
   ·rw[if_neg c1,if_neg fun z=>c1 (ij hx (by omega) z)];by_cases c2:x=b
    ·rw[if_pos c2,if_pos (by rw[c2]),(bJ (by omega)).2]
    ·rw[if_neg c2,if_neg fun z=>c2 (ij hx (by omega) z)];by_cases c3:x=at' f (b+1)
     ·rw[if_pos c3,if_pos (by rw[<-c3]),(bJ l1).2]
     ·rw[if_neg c3,if_neg fun z=>c3 (ij hx l2 z)];by_cases c4:x=at' f b
      ·rw[if_pos c4,if_pos (by rw[<-c4]),(bJ l2).2]
      ·rw[if_neg c4,if_neg fun z=>c4 (ij hx l1 z),(bJ l3).2]
 rw[e]at V3;exact V3
def cR(F:Frm n f)(hb:b+1<n)(ne:at' f b≠b+1)(x:Nat):at' (aC f b) x=if x=b+1 then b else if x=b then b+1 else if x=at' f (b+1)then at' f b else if x=at' f b then at' f (b+1)else at' f x:=by
 rw[dQ F (by omega)];unfold M.hg;rw[if_neg ne]
def Co(F:Frm n f)(hb:b+1<n)(ne:at' f b≠b+1):tkL (aC f b) b (at' f b)=f:=by
 have l1:=F.lt b (by omega);have l2:=F.lt (b+1) (by omega);have n1:=F.no b (by omega);have n2:=F.no (b+1) (by omega);have i1:=F.inv b;have i2:=F.inv (b+1);have hl:=F.len
 have n3:at' f b≠at' f (b+1):=fun z=>by rw[z,i2]at i1;omega
 have n4:at' f (b+1)≠b:=fun z=>by rw[z]at i2;exact ne i2
 have e:at' (aC f b) (at' f b)=at' f (b+1):=by rw[cR F hb ne,if_neg ne,if_neg n1,if_neg n3,if_pos rfl]
 refine du (n:=2*n) (by unfold tkL;simp only[List.length_set];rw[dI];exact hl) hl fun x hx=>?_;unfold tkL
 have hs:(aC f b).length=2*n:=by rw[dI];exact hl
 rw[e,bH (by simp only[List.length_set];omega),bH (by simp only[List.length_set];omega),bH (by simp only[List.length_set];omega),bH (by omega),cR F hb ne];by_cases c1:x=b+1
 ·rw[if_pos c1,c1]
 ·rw[if_neg c1];by_cases c3:x=at' f (b+1)
  ·rw[if_pos c3,c3,i2]
  ·rw[if_neg c3];by_cases c2:x=b
   ·rw[if_pos c2,c2]
   ·rw[if_neg c2];by_cases c4:x=at' f b
    ·rw[if_pos c4,c4,i1]
    ·rw[if_neg c4,if_neg c1,if_neg c2,if_neg c3,if_neg c4]
def qm{R:Nat->Nat->Prop}{l:List Nat}{p:Nat->Bool}{x:Nat}(pw:l.Pairwise R)(hx:x∈l)(px:p x=true)(no:∀ y∈l,R y x->p y=false):∃ r,l.filter p=x::r:=by
 induction l with
 | nil=>cases hx
 |cons a t ih=>
  rw[List.pairwise_cons]at pw;by_cases e:x=a
  ·subst e;exact⟨t.filter p,by rw[List.filter_cons,if_pos px]⟩
  ·have hx:x∈t:=(List.mem_cons.mp hx).resolve_left e;have:=no a (.head _) (pw.1 x hx);rw[List.filter_cons,this];exact ih pw.2 hx fun y hy=>no y (.tail _ hy)
def oG(hb:b+1<n)(V:Val n f)(S:Sr n f row)(ne:at' f b≠b+1)(nf:∀ i,i<b->at' (aC f b) i≠i+1)(mx:at' f b∈bR n b)(mp:b<at' f (b+1)%n)(no:∀ y,y∈bR n b->bef n b y (at' f b)->at' (aC f b) y%n<=b):Sr n (aC f b) (b::row):=by
 have F:=V.frm;have n1:=F.no b (by omega);have i1:=F.inv b;have i2:=F.inv (b+1)
 have n3:at' f b≠at' f (b+1):=fun z=>by rw[z,i2]at i1;omega
 have e:at' (aC f b) (at' f b)=at' f (b+1):=by rw[cR F hb ne,if_neg ne,if_neg n1,if_neg n3,if_pos rfl]
 have e0:at' (aC f b) b=b+1:=by rw[cR F hb ne,if_neg (by omega),if_pos rfl]
 obtain⟨r,h1⟩:=qm (p:=fun i=>decide (at' (aC f b) i=i+1)) (x:=b) List.pairwise_lt_range (List.mem_range.mpr (show b<n-1 by omega)) (decide_eq_true e0) fun y _ hy=>decide_eq_false (nf y hy);obtain⟨r',h2⟩:=qm (p:=fun q=>decide (b<at' (aC f b) q%n)) qV mx (by rw[e];exact decide_eq_true mp) fun y hy h=>decide_eq_false (by have:=no y hy h;omega);exact .step h1 h2 (by rw[Co F hb ne];exact S)
structure Nf(n c l H:Nat)(f:List Nat):Prop where
 lc:l<=c
 cH:c<H
 Hn:H<n
 cc:at' f c=c+1
 lo:∀ i,i<l->at' f i=n+i
 hi:∀ i,i<=H->i≠c->i≠c+1->H<at' f i/\i<=at' f i%n
structure Cf(n c l:Nat)(f:List Nat):Prop where
 lc:l<=c
 cn:c<n
 lo:∀ i,i<l->at' f i=n+i
 hi:∀ i,i<=c->c<at' f i/\i<=at' f i%n
def Nf.cf(h:Nf n c l H f):Cf n c l f where
 lc:=h.lc
 cn:=Nat.lt_trans h.cH h.Hn
 lo:=h.lo
 hi:=fun i hi=>by
  have:=h.cH;have:=h.Hn;by_cases e:i=c
  ·subst e;rw[h.cc,Nat.mod_eq_of_lt (by omega)];exact⟨by omega,by omega⟩
  ·obtain⟨a,b⟩:=h.hi i (by omega) e (by omega);exact⟨by omega,b⟩
def xM(h1:1<=n):Cf n (n-1) (n-1) (ay n) where
 lc:=Nat.le_refl _
 cn:=by omega
 lo:=fun i hi=>by rw[plain_at,if_pos (by omega)]
 hi:=fun i hi=>by
  rw[plain_at,if_pos (by omega),Nat.add_mod_left,Nat.mod_eq_of_lt (by omega)];exact⟨by omega,Nat.le_refl _⟩
def AE(hn:n<=10)(V:Val n f)(S:Sr n f row)(C:Cf n c l f)(hb:b<l):Val n (aC f b)/\Sr n (aC f b) (b::row)/\Nf n b b c (aC f b):=by
 have F:=V.frm;have lc:=C.lc;have cn:=C.cn
 have hb':b+1<n:=by omega
 have ex:=C.lo b hb;obtain⟨y1,y2⟩:=C.hi (b+1) (by omega)
 have ne:at' f b≠b+1:=by omega
 have i2:=F.inv (b+1)
 have lo:∀ i,i<b->at' (aC f b) i=n+i:=fun i hi=>by
  rw[cR F hb' ne,if_neg (by omega),if_neg (by omega),if_neg (by omega),if_neg (by omega)];exact C.lo i (by omega)
 have lo2:∀ i,i<b->at' (aC f b) (n+i)=i:=fun i hi=>by
  have a:=C.lo i (by omega)
  have q:at' f (n+i)=i:=by rw[<-a];exact F.inv i
  rw[cR F hb' ne,if_neg (by omega),if_neg (by omega),if_neg (fun z=>by rw[z,i2]at q;omega),if_neg (by omega)];exact q
 refine⟨rK hn hb' V,oG hb' V S ne (fun i hi=>by rw[lo i hi];omega) (by rw[ex,cS];exact .inr ⟨by omega,by omega⟩) (by omega) (fun y hy h=>?_),⟨Nat.le_refl _,by omega,cn,?_,lo,fun i hi h1 h2=>?_⟩⟩
 ·rw[ex]at h;rcases h with h | h | h
  ·omega
  ·rw[lo y h.1,Nat.add_mod_left,Nat.mod_eq_of_lt (by omega)];omega
  ·rw[show y=n+(y-n) by omega,lo2 (y-n) (by omega),Nat.mod_eq_of_lt (by omega)];omega
 ·rw[cR F hb' ne,if_neg (by omega),if_pos rfl]
 ·rw[cR F hb' ne,if_neg (by omega),if_neg (by omega),if_neg (by omega),if_neg (by omega)];exact C.hi i hi
def xE(hn:n<=10)(V:Val n f)(S:Sr n f row)(C:Nf n c l H f)(hb:c+1<H):Val n (aC f (c+1))/\Sr n (aC f (c+1)) ((c+1)::row)/\Nf n (c+1) l H (aC f (c+1)):=by
 have F:=V.frm;have lc:=C.lc;have Hn:=C.Hn
 have hb':c+1+1<n:=by omega
 have ex:at' f (c+1)=c:=by rw[<-C.cc];exact F.inv c
 obtain⟨y1,y2⟩:=C.hi (c+1+1) (by omega) (by omega) (by omega)
 have ne:at' f (c+1)≠c+1+1:=by omega
 have i2:=F.inv (c+1+1)
 have ec:at' (aC f (c+1)) c=at' f (c+1+1):=by rw[cR F hb' ne,if_neg (by omega),if_neg (by omega),if_neg (by omega),if_pos ex.symm]
 have lo:∀ i,i<=H->i≠c->i≠c+1->i≠c+1+1->at' (aC f (c+1)) i=at' f i:=fun i hi h1 h2 h3=>by
  rw[cR F hb' ne,if_neg h3,if_neg h2,if_neg (by omega),if_neg (by omega)]
 refine⟨rK hn hb' V,oG hb' V S ne (fun i hi=>?_) (by rw[ex,cS];exact .inl (by omega)) (by omega) (fun y hy h=>?_),⟨by omega,hb,Hn,?_,fun i hi=>?_,fun i hi h1 h2=>?_⟩⟩
 ·by_cases e:i=c
  ·subst e;rw[ec];omega
  ·rw[lo i (by omega) e (by omega) (by omega)];have:=(C.hi i (by omega) e (by omega)).1;omega
 ·rw[ex]at h;rcases h with h | h | h<;>omega
 ·rw[cR F hb' ne,if_neg (by omega),if_pos rfl]
 ·rw[lo i (by omega) (by omega) (by omega) (by omega)];exact C.lo i hi
 ·by_cases e:i=c
  ·subst e;rw[ec];exact⟨y1,by omega⟩
  ·rw[lo i hi e h1 h2];exact C.hi i hi e h1
abbrev dwn(h l:Nat):List Nat:=(List.range' l (h+1-l)).reverse
def qj(l:Nat):dwn l l=[l]:=by unfold dwn;rw[show l+1-l=1 by omega];rfl
def pY(h:l<=k):dwn (k+1) l=(k+1)::dwn k l:=by
 unfold dwn;rw[show k+1+1-l=(k+1-l)+1 by omega,List.range'_1_concat,List.reverse_append,show l+(k+1-l)=k+1 by omega];rfl
def rL(hn:n<=10)(V:Val n f)(S:Sr n f row)(C:Cf n c l f)(hb:b<l):∀ k,b+k<c->∃ g,Val n g/\Sr n g (dwn (b+k) b++row)/\Nf n (b+k) b c g
 | 0,_=>by
  obtain⟨h1,h2,h3⟩:=AE hn V S C hb;exact⟨_,h1,by rw[Nat.add_zero,qj];exact h2,h3⟩
 | k+1,h=>by
  obtain⟨g,h1,h2,h3⟩:=rL hn V S C hb k (by omega);obtain⟨h4,h5,h6⟩:=xE hn h1 h2 h3 (by omega);exact⟨_,h4,by rw[<-Nat.add_assoc,pY (by omega)];exact h5,h6⟩
abbrev Rns(n:Nat)(rs:List (Nat × Nat)):Prop:=(∀ r∈rs,r.2<=r.1/\r.1+1<n)/\rs.Pairwise fun a b=>a.1<b.1/\a.2<b.2
abbrev wrd(rs:List (Nat × Nat)):List Nat:=rs.flatMap fun r=>dwn r.1 r.2
def r0(h1:1<=n)(hn:n<=10):∀ {rs:List (Nat × Nat)},Rns n rs->∃ f c l,Val n f/\Sr n f (wrd rs)/\Cf n c l f/\(match rs with | []=>c=n-1/\l=n-1 | r::_=>c=r.1/\l=r.2)
 | [],_=>by
  refine⟨ay n,n-1,n-1,gg n,.done ?_,xM h1,rfl,rfl⟩;unfold dH;rw[List.filter_eq_nil_iff];intro i hi;have:=List.mem_range.mp hi;rw[plain_at,if_pos (by omega)];simp;omega
 | r::rs,⟨a,b⟩=>by
  rw[List.pairwise_cons]at b;obtain⟨f,c,l,V,S,C,q⟩:=r0 h1 hn (rs:=rs) ⟨fun r hr=>a r (.tail _ hr),b.2⟩;obtain⟨r1,r2⟩:=a r (.head _)
  have hc:r.1<c/\r.2<l:=by
   cases rs with
   | nil=>obtain⟨rfl,rfl⟩:=q;exact⟨by omega,by omega⟩
   | cons r' t=>obtain⟨rfl,rfl⟩:=q;exact b.1 r' (.head _)
  obtain⟨g,g1,g2,g3⟩:=rL hn V S C hc.2 (r.1-r.2) (by omega);rw[show r.2+(r.1-r.2)=r.1 by omega]at g2 g3;exact⟨g,r.1,r.2,g1,g2,g3.cf,rfl,rfl⟩
end
open RL RT
section
def ER(im:d.imm=true)(hb:aV tg d σ=some σ1)(h:g σ1=some (.rt x,σ2)):aP g tg (d::r) σ=some (.rt x,σ2):=by
 rw[aP,if_pos im,hb,Option.bind_some,h];rfl
end
end RM
set_option maxHeartbeats 1000000
namespace K28
open RL RT
abbrev uf(f_ways f_check_pegs:Nat):Fn :=
 ⟨1,1,[],[],(.cons (.exc (.call f_check_pegs (.cons (.var 0) .nil))) (.cons (.ret (.call f_ways (.cons (.bin .mul (.cst (.int 2)) (.var 0)) (.cons (.cst (.int 0)) .nil)))) .nil))⟩
abbrev BK(f_choices:Nat):Fn :=
 ⟨2,3,[],[],(.cons (.ife (.or (.cmp .lt (.var 1) (.cst (.int 0))) (.or (.cmp .gt (.var 1) (.var 0)) (.cmp .eq (.bin .mod (.bin .sub (.var 0) (.var 1)) (.cst (.int 2))) (.cst (.int 1))))) (.cons (.ret (.cst (.int 0))) .nil) .nil) (.cons (.asg 2 (.bin .fdiv (.bin .sub (.var 0) (.var 1)) (.cst (.int 2)))) (.cons (.ret (.bin .sub (.call f_choices (.cons (.var 0) (.cons (.var 2) .nil))) (.call f_choices (.cons (.var 0) (.cons (.bin .sub (.var 2) (.cst (.int 1))) .nil))))) .nil)))⟩
abbrev tD:Ss :=
 (.cons (.asg 2 (.bin .fdiv (.bin .mul (.var 2) (.bin .sub (.var 0) (.var 3))) (.bin .add (.var 3) (.cst (.int 1))))) .nil)
abbrev ve:Fn :=
 ⟨2,4,[],[],(.cons (.ife (.cmp .lt (.var 1) (.cst (.int 0))) (.cons (.ret (.cst (.int 0))) .nil) .nil) (.cons (.asg 2 (.cst (.int 1))) (.cons (.forr [3] (.rng1 (.var 1)) (tD)) (.cons (.ret (.var 2)) .nil))))⟩
abbrev dz:Ss :=
 (.cons (.par3 1 6 7 (.bin .fdiv (.var 1) (.cst (.int 10000))) (.bin .mod (.bin .fdiv (.var 1) (.cst (.int 100))) (.cst (.int 100))) (.bin .mod (.var 1) (.cst (.int 100)))) (.cons (.asg 4 (.bin .add (.bin .add (.var 4) (.cst (.int 1))) (.bin .mod (.var 6) (.cst (.int 5))))) (.cons (.ife (.cmp .gt (.var 4) (.bin .sub (.var 0) (.cst (.int 2)))) (.cons (.ret (.var 2)) .nil) .nil) (.cons (.asg 5 (.min (.var 4) (.bin .add (.bin .add (.var 5) (.cst (.int 1))) (.bin .mod (.var 7) (.cst (.int 4)))))) (.cons (.ife (.cmp .eq (.bin .mod (.var 7) (.cst (.int 7))) (.cst (.int 0))) (.cons (.asg 5 (.var 4)) .nil) .nil) (.cons (.own 2 (.bin .add (.var 2) (.rng3 (-1) (.var 4) (.bin .sub (.var 5) (.cst (.int 1)))))) .nil))))))
abbrev iw:Fn :=
 ⟨2,8,[2],[],(.cons (.own 2 (.lst .nil)) (.cons (.unp [4,5] (.tup (.cons (.neg (.cst (.int 1))) (.cons (.neg (.cst (.int 1))) .nil)))) (.cons (.forr [3] (.rng1 (.var 0)) (dz)) (.cons (.ret (.var 2)) .nil))))⟩
abbrev kS:Ss :=
 (.cons (.app 1 (.tup (.cons (.frz (.cat (.var 4) (.rng3 (-1) (.var 3) (.bin .sub (.var 7) (.cst (.int 1)))))) (.cons (.var 3) (.cons (.var 7) .nil))))) .nil)
abbrev kI:Ss :=
 (.cons (.forr [7] (.rng2 (.bin .add (.var 6) (.cst (.int 1))) (.bin .add (.var 3) (.cst (.int 1)))) (kS)) .nil)
abbrev kX:Ss :=
 (.cons (.unp [4,5,6] (.ix (.var 1) (.var 2))) (.cons (.forr [3] (.rng2 (.bin .add (.var 5) (.cst (.int 1))) (.bin .sub (.var 0) (.cst (.int 1)))) (kI)) (.cons (.asg 2 (.bin .add (.var 2) (.cst (.int 1)))) .nil)))
abbrev lI:Fn :=
 ⟨1,8,[1],[],(.cons (.own 1 (.lst (.cons (.tup (.cons (.frz (.lst .nil)) (.cons (.neg (.cst (.int 1))) (.cons (.neg (.cst (.int 1))) .nil)))) .nil))) (.cons (.asg 2 (.cst (.int 0))) (.cons (.whil (.cmp .lt (.var 2) (.bi .len (.var 1))) (kX)) (.cons (.ret (.compA (.var 4) [4,5,6] (.seq (.var 1)))) .nil))))⟩
abbrev vA(f_how_many f_made f_law_all_runs f_law_digits f_law_same f_shortest_row f_law_runs:Nat):Ss :=
 (.cons (.put 4 (.ix (.call f_made (.cons (.var 2) (.cons (.var 5) .nil))) (.cst (.int 0))) (.cst (.bl true))) .nil)
abbrev pf(f_how_many f_made f_law_all_runs f_law_digits f_law_same f_shortest_row f_law_runs:Nat):Ss :=
 (.cons (.unp [6,7] (.call f_law_digits (.cons (.var 0) (.cons (.var 1) (.cons (.lst (.cons (.cst (.int 9)) (.cons (.bin .pow (.cst (.int 10)) (.cst (.int 45))) .nil))) .nil))))) (.cons (.asg 6 (.bin .add (.cst (.int 2)) (.var 6))) (.cons (.asg 5 (.call f_law_runs (.cons (.var 6) (.cons (.var 7) .nil)))) (.cons (.unp [8,9] (.call f_made (.cons (.var 6) (.cons (.var 5) .nil)))) (.cons (.ife (.or (.cmp .ne (.var 9) (.cst (.int 0))) (.not (.call f_law_same (.cons (.call f_shortest_row (.cons (.var 8) .nil)) (.cons (.var 5) .nil))))) (.cons (.ret (.cst (.bl false))) .nil) .nil) .nil)))))
abbrev zd(f_how_many f_made f_law_all_runs f_law_digits f_law_same f_shortest_row f_law_runs:Nat):Fn :=
 ⟨1,10,[4],[],(.cons (.asg 0 (.slT (.var 0) (.cst (.int 63)))) (.cons (.forr [1] (.rng1 (.cst (.int 8))) (pf f_how_many f_made f_law_all_runs f_law_digits f_law_same f_shortest_row f_law_runs)) (.cons (.asg 2 (.bin .add (.cst (.int 1)) (.ix (.call f_law_digits (.cons (.var 0) (.cons (.cst (.int 9)) (.cons (.lst (.cons (.cst (.int 5)) .nil)) .nil)))) (.cst (.int 0))))) (.cons (.asg 3 (.call f_law_all_runs (.cons (.var 2) .nil))) (.cons (.own 4 .dt0) (.cons (.forr [5] (.seq (.var 3)) (vA f_how_many f_made f_law_all_runs f_law_digits f_law_same f_shortest_row f_law_runs)) (.cons (.ret (.and (.cmp .eq (.bi .len (.var 4)) (.call f_how_many (.cons (.var 2) .nil))) (.cmp .eq (.bi .len (.var 3)) (.bi .len (.var 4))))) .nil)))))))⟩
abbrev T:List Fn:=[d7,c7 0,dX 1,fQ 4,fU 0,eN,l4,fD 5 12 3 1 9,dA 7,eW,jG 2,cK,eg 13 11 9,gY,eS 15 16 8,dk 9,i5 6 17,fz 9,kY 19 10 21,d8 6 9,gm 0,eT 20 2,uf 23 2,BK 24,ve,jk,iS 25,eF 26,cY 28,iw,lI,zd 22 18 30 27 28 14 29]
open RM
abbrev jz(f_how_many f_made f_law_all_runs f_law_digits f_law_same f_shortest_row f_law_runs:Nat):Ss :=
 (.cons (.asg 3 (.call f_law_all_runs (.cons (.var 2) .nil))) (.cons (.own 4 .dt0) (.cons (.forr [5] (.seq (.var 3)) (vA f_how_many f_made f_law_all_runs f_law_digits f_law_same f_shortest_row f_law_runs)) (.cons (.ret (.and (.cmp .eq (.bi .len (.var 4)) (.call f_how_many (.cons (.var 2) .nil))) (.cmp .eq (.bi .len (.var 3)) (.bi .len (.var 4))))) .nil))))
def tl1(s:D)(o1 o3 o4 o5 o6 o7 o8 o9:Option D):(ag (a8 T 29) [4] (jz 22 18 30 27 28 14 29) [some s,o1,some (.int 1),o3,o4,o5,o6,o7,o8,o9]).map (·.1)=some (.rt (.bl true)):=by kernel_rfl
def tl2(s:D)(o1 o3 o4 o5 o6 o7 o8 o9:Option D):(ag (a8 T 29) [4] (jz 22 18 30 27 28 14 29) [some s,o1,some (.int 2),o3,o4,o5,o6,o7,o8,o9]).map (·.1)=some (.rt (.bl true)):=by kernel_rfl
def tl3(s:D)(o1 o3 o4 o5 o6 o7 o8 o9:Option D):(ag (a8 T 29) [4] (jz 22 18 30 27 28 14 29) [some s,o1,some (.int 3),o3,o4,o5,o6,o7,o8,o9]).map (·.1)=some (.rt (.bl true)):=by kernel_rfl
def tl4(s:D)(o1 o3 o4 o5 o6 o7 o8 o9:Option D):(ag (a8 T 29) [4] (jz 22 18 30 27 28 14 29) [some s,o1,some (.int 4),o3,o4,o5,o6,o7,o8,o9]).map (·.1)=some (.rt (.bl true)):=by kernel_rfl
def tl5(s:D)(o1 o3 o4 o5 o6 o7 o8 o9:Option D):(ag (a8 T 29) [4] (jz 22 18 30 27 28 14 29) [some s,o1,some (.int 5),o3,o4,o5,o6,o7,o8,o9]).map (·.1)=some (.rt (.bl true)):=by kernel_rfl
end K28
set_option maxHeartbeats 1000000
namespace K28
open RL RT RM
def sg(h:ev cl σ e=some x)(h':ev cl σ e'=some y)(h'':ev cl σ e''=some z)(im:(x.imm&&y.imm&&z.imm)=true)(k:ag cl M r (((σ.set i (some x)).set j (some y)).set m (some z))=res):ag cl M (.cons (.par3 i j m e e' e'') r) σ=res:=ef (by
 show(ev cl σ e).bind _=_;rw[h,Option.bind_some,h',Option.bind_some,h'',Option.bind_some]
 exact if_pos im) k
def sN(h:ev cl σ e=some x)(h':ev cl σ e'=some y)(hr:gz c x y=some ds):ev cl σ (.rng3 c e e')=some (.lst ds):=by
 rw[Eg,h,Option.bind_some,h',Option.bind_some,hr];rfl
def rS(l:Nat):∀ k:Nat,bB (-1) ((l+k:Nat):Int) (k+1)=L (dwn (l+k) l)
 | 0=>by rw[Nat.add_zero,qj];rfl
 | k+1=>by
  rw[bB,show((l+(k+1):Nat):Int)+-1=((l+k:Nat):Int) by omega,rS l k,<-Nat.add_assoc,pY (by omega)];rfl
def rQ(hl:l<=h)(hh:h<10):gz (-1) (.int (h:Nat)) (.int ((l:Int)-1))=some (L (dwn h l)):=by
 have rN:bp (-1) (h:Int) ((l:Int)-1)=h-l+1:=by
  unfold bp;rw[if_neg (by decide),if_pos (by omega),show(-(-1):Int)=1 from rfl,Int.ediv_one];omega
 have q:(2:Int) ^ 60=1152921504606846976:=by decide
 have e:gz (-1) (.int (h:Nat)) (.int ((l:Int)-1))=if(-1:Int)≠0/\-(2 ^ 60)<(-1:Int)/\(-1:Int)<2 ^ 60/\bp (-1) (h:Int) ((l:Int)-1)<=most/\-(2 ^ 60)<=(h:Int)/\(h:Int)<2 ^ 60/\-(2 ^ 60)<=(l:Int)-1/\(l:Int)-1<2 ^ 60 then some (bB (-1) (h:Int) (bp (-1) (h:Int) ((l:Int)-1)))else none:=rfl;rw[e,rN,q,if_pos ⟨by decide,by decide,by decide,by unfold most;omega,by omega,by omega,by omega,by omega⟩];have:=rS l (h-l);rw[show l+(h-l)=h by omega]at this;rw[this]
def qX:(dwn h l).length=h+1-l:=by simp[dwn]
def sk(rs:List (Nat × Nat))(r:Nat × Nat):wrd (rs++[r])=wrd rs++dwn r.1 r.2:=by simp[wrd]
abbrev rst(n raw:Nat)(rs:List (Nat × Nat))(o3:Option D)(hi lo:Int)(o6 o7:Option D):St:=[some (.int (n:Nat)),some (.int (raw:Nat)),some (.lst (L (wrd rs))),o3,some (.int hi),some (.int lo),o6,o7]
structure Rk(n:Nat)(rs:List (Nat × Nat))(hi lo:Int)(u:Nat):Prop where
 rn:Rns n rs
 bd:∀ r∈rs,(r.1:Int)<=hi/\(r.2:Int)<=lo
 l1:-1<=lo
 lh:lo<=hi
 sz:(wrd rs).length<=10*u
def step{n u raw:Nat}{rs:List (Nat × Nat)}{hi lo:Int}(hn:n<=10)(h2:2<=n)(R:Rk n rs hi lo u)(hu:u<=10)(o3 o6 o7:Option D) :
  (∃ rs' raw' hi' lo' o6' o7',ag cl [2] dz (rst n raw rs o3 hi lo o6 o7)=some (.nx,rst n raw' rs' o3 hi' lo' o6' o7')/\Rk n rs' hi' lo' (u+1))\/(∃ σ,ag cl [2] dz (rst n raw rs o3 hi lo o6 o7)=some (.rt (.lst (L (wrd rs))),σ)):=by
 obtain⟨rn,bd,l1,lh,sz⟩:=R;have d1:aE .fdiv (.int (raw:Nat)) (.int 10000)=some (.int ((raw / 10000:Nat):Int)):=nS (by decide) (by decide);have d2:aE .fdiv (.int (raw:Nat)) (.int 100)=some (.int ((raw / 100:Nat):Int)):=nS (by decide) (by decide);have d3:aE .mod (.int ((raw / 100:Nat):Int)) (.int 100)=some (.int ((raw / 100%100:Nat):Int)):=dY (by decide);have d4:aE .mod (.int (raw:Nat)) (.int 100)=some (.int ((raw%100:Nat):Int)):=dY (by decide);generalize raw / 10000=raw' at *;generalize raw / 100%100=s at *;generalize raw%100=d at *;have e1:aE .mod (.int (s:Nat)) (.int 5)=some (.int ((s%5:Nat):Int)):=dY (by decide);have e2:aE .mod (.int (d:Nat)) (.int 4)=some (.int ((d%4:Nat):Int)):=dY (by decide);have e3:aE .mod (.int (d:Nat)) (.int 7)=some (.int ((d%7:Nat):Int)):=dY (by decide)
 obtain⟨H,hH⟩:∃ H:Nat,hi+1+((s%5:Nat):Int)=(H:Int):=⟨(hi+1+((s%5:Nat):Int)).toNat,by omega⟩
 have hH1:hi<H:=by omega
 have im:∀ xs:List Nat,(aG (.lst (L xs))&&true)=true:=fun xs=>by rw[Bool.and_true];exact cq xs
 have c1:aZ .gt (.int (H:Int)) (.int ((n:Int)-2))=some (decide ((n:Int)-2<H)):=mh;by_cases big:(n:Int)-2<H
 ·rw[decide_eq_true big]at c1
  refine .inr ⟨_,sg (au (ae rfl) ak d1) (au (au (ae rfl) ak d2) ak d3) (au (ae rfl) ak d4) rfl
   (bc (d:=.int (H:Int)) (au (au (ae rfl) ak bO) (au (ae rfl) ak e1) (by rw[bO,hH])) rfl
   (hJ (bX (aY (ae rfl) (au (ae rfl) ak gj) c1)) (bI (d:=.lst (L (wrd rs))) (ae rfl) ?_)))⟩
  show(false || (ao (L (wrd rs))&&(false || true)))=true;rw[cq];rfl
 ·rw[decide_eq_false big]at c1
  obtain⟨l,hl⟩:∃ l:Nat,(if d%7=0 then(H:Int)else if lo+1+((d%4:Nat):Int)<H then lo+1+((d%4:Nat):Int)else(H:Int))=(l:Int):=⟨(if d%7=0 then(H:Int)else if lo+1+((d%4:Nat):Int)<H then lo+1+((d%4:Nat):Int)else(H:Int)).toNat,by split<;>(try split)<;>omega⟩
  have lH:l<=H:=by split at hl<;>(try split at hl)<;>omega
  have ll:lo<l:=by split at hl<;>(try split at hl)<;>omega
  have H9:H<10:=by omega
  have ad:aE .add (.lst (L (wrd rs))) (.lst (L (dwn H l)))=some (.lst (L (wrd (rs++[(H,l)])))):=by
   rw[C4,if_pos,sk,dM];rw[bP,bP,qX];unfold most;omega
  refine .inl ⟨rs++[(H,l)],raw',(H:Int),(l:Int),some (.int (s:Nat)),some (.int (d:Nat)),?_,⟨⟨fun r hr=>?_,?_⟩,fun r hr=>?_,by omega,by omega,?_⟩⟩
  ·refine sg (au (ae rfl) ak d1) (au (au (ae rfl) ak d2) ak d3) (au (ae rfl) ak d4) rfl
    (bc (d:=.int (H:Int)) (au (au (ae rfl) ak bO) (au (ae rfl) ak e1) (by rw[bO,hH])) rfl
    (cZ (bX (aY (ae rfl) (au (ae rfl) ak gj) c1))
    (bc (EG (ae rfl) (au (au (ae rfl) ak bO) (au (ae rfl) ak e2) bO)) rfl ?_)))
   by_cases z:d%7=0
   ·have c2:aZ .eq (.int ((d%7:Nat):Int)) (.int 0)=some true:=by rw[z];rfl
    rw[if_pos z]at hl
    have hl:H=l:=by omega
    subst hl;exact iO (bX (aY (au (ae rfl) ak e3) ak c2)) (bc (ae rfl) rfl bC) (eY (au (ae rfl) (sN (ae rfl) (au (ae rfl) ak gj) (rQ (Nat.le_refl _) H9)) ad) (im _) bC)
   ·have c2:aZ .eq (.int ((d%7:Nat):Int)) (.int 0)=some false:=by
     rw[gE];congr 1;exact beq_false_of_ne (by omega)
    rw[if_neg z]at hl;rw[hl];exact cZ (bX (aY (au (ae rfl) ak e3) ak c2)) (eY (au (ae rfl) (sN (ae rfl) (au (ae rfl) ak gj) (rQ lH H9)) ad) (im _) bC)
  ·rcases List.mem_append.mp hr with hr | hr
   ·exact rn.1 r hr
   ·cases List.mem_singleton.mp hr;exact⟨lH,by show H+1<n;omega⟩
  ·rw[List.pairwise_append];refine⟨rn.2,List.pairwise_singleton _ _,fun a ha b hb=>?_⟩;cases List.mem_singleton.mp hb;obtain⟨b1,b2⟩:=bd a ha;exact⟨show a.1<H by omega,show a.2<l by omega⟩
  ·rcases List.mem_append.mp hr with hr | hr
   ·obtain⟨b1,b2⟩:=bd r hr;exact⟨by omega,by omega⟩
   ·cases List.mem_singleton.mp hr;exact⟨Int.le_refl _,Int.le_refl _⟩
  ·rw[sk,List.length_append,qX];show _+(H+1-l)<=_;omega
def steps(hn:n<=10)(h2:2<=n):∀ (ts:List Nat) (u raw:Nat) (rs:List (Nat × Nat)) (hi lo:Int) (o3 o6 o7:Option D),Rk n rs hi lo u->u+ts.length<=10 ->
  ∃ rs',Rns n rs'/\(wrd rs').length<=100/\((∃ raw' hi' lo' o3' o6' o7',aP (ag cl [2] dz) [3] (L ts) (rst n raw rs o3 hi lo o6 o7)=some (.nx,rst n raw' rs' o3' hi' lo' o6' o7'))\/∃ σ,aP (ag cl [2] dz) [3] (L ts) (rst n raw rs o3 hi lo o6 o7)=some (.rt (.lst (L (wrd rs'))),σ))
 | [],u,raw,rs,hi,lo,o3,o6,o7,R,hu=>⟨rs,R.rn,by have:=R.sz;simp at hu;omega,.inl ⟨raw,hi,lo,o3,o6,o7,rfl⟩⟩
 | t::ts,u,raw,rs,hi,lo,o3,o6,o7,R,hu=>by
  rw[List.length_cons]at hu
  rcases step (cl:=cl) (raw:=raw) hn h2 R (by omega) (some (.int (t:Nat))) o6 o7 with⟨rs1,raw1,hi1,lo1,p6,p7,e,R1⟩ | ⟨σ,e⟩
  ·obtain⟨rs',a,b,c⟩:=steps hn h2 ts (u+1) raw1 rs1 hi1 lo1 (some (.int (t:Nat))) p6 p7 R1 (by omega);refine⟨rs',a,b,?_⟩
   rcases c with⟨raw',hi',lo',o3',o6',o7',c⟩ | ⟨σ,c⟩
   ·exact .inl ⟨raw',hi',lo',o3',o6',o7',sD rfl rfl e c⟩
   ·exact .inr ⟨σ,sD rfl rfl e c⟩
  ·exact⟨rs,R.rn,by have:=R.sz;omega,.inr ⟨σ,ER rfl rfl e⟩⟩
def yg(hn:n<=10)(h2:2<=n)(raw:Nat):∃ rs,Rns n rs/\(wrd rs).length<=100/\evF cl iw [.int (n:Nat),.int (raw:Nat)]=some (.lst (L (wrd rs))):=by
 have R:Rk n [] (-1) (-1) 0:=⟨⟨fun r hr=>(by cases hr),.nil⟩,fun r hr=>(by cases hr),by decide,by decide,by decide⟩
 obtain⟨rs,a,b,c⟩:=steps (cl:=cl) hn h2 (List.range n) 0 raw [] (-1) (-1) none none none R (by simp;omega)
 have im:bF [2] (.var 2) (.lst (L (wrd rs)))=true:=by
  show(false || (ao (L (wrd rs))&&(false || true)))=true;rw[cq];rfl
 refine⟨rs,a,b,?_⟩
 rcases c with⟨raw',hi',lo',o3',o6',o7',c⟩ | ⟨σ,c⟩
 ·exact bo rfl rfl (eY (iy cD) rfl (kO (yT (bf (ot ak) (bf (ot ak) cD))) rfl rfl rfl (kT (gR (ae rfl) (dE (by omega))) c (bI (ae rfl) im))))
 ·exact bo rfl rfl (eY (iy cD) rfl (kO (yT (bf (ot ak) (bf (ot ak) cD))) rfl rfl rfl (sq (gR (ae rfl) (dE (by omega))) c)))
def Ey(h:iR ds [a,b]):∃ x y,ds=[x,y]/\x<a/\y<b:=by
 obtain⟨h1,h2⟩:=h
 match ds,h1 with
 | [x,y],_=>exact⟨x,y,rfl,h2 0 x a rfl rfl,h2 1 y b rfl rfl⟩
def EB(h:iR ds [a]):∃ x,ds=[x]/\x<a:=by
 obtain⟨h1,h2⟩:=h
 match ds,h1 with
 | [x],_=>exact⟨x,rfl,h2 0 x a rfl rfl⟩
def ck:Ck T 0 1 3 4 5 7 8 9 11 12 13:=⟨rfl,rfl,rfl,rfl,rfl,rfl,rfl,rfl,rfl,rfl,rfl⟩
def dg:Dg T 25 26 27:=⟨rfl,rfl,rfl⟩
def AM(h1:1<=n)(h2:n<=10)(hr:∀ j∈row,j+1<n):a8 T 29 18 [.int (n:Nat),.lst (L row)]=some (prD (stk n (row.map (aw n)))):=by
 have cp:∀ m,a8 T (m+3) 2 [.int (n:Nat)]=some .non:=fun m=>Dn (nu:=0) (pc:=1) rfl rfl rfl h1 h2;have e1:a8 T 28 21 [.int (n:Nat),.lst (L row)]=some .non:=(az (fn:=eT 20 2) rfl).trans (nH (cp 24) fun j hj=>zy (nu:=0) rfl rfl (hr j hj));have e2:a8 T 28 10 [.int (n:Nat)]=some (.tup (L (ay n))):=(az (fn:=jG 2) rfl).trans (run_plain h2 (cp 24));have e:=(az (fn:=kY 19 10 21) (T:=T) (n:=28) (f:=18) rfl).trans (xY h2 hr e1 e2 fun f i F hi=>(az (fn:=d8 6 9) rfl).trans (nJ F hi (fun xs=>(az (fn:=eW) rfl).trans (jQ xs)) fun xs a b ha hb=>(az (fn:=l4) rfl).trans (sG xs ha hb)));have q:hangs n row (ay n,0)=stk n (row.map (aw n)):=nv h2 row (ay n,0) hr (gg n);rw[q]at e;exact e
def Cy(h1:1<=n)(hn:n<=10)(V:Val n f)(S:Sr n f row):a8 T 29 14 [.tup (L f)]=some (.lst (L row)):=by
 have po:∀ (m:Nat) (g:List Nat),Frm n g->a8 T (m+1) 9 [.lst (L g)]=some (.int (n:Nat)):=fun m g G=>by
  rw[ck.ofL m,bP,G.len];congr 2;omega
 exact(az (fn:=eS 15 16 8) rfl).trans (oO h1 hn V (ck.check 23 h1 hn V) (fun g G=>(az (fn:=dk 9) rfl).trans (Aw h1 hn G (po 26 g G)))
  (fun g r' i l A G hi e q=>(az (fn:=i5 6 17) rfl).trans (xj A G hi e ((az (fn:=fz 9) rfl).trans (wK hn G hi q (po 25 g G))) fun xs a b ha hb=>(az (fn:=l4) rfl).trans (sG xs ha hb))) S)
def zt:∀ {os:List α},os.length=9->∃ a b c d e f g h i,os=[a,b,c,d,e,f,g,h,i]
 | [a,b,c,d,e,f,g,h,i],_=>⟨a,b,c,d,e,f,g,h,i,rfl⟩
def tl(p:Nat)(hp:p<5)(s:D)(o1 o3 o4 o5 o6 o7 o8 o9:Option D):∃ σ,ag (a8 T 29) [4] (jz 22 18 30 27 28 14 29) [some s,o1,some (.int ((1+p:Nat):Int)),o3,o4,o5,o6,o7,o8,o9]=some (.rt (.bl true),σ):=by
 have q:∀ {o:Option (Out × St)},o.map (·.1)=some (.rt (.bl true))->∃ σ,o=some (.rt (.bl true),σ):=fun {o} h=>by
  cases o with
  | none=>cases h
  |some x=>
   obtain⟨a,b⟩:=x;have h:some a=some (Out.rt (.bl true)):=h;cases h;exact⟨b,rfl⟩
 match p,hp with
 | 0,_=>exact q (tl1 s o1 o3 o4 o5 o6 o7 o8 o9)
 | 1,_=>exact q (tl2 s o1 o3 o4 o5 o6 o7 o8 o9)
 | 2,_=>exact q (tl3 s o1 o3 o4 o5 o6 o7 o8 o9)
 | 3,_=>exact q (tl4 s o1 o3 o4 o5 o6 o7 o8 o9)
 | 4,_=>exact q (tl5 s o1 o3 o4 o5 o6 o7 o8 o9)
def turn(hl:ns.length<=63)(hk:k<8)(o2 o3 o4 o5 o6 o7 o8 o9:Option D):∃ os',os'.length=9/\ag (a8 T 29) [4] (pf 22 18 30 27 28 14 29) [some (.lst (LI ns)),some (.int (k:Nat)),o2,o3,o4,o5,o6,o7,o8,o9]=some (.nx,some (.lst (LI ns))::os'):=by
 obtain⟨ds,hd,e1⟩:=dg.digits hl 26 (k:=k) (sizes:=[9,10 ^ 45]) (by omega) (by simp) (by simp);obtain⟨p,raw,rfl,hp,_⟩:=Ey hd
 have n2:2<=2+p:=by omega
 have n10:2+p<=10:=by omega
 have e0:aE .add (.int 2) (.int (p:Nat))=some (.int ((2+p:Nat):Int)):=rfl;have pw:aE .pow (.int 10) (.int 45)=some (.int ((10 ^ 45:Nat):Int)):=rfl;generalize 2+p=n at *;obtain⟨rs,R,rz,e2⟩:=yg (cl:=a8 T 28) n10 n2 raw;have e2:a8 T 29 29 [.int (n:Nat),.int (raw:Nat)]=some (.lst (L (wrd rs))):=(az (fn:=iw) rfl).trans e2;obtain⟨f,c,l,V,S,_,_⟩:=r0 (by omega) n10 R;obtain⟨hr,st,_⟩:=vi (by omega) n10 S V;have e3:=AM (by omega) n10 hr;rw[st]at e3;have e4:=Cy (by omega) n10 V S
 have e5:a8 T 29 28 [.lst (L (wrd rs)),.lst (L (wrd rs))]=some (.bl true):=(az (fn:=cY 28) rfl).trans (xx (.inr rfl) (by rw[bP];omega) fun x hx=>by
  obtain⟨a,_,rfl⟩:=List.mem_map.mp hx
  exact(az (fn:=cY 28) rfl).trans (same_int _))
 have im:b0 [4] (.call 29 (.cons (.var 6) (.cons (.var 7) .nil))) (.lst (L (wrd rs)))=true:=by
  show(false || (ao (L (wrd rs))&&true) || true)=true;rw[cq];rfl
 have im2:ao [D.tup (L f),.int 0]=true:=by
  show((D.tup (L f)).imm&&true)=true;rw[AU];rfl
 refine⟨_,?_,kO (Bk (ae rfl) (ae rfl) (iy (bf ak (bf (au ak ak pw) cD))) e1) rfl rfl rfl
  (bc (au ak (ae rfl) e0) rfl
  (bc (ja (ae rfl) (ae rfl) e2) im
  (kO (ja (ae rfl) (ae rfl) e3) rfl im2 rfl
  (cZ (bX (xS (aY (ae rfl) ak (k:=false) rfl) (hW (ja (lK (ae rfl) e4) (ae rfl) e5))))
  bC))))⟩
 rfl
def main(ns:List Int)(hl:ns.length<=63):a8 T 30 31 [.scr (ns.map D.int)]=some (.bl true):=by
 have e1:=dE (n:=8) (by decide)
 obtain⟨σ',e,os,hos,rfl⟩:=k9 (f:=ag (a8 T 29) [4] (pf 22 18 30 27 28 14 29)) (tg:=[1]) (xs:=List.range 8) (σ:=some (.lst (LI ns))::List.replicate 9 none) (fun _ σ=>∃ os:List (Option D),os.length=9/\σ=some (.lst (LI ns))::os) ⟨_,by simp,rfl⟩ (by
  rintro p x q σ hx ⟨os,ho,rfl⟩
  have hxN:x<8:=by
   have:x∈List.range 8:=by rw[hx];simp
   simpa using this
  obtain⟨o1,o2,o3,o4,o5,o6,o7,o8,o9,rfl⟩:=zt ho;obtain⟨os',h1,h2⟩:=turn hl hxN o2 o3 o4 o5 o6 o7 o8 o9
  exact⟨_,by simpa[qh]using h2,os',h1,rfl⟩)
 obtain⟨o1,o2,o3,o4,o5,o6,o7,o8,o9,rfl⟩:=zt hos;obtain⟨ds,hd,e2⟩:=dg.digits hl 26 (k:=9) (sizes:=[5]) (by omega) (by simp) (by simp);obtain⟨p,rfl,hp⟩:=EB hd;have e0:aE .add (.int 1) (.int (p:Nat))=some (.int ((1+p:Nat):Int)):=rfl;obtain⟨σ2,e3⟩:=tl p hp (.lst (LI ns)) o1 o3 o4 o5 o6 o7 o8 o9
 exact(az (fn:=zd 22 18 30 27 28 14 29) rfl).trans (bo rfl rfl (bc (En (ae rfl) ak (ET hl)) (by simp[b0,D.imm,aG,vb]) (kT (gR ak e1) e
  (bc (au ak (iE (Bk (ae rfl) ak (iy (bf ak cD)) e2) ak rfl) e0) rfl e3))))
end K28
namespace L2
open PySem PySem.Spec PyProof.Rows
@[reducible]noncomputable def Key:=Sum Int Str
abbrev jA:Key->Value->Bool
 | .inl k,v=>Value.isInt k v
 | .inr x,v=>Value.isStrOf x v
abbrev FG(w:World):Key->Int
 | .inl k=>hashInt k
 | .inr x=>hashStr w x
def bE:∀ {k:Key} {v:Value},jA k v=true->(∃ i t,k=Sum.inl i/\v=Value.int i t)\/(∃ x t,k=Sum.inr x/\v=Value.str x t)
 | .inl i,v,h=>by
  obtain⟨t,e⟩:=Value.isInt_shape (k:=i) (v:=v) h;exact .inl ⟨i,t,rfl,e⟩
 | .inr x,v,h=>by
  obtain⟨t,e⟩:=Value.isStrOf_shape (x:=x) (v:=v) h;exact .inr ⟨x,t,rfl,e⟩
def vE(i:Int)(t:Tok):jA (.inl i) (.int i t)=true:=by simp[jA,Value.isInt]
def vT(x:Str)(t:Tok):jA (.inr x) (.str x t)=true:=by simp[jA,Value.isStrOf]
def D9(a b:Int):decide ((Sum.inl a:Key)=Sum.inl b)=(a == b):=by
 by_cases e:a=b
 ·subst e;simp
 ·have h:¬ (Sum.inl a:Key)=Sum.inl b:=fun q=>e (Sum.inl.inj q);rw[decide_eq_false h];exact(beq_eq_false_iff_ne.mpr e).symm
def BH(a b:Str):decide ((Sum.inr a:Key)=Sum.inr b)=decide (a=b):=by
 by_cases e:a=b
 ·subst e;simp
 ·have h:¬ (Sum.inr a:Key)=Sum.inr b:=fun q=>e (Sum.inr.inj q);rw[decide_eq_false h,decide_eq_false e]
def Dv(a:Int)(b:Str):decide ((Sum.inl a:Key)=Sum.inr b)=false:=decide_eq_false (fun q=>nomatch q)
def CD(a:Str)(b:Int):decide ((Sum.inr a:Key)=Sum.inl b)=false:=decide_eq_false (fun q=>nomatch q)
abbrev bM(prog:Program)(w:World):PySem.KeyKind prog w Key where
 is:=jA
 hash:=FG w
 inj:=fun v a b ha hb=>by
  rcases bE ha with⟨i,t,rfl,rfl⟩ | ⟨x,t,rfl,rfl⟩
  ·rcases bE hb with⟨j,u,rfl,e⟩ | ⟨y,u,rfl,e⟩
   ·injection e with e1 _;rw[e1]
   ·exact nomatch e
  ·rcases bE hb with⟨j,u,rfl,e⟩ | ⟨y,u,rfl,e⟩
   ·exact nomatch e
   ·injection e with e1 _;rw[e1]
 byValue:=fun k v h=>by
  rcases bE h with⟨i,t,rfl,rfl⟩ | ⟨x,t,rfl,rfl⟩<;>rfl
 pyHash:=fun hv h=>by
  rcases bE hv with⟨i,t,rfl,rfl⟩ | ⟨x,t,rfl,rfl⟩
  ·exact wpAny_pyHash_int h
  ·exact wpAny_pyHash_str h
 eqBool:=fun hu hv h=>by
  rcases bE hu with⟨i,t,rfl,rfl⟩ | ⟨x,t,rfl,rfl⟩
  ·rcases bE hv with⟨j,u,rfl,rfl⟩ | ⟨y,u,rfl,rfl⟩
   ·rw[D9]at h;exact wpAny_eqBool_int h
   ·rw[Dv]at h;exact SeqAt.EqAt.int_str i t y u _ _ _ _ h
  ·rcases bE hv with⟨j,u,rfl,rfl⟩ | ⟨y,u,rfl,rfl⟩
   ·rw[CD]at h;exact SeqAt.EqAt.str_int x t j u _ _ _ _ h
   ·rw[BH]at h;exact wpAny_eqBool_str h
 «strs»:=fun k x t v h=>by
  rcases bE h with⟨i,u,rfl,e⟩ | ⟨y,u,rfl,e⟩
  ·exact nomatch e
  ·injection e with e1 _;subst e1;cases v<;>rfl
def qP(prog:Program)(w:World)(i:Int)(t:Tok):(bM prog w).is (.inl i) (.int i t)=true:=vE i t
def qI(prog:Program)(w:World)(x:Str)(t:Tok):(bM prog w).is (.inr x) (.str x t)=true:=vT x t
set_option genInjectivity true in
inductive V where
 | non | bl (b:Bool) | int (i:Int) | str (x:Str) | byt (b:Array UInt8) | flt (b:UInt64) | ref (a:Addr) | ty (n:String)
 deriving DecidableEq
abbrev RelV:V->Value->Prop
 | .non,u=>u=Value.none
 | .bl b,u=>u=Value.bool b
 | .int i,u=>∃ t,u=Value.int i t
 | .str x,u=>∃ t,u=Value.str x t
 | .byt b,u=>∃ t,u=Value.bytes b t
 | .flt b,u=>∃ t,u=Value.float b t
 | .ref a,u=>u=Value.ref a
 | .ty n,u=>u=Value.type n
@[reducible]noncomputable def Vals:List V->List Value->Prop:=Paired RelV
def Vals.length(r:Vals xs us):xs.length=us.length:=Paired.length r
def Vals.get:∀ {xs:List V} {us:List Value} {i:Nat} {x:V},Vals xs us->xs[i]?=some x->∃ u,us[i]?=some u/\RelV x u
 | _,_,_,_,.nil,e=>by simp at e
 | _,_,0,_,.cons r _,e=>by simp at e;subst e;exact⟨_,rfl,r⟩
 | _,_,i+1,x,.cons _ t,e=>by
  obtain⟨u,h1,h2⟩:=Vals.get (i:=i) (x:=x) t (by simpa using e);exact⟨u,by simpa using h1,h2⟩
def Vals.set(r:RelV x u):∀ {xs:List V} {us:List Value} (i:Nat),Vals xs us->Vals (xs.set i x) (us.set i u)
 | _,_,_,.nil=>.nil
 | _,_,0,.cons _ t=>.cons r t
 | _,_,i+1,.cons q t=>.cons q (Vals.set r i t)
def Vals.append:∀ {xs ys:List V} {us ws:List Value},Vals xs us->Vals ys ws->Vals (xs++ys) (us++ws)
 | _,_,_,_,.nil,s=>s
 | _,_,_,_,.cons r t,s=>.cons r (Vals.append t s)
def Vals.take:∀ {xs:List V} {us:List Value} (n:Nat),Vals xs us->Vals (xs.take n) (us.take n)
 | _,_,0,_=>.nil
 | _,_,_+1,.nil=>.nil
 | _,_,n+1,.cons r t=>.cons r (Vals.take n t)
def Vals.drop:∀ {xs:List V} {us:List Value} (n:Nat),Vals xs us->Vals (xs.drop n) (us.drop n)
 | _,_,0,r=>r
 | _,_,_+1,.nil=>.nil
 | _,_,n+1,.cons _ t=>Vals.drop n t
abbrev mm:Option V->Option Value->Prop
 | some v,some u=>RelV v u
 | none,none=>True
 | _,_=>False
abbrev KV:List (κ × V)->List (κ × Value)->Prop:=Paired fun(p:κ × V) (q:κ × Value)=>p.1=q.1/\RelV p.2 q.2
abbrev kV:Key->V
 | .inl i=>.int i
 | .inr x=>.str x
inductive HO where
  | lst (xs:List V)
  | tup (xs:List V)
  | dK (kvs:List (Key × V)) | dT (kvs:List (List Key × V))
  | set (S:Int->Bool) (n:Nat)
  | ins (C dx:Addr) (fs:List (Str × V))
  | own (x:Addr)
  | xd (fs:List (Str × V))
  | met (f x:Addr)
  | rng (lo hi:Int)
  | frz (o:Obj) (u:HO)
  | tbl (ps:Array Value)
  | ext (φ:Heap->Prop)
@[reducible]noncomputable def Hp:=Addr->Option HO
abbrev upd(H:Hp)(a:Addr)(o:HO):Hp:=fun b=>if b=a then some o else H b
def aW:upd H a o a=some o:=by unfold upd;rw[if_pos rfl]
def aD(h:b≠a):upd H a o b=H b:=by unfold upd;rw[if_neg h]
def jE{H:Hp}(h:H a=some o)(h':H b=some u)(d:o≠u):a≠b:=by
 intro e;subst e;rw[h]at h';exact d (Option.some.inj h')
def aB{H:Hp}(h:H a=some o)(h':H b=none):a≠b:=by
 intro e;subst e;rw[h]at h';cases h'
section
variable(P:Program)(w:World)
abbrev aX(H:Hp)(h:Heap)(a:Addr):HO->Prop
 | .lst xs=>xs.length<=sizeLine/\∃ (its:List Value) (n:Nat),Vals xs its/\h.get? a=some { cls:=.type "list",data:=.seq its.toArray n }
 | .tup xs=>xs.length<=sizeLine/\∃ its:List Value,Vals xs its/\IsTup h a its.toArray
 | .dK kvs=>kvs.length<=sizeLine/\(a == sysModules)=false/\∃ vs,KV kvs vs/\h.DictOf (bM P w) a vs
 | .dT kvs=>kvs.length<=sizeLine/\(a == sysModules)=false/\∃ xs:List (List Key × Addr × Value),
   Paired (fun(p:List Key × V) (q:List Key × Addr × Value)=>p.1=q.1/\H q.2.1=some (.tup (p.1.map kV))/\RelV p.2 q.2.2) kvs xs /\
   ∃ o es ep,h.get? a=some o/\o.ExactDict/\o.data=.dict es ep/\es.toList=xs.map (entryOfKey (tupleKind (bM P w)))/\(xs.map (·.1)).Nodup
 | .set S n=>h.SetOf (intKind P w) a S n
 | .ins C dx fs=>H dx=some (.own a)/\fs.length<=1000/\dx≠a/\h.get? a=some (PySem.W.instObj C dx) /\
   ∃ mA,h.Ns1 dx mA/\(∀ f,mm (fs.lookup f) (mA f))/\PySem.Within mA (fs.map (·.1))
 | .own _=>∃ o,h.get? a=some o
 | .xd fs=>∃ mA,h.Ns1 a mA/\∀ f,mm (fs.lookup f) (mA f)
 | .rng lo hi=>∃ t u v,h.get? a=some { cls:=.type "range",data:=.fields #[.int lo t,.int hi u,.int 1 v] }
 | .frz o u=>h.get? a=some o/\aX H h a u
 | .tbl ps=>h.get? a=some { cls:=.none,data:=.fields ps }
 | .met f x=>h.get? a=some (PySem.W.methodObj (.ref f) (.ref x))
 | .ext φ=>φ h/\(∃ o,h.get? a=some o)/\∀ h1 h2:Heap,φ h1->(∀ o,h1.get? a=some o->h2.get? a=some o)->φ h2
abbrev HOk(H:Hp)(h:Heap):Prop:=∀ a o,H a=some o->aX P w H h a o
end
section
variable{P:Program}{w:World}{H H':Hp}{h h':Heap}{a:Addr}{o:HO}
def aX.lt(x:aX P w H h a o):a<h.objs.size:=by
 cases o with
 | lst xs=>obtain⟨_,_,_,_,e⟩:=x;exact Heap.lt_size e
 | tup xs=>obtain⟨_,_,_,p⟩:=x;exact p.lt
 | dK kvs=>obtain⟨_,_,_,_,o,_,_,e,_⟩:=x;exact Heap.lt_size e
 | dT kvs=>obtain⟨_,_,_,_,o,_,_,e,_⟩:=x;exact Heap.lt_size e
 | set S n=>obtain⟨o,_,_,_,e,_⟩:=x;exact Heap.lt_size e
 | ins C dx fs=>obtain⟨_,_,_,e,_⟩:=x;exact Heap.lt_size e
 | own y=>obtain⟨_,e⟩:=x;exact Heap.lt_size e
 | xd fs=>obtain⟨_,⟨_,_,_,e,_⟩,_⟩:=x;exact Heap.lt_size e
 | rng lo hi=>obtain⟨_,_,_,e⟩:=x;exact Heap.lt_size e
 | frz ob u=>obtain⟨e,_⟩:=x;exact Heap.lt_size e
 | tbl ps=>exact Heap.lt_size (show h.get? a=some _ from x)
 | met f y=>exact Heap.lt_size (show h.get? a=some _ from x)
 | ext φ=>obtain⟨_,⟨_,e⟩,_⟩:=x;exact Heap.lt_size e
def Paired.yB:∀ {l₁:List α} {l₂:List β},Paired F l₁ l₂->(∀ a b,F a b->G a b)->Paired G l₁ l₂
 | _,_,.nil,_=>.nil
 | _,_,.cons r t,f=>.cons (f _ _ r) (Paired.yB t f)
def aX.m6(x:aX P w H h a o)(k:∀ b u,(b=a\/H b=some (.own a))->h.get? b=some u->h'.get? b=some u)
 (ho:∀ b,H b=some (.own a)->H' b=some (.own a))(ht:∀ b xs,H b=some (.tup xs)->H' b=some (.tup xs)):aX P w H' h' a o:=by
 induction o with
 | lst xs=>obtain⟨z,its,n,r,e⟩:=x;exact⟨z,its,n,r,k _ _ (.inl rfl) e⟩
 | tup xs=>obtain⟨z,its,r,ob,e,c⟩:=x;exact⟨z,its,r,ob,k _ _ (.inl rfl) e,c⟩
 | dK kvs=>obtain⟨z,y,vs,r,ob,es,ep,e,c⟩:=x;exact⟨z,y,vs,r,ob,es,ep,k _ _ (.inl rfl) e,c⟩
 |dT kvs=>
  obtain⟨z,y,xs,r,ob,es,ep,e,c⟩:=x;exact⟨z,y,xs,Paired.yB r fun p q z=>⟨z.1,ht _ _ z.2.1,z.2.2⟩,ob,es,ep,k _ _ (.inl rfl) e,c⟩
 | set S n=>obtain⟨ob,es,ep,t,e,c⟩:=x;exact⟨ob,es,ep,t,k _ _ (.inl rfl) e,c⟩
 |ins C dx fs=>
  obtain⟨d,z,ne,e,mA,⟨od,es,ep,e2,c⟩,r⟩:=x;exact⟨ho _ d,z,ne,k _ _ (.inl rfl) e,mA,⟨od,es,ep,k _ _ (.inr d) e2,c⟩,r⟩
 | own y=>obtain⟨ob,e⟩:=x;exact⟨ob,k _ _ (.inl rfl) e⟩
 | xd fs=>obtain⟨mA,⟨od,es,ep,e,c⟩,r⟩:=x;exact⟨mA,⟨od,es,ep,k _ _ (.inl rfl) e,c⟩,r⟩
 | rng lo hi=>obtain⟨t,u,v,e⟩:=x;exact⟨t,u,v,k _ _ (.inl rfl) e⟩
 | frz ob u ih=>obtain⟨e,q⟩:=x;exact⟨k _ _ (.inl rfl) e,ih q⟩
 |tbl ps=>
  have e:h.get? a=some { cls:=.none,data:=.fields ps }:=x;show h'.get? a=some { cls:=.none,data:=.fields ps };exact k a _ (.inl rfl) e
 |met f y=>
  have e:h.get? a=some (PySem.W.methodObj (.ref f) (.ref y)):=x;show h'.get? a=some (PySem.W.methodObj (.ref f) (.ref y));exact k a _ (.inl rfl) e
 | ext φ=>obtain⟨p,⟨o,e⟩,st⟩:=x;exact⟨st _ _ p fun o q=>k _ _ (.inl rfl) q,⟨o,k _ _ (.inl rfl) e⟩,st⟩
def HOk.lt(x:HOk P w H h)(e:H a=some o):a<h.objs.size:=(x a o e).lt
def HOk.fresh(x:HOk P w H h)(e:h.objs.size<=a):H a=none:=by
 cases q:H a with
 | none=>rfl
 | some u=>exact absurd (Nat.lt_of_lt_of_le (x.lt q) e) (Nat.lt_irrefl _)
def HOk.kept(x:HOk P w H h)(k:∀ b u,h.get? b=some u->h'.get? b=some u):HOk P w H h':=fun a o e =>
 (x a o e).m6 (fun b u _ q=>k b u q) (fun _ q=>q) fun _ _ q=>q
def HOk.laid(x:HOk P w H h)(k:∀ b u,h.get? b=some u->h'.get? b=some u)(hp:h.objs.size<=a)(new:aX P w (upd H a o) h' a o):HOk P w (upd H a o) h':=fun b u e=>by
 have hn:=x.fresh hp;by_cases hb:b=a
 ·subst hb;rw[aW]at e;cases e;exact new
 ·rw[aD hb]at e
  exact(x b u e).m6 (fun c v _ q=>k c v q) (fun c q=>by rw[aD (aB q hn)];exact q) fun c xs q=>by rw[aD (aB q hn)];exact q
end
abbrev Rd(H:Hp)(a:Addr)(u:HO):Prop:=H a=some u\/∃ o,H a=some (.frz o u)
def Rd.ok(r:Rd H a u)(x:HOk P w H h):aX P w H h a u:=by
 rcases r with r | ⟨o,r⟩
 ·exact x a u r
 ·obtain⟨_,q⟩:=x a _ r;exact q
abbrev Mut:Option HO->Prop
 | some (.lst _)=>True
 | some (.dK _)=>True
 | some (.dT _)=>True
 | some (.set _ _)=>True
 | some (.ins _ _ _)=>True
 | some (.ext _)=>True
 | _=>False
section
variable{P:Program}{w:World}{H:Hp}{h h':Heap}{x e:Addr}{o':HO}
def HOk.write(ok:HOk P w H h)(mu:Mut (H x))(he:e=x\/H e=some (.own x))(k:∀ b u,b≠e->h.get? b=some u->h'.get? b=some u)(heo:∃ u,h'.get? e=some u)
 (new:aX P w (upd H x o') h' x o'):HOk P w (upd H x o') h':=fun b u q=>by
 have nown:∀ c y,H c=some (.own y)->c≠x:=fun c y r z=>by subst z;rw[r]at mu;exact mu
 have ntup:∀ c xs,H c=some (.tup xs)->c≠x:=fun c xs r z=>by subst z;rw[r]at mu;exact mu
 by_cases hb:b=x
 ·subst hb;rw[aW]at q;cases q;exact new
 ·rw[aD hb]at q;by_cases hbe:b=e
  ·have q':H b=some (.own x):=by
    rcases he with z | z
    ·exact absurd (hbe.trans z) hb
    ·rw[hbe];exact z
   rw[q]at q';cases q';obtain⟨v,hv⟩:=heo;exact⟨v,by rw[hbe];exact hv⟩
  ·refine(ok b u q).m6 (fun c v hc r=>k c v ?_ r) (fun c r=>by rw[aD (nown c b r)];exact r) fun c xs r=>by rw[aD (ntup c xs r)];exact r
   rcases hc with rfl | hc
   ·exact hbe
   ·rintro rfl;rcases he with z | z
    ·exact nown c b hc z
    ·rw[hc]at z;cases z;exact hb rfl
end
structure Un(fs ex:List Addr)(H H':Hp)(h h':Heap):Prop where
 keep:∀ b o,h.get? b=some o->H b=none->b∉fs->b∉ex->h'.get? b=some o
 slot:∀ b o,h.get? b=some o->H b=none->b∈fs->b∉ex->∃ sl,h'.get? b=some { o with slots:=sl }
 free:∀ b o,h.get? b=some o->H b=none->b∉ex->H' b=none
 there:∀ b o,h.get? b=some o->b∉ex->∃ o',h'.get? b=some o'
 iW:∀ b xs,H b=some (.tup xs)->H' b=some (.tup xs)
 fM:∀ b o u,H b=some (.frz o u)->H' b=some (.frz o u)
 iV:∀ b ps,H b=some (.tbl ps)->∃ more,H' b=some (.tbl (ps++more))
section
variable{fs fs' ex ex':List Addr}{H H1 H2:Hp}{h h1 h2 h':Heap}{a x e:Addr}{o:HO}
def Un.any(u:Un fs ex H H1 h h1)(q:h.get? b=some ob)(n:H b=none)(hx:b∉ex):∃ sl,h1.get? b=some { ob with slots:=sl }:=by
 by_cases hb:b∈fs
 ·exact u.slot b ob q n hb hx
 ·exact⟨ob.slots,u.keep b ob q n hb hx⟩
def Un.kept(k:∀ b u,h.get? b=some u->h'.get? b=some u):Un fs ex H H h h' :=
 ⟨fun b ob q _ _ _=>k b ob q,fun b ob q _ _ _=>⟨ob.slots,k b ob q⟩,fun _ _ _ n _=>n,fun b ob q _=>⟨ob,k b ob q⟩,fun _ _ q=>q,fun _ _ _ q=>q,fun _ ps q=>⟨#[],by rw[q];simp⟩⟩
def Un.refl:Un fs ex H H h h:=Un.kept fun _ _ q=>q
def Un.laid(k:∀ b u,h.get? b=some u->h'.get? b=some u)(hp:h.objs.size<=a)(hn:H a=none):Un fs ex H (upd H a o) h h' where
 keep:=fun b u q _ _ _=>k b u q
 slot:=fun b u q _ _ _=>⟨u.slots,k b u q⟩
 free:=fun b u q n _=>by rw[aD (Nat.ne_of_lt (Nat.lt_of_lt_of_le (Heap.lt_size q) hp))];exact n
 there:=fun b u q _=>⟨u,k b u q⟩
 iW:=fun b xs q=>by rw[aD (aB q hn)];exact q
 fM:=fun b u xs q=>by rw[aD (aB q hn)];exact q
 iV:=fun b ps q=>⟨#[],by rw[aD (aB q hn),q];simp⟩
def Un.write(mu:Mut (H x))(he:e=x\/H e=some (.own x))(k:∀ b u,b≠e->h.get? b=some u->h'.get? b=some u)(heo:∃ u,h'.get? e=some u):Un fs ex H (upd H x o) h h':=by
 have hx:∀ b,H b=none->b≠x:=fun b n z=>by subst z;rw[n]at mu;exact mu
 have hb:∀ b,H b=none->b≠e:=fun b n z=>by
  subst z;rcases he with r | r
  ·exact hx b n r
  ·rw[n]at r;cases r
 have hm:∀ b u,H b=some u->¬ Mut (some u)->b≠x:=fun b u q nm z=>by subst z;rw[q]at mu;exact nm mu
 refine⟨fun b u q n _ _=>k b u (hb b n) q,fun b u q n _ _=>⟨u.slots,k b u (hb b n) q⟩,fun b u q n _=>by rw[aD (hx b n)];exact n,fun b u q _=>?_,
  fun b xs q=>by rw[aD (hm b _ q fun z=>z)];exact q,fun b u xs q=>by rw[aD (hm b _ q fun z=>z)];exact q,fun b ps q=>⟨#[],by rw[aD (hm b _ q fun z=>z),q];simp⟩⟩
 by_cases hbe:b=e
 ·subst hbe;exact heo
 ·exact⟨u,k b u hbe q⟩
end
abbrev trk(h:Heap)(H:Hp):List Addr:=(List.range h.objs.size).filter fun a=>(H a).isSome
abbrev i7(h:Heap)(H:Hp):Heap:=PySem.W.hideAll h (trk h H)
def vO(h:Heap)(H:Hp):(i7 h H).objs.size=h.objs.size:=PySem.W.hideAll_size _ _
def yc(e:h.get? b=some o)(n:H b=none):(i7 h H).get? b=some o :=
 PySem.W.hideAll_get _ e fun hm=>by
  have q:(H b).isSome=true:=(List.mem_filter.mp hm).2;rw[n]at q;simp at q
def AN(e:(i7 h H).get? b=some o):h.get? b=some o/\H b=none:=by
 have e':h.get? b=some o:=PySem.W.of_hideAll (trk h H) e;refine⟨e',?_⟩
 cases q:H b with
 | none=>rfl
 |some x=>
  have hm:b∈trk h H:=List.mem_filter.mpr ⟨List.mem_range.mpr (Heap.lt_size e'),by simp[q]⟩;have z:(i7 h H).get? b=none:=PySem.W.hideAll_none (trk h H) hm;rw[z]at e;cases e
structure Mod(K:PySem.W.Frag)(mg:Str->Option Value)(base:Heap):Prop where
 kin:K.In base
 glob:base.Ns mainGlobals mg
 blt:∃ mb,base.Ns builtinsNs mb/\∀ x:Str,x ≠ "__name__" -> mb x=bootBuiltins x
 nolimit:base.NoLimit
structure Cx where
 prog:Program
 w:World
 K:PySem.W.Frag
 mg:Str->Option Value
 base:Heap
 A:Around
 N:List Str
 s₀:Shared
 H₀:Hp
 env:Env
 outer:List Env
 stack:List Env
 ex:List Addr
 fn:Str->Bool
 calm:Bool
 pn:List (Addr × Obj)
 xe:Value->Shared->Prop
abbrev frs(l:List Env):List Addr:=l.filterMap (·.frame)
@[reducible]noncomputable def Cx.fs(X:Cx):List Addr:=frs X.outer
abbrev Vis(sc:Scope)(x:Str):Prop:=sc.names.lookup x=some .local\/sc.names.lookup x=some .cell\/sc.names.lookup x=some .free
abbrev Loc(sc:Scope)(x:Str):Prop:=sc.names.lookup x=some .local\/sc.names.lookup x=some .cell
abbrev Look(env:Env)(h:Heap)(m:Str->Option Value)(x:Str)(u:Value):Prop :=
 (env.kindOf x=some .local/\m x=some u)\/((env.kindOf x=some .cell\/env.kindOf x=some .free)/\∃ c,env.cells.lookup x=some c/\h.IsCell c (some u))
abbrev HX(X:Cx):Prop:=X.A.handled=none\/∃ h o u vs,X.A.handled=some (.ref h)/\X.H₀ h=some (.frz o u)/\o.data=.fields vs/\vs[2]?=some .none
structure Cx.Ok(X:Cx):Prop where
 mod:Mod X.K X.mg X.base
 kind:X.env.scope.kind=.function
 glob:X.env.globals=mainGlobals
 blt:X.env.builtins=builtinsNs
 above:X.s₀.heap.objs.size<=X.env.locals
 inj:∀ x y c,X.env.cells.lookup x=some c->X.env.cells.lookup y=some c->x=y
 has:∀ x,(X.env.kindOf x=some .cell\/X.env.kindOf x=some .free)->∃ c,X.env.cells.lookup x=some c
 cab:∀ x c,X.fn x=true->X.env.cells.lookup x=some c->X.s₀.heap.objs.size<=c
 hd:(X.calm=true->X.A.handled=none)/\HX X
 frames:X.A.frames=some X.stack
 stk:X.stack=X.outer\/(X.stack=X.env::X.outer/\X.env.frame=some X.env.locals)
 exf:∀ b∈X.ex,b≠X.env.locals/\∀ x c,X.env.cells.lookup x=some c->c≠b
 bs:∀ b o,X.base.get? b=some o->X.s₀.heap.get? b=some o/\X.H₀ b=none
 bsz:X.base.objs.size<=X.s₀.heap.objs.size
 q0:∀ b o,X.base.get? b=some o->b∉X.ex
 qv:∀ b∈X.ex,b∉X.fs
 gc:X.s₀.heap.FunFrames X.base X.outer
 frf:∀ b∈X.fs,X.H₀ b=none
structure Inv(X:Cx)(pins:List (Addr × Obj))(σ:List (Option V))(H:Hp)(s:Shared):Prop where
 ok:X.Ok
 os:s.os=X.s₀.os
 bare:AllBare s.gens
 base:Un X.fs X.ex X.H₀ H X.s₀.heap s.heap
 loc:∃ m,s.heap.Ns X.env.locals m/\∀ (i:Nat) (x:Str) (v:V),X.N[i]?=some x->σ[i]?=some (some v)->Vis X.env.scope x->∃ u,RelV v u/\Look X.env s.heap m x u
 cell:∀ x c,X.env.cells.lookup x=some c->∃ v,s.heap.IsCell c v
 free:H X.env.locals=none
 eh:∀ x c,X.env.cells.lookup x=some c->H c=none
 pin:∀ p∈X.pn++pins,s.heap.get? p.1=some p.2/\H p.1=none/\p.1≠X.env.locals/\p.1∉X.fs/\∀ v,p.2.data≠.cell v
 hok:HOk X.prog X.w H s.heap
 len:σ.length=X.N.length
section
variable{X:Cx}{pins:List (Addr × Obj)}{σ:List (Option V)}{H H':Hp}{s:Shared}{h':Heap}
def Cx.Ok.FD(ok:X.Ok)(e:X.base.get? b=some o):b∉X.fs:=fun hb=>by
 have:=(ok.gc.mem hb).1;rw[e]at this;cases this
def Inv.bs(I:Inv X pins σ H s):∀ b o,X.base.get? b=some o->s.heap.get? b=some o/\H b=none:=fun b o e =>
 ⟨I.base.keep b o (I.ok.bs b o e).1 (I.ok.bs b o e).2 (I.ok.FD e) (I.ok.q0 b o e),I.base.free b o (I.ok.bs b o e).1 (I.ok.bs b o e).2 (I.ok.q0 b o e)⟩
def Inv.bk(I:Inv X pins σ H s):∀ b o,X.base.get? b=some o->s.heap.get? b=some o:=fun b o e=>(I.bs b o e).1
def Inv.mod(I:Inv X pins σ H s):Mod X.K X.mg X.base:=I.ok.mod
def Inv.kIn(I:Inv X pins σ H s):X.K.In s.heap:=I.ok.mod.kin.keeps I.bk
def Inv.lt(I:Inv X pins σ H s):X.env.locals<s.heap.objs.size:=let ⟨_,hn,_⟩:=I.loc;hn.lt
def Inv.sz(I:Inv X pins σ H s):X.s₀.heap.objs.size<=s.heap.objs.size:=Nat.le_trans I.ok.above (Nat.le_of_lt I.lt)
def Inv.Gg(I:Inv X pins σ H s)(h:s.heap.objs.size<=a):a∉X.fs:=fun hb=>by
 obtain⟨_,o,ho,_⟩:=I.ok.gc.mem hb;exact absurd (Nat.lt_of_lt_of_le (Heap.lt_size ho) (Nat.le_trans I.sz h)) (Nat.lt_irrefl _)
def Inv.cne(I:Inv X pins σ H s):∀ x c,X.env.cells.lookup x=some c->c≠X.env.locals:=fun x c e z=>by
 obtain⟨v,o,ho,hd⟩:=I.cell x c e;obtain⟨m,⟨o',es,ep,ho',hd',_⟩,_⟩:=I.loc;rw[z,ho']at ho;cases ho;rw[hd']at hd;cases hd
def Inv.gc(I:Inv X pins σ H s):s.heap.FunFrames X.base X.outer:=by
 have all:∀ (l:List Env),(∀ b∈frs l,b∈X.fs)->X.s₀.heap.FunFrames X.base l->s.heap.FunFrames X.base l:=by
  intro l
  induction l with
  | nil=>intro _ _;trivial
  |cons env r ih=>
   intro hs hl;obtain⟨hk,⟨L,o,hf,hn,ho,hd⟩,hr⟩:=hl;have hL:L∈X.fs:=hs L (by unfold frs;rw[List.filterMap_cons,hf];exact List.mem_cons_self);obtain⟨sl,e⟩:=I.base.slot L o ho (I.ok.frf L hL) hL fun z=>I.ok.qv L z hL;exact⟨hk,⟨L,_,hf,hn,e,hd⟩,ih (fun b hb=>hs b (by unfold frs;rw[List.filterMap_cons,hf];exact List.mem_cons_of_mem _ hb)) hr⟩
 exact all X.outer (fun _ hb=>hb) I.ok.gc
def Inv.stack(I:Inv X pins σ H s):s.heap.FunFrames X.base X.stack:=by
 rcases I.ok.stk with e | ⟨e,hf⟩
 ·rw[e];exact I.gc
 ·rw[e];obtain⟨m,hn,_⟩:=I.loc;refine .cons (by rw[I.ok.kind];decide) hf hn ?_ I.gc;exact Heap.get?_none_of_le (Nat.le_trans I.ok.bsz I.ok.above)
def Inv.oJ(I:Inv X pins σ H s):∀ b∈frs X.stack,b∈X.env.locals::X.fs:=fun b hb=>by
 rcases I.ok.stk with e | ⟨e,hf⟩
 ·rw[e]at hb;exact List.mem_cons_of_mem _ hb
 ·rw[e]at hb;unfold frs at hb;rw[List.filterMap_cons,hf]at hb;exact hb
def Inv.qR(I:Inv X pins σ H s):∀ b∈frs X.stack,H b=none:=fun b hb=>by
 rcases List.mem_cons.mp (I.oJ b hb)with e | hb
 ·rw[e];exact I.free
 ·obtain⟨_,o,ho,_⟩:=I.ok.gc.mem hb;exact I.base.free b o ho (I.ok.frf b hb) fun z=>I.ok.qv b z hb
def Inv.step{g':Array GenState}{t':Nat}{d':Drawn}{ch:List Addr}(I:Inv X pins σ H s)
 (hch:∀ b∈ch,(b∈X.ex\/X.s₀.heap.objs.size<=b)/\b≠X.env.locals/\(∀ x c,X.env.cells.lookup x=some c->c≠b)/\∀ p∈X.pn++pins,p.1≠b)
 (keep:∀ b o,b≠X.env.locals->b∉X.fs->b∉ch->s.heap.get? b=some o->H b=none->h'.get? b=some o)
 (slot:∀ b o,b≠X.env.locals->b∈X.fs->b∉ch->s.heap.get? b=some o->H b=none->∃ sl,h'.get? b=some { o with slots:=sl })(free:∀ b o,b∉ch->s.heap.get? b=some o->H b=none->H' b=none)
 (there:∀ b o,b∉ch->s.heap.get? b=some o->∃ o',h'.get? b=some o')
 (iW:∀ b xs,H b=some (.tup xs)->H' b=some (.tup xs))(fM:∀ b o u,H b=some (.frz o u)->H' b=some (.frz o u))(iV:∀ b ps,H b=some (.tbl ps)->∃ more,H' b=some (.tbl (ps++more)))
 (ns:∀ m,s.heap.Ns X.env.locals m->h'.Ns X.env.locals m)(hok:HOk X.prog X.w H' h')(hg:AllBare g') :
  Inv X pins σ H' { s with heap:=h',gens:=g',drawn:=d',toks:=t' }:=by
 have neL:∀ b o,X.s₀.heap.get? b=some o->b≠X.env.locals:=fun b o e=>Nat.ne_of_lt (Nat.lt_of_lt_of_le (Heap.lt_size e) I.ok.above)
 have neC:∀ b o,X.s₀.heap.get? b=some o->b∉X.ex->b∉ch:=fun b o e hx hb=>by
  rcases(hch b hb).1 with z | z
  ·exact hx z
  ·exact absurd (Nat.lt_of_lt_of_le (Heap.lt_size e) z) (Nat.lt_irrefl _)
 have cellK:∀ x c,X.env.cells.lookup x=some c->∀ v,s.heap.IsCell c v->h'.IsCell c v:=fun x c e v ⟨o,ho,hd⟩=>by
  have nch:c∉ch:=fun z=>(hch c z).2.2.1 x c e rfl;by_cases hc:c∈X.fs
  ·obtain⟨sl,q⟩:=slot c o (I.cne x c e) hc nch ho (I.eh x c e);exact⟨_,q,hd⟩
  ·exact⟨o,keep c o (I.cne x c e) hc nch ho (I.eh x c e),hd⟩
 refine⟨I.ok,I.os,hg,⟨fun b o e n hb hx=>?_,fun b o e n hb hx=>?_,fun b o e n hx=>?_,fun b o e hx=>?_,fun b xs e=>iW b xs (I.base.iW b xs e),fun b o xs e=>fM b o xs (I.base.fM b o xs e),fun b ps e=>?_⟩,?_,fun x c e=>?_,?_,fun x c e=>?_,fun p hp=>?_,hok,I.len⟩
 ·exact keep b o (neL b o e) hb (neC b o e hx) (I.base.keep b o e n hb hx) (I.base.free b o e n hx)
 ·obtain⟨sl,e1⟩:=I.base.slot b o e n hb hx;obtain⟨sl',e2⟩:=slot b _ (neL b o e) hb (neC b o e hx) e1 (I.base.free b o e n hx);exact⟨sl',e2⟩
 ·obtain⟨o',e1⟩:=I.base.there b o e hx;exact free b o' (neC b o e hx) e1 (I.base.free b o e n hx)
 ·obtain⟨o',e1⟩:=I.base.there b o e hx;exact there b o' (neC b o e hx) e1
 ·obtain⟨m1,e1⟩:=I.base.iV b ps e;obtain⟨m2,e2⟩:=iV b _ e1;exact⟨m1++m2,by rw[e2,Array.append_assoc]⟩
 ·obtain⟨m,hn,hl⟩:=I.loc;refine⟨m,ns m hn,fun i x v e1 e2 e3=>?_⟩;obtain⟨u,r,l⟩:=hl i x v e1 e2 e3;refine⟨u,r,?_⟩
  rcases l with l | ⟨k,c,e,z⟩
  ·exact .inl l
  ·exact .inr ⟨k,c,e,cellK x c e _ z⟩
 ·obtain⟨v,z⟩:=I.cell x c e;exact⟨v,cellK x c e v z⟩
 ·obtain⟨m,⟨o,_,_,ho,_⟩,_⟩:=I.loc;exact free _ o (fun z=>(hch _ z).2.1 rfl) ho I.free
 ·obtain⟨v,o,ho,hd⟩:=I.cell x c e;exact free c o (fun z=>(hch c z).2.2.1 x c e rfl) ho (I.eh x c e)
 ·obtain⟨e,n,ne,nf,d⟩:=I.pin p hp;have nch:p.1∉ch:=fun z=>(hch p.1 z).2.2.2 p hp rfl;exact⟨keep p.1 p.2 ne nf nch e n,free p.1 p.2 nch e n,ne,nf,d⟩
def Inv.un(I:Inv X pins σ H s)(u:Un X.fs [] H H' s.heap h')(hok:HOk X.prog X.w H' h'):Inv X pins σ H' { s with heap:=h',toks:=t' }:=by
 obtain⟨m,⟨o,es,ep,ho,r⟩,_⟩:=id I.loc;obtain⟨sl,hL⟩:=u.any ho I.free (by simp)
 exact I.step (g':=s.gens) (d':=s.drawn) (ch:=[]) (fun _ z=>nomatch z) (fun b o _ hb _ e n=>u.keep b o e n hb (by simp)) (fun b o _ hb _ e n=>u.slot b o e n hb (by simp)) (fun b o _ e n=>u.free b o e n (by simp)) (fun b o _ e=>u.there b o e (by simp)) u.iW u.fM u.iV (fun m' hm=>by
  obtain⟨o',es',ep',ho',r'⟩:=hm;rw[ho]at ho';cases ho'
  exact⟨_,es',ep',hL,r'⟩) hok I.bare
def Inv.call(I:Inv X pins σ H s)(u:Un (frs X.stack) ch H H' s.heap h')(hok:HOk X.prog X.w H' h')(hg:AllBare g')
 (hch:∀ b∈ch,(b∈X.ex\/X.s₀.heap.objs.size<=b)/\b≠X.env.locals/\(∀ x c,X.env.cells.lookup x=some c->c≠b)/\∀ p∈X.pn++pins,p.1≠b) :
  Inv X pins σ H' { s with heap:=h',gens:=g',drawn:=d',toks:=t' }:=by
 obtain⟨m,⟨o,es,ep,ho,r⟩,_⟩:=id I.loc;obtain⟨sl,hL⟩:=u.any ho I.free fun z=>(hch _ z).2.1 rfl
 exact I.step (ch:=ch) hch (fun b o hL hb hc e n=>u.keep b o e n (fun z=>(List.mem_cons.mp (I.oJ b z)).elim hL hb) hc) (fun b o _ _ hc e n=>u.any e n hc) (fun b o hc e n=>u.free b o e n hc) (fun b o hc e=>u.there b o e hc) u.iW u.fM u.iV (fun m' hm=>by
  obtain⟨o',es',ep',ho',r'⟩:=hm;rw[ho]at ho';cases ho'
  exact⟨_,es',ep',hL,r'⟩) hok hg
def Inv.turned(I:Inv X pins σ H s)(k:∀ b o,b≠it->s.heap.get? b=some o->h'.get? b=some o)(hn:H it=none)(hL:it≠X.env.locals)
 (h1:it∈X.ex\/X.s₀.heap.objs.size<=it)(h2:∀ x c,X.env.cells.lookup x=some c->c≠it)(h3:∀ p∈X.pn++pins,p.1≠it):Inv X pins σ H { s with heap:=h',toks:=t' }:=by
 have nit:∀ b u,H b=some u->b≠it:=fun b u e z=>by rw[z,hn]at e;cases e
 refine I.step (g':=s.gens) (d':=s.drawn) (ch:=[it]) (fun b hb=>?_) (fun b o _ _ hc e _=>k b o (fun z=>hc (by simp[z])) e) (fun b o _ _ hc e _=>⟨o.slots,k b o (fun z=>hc (by simp[z])) e⟩) (fun _ _ _ _ n=>n)
  (fun b o hc e=>⟨o,k b o (fun z=>hc (by simp[z])) e⟩) (fun _ _ e=>e) (fun _ _ _ e=>e) (fun b ps e=>⟨#[],by rw[e];simp⟩) (fun m hm=>?_) (fun b u e=>?_) I.bare
 ·have e:b=it:=by simpa using hb
  subst e;exact⟨h1,hL,h2,h3⟩
 ·obtain⟨o,es,ep,ho,r⟩:=hm;exact⟨o,es,ep,k _ o (Ne.symm hL) ho,r⟩
 ·refine(I.hok b u e).m6 (fun c v hc q=>k c v ?_ q) (fun _ q=>q) fun _ _ q=>q;rcases hc with z | z
  ·rw[z];exact nit b u e
  ·exact nit c _ z
def Inv.tok(I:Inv X pins σ H s)(t:Nat):Inv X pins σ H { s with toks:=t }:=I.un (h':=s.heap) (t':=t) Un.refl I.hok
def Inv.kept(I:Inv X pins σ H s)(k:∀ b u,s.heap.get? b=some u->h'.get? b=some u):Inv X pins σ H { s with heap:=h',toks:=t' }:=I.un (Un.kept k) (I.hok.kept k)
def Inv.laid(I:Inv X pins σ H s)(k:∀ b u,s.heap.get? b=some u->h'.get? b=some u)(hp:s.heap.objs.size<=a)(new:aX X.prog X.w (upd H a o) h' a o) :
  Inv X pins σ (upd H a o) { s with heap:=h',toks:=t' }:=I.un (Un.laid k hp (I.hok.fresh hp)) (I.hok.laid k hp new)
def Inv.write(I:Inv X pins σ H s)(mu:Mut (H x))(he:e=x\/H e=some (.own x))(k:∀ b u,b≠e->s.heap.get? b=some u->h'.get? b=some u)(heo:∃ u,h'.get? e=some u)
 (new:aX X.prog X.w (upd H x o) h' x o):Inv X pins σ (upd H x o) { s with heap:=h',toks:=t' }:=I.un (Un.write mu he k heo) (I.hok.write mu he k heo new)
def Inv.weak(I:Inv X pins σ H s)(hl:σ'.length=σ.length)(w:∀ (i:Nat) v,σ'[i]?=some (some v)->σ[i]?=some (some v)):Inv X pins σ' H s :=
 ⟨I.ok,I.os,I.bare,I.base,let ⟨m,hn,hl'⟩:=I.loc;⟨m,hn,fun i x v e1 e2 e3=>hl' i x v e1 (w i v e2) e3⟩,I.cell,I.free,I.eh,I.pin,I.hok,hl.trans I.len⟩
def Inv.rk(I:Inv X pins σ H s)(h:∀ p∈pins',s.heap.get? p.1=some p.2/\H p.1=none/\p.1≠X.env.locals/\p.1∉X.fs/\∀ v,p.2.data≠.cell v):Inv X pins' σ H s :=
 ⟨I.ok,I.os,I.bare,I.base,I.loc,I.cell,I.free,I.eh,fun p hp=>(List.mem_append.mp hp).elim (fun z=>I.pin p (List.mem_append_left _ z)) (h p),I.hok,I.len⟩
def oE{N:List Str}(hN:N.Nodup){i j:Nat}(a:N[i]?=some x)(b:N[j]?=some x):i=j:=by
 obtain⟨h1,e1⟩:=List.getElem?_eq_some_iff.mp a;obtain⟨h2,e2⟩:=List.getElem?_eq_some_iff.mp b;exact(List.getElem_inj hN).mp (e1.trans e2.symm)
def nr{M:Model}{A:Around}(I:Inv X pins σ H s)(hN:X.N.Nodup)(hi:X.N[i]?=some x)(hx:Loc X.env.scope x)(r:RelV v u)
 (h:∀ s',Inv X pins (σ.set i (some v)) H s'->(∃ a,Heap.SameBut a s.heap s'.heap/\(a=X.env.locals\/X.env.cells.lookup x=some a))->Q () s')(hf:X.fn x=true\/X.env.scope.names.lookup x=some .local):wpAny M A (storeName X.env x u) Q E s:=by
 obtain⟨m,hn,hl⟩:=id I.loc
 have hcls:(X.env.scope.kind == .class || (X.env.scope.kind == .module&&X.env.locals != X.env.globals))=false:=by rw[I.ok.kind];rfl
 have hiσ:i<σ.length:=by rw[I.len];exact(List.getElem?_eq_some_iff.mp hi).1
 have cne:=I.cne
 have tracked:∀ {a:Addr} {h':Heap},(∃ o,s.heap.get? a=some o/\H a=none)->Heap.SameBut a s.heap h'->HOk X.prog X.w H h':=fun {a h'} ha hs b ob e=>by
  obtain⟨_,_,hfree⟩:=ha;refine(I.hok b ob e).m6 (fun c w' hc q=>(hs.2 c ?_).trans q) (fun _ q=>q) fun _ _ q=>q;rintro rfl;rcases hc with rfl | hc
  ·rw[hfree]at e;cases e
  ·rw[hfree]at hc;cases hc
 rcases hx with hk | hk
 ·refine wpAny_storeName_local hk hn (fun h' hn' hs=>?_) hcls;obtain⟨oL,_,_,hoL,_⟩:=id hn;refine h _ ⟨I.ok,I.os,I.bare,⟨fun b o e n hb hx=>?_,fun b o e n hb hx=>?_,I.base.free,fun b o e hx=>?_,I.base.iW,I.base.fM,I.base.iV⟩,⟨_,hn',fun j y v' e1 e2 e3=>?_⟩,fun y c e=>?_,I.free,I.eh,fun p hp=>?_,tracked ⟨oL,hoL,I.free⟩ hs,by simpa using I.len⟩ ⟨_,hs,.inl rfl⟩
  ·exact(hs.2 b (Nat.ne_of_lt (Nat.lt_of_lt_of_le (Heap.lt_size e) I.ok.above))).trans (I.base.keep b o e n hb hx)
  ·obtain⟨sl,e1⟩:=I.base.slot b o e n hb hx;exact⟨sl,(hs.2 b (Nat.ne_of_lt (Nat.lt_of_lt_of_le (Heap.lt_size e) I.ok.above))).trans e1⟩
  ·obtain⟨o',e1⟩:=I.base.there b o e hx;exact⟨o',(hs.2 b (Nat.ne_of_lt (Nat.lt_of_lt_of_le (Heap.lt_size e) I.ok.above))).trans e1⟩
  ·by_cases hj:j=i
   ·subst hj;rw[hi]at e1;cases e1;rw[List.getElem?_set_self hiσ]at e2;cases e2;exact⟨u,r,.inl ⟨hk,by simp⟩⟩
   ·rw[List.getElem?_set_ne (Ne.symm hj)]at e2;obtain⟨u',r',q⟩:=hl j y v' e1 e2 e3;refine⟨u',r',?_⟩
    rcases q with⟨k,e⟩ | ⟨k,c,e,z⟩
    ·refine .inl ⟨k,?_⟩;have:y≠x:=fun e=>hj (oE hN e1 (e▸hi));simp[this,e]
    ·exact .inr ⟨k,c,e,z.sameBut hs (cne y c e)⟩
  ·obtain⟨w',z⟩:=I.cell y c e;exact⟨w',z.sameBut hs (cne y c e)⟩
  ·obtain⟨e,n,ne,nf,d⟩:=I.pin p hp;exact⟨(hs.2 p.1 ne).trans e,n,ne,nf,d⟩
 ·have hfn:X.fn x=true:=by
   rcases hf with z | z
   ·exact z
   ·rw[z]at hk;cases hk
  obtain⟨c,hc⟩:=I.ok.has x (.inl hk);obtain⟨w',z⟩:=I.cell x c hc;refine wpAny_storeName_cell I.ok.kind hk hc z (fun h' hc' hs=>?_);obtain⟨oc,hoc,hocd⟩:=id z;refine h { s with heap:=h' } ⟨I.ok,I.os,I.bare,⟨fun b o e n hb hx=>?_,fun b o e n hb hx=>?_,I.base.free,fun b o e hx=>?_,I.base.iW,I.base.fM,I.base.iV⟩,⟨m,hn.sameBut hs (Ne.symm (cne x c hc)),fun j y v' e1 e2 e3=>?_⟩,fun y c' e=>?_,I.free,I.eh,fun p hp=>?_,tracked ⟨oc,hoc,I.eh x c hc⟩ hs,by simpa using I.len⟩ ⟨c,hs,.inr hc⟩
  ·exact(hs.2 b (Nat.ne_of_lt (Nat.lt_of_lt_of_le (Heap.lt_size e) (I.ok.cab x c hfn hc)))).trans (I.base.keep b o e n hb hx)
  ·obtain⟨sl,e1⟩:=I.base.slot b o e n hb hx;exact⟨sl,(hs.2 b (Nat.ne_of_lt (Nat.lt_of_lt_of_le (Heap.lt_size e) (I.ok.cab x c hfn hc)))).trans e1⟩
  ·obtain⟨o',e1⟩:=I.base.there b o e hx;exact⟨o',(hs.2 b (Nat.ne_of_lt (Nat.lt_of_lt_of_le (Heap.lt_size e) (I.ok.cab x c hfn hc)))).trans e1⟩
  ·by_cases hj:j=i
   ·subst hj;rw[hi]at e1;cases e1;rw[List.getElem?_set_self hiσ]at e2;cases e2;exact⟨u,r,.inr ⟨.inl hk,c,hc,hc'⟩⟩
   ·rw[List.getElem?_set_ne (Ne.symm hj)]at e2;obtain⟨u',r',q⟩:=hl j y v' e1 e2 e3;refine⟨u',r',?_⟩
    rcases q with q | ⟨k,c',e,z'⟩
    ·exact .inl q
    ·refine .inr ⟨k,c',e,z'.sameBut hs ?_⟩;rintro rfl;exact hj (oE hN e1 (I.ok.inj _ _ _ e hc▸hi))
  ·by_cases hcc:c'=c
   ·subst hcc;exact⟨_,hc'⟩
   ·obtain⟨w2,z2⟩:=I.cell y c' e;exact⟨w2,z2.sameBut hs hcc⟩
  ·obtain⟨e,n,ne,nf,d⟩:=I.pin p hp;refine⟨(hs.2 p.1 ?_).trans e,n,ne,nf,d⟩;intro q;rw[q,hoc]at e;have q':oc=p.2:=Option.some.inj e;exact d w' (by rw[<-q'];exact hocd)
def eQ(I:Inv X pins σ H s)(hN:X.N.Nodup)(hi:X.N[i]?=some x)(hx:Loc X.env.scope x)(r:RelV v u)
 (h:∀ s',Inv X pins (σ.set i (some v)) H s'->Q () s')(hf:X.fn x=true\/X.env.scope.names.lookup x=some .local):wpAny M A (storeName X.env x u) Q E s :=
 nr I hN hi hx r (fun s' I' _=>h s' I') hf
def Inv.yQ(I:Inv X pins σ H s)(ho:s'.os=s.os)(u:Un (frs X.stack) ch H H' s.heap s'.heap)(hok:HOk X.prog X.w H' s'.heap)(hg:AllBare s'.gens)
 (hch:∀ b∈ch,(b∈X.ex\/X.s₀.heap.objs.size<=b)/\b≠X.env.locals/\(∀ x c,X.env.cells.lookup x=some c->c≠b)/\∀ p∈X.pn++pins,p.1≠b):Inv X pins σ H' s':=by
 obtain⟨h',g',d',t',o'⟩:=s';have e:o'=s.os:=ho;subst e;exact I.call (g':=g') (t':=t') (d':=d') u hok hg hch
end
@[reducible]noncomputable def XK:=Value->Option Addr->Hp->Prop
@[reducible]noncomputable def St:=List (Option V)
@[reducible]noncomputable def VK:=V->Hp->Prop
@[reducible]noncomputable def TE:=St->Hp->VK->Prop
@[reducible]noncomputable def TT:=St->Hp->(Bool->Hp->Prop)->Prop
@[reducible]noncomputable def TA:=St->Hp->(List V->Hp->Prop)->Prop
structure Ends where
 nx:St->Hp->Prop
 rt:VK
 bk:St->Hp->Prop:=fun _ _=>False
 ct:St->Hp->Prop:=fun _ _=>False
@[reducible]noncomputable def TS:=Ends->St->Hp->Prop
abbrev EP(X:Cx)(pins:List (Addr × Obj))(σ:St)(Q:VK)(u:Value)(s':Shared):Prop:=∃ v H',Inv X pins σ H' s'/\RelV v u/\Q v H'
abbrev TP(X:Cx)(pins:List (Addr × Obj))(σ:St)(Q:Bool->Hp->Prop)(b:Bool)(s':Shared):Prop:=∃ H',Inv X pins σ H' s'/\Q b H'
abbrev AP(X:Cx)(pins:List (Addr × Obj))(σ:St)(Q:List V->Hp->Prop)(us:List Value)(s':Shared):Prop:=∃ vs H',Inv X pins σ H' s'/\Vals vs us/\Q vs H'
abbrev SP(X:Cx)(pins:List (Addr × Obj))(D:Ends)(f:Flow)(s':Shared):Prop :=
 match f with
 | .next=>∃ σ' H',Inv X pins σ' H' s'/\D.nx σ' H'
 | .brk=>∃ σ' H',Inv X pins σ' H' s'/\D.bk σ' H'
 | .cont=>∃ σ' H',Inv X pins σ' H' s'/\D.ct σ' H'
 | .ret u=>∃ v σ' H',Inv X pins σ' H' s'/\RelV v u/\D.rt v H'
abbrev PE(X:Cx)(e:Expr)(t:TE):Prop :=
 ∀ (pins:List (Addr × Obj)) (s:Shared) (σ:St) (H:Hp) (Q:VK),Inv X pins σ H s->t σ H Q->wpAny (model X.prog X.w) X.A (eval e X.env) (EP X pins σ Q) X.xe s
abbrev PT(X:Cx)(e:Expr)(t:TT):Prop :=
 ∀ (pins:List (Addr × Obj)) (s:Shared) (σ:St) (H:Hp) (Q:Bool->Hp->Prop),Inv X pins σ H s->t σ H Q->wpAny (model X.prog X.w) X.A (isTrue e X.env (eval e X.env)) (TP X pins σ Q) X.xe s
abbrev PW(X:Cx)(e:Expr)(t:TT):Prop :=
 ∀ (whole:Sem Value) (pins:List (Addr × Obj)) (s:Shared) (σ:St) (H:Hp) (Q:Bool->Hp->Prop),Inv X pins σ H s->t σ H Q->wpAny (model X.prog X.w) X.A (isTrue e X.env whole) (TP X pins σ Q) X.xe s
def PW.pt(h:PW X e t):PT X e t:=h _
abbrev PA(X:Cx)(es:List Expr)(t:TA):Prop :=
 ∀ (pos:Pos) (pins:List (Addr × Obj)) (s:Shared) (σ:St) (H:Hp) (Q:List V->Hp->Prop),Inv X pins σ H s->t σ H Q->wpAny (model X.prog X.w) X.A (spliced (backTo pos (starEach es X.env))) (AP X pins σ Q) X.xe s
abbrev PS(X:Cx)(st:Stmt)(t:TS):Prop :=
 ∀ (pins:List (Addr × Obj)) (s:Shared) (σ:St) (H:Hp) (D:Ends),Inv X pins σ H s->t D σ H->wpAny (model X.prog X.w) X.A (exec st X.env) (SP X pins D) X.xe s
abbrev PSs(X:Cx)(st:List Stmt)(t:TS):Prop :=
 ∀ (pins:List (Addr × Obj)) (s:Shared) (σ:St) (H:Hp) (D:Ends),Inv X pins σ H s->t D σ H->wpAny (model X.prog X.w) X.A (execs st X.env) (SP X pins D) X.xe s
def thn(h:wpAny M A t Q E s)(hQ:∀ a s,Q a s->Q' a s):wpAny M A t Q' E s:=wpAny_mono h hQ fun _ _ x=>x
section
variable{X:Cx}
abbrev iP(i:Nat):TE:=fun σ H Q=>∃ v,σ[i]?=some (some v)/\Q v H
abbrev tC(v:V):TE:=fun _ H Q=>Q v H
def gN(hN:X.N[i]?=some x)(hv:Vis X.env.scope x)(hd:(x == ("__debug__" : Str))=false)(hcd:(x == ("__classdict__" : Str))=false):PE X (.Name x pos) (iP i):=by
 intro pins s σ H Q I h;obtain⟨v,e,h⟩:=h;obtain⟨m,hn,hl⟩:=I.loc;obtain⟨u,r,l⟩:=hl i x v hN e hv
 have fin:EP X pins σ Q u s:=⟨v,H,I,r,h⟩
 rcases l with⟨hk,hm⟩ | ⟨hk,c,hc,hcell⟩
 ·exact wpAny_Name (wpAny_loadName_local I.ok.kind hk hn hm fin) hd
 ·rcases hk with hk | hk
  ·exact wpAny_Name (wpAny_loadName_cell I.ok.kind hk hc hcell fin) hd
  ·exact wpAny_Name (wpAny_loadName_free I.ok.kind hk hc hcell fin hcd) hd
def pM:PE X (.Constant (.int i) j pos) (tC (.int i)):=fun _ _ _ H _ I h=>wpAny_Constant_int ⟨.int i,H,I.tok _,⟨_,rfl⟩,h⟩
def Eu:PE X (.Constant (.bool b) j pos) (tC (.bl b)):=fun _ _ _ H _ I h=>Constant_bool ⟨.bl b,H,I,rfl,h⟩
def oF:PE X (.Constant .none j pos) (tC .non):=fun _ _ _ H _ I h=>Constant_none ⟨.non,H,I,rfl,h⟩
def Bu:PE X (.Constant (.str x) j pos) (tC (.str x)):=fun _ _ _ H _ I h=>Calls.Constant_str ⟨.str x,H,I.tok _,⟨_,rfl⟩,h⟩
abbrev Gl(X:Cx)(x:Str):Prop:=X.env.kindOf x=some .globalImplicit
def rT(I:Inv X pins σ H s)(hg:Gl X x)(hm:X.mg x=some u)(h:Q u s)
 (hd:(x == ("__debug__" : Str))=false):wpAny (model X.prog X.w) X.A (eval (.Name x pos) X.env) Q E s :=
 Calls.Name_function_global I.ok.kind hg (Calls.loadGlobal_global (by rw[I.ok.glob];exact I.mod.glob.keeps I.bk) hm h) hd
def gd(I:Inv X pins σ H s)(hg:Gl X x)(hm:X.mg x=none)(hv:bootBuiltins x=some u)(h:Q u s)
 (hn:x ≠ "__name__")(hd:(x == ("__debug__" : Str))=false):wpAny (model X.prog X.w) X.A (eval (.Name x pos) X.env) Q E s:=by
 obtain⟨mb,h1,h2⟩:=I.mod.blt;exact Calls.Name_function_global I.ok.kind hg (Calls.loadGlobal_builtin (by rw[I.ok.glob];exact I.mod.glob.keeps I.bk) hm (by rw[I.ok.blt];exact h1.keeps I.bk) ((h2 x hn).trans hv) h) hd
def Au(hg:Gl X x)(hm:X.mg x=some u)(r:RelV v u)(hd:(x == ("__debug__" : Str))=false):PE X (.Name x pos) (tC v) :=
 fun _ _ _ H _ I h=>rT I hg hm ⟨v,H,I,r,h⟩ hd
def A8(hg:Gl X x)(hm:X.mg x=none)(hv:bootBuiltins x=some u)(r:RelV v u)(hn:x ≠ "__name__")(hd:(x == ("__debug__" : Str))=false):PE X (.Name x pos) (tC v) :=
 fun _ _ _ H _ I h=>gd I hg hm hv ⟨v,H,I,r,h⟩ hn hd
variable{a b:Expr}{ta tb:TE}{pos:Pos}
variable{tA tB':TT}{rest:List Expr}
abbrev Gi(t u:TT):TT:=fun σ H Q=>t σ H fun c H1=>if c=true then u σ H1 Q else Q false H1
abbrev tOr(t u:TT):TT:=fun σ H Q=>t σ H fun c H1=>if c=true then Q true H1 else u σ H1 Q
abbrev F6(t:TT):TT:=fun σ H Q=>t σ H fun c H1=>Q (!c) H1
def zJ(ha:PT X a tA):PW X (.BoolOp .And [a] pos) tA:=by
 intro wh pins s σ H Q I h;refine isTrue_and (thn (ha pins s σ H Q I h) fun c s1 e=>?_)
 cases c with
 | true=>exact isTrue_and_nil e
 | false=>exact e
def Dl(ha:PT X a tA):PW X (.BoolOp .Or [a] pos) tA:=by
 intro wh pins s σ H Q I h;refine isTrue_or (thn (ha pins s σ H Q I h) fun c s1 e=>?_)
 cases c with
 | false=>exact isTrue_or_nil e
 | true=>exact e
def BP(ha:PT X a tA)(hb:PW X (.BoolOp .And (b::rest) pos) tB'):PW X (.BoolOp .And (a::b::rest) pos) (Gi tA tB'):=by
 intro wh pins s σ H Q I h;refine isTrue_and (thn (ha pins s σ H _ I h) fun c s1 ⟨H1,I1,q1⟩=>?_)
 cases c with
 | true=>exact hb wh pins s1 σ H1 Q I1 q1
 | false=>exact⟨H1,I1,q1⟩
def Fe(ha:PT X a tA)(hb:PW X (.BoolOp .Or (b::rest) pos) tB'):PW X (.BoolOp .Or (a::b::rest) pos) (tOr tA tB'):=by
 intro wh pins s σ H Q I h;refine isTrue_or (thn (ha pins s σ H _ I h) fun c s1 ⟨H1,I1,q1⟩=>?_)
 cases c with
 | true=>exact⟨H1,I1,q1⟩
 | false=>exact hb wh pins s1 σ H1 Q I1 q1
def C7(ha:PT X a tA):PT X (.UnaryOp .Not a pos) (F6 tA):=by
 intro pins s σ H Q I h;exact isTrue_not (ha pins s σ H (fun c H1=>Q (!c) H1) I h)
abbrev Fb(ta tb:TE):TE:=fun σ H Q=>ta σ H fun x H1=>∃ c,x=.bl c/\if c=true then tb σ H1 Q else Q (.bl false) H1
abbrev FN(ta tb:TE):TE:=fun σ H Q=>ta σ H fun x H1=>∃ c,x=.bl c/\if c=true then Q (.bl true) H1 else tb σ H1 Q
def BO(h:PE X a t):PE X (.BoolOp op [a] pos) t:=fun pins s σ H Q I hw=>BoolOp_one (h pins s σ H Q I hw)
def DB(ha:PE X a ta)(hb:PE X (.BoolOp .And (b::rest) pos) tb):PE X (.BoolOp .And (a::b::rest) pos) (Fb ta tb):=by
 intro pins s σ H Q I h;refine BoolOp_and (thn (ha pins s σ H _ I h) fun v s1 ⟨x,H1,I1,r1,q1⟩=>?_);obtain⟨c,rfl,q1⟩:=q1;cases r1;refine wpAny_truthy_bool ?_
 cases c with
 | true=>exact hb pins s1 σ H1 Q I1 q1
 | false=>exact⟨.bl false,H1,I1,rfl,q1⟩
def Fd(ha:PE X a ta)(hb:PE X (.BoolOp .Or (b::rest) pos) tb):PE X (.BoolOp .Or (a::b::rest) pos) (FN ta tb):=by
 intro pins s σ H Q I h;refine BoolOp_or (thn (ha pins s σ H _ I h) fun v s1 ⟨x,H1,I1,r1,q1⟩=>?_);obtain⟨c,rfl,q1⟩:=q1;cases r1;refine wpAny_truthy_bool ?_
 cases c with
 | false=>exact hb pins s1 σ H1 Q I1 q1
 | true=>exact⟨.bl true,H1,I1,rfl,q1⟩
abbrev tIf(t:TT)(ta tb:TE):TE:=fun σ H Q=>t σ H fun c H1=>if c=true then ta σ H1 Q else tb σ H1 Q
def yz(hc:PT X c tA)(ha:PE X a ta)(hb:PE X b tb):PE X (.IfExp c a b pos) (tIf tA ta tb):=by
 intro pins s σ H Q I h;refine wpAny_IfExp (thn (hc pins s σ H _ I h) fun d s1 ⟨H1,I1,q1⟩=>?_)
 cases d with
 | true=>exact ha pins s1 σ H1 Q I1 q1
 | false=>exact hb pins s1 σ H1 Q I1 q1
end
abbrev SqL(K:PySem.W.Frag)(H:Hp)(a:Addr)(xs:List V):Prop :=
 Rd H a (.lst xs) \/
  ∃ (o:Obj) (its:Array Value) (n:Nat),K.lookup a=some o/\o.cls=.type "list" /\ o.dict=none/\o.data=.seq its n/\its.size<=sizeLine/\Vals xs its.toList
abbrev SqT(K:PySem.W.Frag)(H:Hp)(a:Addr)(xs:List V):Prop :=
 Rd H a (.tup xs) \/
  ∃ (o:Obj) (its:Array Value) (n:Nat),K.lookup a=some o/\o.cls=.type "tuple" /\ o.data=.seq its n/\its.size<=sizeLine/\Vals xs its.toList
abbrev Fu:Value->Option V
 | .none=>some .non
 | .bool b=>some (.bl b)
 | .int i _=>some (.int i)
 | .str x _=>some (.str x)
 | .bytes b _=>some (.byt b)
 | .float b _=>some (.flt b)
 | .ref a=>some (.ref a)
 | .type n=>some (.ty n)
 | _=>none
def RelV.abs(r:RelV x u):Fu u=some x:=by
 cases x with
 | non=>cases r;rfl
 | bl _=>cases r;rfl
 | int _=>obtain⟨t,rfl⟩:=r;rfl
 | str _=>obtain⟨t,rfl⟩:=r;rfl
 | byt _=>obtain⟨t,rfl⟩:=r;rfl
 | flt _=>obtain⟨t,rfl⟩:=r;rfl
 | ref _=>cases r;rfl
 | ty _=>cases r;rfl
def RelV.inj(r:RelV x u)(q:RelV y u):x=y:=Option.some.inj (r.abs.symm.trans q.abs)
def Vals.inj:∀ {xs ys:List V} {us:List Value},Vals xs us->Vals ys us->xs=ys
 | _,_,_,.nil,.nil=>rfl
 | _,_,_,.cons r t,.cons r' t'=>by rw[r.inj r',Vals.inj t t']
section
variable{X:Cx}{pins:List (Addr × Obj)}{σ:St}{H:Hp}{s:Shared}{a:Addr}{xs ys:List V}
def SqL.of{K:PySem.W.Frag}(h:H a=some (.lst xs)):SqL K H a xs:=.inl (.inl h)
def SqT.of{K:PySem.W.Frag}(h:H a=some (.tup xs)):SqT K H a xs:=.inl (.inl h)
def Inv.list(I:Inv X pins σ H s)(h:SqL X.K H a xs):∃ its:List Value,Vals xs its/\PlainL s.heap a its.toArray/\xs.length<=sizeLine:=by
 rcases h with h | ⟨o,its,n,hk,hc,hd,hs,hz,r⟩
 ·obtain⟨z,its,n,r,e⟩:=h.ok I.hok;exact⟨its,r,⟨_,n,e,rfl,rfl,rfl⟩,z⟩
 ·refine⟨its.toList,r,⟨o,n,I.kIn a o hk,hc,hd,by simpa using hs⟩,?_⟩;have e:=r.length;simp only[Array.length_toList]at e;omega
def Inv.tuple(I:Inv X pins σ H s)(h:SqT X.K H a xs):∃ its:List Value,Vals xs its/\IsTup s.heap a its.toArray/\xs.length<=sizeLine:=by
 rcases h with h | ⟨o,its,n,hk,hc,hs,hz,r⟩
 ·obtain⟨z,its,r,p⟩:=h.ok I.hok;exact⟨its,r,p,z⟩
 ·refine⟨its.toList,r,⟨o,I.kIn a o hk,hc,n,by simpa using hs⟩,?_⟩;have e:=r.length;simp only[Array.length_toList]at e;omega
def Inv.xC(I:Inv X pins σ H s)(h:SqL X.K H a xs)(h':SqL X.K H a ys):xs=ys:=by
 obtain⟨its,r,⟨o,n,e,_,_,d⟩,_⟩:=I.list h;obtain⟨its',r',⟨o',n',e',_,_,d'⟩,_⟩:=I.list h';rw[e]at e';cases e';rw[d]at d';injection d' with d1 _
 have:its=its':=by simpa using congrArg Array.toList d1
 subst this;exact r.inj r'
def Inv.wc(I:Inv X pins σ H s)(h:SqT X.K H a xs)(h':SqT X.K H a ys):xs=ys:=by
 obtain⟨its,r,⟨o,e,_,n,d⟩,_⟩:=I.tuple h;obtain⟨its',r',⟨o',e',_,n',d'⟩,_⟩:=I.tuple h';rw[e]at e';cases e';rw[d]at d';injection d' with d1 _
 have:its=its':=by simpa using congrArg Array.toList d1
 subst this;exact r.inj r'
end
@[reducible]noncomputable def Cx.gA(X:Cx)(E:Value->Shared->Prop):Cx:={ X with xe:=E }
@[reducible]noncomputable def Cx.nox(X:Cx):Cx:=X.gA fun _ _=>False
def Cx.Ok.gA{X:Cx}(ok:X.Ok)(E:Value->Shared->Prop):(X.gA E).Ok :=
 ⟨ok.mod,ok.kind,ok.glob,ok.blt,ok.above,ok.inj,ok.has,ok.cab,ok.hd,ok.frames,ok.stk,ok.exf,ok.bs,ok.bsz,ok.q0,ok.qv,ok.gc,ok.frf⟩
def Cx.Ok.eX{X:Cx}(ok:(X.gA E).Ok):X.Ok :=
 ⟨ok.mod,ok.kind,ok.glob,ok.blt,ok.above,ok.inj,ok.has,ok.cab,ok.hd,ok.frames,ok.stk,ok.exf,ok.bs,ok.bsz,ok.q0,ok.qv,ok.gc,ok.frf⟩
section
variable{X:Cx}{pins:List (Addr × Obj)}{σ:St}{H:Hp}{s:Shared}{E:Value->Shared->Prop}
def Inv.gA(I:Inv X pins σ H s)(E:Value->Shared->Prop):Inv (X.gA E) pins σ H s:=⟨I.ok.gA E,I.os,I.bare,I.base,I.loc,I.cell,I.free,I.eh,I.pin,I.hok,I.len⟩
def Inv.eX(I:Inv (X.gA E) pins σ H s):Inv X pins σ H s:=⟨I.ok.eX,I.os,I.bare,I.base,I.loc,I.cell,I.free,I.eh,I.pin,I.hok,I.len⟩
def SP.eX(h:SP (X.gA E) pins D f s'):SP X pins D f s':=by
 cases f with
 | next=>obtain⟨σ',H',I,q⟩:=h;exact⟨σ',H',I.eX,q⟩
 | brk=>obtain⟨σ',H',I,q⟩:=h;exact⟨σ',H',I.eX,q⟩
 | cont=>obtain⟨σ',H',I,q⟩:=h;exact⟨σ',H',I.eX,q⟩
 | ret u=>obtain⟨v,σ',H',I,r,q⟩:=h;exact⟨v,σ',H',I.eX,r,q⟩
def PSs.nox{st:List Stmt}(h:PSs X.nox st t):PSs X st t:=fun pins s σ H D I hw =>
 wpAny_mono (h pins s σ H D (I.gA _) hw) (fun _ _ q=>q.eX) fun _ _ z=>False.elim z
end
section
variable{X:Cx}{st:Stmt}{rest:List Stmt}{t u:TS}{e:Expr}{te:TE}{pos:Pos}
abbrev Fc:TS:=fun D σ H=>D.nx σ H
abbrev FW(t u:TS):TS:=fun D σ H=>t { D with nx:=u D } σ H
def zM:PSs X [] Fc:=fun _ _ σ H _ I h=>wpAny_execs_nil ⟨σ,H,I,h⟩
def il(h1:PS X st t)(h2:PSs X rest u):PSs X (st::rest) (FW t u):=by
 intro pins s σ H D I h;refine wpAny_execs_cons (thn (h1 pins s σ H { D with nx:=u D } I h) fun f s1 q=>?_)
 cases f with
 |next=>
  obtain⟨σ',H',I',q⟩:=q;exact h2 pins s1 σ' H' D I' q
 | ret v=>exact q
 | brk=>exact q
 | cont=>exact q
def Inv.quiet(I:Inv X pins σ H s):interactive X.env=false:=by simp[interactive,I.ok.kind]
abbrev oq(te:TE):TS:=fun D σ H=>te σ H fun _ H1=>D.nx σ H1
def mF(he:PE X e te)(hs:swapsWith e none pos.line X.env=pure false):PS X (.Expr e pos) (oq te):=by
 intro pins s σ H D I h;exact wpAny_Expr_any (thn (he pins s σ H _ I h) fun v s1 ⟨x,H1,I1,r1,q1⟩=>⟨σ,H1,I1,q1⟩) I.quiet hs
abbrev FZ(te:TE):TS:=fun D σ H=>te σ H D.rt
def wG(he:PE X e te):PS X (.Return (some e) pos) (FZ te):=by
 intro pins s σ H D I h;exact wpAny_Return_some (thn (he pins s σ H _ I h) fun v s1 ⟨x,H1,I1,r1,q1⟩=>⟨x,σ,H1,I1,r1,q1⟩)
abbrev Gn(c:TT)(t u:TS):TS:=fun D σ H=>c σ H fun b H1=>if b=true then t D σ H1 else u D σ H1
def yS(hc:PT X c tc)(ha:PSs X a t)(hb:PSs X b u):PS X (.If c a b pos) (Gn tc t u):=by
 intro pins s σ H D I h;refine wpAny_If (thn (hc pins s σ H _ I h) fun d s1 ⟨H1,I1,q1⟩=>?_)
 cases d with
 | true=>exact ha pins s1 σ H1 D I1 q1
 | false=>exact hb pins s1 σ H1 D I1 q1
end
@[reducible]noncomputable def TG:=V->St->Hp->(St->Hp->Prop)->Prop
@[reducible]noncomputable def TGs:=List V->St->Hp->(St->Hp->Prop)->Prop
abbrev PG(X:Cx)(target:Expr)(t:TG):Prop :=
 ∀ (pins:List (Addr × Obj)) (s:Shared) (σ:St) (H:Hp) (v:V) (u:Value) (Q:St->Hp->Prop),Inv X pins σ H s->RelV v u->t v σ H Q ->
  wpAny (model X.prog X.w) X.A (assign target X.env u) (fun _ s'=>∃ σ' H',Inv X pins σ' H' s'/\Q σ' H') X.xe s
abbrev PGs(X:Cx)(ts:List Expr)(t:TGs):Prop :=
 ∀ (pins:List (Addr × Obj)) (s:Shared) (σ:St) (H:Hp) (vs:List V) (us:List Value) (Q:St->Hp->Prop),Inv X pins σ H s->Vals vs us->t vs σ H Q ->
  wpAny (model X.prog X.w) X.A (assignInOrder ((assignEach ts X.env).map (·.2)) us) (fun _ s'=>∃ σ' H',Inv X pins σ' H' s'/\Q σ' H') X.xe s
@[reducible]noncomputable def CI:=V->V->V->Hp->(Hp->Prop)->Prop
abbrev Bl(X:Cx)(t:CI):Prop :=
 ∀ (pins:List (Addr × Obj)) (s:Shared) (σ:St) (H:Hp) (o i v:V) (ov iv u:Value) (Q:Hp->Prop),Inv X pins σ H s->RelV o ov->RelV i iv->RelV v u->t o i v H Q ->
  wpAny (model X.prog X.w) X.A (setItem ov iv u) (fun _ s'=>∃ H',Inv X pins σ H' s'/\Q H') X.xe s
@[reducible]noncomputable def TIp:=V->V->Hp->VK->Prop
abbrev PIp(X:Cx)(op:Operator)(t:TIp):Prop :=
 ∀ (pins:List (Addr × Obj)) (s:Shared) (σ:St) (H:Hp) (x y:V) (v u:Value) (Q:VK),Inv X pins σ H s->RelV x v->RelV y u->t x y H Q ->
  wpAny (model X.prog X.w) X.A (inplaceOp op v u) (EP X pins σ Q) X.xe s
section
variable{X:Cx}{pos:Pos}
abbrev nV(i:Nat):TG:=fun v σ H Q=>Q (σ.set i (some v)) H
def sI(hN:X.N.Nodup)(hi:X.N[i]?=some x)(hx:Loc X.env.scope x)(hf:X.fn x=true\/X.env.scope.names.lookup x=some .local):PG X (.Name x pos) (nV i):=by
 intro pins s σ H v u Q I r h;exact wpAny_assign_Name (eQ I hN hi hx r (fun s' I'=>⟨_,H,I',h⟩) hf)
abbrev C2:TGs:=fun vs σ H Q=>vs=[]/\Q σ H
abbrev yR(t:TG)(u:TGs):TGs:=fun vs σ H Q=>∃ v r,vs=v::r/\t v σ H fun σ' H'=>u r σ' H' Q
def Av:PGs X [] C2:=by
 intro pins s σ H vs us Q I r h;obtain⟨e,h⟩:=h;subst e;cases r;exact assignInOrder_nil ⟨σ,H,I,h⟩
def xI(h1:PG X e t)(h2:PGs X es u)
 (hs:(assignEach (e::es) X.env).map (·.2)=assign e X.env::(assignEach es X.env).map (·.2)):PGs X (e::es) (yR t u):=by
 intro pins s σ H vs us Q I r h;obtain⟨v,vr,e1,h⟩:=h;subst e1
 cases r with
 |cons r rr=>
  rw[hs];refine assignInOrder_cons (thn (h1 pins s σ H _ _ _ I r h) fun _ s1 ⟨σ1,H1,I1,q1⟩=>?_);exact h2 pins s1 σ1 H1 _ _ Q I1 rr q1
abbrev lQ(K:PySem.W.Frag)(n:Nat)(t:TGs):TG:=fun v σ H Q=>∃ a xs,v=.ref a/\SqT K H a xs/\xs.length=n/\t xs σ H Q
def vZ(hc:X.calm=true)(h:PGs X es t)
 (hn:(assignEach es X.env).length=n)(hst:(assignEach es X.env).findIdx? (·.1)=none):PG X (.Tuple es k pos) (lQ X.K n t):=by
 intro pins s σ H v u Q I r hw;obtain⟨a,xs,e1,hq,hl,hw⟩:=hw;subst e1;cases r;obtain⟨its,rv,ht,hz⟩:=I.tuple hq;refine assign_Tuple_tuple (I.ok.hd.1 hc) ht (by simp[hn,<-hl,rv.length]) hst fun h' hx=>?_;have I1:Inv X pins σ H { s with heap:=h' }:=I.kept (t':=s.toks) fun b o e=>hx b o (Nat.ne_of_lt (Heap.lt_size e)) e;exact h pins _ σ H xs _ Q I1 (by simpa using rv) hw
abbrev xn(to ti:TE)(t:CI):TG:=fun v σ H Q=>to σ H fun o H1=>ti σ H1 fun i H2=>t o i v H2 fun H3=>Q σ H3
def C6(ho:PE X o to)(hi:PE X i ti)(hs:Bl X t)
 (ha:∀ v,assign (.Subscript o i pos) X.env v=(do
   let ov <- holding [v] (eval o X.env)
   let iv <- holding [v,ov] (eval i X.env)
   standAt pos
   holding [v,ov,iv] (setItem ov iv v)
   release [v,ov,iv] []):=by intro _;rfl):PG X (.Subscript o i pos) (xn to ti t):=by
 intro pins s σ H v u Q I r h;rw[ha];refine wpAny_bind (wpAny_holding (thn (ho pins s σ H _ I h) fun ov s1 ⟨x,H1,I1,r1,q1⟩=>?_));refine wpAny_bind (wpAny_holding (thn (hi pins s1 σ H1 _ I1 q1) fun iv s2 ⟨y,H2,I2,r2,q2⟩=>?_));refine wpAny_bind (wpAny_standAt (wpAny_bind (wpAny_holding (thn (hs pins s2 σ H2 x y v ov iv u _ I2 r1 r2 r q2) fun _ s3 ⟨H3,I3,q3⟩=>?_))));exact wpAny_release ⟨σ,H3,I3,q3⟩
abbrev pF(te:TE)(g:TG):TS:=fun D σ H=>te σ H fun x H1=>g x σ H1 D.nx
def uM(he:PE X e te)(hg:PG X tg g)(hs:swapsWithSole [tg] e pos.line X.env=pure false)(hw:swappedStores [tg] e X.env=pure none)
 (h1:(assignEach [tg] X.env).map (·.2)=[assign tg X.env]):PS X (.Assign [tg] e pos) (pF te g):=by
 intro pins s σ H D I h;refine wpAny_Assign_stores (thn (he pins s σ H _ I h) fun v s1 ⟨x,H1,I1,r1,q1⟩=>?_) hs hw;rw[h1];exact thn (hg pins s1 σ H1 x v _ I1 r1 q1) fun _ s2 q=>q
def CV(hN:X.N.Nodup)(hi:X.N[i]?=some x)(hx:Loc X.env.scope x)(he:PE X e te)(hs:swapsWith e (some (.Name x pos')) pos.line X.env=pure false)(hf:X.fn x=true\/X.env.scope.names.lookup x=some .local) :
  PS X (.Assign [.Name x pos'] e pos) (pF te (nV i)):=by
 intro pins s σ H D I h;refine wpAny_Assign_Name (thn (he pins s σ H _ I h) fun v s1 ⟨y,H1,I1,r1,q1⟩=>?_) hs;exact eQ I1 hN hi hx r1 (fun s2 I2=>⟨_,H1,I2,q1⟩) hf
abbrev DX(i:Nat)(te:TE)(ti:TIp):TS:=fun D σ H=>∃ x,σ[i]?=some (some x)/\te σ H fun y H1=>ti x y H1 fun z H2=>D.nx (σ.set i (some z)) H2
def Dj(hN:X.N.Nodup)(hi:X.N[i]?=some x)(hx:Loc X.env.scope x)(he:PE X e te)(ho:PIp X op ti)(hf:X.fn x=true\/X.env.scope.names.lookup x=some .local) :
  PS X (.AugAssign (.Name x pos') op e pos) (DX i te ti):=by
 intro pins s σ H D I h;obtain⟨v,e1,h⟩:=h;obtain⟨m,hn,hl⟩:=I.loc
 have vis:Vis X.env.scope x:=by rcases hx with k | k;exact .inl k;exact .inr (.inl k)
 obtain⟨u,r,l⟩:=hl i x v hi e1 vis;refine wpAny_AugAssign_Name ?_
 have go:wpAny (model X.prog X.w) X.A (eval e X.env) (fun w s₂=>wpAny (model X.prog X.w) X.A (inplaceOp op u w) (fun r s₃=>wpAny (model X.prog X.w) X.A (storeName X.env x r) (fun _=>SP X pins D .next) X.xe s₃) X.xe s₂) X.xe s:=by
  refine thn (he pins s σ H _ I h) fun w s1 ⟨y,H1,I1,r1,q1⟩=>?_;refine thn (ho pins s1 σ H1 v y u w _ I1 r r1 q1) fun z s2 ⟨zv,H2,I2,r2,q2⟩=>?_;exact eQ I2 hN hi hx r2 (fun s3 I3=>⟨_,H2,I3,q2⟩) hf
 rcases l with⟨hk,hm⟩ | ⟨hk,c,hc,hcell⟩
 ·exact wpAny_loadName_local I.ok.kind hk hn hm go
 ·rcases hk with hk | hk
  ·exact wpAny_loadName_cell I.ok.kind hk hc hcell go
  ·rcases hx with k | k
   ·have:X.env.scope.names.lookup x=some .free:=hk;rw[k]at this;cases this
   ·have:X.env.scope.names.lookup x=some .free:=hk;rw[k]at this;cases this
abbrev ipI(f:Int->Int->Int):TIp:=fun x y H Q=>∃ i j,x=.int i/\y=.int j/\Q (.int (f i j)) H
def BA:PIp X .Add (ipI fun i j=>i+j):=by
 intro pins s σ H x y v u Q I r1 r2 h;obtain⟨i,j,e1,e2,q⟩:=h;subst e1;subst e2;obtain⟨t,rfl⟩:=r1;obtain⟨t',rfl⟩:=r2;exact iadd_int ⟨.int _,H,I.tok _,⟨_,rfl⟩,q⟩
end
section
variable{X:Cx}{pos:Pos}
abbrev BZ(c:TT)(tb:TS):TS:=fun D σ H=>∃ W:Nat->St->Hp->Prop,(∃ m,W m σ H)/\∀ m σ H,W m σ H ->
 c σ H fun b H1=>if b=true then ∃ N:St->Hp->Prop,(∀ σ' H',N σ' H'->∃ m',m'<m/\W m' σ' H')/\tb { D with nx:=N,ct:=N,bk:=D.nx } σ H1 else D.nx σ H1
def xO(hp:PassesOwn (model X.prog X.w) X.A X.env X.xe)(hc:PT X c tc)(hb:PSs X body tb):PS X (.While c body [] pos) (BZ tc tb):=by
 intro pins s σ H D I h;obtain⟨W,⟨m0,w0⟩,turn⟩:=h;refine wpAny_While (codeAny_whileLoop (fun n s'=>∃ σ' H',Inv X pins σ' H' s'/\W n σ' H') ?_ m0 ⟨σ,H,I,w0⟩);rintro n s1 ⟨σ1,H1,I1,w1⟩;refine wpAny_passesOwn hp (thn (hc pins s1 σ1 H1 _ I1 (turn n σ1 H1 w1)) fun b s2 ⟨H2,I2,q2⟩=>?_)
 cases b with
 |true=>
  obtain⟨N,hN,q2⟩:=q2;rw[if_pos rfl];refine wpAny_passesOwn hp (thn (hb pins s2 σ1 H2 _ I2 q2) fun f s3 q3=>?_)
  cases f with
  |next=>
   obtain⟨σ3,H3,I3,n3⟩:=q3;obtain⟨m',hm,w3⟩:=hN σ3 H3 n3;exact⟨m',hm,σ3,H3,I3,w3⟩
  |cont=>
   obtain⟨σ3,H3,I3,n3⟩:=q3;obtain⟨m',hm,w3⟩:=hN σ3 H3 n3;exact⟨m',hm,σ3,H3,I3,w3⟩
  | brk=>exact q3
  | ret v=>exact q3
 |false=>
  rw[if_neg Bool.false_ne_true];exact wpAny_execs_nil ⟨σ1,H2,I2,q2⟩
end
structure It where
 go:Nat->Hp->Prop
 yld:Nat->Hp->V->Hp->Prop
 stop:Nat->Hp->Prop
abbrev i9(X:Cx)(pins:List (Addr × Obj))(H:Hp)(b:Addr):Prop :=
 H b=none/\b≠X.env.locals/\b∉X.fs/\(b∈X.ex\/X.s₀.heap.objs.size<=b)/\(∀ x c,X.env.cells.lookup x=some c->c≠b)/\∀ p∈X.pn++pins,p.1≠b
def Inv.m7(I:Inv X pins σ H s)(hb:s.heap.objs.size<=b)(hn:H' b=none):i9 X pins H' b:=by
 refine⟨hn,Nat.ne_of_gt (Nat.lt_of_lt_of_le I.lt hb),I.Gg hb,.inr (Nat.le_trans I.sz hb),fun x c e z=>?_,fun p hp z=>?_⟩
 ·obtain⟨v,q⟩:=I.cell x c e;exact absurd (Nat.lt_of_lt_of_le q.lt (by rw[z];exact hb)) (Nat.lt_irrefl _)
 ·exact absurd (Nat.lt_of_lt_of_le (Heap.lt_size (I.pin p hp).1) (by rw[z];exact hb)) (Nat.lt_irrefl _)
structure kZ(CM:Cx->Prop)(P:Program)(w:World)(K:PySem.W.Frag)(tg:Expr)(J:It)(fp:List Addr)(it:Addr)(tn:Nat->Heap->Prop):Prop where
 mem:it∈fp
 obj:∀ i h,tn i h->∀ b∈fp,∃ o,h.get? b=some o/\∀ v,o.data≠.cell v
 keep:∀ i h h',tn i h->(∀ b∈fp,∀ o,h.get? b=some o->h'.get? b=some o)->tn i h'
 item:∀ (X:Cx),X.prog=P->X.w=w->X.K=K->CM X->∀ (i:Nat) (pins:List (Addr × Obj)) (s:Shared) (σ:St) (H:Hp) (E:Value->Shared->Prop),Inv X pins σ H s->(∀ b∈fp,i9 X pins H b)->tn i s.heap->J.go i H ->
  wpAny (model P w) X.A (pyNext (.ref it)) (fun r s1=>∃ u,r=some u /\
   wpAny (model P w) X.A (letOwnedTupleGo tg (.ref it) u) (fun _ s2=>∃ x H',Inv X pins σ H' s2/\RelV x u/\J.yld i H x H'/\tn (i+1) s2.heap/\∀ b∈fp,H' b=none) E s1) E s
 done:∀ (X:Cx),X.prog=P->X.w=w->X.K=K->CM X->∀ (i:Nat) (pins:List (Addr × Obj)) (s:Shared) (σ:St) (H:Hp) (E:Value->Shared->Prop),Inv X pins σ H s->(∀ b∈fp,i9 X pins H b)->tn i s.heap->J.stop i H ->
  wpAny (model P w) X.A (pyNext (.ref it)) (fun r s1=>r=none/\Inv X pins σ H s1) E s
 self:∀ (A:Around) (i:Nat) (s:Shared) (Q:Value->Shared->Prop) (E:Value->Shared->Prop),tn i s.heap->Q (.ref it) s->wpAny (model P w) A (pyIter (.ref it)) Q E s
@[reducible]noncomputable def Calm:Cx->Prop:=fun X=>X.calm=true
@[reducible]noncomputable def Turn:=kZ Calm
@[reducible]noncomputable def TI:=St->Hp->(It->Hp->Prop)->Prop
abbrev DE(CM:Cx->Prop)(X:Cx)(pins:List (Addr × Obj))(σ:St)(tg:Expr)(R:It->Hp->Prop)(itv:Value)(s2:Shared):Prop :=
 ∃ (it:Addr) (fp:List Addr) (tn:Nat->Heap->Prop) (J:It) (H':Hp),itv=.ref it/\Inv X pins σ H' s2/\kZ CM X.prog X.w X.K tg J fp it tn/\tn 0 s2.heap/\(∀ b∈fp,i9 X pins H' b)/\R J H'
@[reducible]noncomputable def PIE:=DE Calm
abbrev PI'(CM:Cx->Prop)(X:Cx)(tg iter:Expr)(wi:TI):Prop :=
 ∀ (pins:List (Addr × Obj)) (s:Shared) (σ:St) (H:Hp) (R:It->Hp->Prop),Inv X pins σ H s->wi σ H R ->
  wpAny (model X.prog X.w) X.A (eval iter X.env) (fun v s1=>wpAny (model X.prog X.w) X.A (pyIter v) (DE CM X pins σ tg R) X.xe s1) X.xe s
@[reducible]noncomputable def PI:=PI' Calm
def og(ho:s.heap.get? it=some o)(hc:o.cls=.type n)(hd:o.data=.fields vs)
 (hn:["enumerate", "zip", "dict_itemiterator", "dict_reverseitemiterator", "odict_iterator", "itertools.zip_longest", "itertools.pairwise"].contains n=false)(hQ:Q () s):wpAny M A (letOwnedTupleGo tg (.ref it) u) Q E s:=by
 unfold letOwnedTupleGo
 cases tg<;>first
  | exact wpAny_pure hQ
  | (cases u<;>first
    | exact wpAny_pure hQ
    | (refine wpAny_bind (wpAny_load ho ?_)
       rw[hc,hd];show wpAny M A (if(["enumerate", "zip", "dict_itemiterator", "dict_reverseitemiterator", "odict_iterator", "itertools.zip_longest", "itertools.pairwise"].contains n&&vs[0]? == some (rawInt _))=true then _ else _) Q E s;rw[if_neg (by intro h;rw[hn,Bool.false_and]at h;cases h)]
       exact wpAny_pure hQ))
abbrev Itl(K:PySem.W.Frag)(a:Addr):It :=
 ⟨fun i H=>∃ xs x,SqL K H a xs/\xs[i]?=some x,fun i H x H'=>H'=H/\∀ xs,SqL K H a xs->xs[i]?=some x,fun i H=>∃ xs,SqL K H a xs/\xs.length<=i⟩
abbrev Itt(K:PySem.W.Frag)(a:Addr):It :=
 ⟨fun i H=>∃ xs x,SqT K H a xs/\xs[i]?=some x,fun i H x H'=>H'=H/\∀ xs,SqT K H a xs->xs[i]?=some x,fun i H=>∃ xs,SqT K H a xs/\xs.length<=i⟩
abbrev Itr(lo:Int)(n:Nat):It:=⟨fun i _=>i<n,fun i H x H'=>H'=H/\x=.int (lo+i),fun i _=>n<=i⟩
def wy{P:Program}{w:World}{K:PySem.W.Frag}(a it:Addr):Turn P w K tg (Itl K a) [it] it (fun i h=>h.IsListIter it a i) where
 mem:=by simp
 obj:=fun i h st b hb=>by
  have e:b=it:=by simpa using hb
  subst e;obtain⟨o,e,c,d⟩:=st;exact⟨o,e,fun v z=>by rw[d]at z;cases z⟩
 keep:=fun i h h' st k=>st.at fun o e=>k it (by simp) o e
 item:=by
  intro X hP hw hK hc i pins s σ H E I hf st hg;subst hP hw hK;obtain⟨xs,x,hq,hx⟩:=hg;obtain⟨its,rv,p,hz⟩:=I.list hq;obtain⟨u,hu,ru⟩:=rv.get hx;obtain⟨f0,f1,f2,f3,f4,f5⟩:=hf it (by simp);refine wpAny_pyNext_list_item st p.isList (x:=u) (by simpa using hu) fun h' st' sb=>?_;have I1:Inv X pins σ H { s with heap:=h' }:=I.turned (t':=s.toks) (fun b o hb e=>(sb.2 b hb).trans e) f0 f1 f3 f4 f5;obtain⟨o,e,c,d⟩:=id st';exact⟨u,rfl,og (s:={ s with heap:=h' }) e c d (by decide) ⟨x,H,I1,ru,⟨rfl,fun ys hy=>by rw[I.xC hy hq];exact hx⟩,st',fun b hb=>(hf b hb).1⟩⟩
 done:=by
  intro X hP hw hK hc i pins s σ H E I hf st hg;subst hP hw hK;obtain⟨xs,hq,hx⟩:=hg;obtain⟨its,rv,p,hz⟩:=I.list hq;obtain⟨f0,f1,f2,f3,f4,f5⟩:=hf it (by simp);have hl:=rv.length
  exact wpAny_pyNext_list_end (I.ok.hd.1 hc) st p.isList (by simp;omega) fun h' eb=>⟨rfl,I.turned (t':=s.toks) (fun b o hb e=>eb b o hb e) f0 f1 f3 f4 f5⟩
 self:=fun _ _ _ _ _ st h=>wpAny_pyIter_listiter st h
def tF{P:Program}{w:World}{K:PySem.W.Frag}(a it:Addr):Turn P w K tg (Itt K a) [it] it (fun i h=>h.IsTupleIter it a i) where
 mem:=by simp
 obj:=fun i h st b hb=>by
  have e:b=it:=by simpa using hb
  subst e;obtain⟨o,e,c,d⟩:=st;exact⟨o,e,fun v z=>by rw[d]at z;cases z⟩
 keep:=fun i h h' st k=>st.at fun o e=>k it (by simp) o e
 item:=by
  intro X hP hw hK hc i pins s σ H E I hf st hg;subst hP hw hK;obtain⟨xs,x,hq,hx⟩:=hg;obtain⟨its,rv,p,hz⟩:=I.tuple hq;obtain⟨u,hu,ru⟩:=rv.get hx;obtain⟨f0,f1,f2,f3,f4,f5⟩:=hf it (by simp);refine wpAny_pyNext_tuple_item st (show s.heap.IsTuple a its.toArray from p) (x:=u) (by simpa using hu) fun h' st' sb=>?_;have I1:Inv X pins σ H { s with heap:=h' }:=I.turned (t':=s.toks) (fun b o hb e=>(sb.2 b hb).trans e) f0 f1 f3 f4 f5;obtain⟨o,e,c,d⟩:=id st';exact⟨u,rfl,og (s:={ s with heap:=h' }) e c d (by decide) ⟨x,H,I1,ru,⟨rfl,fun ys hy=>by rw[I.wc hy hq];exact hx⟩,st',fun b hb=>(hf b hb).1⟩⟩
 done:=by
  intro X hP hw hK hc i pins s σ H E I hf st hg;subst hP hw hK;obtain⟨xs,hq,hx⟩:=hg;obtain⟨its,rv,p,hz⟩:=I.tuple hq;obtain⟨f0,f1,f2,f3,f4,f5⟩:=hf it (by simp);have hl:=rv.length
  exact wpAny_pyNext_tuple_end (I.ok.hd.1 hc) st (show s.heap.IsTuple a its.toArray from p) (by simp;omega) fun h' eb=>⟨rfl,I.turned (t':=s.toks) (fun b o hb e=>eb b o hb e) f0 f1 f3 f4 f5⟩
 self:=fun _ _ _ _ _ st h=>wpAny_pyIter_tupleiter st h
def sY{P:Program}{w:World}{K:PySem.W.Frag}(it:Addr)(lo:Int)(n:Nat):Turn P w K tg (Itr lo n) [it] it (fun i h=>IsRangeIter h it (lo+(i:Nat)*1) ((n:Int)-(i:Nat)) 1) where
 mem:=by simp
 obj:=fun i h st b hb=>by
  have e:b=it:=by simpa using hb
  subst e
  exact⟨_,st,fun v z=>by
   have z':Data.fields _=Data.cell v:=z
   cases z'⟩
 keep:=fun i h h' st k=>k it (by simp) _ st
 item:=by
  intro X hP hw hK hc i pins s σ H E I hf st hg;subst hP hw hK;obtain⟨f0,f1,f2,f3,f4,f5⟩:=hf it (by simp);have W:=Walks.range (prog:=X.prog) (w:=X.w) (I.ok.hd.1 hc) it lo 1 n;refine W.item i s _ _ hg st fun v h' tk hv st' kk=>?_;obtain⟨t,rfl⟩:=hv;have I1:Inv X pins σ H { s with heap:=h',toks:=tk }:=I.turned (fun b o hb e=>kk b o (by simpa using hb) e) f0 f1 f3 f4 f5;refine⟨_,rfl,og (s:={ s with heap:=h',toks:=tk }) (n := "range_iterator") st' rfl rfl (by decide) ⟨.int (lo+i),H,I1,⟨t,?_⟩,⟨rfl,rfl⟩,st',fun b hb=>(hf b hb).1⟩⟩;rw[Int.mul_one]
 done:=by
  intro X hP hw hK hc i pins s σ H E I hf st hg;subst hP hw hK;obtain⟨f0,f1,f2,f3,f4,f5⟩:=hf it (by simp)
  exact wpAny_pyNext_range_end (I.ok.hd.1 hc) st (by have:n<=i:=hg;omega) fun h' eb=>⟨rfl,I.turned (t':=s.toks) (fun b o hb e=>eb b o hb e) f0 f1 f3 f4 f5⟩
 self:=fun _ _ _ _ _ st h=>wpAny_pyIter_rangeiter st h
section
variable{X:Cx}{tg:Expr}
def oP{pins:List (Addr × Obj)}{σ:St}{H:Hp}{s:Shared}{R:It->Hp->Prop}{E:Value->Shared->Prop}{lo hi:Int}{t u v:Tok}{tk:Nat}(I:Inv X pins σ H s)(h1:-(2 ^ 62)<=lo)(h2:lo<2 ^ 62)(h3:-(2 ^ 62)<=hi)(h4:hi<2 ^ 62)
 (q:R (Itr lo (hi-lo).toNat) H):wpAny (model X.prog X.w) X.A (pyIter (.ref s.heap.objs.size)) (PIE X pins σ tg R) E { s with heap:=s.heap.push { cls:=.type "range",data:=.fields #[.int lo t,.int hi u,.int 1 v] },toks:=tk }:=by
 refine wpAny_pyIter_range (IsRange.new ..) (small_one h1 h2 h3 h4) ?_;have I1:Inv X pins σ H { s with heap:=s.heap.push { cls:=.type "range",data:=.fields #[.int lo t,.int hi u,.int 1 v] },toks:=tk }:=I.kept fun b o e=>Heap.get?_push_of_some _ e
 refine⟨(s.heap.push { cls:=.type "range",data:=.fields #[.int lo t,.int hi u,.int 1 v] }).objs.size,[(s.heap.push { cls:=.type "range",data:=.fields #[.int lo t,.int hi u,.int 1 v] }).objs.size],_,_,H,rfl,
  I1.kept (t':=tk) fun b o e=>Heap.get?_push_of_some _ e,sY _ lo (hi-lo).toNat,?_,fun b hb=>?_,q⟩
 ·have e1:lo+((0:Nat):Int)*1=lo:=by simp
  have e2:(((hi-lo).toNat:Nat):Int)-((0:Nat):Int)=Builtin.Range.rangeSize lo hi 1:=by rw[rangeSize_one];split<;>omega
  show IsRangeIter _ _ (lo+((0:Nat):Int)*1) ((((hi-lo).toNat:Nat):Int)-((0:Nat):Int)) 1;rw[e1,e2];exact Heap.get?_push_size _ rfl
 ·have e:b=(s.heap.push { cls:=.type "range",data:=.fields #[.int lo t,.int hi u,.int 1 v] }).objs.size:=by simpa using hb
  subst e;exact I1.m7 (Nat.le_refl _) (I1.hok.fresh (Nat.le_refl _))
abbrev Ep(ta:TA):TI:=fun σ H R=>ta σ H fun vs H1=>∃ j:Int,vs=[.int j]/\-(2 ^ 62)<=j/\j<2 ^ 62/\R (Itr 0 j.toNat) H1
abbrev Ej(ta:TA):TI:=fun σ H R=>ta σ H fun vs H1=>∃ i j:Int,vs=[.int i,.int j]/\(-(2 ^ 62)<=i/\i<2 ^ 62/\-(2 ^ 62)<=j/\j<2 ^ 62)/\R (Itr i (j-i).toNat) H1
def uR{a:Expr}{ta:TA}{p pos:Pos}(hg:Gl X "range")(hm:X.mg "range" = none)(ha:PA X [a] ta)(hs:starEach [a] X.env=[(false,eval a X.env)]):PI X tg (.Call (.Name "range" p) [a] [] pos) (Ep ta):=by
 intro pins s σ H R I h;refine Call_ (gd I hg hm boot_range (PyProof.Rows.callWith_type1 (thn (ha pos pins s σ H _ I h) fun us s1 ⟨vs,H1,I1,r1,q1⟩=>?_) hs rfl) (by decide) (by decide));obtain⟨j,e,q1,q2,q⟩:=q1;subst e
 cases r1 with
 |cons r rr=>
  cases rr;obtain⟨t,rfl⟩:=r;exact call_range_1 (oP I1 (by omega) (by omega) q1 q2 (by simpa using q))
def uB(hg:Gl X "range")(hm:X.mg "range" = none)(ha:PA X [a,b] ta)(hs:starEach [a,b] X.env=[(false,eval a X.env),(false,eval b X.env)])(hs2:starEach [b] X.env=[(false,eval b X.env)]) :
  PI X tg (.Call (.Name "range" p) [a,b] [] pos) (Ej ta):=by
 intro pins s σ H R I h;refine Call_ (gd I hg hm boot_range (PyProof.Rows.callWith_type1 (thn (ha pos pins s σ H _ I h) fun us s1 ⟨vs,H1,I1,r1,q1⟩=>?_) (by rw[hs,hs2]) (by rw[hs2];rfl)) (by decide) (by decide));obtain⟨i,j,e,⟨q1,q2,q3,q4⟩,q⟩:=q1;subst e
 cases r1 with
 |cons r rr=>
  cases rr with
  |cons r' rr=>
   cases rr;obtain⟨t,rfl⟩:=r;obtain⟨t',rfl⟩:=r';exact call_range_2 (oP I1 q1 q2 q3 q4 q)
abbrev Ft(wi:TI)(g:TG)(tb:TS):TS:=fun D σ H=>wi σ H fun J H1=>∃ W:Nat->Nat->St->Hp->Prop,(∃ m,W 0 m σ H1)/\∀ i m σ H,W i m σ H ->
 (J.stop i H/\D.nx σ H)\/(J.go i H/\∃ N:St->Hp->Prop,(∀ σ' H',N σ' H'->∃ m',m'<m/\W (i+1) m' σ' H')/\∀ x H',J.yld i H x H'->g x σ H' fun σ2 H2=>tb { D with nx:=N,ct:=N,bk:=D.nx } σ2 H2)
abbrev jh(fp:List Addr)(h:Heap):List (Addr × Obj):=fp.filterMap fun b=>(h.get? b).map fun o=>(b,o)
def fA(hb:b∈fp)(e:h.get? b=some o):(b,o)∈jh fp h:=List.mem_filterMap.mpr ⟨b,hb,by rw[e];rfl⟩
def vH(hp:p∈jh fp h):p.1∈fp/\h.get? p.1=some p.2:=by
 obtain⟨b,hb,e⟩:=List.mem_filterMap.mp hp
 cases q:h.get? b with
 | none=>rw[q]at e;cases e
 |some o=>
  rw[q]at e;have e':(b,o)=p:=Option.some.inj e;subst e';exact⟨hb,q⟩
def Inv.pinned(I:Inv X pins σ H s)(hf:∀ b∈fp,i9 X pins H b)(ho:∀ b∈fp,∃ o,s.heap.get? b=some o/\∀ v,o.data≠.cell v):Inv X (pins++jh fp s.heap) σ H s :=
 I.rk fun p hp=>(List.mem_append.mp hp).elim (fun z=>I.pin p (List.mem_append_right _ z)) fun z=>by
  obtain⟨hb,e⟩:=vH z;obtain⟨f0,f1,f2,_⟩:=hf p.1 hb;obtain⟨o,e',d⟩:=ho p.1 hb;rw[e]at e';cases e';exact⟨e,f0,f1,f2,d⟩
def Inv.ie(I:Inv X (pins++pl) σ H s):Inv X pins σ H s:=I.rk fun p hp=>I.pin p (List.mem_append_right _ (List.mem_append_left _ hp))
def B3(hp:PassesOwn (model X.prog X.w) X.A X.env X.xe)(hc:X.calm=true)(hi:PI X tg iter wi)(hg:PG X tg g)(hb:PSs X body tb)
 (hs:∀ x,foldedSetIterable iter X.env x=pure x):PS X (.For tg iter body [] pos) (Ft wi g tb):=by
 intro pins s σ H D I h;refine wpAny_For (thn (hi pins s σ H _ I h) fun v s1 h1=>thn h1 fun itv s2 h2=>?_) hs;obtain⟨it,fp,tn,J,H2,e,I2,T,st2,f2,W,⟨m0,w0⟩,turn⟩:=h2;subst e
 have stat:∀ {H':Hp},(∀ b∈fp,H' b=none)->∀ b∈fp,i9 X pins H' b:=fun hn b hb=>⟨hn b hb,(f2 b hb).2⟩
 refine codeAny_forLoop_any (fun n s'=>∃ i σ' H',Inv X pins σ' H' s'/\tn i s'.heap/\(∀ b∈fp,H' b=none)/\W i n σ' H') ?_ m0 ⟨0,σ,H2,I2,st2,fun b hb=>(f2 b hb).1,w0⟩;rintro n s3 ⟨i,σ3,H3,I3,st3,fr3,w3⟩
 rcases turn i n σ3 H3 w3 with⟨stop,qn⟩ | ⟨go,N,hN,step⟩
 ·refine wpAny_passesOwn hp (thn (T.done X rfl rfl rfl hc i pins s3 σ3 H3 X.xe I3 (stat fr3) st3 stop) fun r s4 ⟨hr,I4⟩=>?_);subst hr;exact wpAny_execs_nil ⟨σ3,H3,I4,qn⟩
 ·refine wpAny_passesOwn hp (thn (T.item X rfl rfl rfl hc i pins s3 σ3 H3 X.xe I3 (stat fr3) st3 go) fun r s4 ⟨u,hr,h4⟩=>?_);subst hr;refine wpAny_passesOwn hp (thn h4 fun _ s5 ⟨x,H5,I5,r5,y5,st5,fr5⟩=>?_);have I5':=I5.pinned (stat fr5) (T.obj _ _ st5);refine wpAny_passesOwn hp (thn (hg _ s5 σ3 H5 x u _ I5' r5 (step x H5 y5)) fun _ s6 ⟨σ6,H6,I6,q6⟩=>?_);refine wpAny_passesOwn hp (thn (hb _ s6 σ6 H6 _ I6 q6) fun f s7 q7=>?_)
  have again:∀ {σ7:St} {H7:Hp},Inv X (pins++jh fp s5.heap) σ7 H7 s7->N σ7 H7->∃ m,m<n/\∃ i σ' H',Inv X pins σ' H' s7/\tn i s7.heap/\(∀ b∈fp,H' b=none)/\W i m σ' H':=fun {σ7 H7} I7 n7=>by
   obtain⟨m',hm,w7⟩:=hN σ7 H7 n7;refine⟨m',hm,i+1,σ7,H7,I7.ie,T.keep _ _ _ st5 fun b hb o e=>(I7.pin (b,o) (List.mem_append_right _ (List.mem_append_right _ (fA hb e)))).1,fun b hb=>?_,w7⟩;obtain⟨o,e,d⟩:=T.obj _ _ st5 b hb;exact(I7.pin (b,o) (List.mem_append_right _ (List.mem_append_right _ (fA hb e)))).2.1
  cases f with
  | next=>obtain⟨σ7,H7,I7,n7⟩:=q7;exact again I7 n7
  | cont=>obtain⟨σ7,H7,I7,n7⟩:=q7;exact again I7 n7
  | brk=>obtain⟨σ7,H7,I7,q7⟩:=q7;exact⟨σ7,H7,I7.ie,q7⟩
  | ret v=>obtain⟨x7,σ7,H7,I7,r7,q7⟩:=q7;exact⟨x7,σ7,H7,I7.ie,r7,q7⟩
end
@[reducible]noncomputable def R2:=V->V->Hp->VK->Prop
abbrev OpR(X:Cx)(f:Value->Value->Sem Value)(r:R2):Prop :=
 ∀ (pins:List (Addr × Obj)) (s:Shared) (σ:St) (H:Hp) (x y:V) (v u:Value) (Q:VK),Inv X pins σ H s->RelV x v->RelV y u->r x y H Q ->
  wpAny (model X.prog X.w) X.A (f v u) (EP X pins σ Q) X.xe s
abbrev UnR(X:Cx)(f:Value->Sem Value)(r:V->Hp->VK->Prop):Prop :=
 ∀ (pins:List (Addr × Obj)) (s:Shared) (σ:St) (H:Hp) (x:V) (v:Value) (Q:VK),Inv X pins σ H s->RelV x v->r x H Q ->
  wpAny (model X.prog X.w) X.A (f v) (EP X pins σ Q) X.xe s
abbrev bA(X:Cx)(f:Value)(r:List V->Hp->VK->Prop):Prop :=
 ∀ (pins:List (Addr × Obj)) (s:Shared) (σ:St) (H:Hp) (xs:List V) (us:List Value) (Q:VK),Inv X pins σ H s->Vals xs us->r xs H Q ->
  wpAny (model X.prog X.w) X.A (call f us) (EP X pins σ Q) X.xe s
abbrev F0(X:Cx)(r:V->Hp->(Bool->Hp->Prop)->Prop):Prop :=
 ∀ (pins:List (Addr × Obj)) (s:Shared) (σ:St) (H:Hp) (x:V) (v:Value) (Q:Bool->Hp->Prop),Inv X pins σ H s->RelV x v->r x H Q ->
  wpAny (model X.prog X.w) X.A (truthy v) (TP X pins σ Q) X.xe s
abbrev tOp(r:R2)(ta tb:TE):TE:=fun σ H Q=>ta σ H fun x H1=>tb σ H1 fun y H2=>r x y H2 Q
abbrev tUn(r:V->Hp->VK->Prop)(ta:TE):TE:=fun σ H Q=>ta σ H fun x H1=>r x H1 Q
abbrev rI(C:Int->Int->Prop)(g:Int->Int->V):R2:=fun x y H Q=>∃ i j,x=.int i/\y=.int j/\C i j/\Q (g i j) H
abbrev rI0(g:Int->Int->V):R2:=fun x y H Q=>∃ i j,x=.int i/\y=.int j/\Q (g i j) H
abbrev rU(g:Int->V):V->Hp->VK->Prop:=fun x H Q=>∃ i,x=.int i/\Q (g i) H
section
variable{X:Cx}{a b c:Expr}{ta tb tc:TE}{pos:Pos}
def xU(ha:PE X a ta)(hb:PE X b tb){pins:List (Addr × Obj)}{s:Shared}{σ:St}{H:Hp}{R:V->V->Hp->Prop}(I:Inv X pins σ H s)
 (h:ta σ H fun x H1=>tb σ H1 fun y H2=>R x y H2){Q:Value->Shared->Prop}{f:Value->Value->Sem Value}
 (hf:∀ v u s2 x y H2,Inv X pins σ H2 s2->RelV x v->RelV y u->R x y H2->wpAny (model X.prog X.w) X.A (f v u) Q X.xe s2) :
  wpAny (model X.prog X.w) X.A (eval a X.env) (fun v s₁=>wpAny (model X.prog X.w) X.A (eval b X.env) (fun u s₂=>wpAny (model X.prog X.w) X.A (f v u) Q X.xe s₂) X.xe s₁) X.xe s:=by
 refine thn (ha pins s σ H _ I h) fun v s1 ⟨x,H1,I1,r1,q1⟩=>?_;refine thn (hb pins s1 σ H1 _ I1 q1) fun u s2 ⟨y,H2,I2,r2,q2⟩=>?_;exact hf v u s2 x y H2 I2 r1 r2 q2
def za{op:Operator}{r:R2}(ho:OpR X (binaryOp op) r)(ha:PE X a ta)(hb:PE X b tb):PE X (.BinOp a op b pos) (tOp r ta tb):=by
 intro pins s σ H Q I h;exact wpAny_BinOp (xU ha hb I h fun v u s2 x y H2 I2 rx ry q=>ho pins s2 σ H2 x y v u Q I2 rx ry q)
def yF(ho:UnR X (unaryOp op) r)(ha:PE X a ta):PE X (.UnaryOp op a pos) (tUn r ta):=by
 intro pins s σ H Q I h;exact UnaryOp_ (thn (ha pins s σ H _ I h) fun v s1 ⟨x,H1,I1,r1,q1⟩=>ho pins s1 σ H1 x v Q I1 r1 q1)
def opI{f:Value->Value->Sem Value}{C:Int->Int->Prop}{g:Int->Int->Int}
 (rule:∀ (i j:Int) (t u:Tok) (s:Shared) (Q:Value->Shared->Prop) (E:Value->Shared->Prop),C i j->Q (.int (g i j) s.toks) { s with toks:=s.toks+1 }->wpAny (model X.prog X.w) X.A (f (.int i t) (.int j u)) Q E s) :
  OpR X f (rI C fun i j=>.int (g i j)):=by
 intro pins s σ H x y v u Q I rx ry h;obtain⟨i,j,rfl,rfl,hc,q⟩:=h;obtain⟨t,rfl⟩:=rx;obtain⟨t',rfl⟩:=ry;exact rule i j t t' s _ _ hc ⟨.int (g i j),H,I.tok _,⟨_,rfl⟩,q⟩
def B8{f:Value->Value->Sem Value}{g:Int->Int->Int}
 (rule:∀ (i j:Int) (t u:Tok) (s:Shared) (Q:Value->Shared->Prop) (E:Value->Shared->Prop),Q (.int (g i j) s.toks) { s with toks:=s.toks+1 }->wpAny (model X.prog X.w) X.A (f (.int i t) (.int j u)) Q E s) :
  OpR X f (rI0 fun i j=>.int (g i j)):=by
 intro pins s σ H x y v u Q I rx ry h;obtain⟨i,j,rfl,rfl,q⟩:=h;obtain⟨t,rfl⟩:=rx;obtain⟨t',rfl⟩:=ry;exact rule i j t t' s _ _ ⟨.int (g i j),H,I.tok _,⟨_,rfl⟩,q⟩
abbrev Eh(i j:Int):Prop:=0<=j/\j<=1000000/\i.natAbs<2 ^ 64
abbrev sZ(i j:Int):Prop:=(-(2 ^ 64)<i/\i<2 ^ 64)\/(-(2 ^ 64)<j/\j<2 ^ 64)
def sZ.ok(h:sZ i j):IntMulOk i j:=by
 rcases h with⟨h1,h2⟩ | ⟨h1,h2⟩
 ·exact .of_left (intBits_le_64 h1 h2)
 ·exact .of_right (intBits_le_64 h1 h2)
def By:OpR X (binaryOp .Add) (rI0 fun i j=>.int (i+j)):=B8 fun _ _ _ _ _ _ _ q=>add_int q
def Dq:OpR X (binaryOp .Sub) (rI0 fun i j=>.int (i-j)):=B8 fun _ _ _ _ _ _ _ q=>sub_int q
def Bo:OpR X (binaryOp .Mult) (rI sZ fun i j=>.int (i*j)):=opI fun _ _ _ _ _ _ _ hc q=>mul_int q hc.ok
def Bq:OpR X (binaryOp .Mod) (rI (fun _ j=>0<j) fun i j=>.int (i%j)):=opI fun i j _ _ _ _ _ hc q=>by
 have h1:(0:Int)<j:=hc;exact mod_int' (by omega) (by rw[Int.fmod_eq_emod_of_nonneg i (by omega)];exact q)
def CG:OpR X (binaryOp .Pow) (rI Eh fun i j=>.int (i ^ j.toNat)):=opI fun _ _ _ _ _ _ _ hc q=>pow_int_small hc.1 hc.2.1 hc.2.2 q
def unI{f:Value->Sem Value}{g:Int->Int}
 (rule:∀ (i:Int) (t:Tok) (s:Shared) (Q:Value->Shared->Prop) (E:Value->Shared->Prop),Q (.int (g i) s.toks) { s with toks:=s.toks+1 }->wpAny (model X.prog X.w) X.A (f (.int i t)) Q E s) :
  UnR X f (rU fun i=>.int (g i)):=by
 intro pins s σ H x v Q I rx h;obtain⟨i,rfl,q⟩:=h;obtain⟨t,rfl⟩:=rx;exact rule i t s _ _ ⟨.int (g i),H,I.tok _,⟨_,rfl⟩,q⟩
def vd:UnR X (unaryOp .USub) (rU fun i=>.int (-i)):=unI fun _ _ _ _ _ q=>neg_int q
end
abbrev Gd:V->V->Bool
 | .non,.non=>true | .non,.int _=>true | .int _,.non=>true | .non,.bl _=>true | .bl _,.non=>true | .non,.str _=>true | .str _,.non=>true
 | .int _,.int _=>true | .bl _,.bl _=>true | .str _,.str _=>true | .byt _,.byt _=>true
 | .int _,.str _=>true | .str _,.int _=>true | .bl _,.str _=>true | .str _,.bl _=>true
 | _,_=>false
abbrev rNe:R2:=fun x y H Q=>Gd x y=true/\Q (.bl (!decide (x=y))) H
def A9:decide (V.int i=V.int j)=(i == j):=by
 rw[Bool.eq_iff_iff];simp
def DT:decide (V.bl i=V.bl j)=(i == j):=by
 rw[Bool.eq_iff_iff];simp
def zB:decide (V.str i=V.str j)=(i == j):=by
 rw[Bool.eq_iff_iff];simp
def AI:decide (V.byt i=V.byt j)=(i.toList == j.toList):=by
 rw[Bool.eq_iff_iff];cases i;cases j;simp
section
variable{X:Cx}{a b c:Expr}{ta tb tc:TE}{pos:Pos}
def bL(I:Inv X pins σ H s)(q:Q (.bl k) H)(e:k=k'):EP X pins σ Q (.bool k') s:=by
 subst e;exact⟨.bl k,H,I,rfl,q⟩
def EV:OpR X (compareOp .NotEq) rNe:=by
 intro pins s σ H x y v u Q I rx ry h;obtain⟨hs,q⟩:=h
 cases x with
 |non=>
  cases rx
  cases y with
  | non=>cases ry;exact PySem.EqNone.ne_none_none (bL I q (by simp))
  | bl j=>cases ry;exact PySem.EqNone.ne_none_bool (bL I q (by simp))
  | int j=>obtain⟨t',rfl⟩:=ry;exact PySem.EqNone.ne_none_int (bL I q (by simp))
  | str j=>obtain⟨t',rfl⟩:=ry;exact PySem.EqNone.ne_none_str (bL I q (by simp))
  | _=>exact absurd (show false=true from hs) Bool.false_ne_true
 |bl i=>
  cases rx
  cases y with
  | non=>cases ry;exact PySem.EqNone.ne_bool_none (bL I q (by simp))
  | bl j=>cases ry;exact ne_bool (bL I q (congrArg not DT))
  | str j=>obtain⟨t',rfl⟩:=ry;exact PySem.EqMixed.ne_bool_str (bL I q (by simp))
  | _=>exact absurd (show false=true from hs) Bool.false_ne_true
 |int i=>
  obtain⟨t,rfl⟩:=rx
  cases y with
  | non=>cases ry;exact PySem.EqNone.ne_int_none (bL I q (by simp))
  | int j=>obtain⟨t',rfl⟩:=ry;exact ne_int (bL I q (congrArg not A9))
  | str j=>obtain⟨t',rfl⟩:=ry;exact PySem.EqMixed.ne_int_str (bL I q (by simp))
  | _=>exact absurd (show false=true from hs) Bool.false_ne_true
 |str i=>
  obtain⟨t,rfl⟩:=rx
  cases y with
  | non=>cases ry;exact PySem.EqNone.ne_str_none (bL I q (by simp))
  | bl j=>cases ry;exact PySem.EqMixed.ne_str_bool (bL I q (by simp))
  | int j=>obtain⟨t',rfl⟩:=ry;exact PySem.EqMixed.ne_str_int (bL I q (by simp))
  | str j=>obtain⟨t',rfl⟩:=ry;exact ne_str (bL I q (congrArg not zB))
  | _=>exact absurd (show false=true from hs) Bool.false_ne_true
 |byt i=>
  obtain⟨t,rfl⟩:=rx
  cases y with
  | byt j=>obtain⟨t',rfl⟩:=ry;exact PySem.W.ne_bytes (bL I q (congrArg not AI))
  | _=>exact absurd (show false=true from hs) Bool.false_ne_true
 | _=>cases y<;>exact absurd (show false=true from hs) Bool.false_ne_true
def Bf:OpR X (compareOp .Is) (fun x y H Q=>y=.non/\Q (.bl (decide (x=.non))) H):=by
 intro pins s σ H x y v u Q I rx ry h;obtain⟨rfl,q⟩:=h;cases ry;refine is_none_gen (bL I q ?_)
 cases x<;>first
  | (cases rx;rfl)
  | (obtain⟨t,rfl⟩:=rx;rfl)
def Bc:OpR X (compareOp .IsNot) (fun x y H Q=>y=.non/\Q (.bl (!decide (x=.non))) H):=by
 intro pins s σ H x y v u Q I rx ry h;obtain⟨rfl,q⟩:=h;cases ry;refine isnot_none_gen (bL I q ?_)
 cases x<;>first
  | (cases rx;rfl)
  | (obtain⟨t,rfl⟩:=rx;rfl)
def OpR.or(h:OpR X f r)(h':OpR X f r'):OpR X f (fun x y H Q=>r x y H Q\/r' x y H Q):=by
 intro pins s σ H x y v u Q I rx ry q;rcases q with q | q
 ·exact h pins s σ H x y v u Q I rx ry q
 ·exact h' pins s σ H x y v u Q I rx ry q
def qg(b:Expr)(h:op≠.In)(h2:op≠.NotIn):behindInMarks op b=false:=by
 have e1:(op == CmpOp.In)=false:=by cases op<;>first | rfl | exact absurd rfl h
 have e2:(op == CmpOp.NotIn)=false:=by cases op<;>first | rfl | exact absurd rfl h2
 cases b<;>simp[behindInMarks,e1,e2]
def sL{op:CmpOp}{r:R2}(ho:OpR X (compareOp op) r)(ha:PE X a ta)(hb:PE X b tb)(hm:behindInMarks op b=false):PE X (.Compare a [op] [b] pos) (tOp r ta tb):=by
 intro pins s σ H Q I h;exact wpAny_Compare1 (xU ha hb I h fun v u s2 x y H2 I2 rx ry q=>ho pins s2 σ H2 x y v u Q I2 rx ry q) hm
abbrev yO(t:TE):TT:=fun σ H Q=>t σ H fun x H'=>∃ k,x=.bl k/\Q k H'
def me(ho:OpR X (compareOp op) r)(ha:PE X a ta)(hb:PE X b tb)(hm:behindInMarks op b=false):PT X (.Compare a [op] [b] pos) (yO (tOp r ta tb)):=by
 intro pins s σ H Q I h
 refine wpAny_isTrue_Compare1 (thn (ha pins s σ H _ I h) fun v s1 ⟨x,H1,I1,r1,q1⟩=>thn (hb pins s1 σ H1 _ I1 q1) fun u s2 ⟨y,H2,I2,r2,q2⟩ =>
  thn (ho pins s2 σ H2 x y v u _ I2 r1 r2 q2) fun c s3 ⟨z,H3,I3,r3,k,e,q3⟩=>?_) hm
 subst e;cases r3;exact wpAny_truthy_bool ⟨H3,I3,q3⟩
abbrev qa(r r':R2)(ta tb tc:TE):TE:=fun σ H Q=>ta σ H fun x H1=>tb σ H1 fun y H2=>r x y H2 fun z H3=>∃ k,z=.bl k /\
 (if k=true then tc σ H3 fun w' H4=>r' y w' H4 Q else Q (.bl false) H3)
def xr(ho:OpR X (compareOp op) r)(ho':OpR X (compareOp op') r')(ha:PE X a ta)(hb:PE X b tb)(hc:PE X c tc)
 (hm:lastMarks [op,op'] [b,c]=false):PE X (.Compare a [op,op'] [b,c] pos) (qa r r' ta tb tc):=by
 intro pins s σ H Q I h
 refine Compare_chain (thn (ha pins s σ H _ I h) fun v s1 ⟨x,H1,I1,r1,q1⟩=>chain_link (thn (hb pins s1 σ H1 _ I1 q1) fun u s2 ⟨y,H2,I2,r2,q2⟩ =>
  thn (ho pins s2 σ H2 x y v u _ I2 r1 r2 q2) fun d s3 ⟨z,H3,I3,r3,k,e,q3⟩=>?_)) hm
 subst e;cases r3;refine wpAny_truthy_bool ?_
 cases k with
 | false=>exact ite_ff ⟨.bl false,H3,I3,rfl,q3⟩
 | true=>exact ite_tt (chain_last (thn (hc pins s3 σ H3 _ I3 q3) fun w' s4 ⟨z',H4,I4,r4,q4⟩=>ho' pins s4 σ H4 y z' u w' Q I4 r2 r4 q4))
def xF(ho:OpR X (compareOp op) r)(ho':OpR X (compareOp op') r')(ha:PE X a ta)(hb:PE X b tb)(hc:PE X c tc)
 (hm:lastMarks [op,op'] [b,c]=false):PT X (.Compare a [op,op'] [b,c] pos) (yO (qa r r' ta tb tc)):=by
 intro pins s σ H Q I h
 refine isTrue_chain (thn (ha pins s σ H _ I h) fun v s1 ⟨x,H1,I1,r1,q1⟩=>test_link (thn (hb pins s1 σ H1 _ I1 q1) fun u s2 ⟨y,H2,I2,r2,q2⟩ =>
  thn (ho pins s2 σ H2 x y v u _ I2 r1 r2 q2) fun d s3 ⟨z,H3,I3,r3,k,e,q3⟩=>?_)) hm
 subst e;cases r3;refine wpAny_truthy_bool ?_
 cases k with
 |false=>
  obtain⟨k',e',q'⟩:=q3;cases e';exact ite_ff ⟨H3,I3,q'⟩
 |true=>
  refine ite_tt (test_last (thn (hc pins s3 σ H3 _ I3 q3) fun w' s4 ⟨z',H4,I4,r4,q4⟩=>thn (ho' pins s4 σ H4 y z' u w' _ I4 r2 r4 q4) fun d' s5 ⟨z2,H5,I5,r5,k2,e2,q5⟩=>?_));subst e2;cases r5;exact wpAny_truthy_bool ⟨H5,I5,q5⟩
abbrev tZ(K:PySem.W.Frag)(x:V)(H:Hp)(k:Bool):Prop :=
 match x with
 | .non=>k=false
 | .bl b=>k=b
 | .int i=>k=(i != 0)
 | .str y=>y.length<=sizeLine/\k=((y.length:Int) != 0)
 | .byt y=>y.size<=sizeLine/\k=((y.size:Int) != 0)
 | .ref p=>(∃ xs,SqL K H p xs/\k=!xs.isEmpty)\/(∃ xs,SqT K H p xs/\k=!xs.isEmpty)\/∃ kvs,H p=some (.dK kvs)/\k=!kvs.isEmpty
 | _=>False
def uq(r:KV kvs vs):(!vs.isEmpty)=!kvs.isEmpty:=by
 cases r<;>rfl
def lr(r:Vals xs its):(!its.toArray.isEmpty)=!xs.isEmpty:=by
 cases r<;>simp
def gJ:(sizeLine:Nat)<2 ^ 63:=by rw[sizeLine_eq];decide
def uH:F0 X (fun x H Q=>∃ k,tZ X.K x H k/\Q k H):=by
 intro pins s σ H x v Q I rx h;obtain⟨k,e,q⟩:=h;have hl:=gJ;have hs:sizeLine=16777216:=sizeLine_eq
 cases x with
 |non=>
  cases rx;have e':k=false:=e;subst e';exact truthy_none ⟨H,I,q⟩
 |bl b=>
  cases rx;have e':k=b:=e;subst e';exact wpAny_truthy_bool ⟨H,I,q⟩
 |int i=>
  obtain⟨t,rfl⟩:=rx;have e':k=(i != 0):=e;subst e';exact PySem.P.truthy_int ⟨H,I,q⟩
 |str y=>
  obtain⟨t,rfl⟩:=rx;obtain⟨hy,e'⟩:y.length<=sizeLine/\k=((y.length:Int) != 0):=e;subst e';exact PySem.P.truthy_str (by omega) ⟨H,I.tok _,q⟩
 |byt y=>
  obtain⟨t,rfl⟩:=rx;obtain⟨hy,e'⟩:y.size<=sizeLine/\k=((y.size:Int) != 0):=e;subst e';exact PySem.W.truthy_bytes (by omega) ⟨H,I.tok _,q⟩
 |ref p=>
  cases rx;have e':(∃ xs,SqL X.K H p xs/\k=!xs.isEmpty)\/(∃ xs,SqT X.K H p xs/\k=!xs.isEmpty)\/∃ kvs,H p=some (.dK kvs)/\k=!kvs.isEmpty:=e
  rcases e' with⟨xs,hx,e'⟩ | ⟨xs,hx,e'⟩ | ⟨kvs,hx,e'⟩
  ·subst e';obtain⟨its,r,pl,hz⟩:=I.list hx;have hlen:=r.length;exact wpAny_truthy_list pl.isList (by simp only[List.size_toArray];omega) ⟨H,I.tok _,by rw[lr r];exact q⟩
  ·subst e';obtain⟨its,r,pl,hz⟩:=I.tuple hx;have hlen:=r.length;exact truthy_tuple pl (by simp only[List.size_toArray];omega) ⟨H,I.tok _,by rw[lr r];exact q⟩
  ·subst e';obtain⟨hz,hS,vs,r,m⟩:kvs.length<=sizeLine/\(p == sysModules)=false/\∃ vs,KV kvs vs/\s.heap.DictOf (bM X.prog X.w) p vs:=I.hok p _ hx;have hlen:kvs.length=vs.length:=Paired.length r;exact wpAny_truthy_dict hS m (by omega) ⟨H,I.tok _,by rw[uq r];exact q⟩
 | _=>exact(show False from e).elim
def yu(ha:PE X a ta)(he:∀ whole,isTrue a X.env whole=(do let v <- whole;standAt a.pos;holding [v] (truthy v))) :
  PT X a (fun σ H Q=>ta σ H fun x H'=>∃ k,tZ X.K x H' k/\Q k H'):=by
 intro pins s σ H Q I h;exact isTrue_plain (thn (ha pins s σ H _ I h) fun v s1 ⟨x,H1,I1,r1,q1⟩=>uH pins s1 σ H1 x v Q I1 r1 q1) (he _)
def t5:OpR X (binaryOp .Add) (fun x y H Q=>∃ i j,x=.str i/\y=.str j/\i.length+j.length<=sizeLine/\Q (.str (i++j)) H):=by
 intro pins s σ H x y v u Q I rx ry h;obtain⟨i,j,rfl,rfl,hz,q⟩:=h;obtain⟨t,rfl⟩:=rx;obtain⟨t',rfl⟩:=ry;exact add_str (fun t' tk=>⟨.str (i++j),H,I.tok _,⟨_,rfl⟩,q⟩) hz
def vals1(r:Vals [x] us):∃ u,us=[u]/\RelV x u:=by
 cases r with
 | cons r1 r2=>cases r2;exact⟨_,rfl,r1⟩
def vals2(r:Vals [x,y] us):∃ u w',us=[u,w']/\RelV x u/\RelV y w':=by
 cases r with
 |cons r1 r2=>
  cases r2 with
  | cons r3 r4=>cases r4;exact⟨_,_,rfl,r1,r3⟩
def uZ(hc:X.calm=true):bA X (.builtin "min") (fun xs H Q=>∃ i j,xs=[.int i,.int j]/\Q (.int (if j<i then j else i)) H):=by
 intro pins s σ H xs us Q I r h;obtain⟨i,j,rfl,q⟩:=h;obtain⟨u,w',rfl,⟨t,rfl⟩,⟨t',rfl⟩⟩:=vals2 r
 refine min_two_ints (I.ok.hd.1 hc) fun h' tk k=>⟨_,H,I.kept k,?_,q⟩
 by_cases hj:j<i
 ·rw[if_pos hj,if_pos hj];exact⟨_,rfl⟩
 ·rw[if_neg hj,if_neg hj];exact⟨_,rfl⟩
abbrev Dk(K:PySem.W.Frag)(x:V)(H:Hp)(n:Nat):Prop :=
 match x with
 | .str y=>y.length<=sizeLine/\n=y.length
 | .byt y=>y.size<=sizeLine/\n=y.size
 | .ref p=>(∃ xs,SqL K H p xs/\n=xs.length)\/∃ xs,SqT K H p xs/\n=xs.length
 | _=>False
def yt:bA X (.builtin "len") (fun xs H Q=>∃ x n,xs=[x]/\Dk X.K x H n/\Q (.int n) H):=by
 intro pins s σ H xs us Q I r h;obtain⟨x,n,rfl,e,q⟩:=h;obtain⟨u,rfl,rx⟩:=vals1 r;have hl:=gJ;have hs:sizeLine=16777216:=sizeLine_eq
 cases x with
 |str y=>
  obtain⟨t,rfl⟩:=rx;obtain⟨hy,e'⟩:y.length<=sizeLine/\n=y.length:=e;subst e';exact len_str (by omega) ⟨.int _,H,I.tok _,⟨_,rfl⟩,q⟩
 |byt y=>
  obtain⟨t,rfl⟩:=rx;obtain⟨hy,e'⟩:y.size<=sizeLine/\n=y.size:=e;subst e';exact PySem.W.len_bytes (by omega) ⟨.int _,H,I.tok _,⟨_,rfl⟩,q⟩
 |ref p=>
  cases rx;have e':(∃ xs,SqL X.K H p xs/\n=xs.length)\/∃ xs,SqT X.K H p xs/\n=xs.length:=e
  rcases e' with⟨xs,hx,e'⟩ | ⟨xs,hx,e'⟩
  ·subst e';obtain⟨its,r',pl,hz⟩:=I.list hx;have hlen:=r'.length;exact Calls.call_len_list pl.isList (by simp only[List.size_toArray];omega) ⟨.int xs.length,H,I.tok _,⟨_,by simp only[List.size_toArray];rw[hlen]⟩,q⟩
  ·subst e';obtain⟨its,r',pl,hz⟩:=I.tuple hx;have hlen:=r'.length;exact len_tuple pl (by simp only[List.size_toArray];omega) ⟨.int xs.length,H,I.tok _,⟨_,by simp only[List.size_toArray];rw[hlen]⟩,q⟩
 | _=>exact(show False from e).elim
end
structure xh(h:Heap)(x dx C:Addr)(mA:Str->Option Value):Prop where
 obj:h.get? x=some (PySem.W.instObj C dx)
 ns:h.Ns1 dx mA
 ne:dx≠x
def w6{h:Heap}(n:h.Ns1 dx mA):∃ od,h.get? dx=some od/\∀ name,PySem.W.lookIn name od=some (mA name):=by
 obtain⟨o,es,ep,ho,hd,hk,_,hm⟩:=n;refine⟨o,ho,fun name=>?_⟩;have e:=hm name;unfold nsFind findBy at e;rw[<-Array.find?_toList]at e;unfold PySem.W.lookIn;rw[hd];dsimp only;split
 ·rename_i y q;rw[q]at e;exact congrArg some e
 ·rename_i q;rw[q]at e
  have a:es.toList.any (·.refKey)=false:=by
   rw[List.any_eq_false];intro y hy;obtain⟨z,t,hkey⟩:=hk y (Array.mem_toList_iff.mp hy);simp[DictEntry.refKey,hkey]
  have a':¬ es.toList.any (·.refKey)=true:=by rw[a];exact Bool.false_ne_true
  rw[if_neg a'];exact congrArg some e
def xh.look(I:xh h x dx C mA):∃ od,PySem.W.InstAt h x (PySem.W.instObj C dx) C (some od)/\∀ name,PySem.W.lookIn name od=some (mA name) :=
 let ⟨od,ho,hl⟩:=w6 I.ns
 ⟨od,⟨I.obj,rfl,rfl,ho⟩,hl⟩
section
variable{prog:Program}{w:World}{A:Around}{E:Value->Shared->Prop}{s:Shared}{K:PySem.W.Frag}{x dx C f:Addr}{mA:Str->Option Value}{name:Str}{v:Value}
end
section
variable{P:Program}{w:World}{H H':Hp}{h h':Heap}{a C dx:Addr}{fs fs':List (Str × V)}
def AW(hok:HOk P w H h)(e:H a=some (.ins C dx fs)):∃ mA,xh h a dx C mA/\(∀ f,mm (fs.lookup f) (mA f))/\PySem.Within mA (fs.map (·.1))/\fs.length<=1000/\H dx=some (.own a):=by
 obtain⟨d,z,ne,ob,mA,n,r,q⟩:=(show aX P w H h a (.ins C dx fs)from hok a _ e)
 exact⟨mA,⟨ob,n,ne⟩,r,q,z,d⟩
end
structure Cls(K:PySem.W.Frag)(C:Addr):Prop where
 pg:PySem.W.plainGet K C Str.empty=true
 hd:PySem.W.hasDictIn K C=true
 po:PySem.W.plainOver K C=true
 sa:PySem.W.findIn K (.ref C) "__setattr__" = some (some (.builtin "object.__setattr__"))
def Cls.get{K:PySem.W.Frag}(c:Cls K C)(f:Str):PySem.W.plainGet K C f=true:=c.pg
section
variable{X:Cx}{pins:List (Addr × Obj)}{σ:St}{H:Hp}{s:Shared}{a C dx:Addr}{fs:List (Str × V)}{f:Str}{v:V}{A:Around}{E:Value->Shared->Prop}
end
section
variable{X:Cx}{o e value:Expr}{f:Str}{pos pos' tpos:Pos}{ta tv:TE}
end
section
variable{X:Cx}{pins:List (Addr × Obj)}{σ:St}{H:Hp}{s:Shared}{A:Around}{E:Value->Shared->Prop}{Q:Value->Shared->Prop}{c:Value}{b:Bool}
inductive eB (K:PySem.W.Frag) (H:Hp):V->Value->Prop where
 | non:eB K H .non (.type "NoneType")
 | bl (x:Bool):eB K H (.bl x) (.type "bool")
 | int (i:Int):eB K H (.int i) (.type "int")
 | str (x:Str):eB K H (.str x) (.type "str")
 | flt (x:UInt64):eB K H (.flt x) (.type "float")
 | lst {a:Addr} {xs:List V} (e:H a=some (.lst xs)):eB K H (.ref a) (.type "list")
 | frz {a:Addr} {o:Obj} {xs:List V} (e:H a=some (.frz o (.lst xs))):eB K H (.ref a) (.type "list")
 | tup {a:Addr} {xs:List V} (e:H a=some (.tup xs)):eB K H (.ref a) (.type "tuple")
 | dK {a:Addr} {kvs:List (Key × V)} (e:H a=some (.dK kvs)):eB K H (.ref a) (.type "dict")
 | dT {a:Addr} {kvs:List (List Key × V)} (e:H a=some (.dT kvs)):eB K H (.ref a) (.type "dict")
 | ins {a C dx:Addr} {fs:List (Str × V)} (e:H a=some (.ins C dx fs)) (cl:Cls K C) (ha:PySem.W.findIn K (.ref C) "__class__" = some (some (.builtin "object.__class__")))
   (hn:PySem.W.specialIn K (.builtin "object.__class__") "__get__" = some (some (.builtin "getset_descriptor.__get__"))) (htk:PySem.W.takesIn K (.builtin "object.__class__")=some true)
   (hm:PySem.W.mroIn K C (.type "object")=some true):eB K H (.ref a) (.ref C)
def vD(I:Inv X pins σ H s)(rx:RelV x u)(ty:eB X.K H x t)(e:PySem.W.kitOne X.K t c=some b)(h:∀ tk,Q (.bool b) { s with toks:=tk }) :
  wpAny (model X.prog X.w) A (call (.builtin "isinstance") [u,c]) Q E s:=by
 cases ty with
 | non=>cases(show u=Value.none from rx);exact PySem.W.kia_one PySem.W.kitx_none I.kIn True.intro e (fun z=>nomatch z) h
 | bl y=>cases(show u=Value.bool y from rx);exact PySem.W.kia_one PySem.W.kitx_bool I.kIn True.intro e (fun z=>nomatch z) h
 | int i=>obtain⟨t,q⟩:=(show ∃ t,u=Value.int i t from rx);cases q;exact PySem.W.kia_one PySem.W.kitx_int I.kIn True.intro e (fun z=>nomatch z) h
 | str y=>obtain⟨t,q⟩:=(show ∃ t,u=Value.str y t from rx);cases q;exact PySem.W.kia_one PySem.W.kitx_str I.kIn True.intro e (fun z=>nomatch z) h
 | flt y=>obtain⟨t,q⟩:=(show ∃ t,u=Value.float y t from rx);cases q;exact PySem.W.kia_one PySem.W.kitx_float I.kIn True.intro e (fun z=>nomatch z) h
 |@lst a xs ea=>
  cases(show u=Value.ref a from rx)
  obtain⟨_,_,n,_,h1⟩:=(show aX X.prog X.w H s.heap a (.lst xs)from I.hok a _ ea)
  exact PySem.W.kia_one PySem.W.kitx_list I.kIn ⟨_,h1,rfl⟩ e (fun z=>nomatch z) h
 |@frz a ob xs ea=>
  cases(show u=Value.ref a from rx)
  obtain⟨_,_,_,n,_,h1⟩:=(show aX X.prog X.w H s.heap a (.frz ob (.lst xs))from I.hok a _ ea)
  exact PySem.W.kia_one PySem.W.kitx_list I.kIn ⟨_,h1,rfl⟩ e (fun z=>nomatch z) h
 |@tup a xs ea=>
  cases(show u=Value.ref a from rx)
  obtain⟨_,_,_,p⟩:=(show aX X.prog X.w H s.heap a (.tup xs)from I.hok a _ ea)
  obtain⟨o,h1,h2,_⟩:=p;exact PySem.W.kia_one PySem.W.kitx_tuple I.kIn ⟨o,h1,h2⟩ e (fun z=>nomatch z) h
 |@dK a kvs ea=>
  cases(show u=Value.ref a from rx)
  obtain⟨_,_,vs,_,p⟩:=(show aX X.prog X.w H s.heap a (.dK kvs)from I.hok a _ ea)
  obtain⟨o,es,ep,h1,h2,_⟩:=p;exact PySem.W.kia_one PySem.W.kitx_dict I.kIn ⟨o,h1,h2.1⟩ e (fun z=>nomatch z) h
 |@dT a kvs ea=>
  cases(show u=Value.ref a from rx)
  obtain⟨_,_,xs,_,o,es,ep,h1,h2,_⟩:=(show aX X.prog X.w H s.heap a (.dT kvs)from I.hok a _ ea)
  exact PySem.W.kia_one PySem.W.kitx_dict I.kIn ⟨o,h1,h2.1⟩ e (fun z=>nomatch z) h
 |@ins a C dx fs ea cl ha hn htk hm=>
  cases(show u=Value.ref a from rx);obtain⟨mA,O,_⟩:=AW I.hok ea;obtain⟨od,J,_⟩:=O.look;exact PySem.W.kia_one (PySem.W.kitx_own (cl.get _) cl.hd ha hn htk hm) I.kIn J e (fun z=>nomatch z) h
end
structure dN(k:Nat)(A:Around):Prop where
 hd:A.handled=none
 dp:A.depth+3*k+5<recursionLimit
 un:A.units+16*k+200<cLine
def dN.deeper(r:dN (k+1) A)(env:Env):dN k (A.deeper env) :=
 ⟨r.hd,by have:=r.dp;show A.depth+1+3*k+5<_;omega,by have:=r.un;show A.units+3+16*k+200<_;omega⟩
def dN.depth(r:dN k A):A.depth<recursionLimit:=by have:=r.dp;omega
abbrev uj:TA:=fun _ H Q=>Q [] H
abbrev kA(ta:TE)(tr:TA):TA:=fun σ H Q=>ta σ H fun x H1=>tr σ H1 fun xs H2=>Q (x::xs) H2
section
variable{X:Cx}{e:Expr}{es:List Expr}{te:TE}{t:TA}{pos:Pos}
def eu:PA X [] uj:=fun _ _ _ _ H Q I h=>Calls.spliced_nil ⟨[],H,I,.nil,h⟩
def bV(ha:PE X e te)(hr:PA X es t)(hs:starEach (e::es) X.env=(false,eval e X.env)::starEach es X.env):PA X (e::es) (kA te t):=by
 intro pos pins s σ H Q I h;rw[hs];show wpAny _ _ (spliced ((false,eval e X.env)::backTo pos (starEach es X.env))) _ _ s;refine Calls.spliced_cons (thn (ha pins s σ H _ I h) fun u s1 ⟨x,H1,I1,r1,q1⟩=>?_)
 exact thn (hr pos pins s1 σ H1 _ I1 q1) fun us s2 ⟨xs,H2,I2,r2,q2⟩=>⟨x::xs,H2,I2,.cons r1 r2,q2⟩
abbrev FV(t:TA):TE:=fun σ H Q=>t σ H fun xs H1=>xs.length<=sizeLine/\∀ p,H1 p=none->Q (.ref p) (upd H1 p (.tup xs))
abbrev Gh(t:TA):TE:=fun σ H Q=>t σ H fun xs H1=>xs.length<=sizeLine/\∀ p,H1 p=none->Q (.ref p) (upd H1 p (.lst xs))
def DV(h:PA X es t):PE X (.Tuple es x1 pos) (FV t):=by
 intro pins s σ H Q I hq;refine wpAny_Tuple_spliced (thn (h pos pins s σ H _ I hq) fun us s1 ⟨xs,H1,I1,r,z,q⟩=>⟨by rw[<-r.length];exact z,?_⟩);have hf:H1 s1.heap.objs.size=none:=I1.hok.fresh (Nat.le_refl _);refine⟨.ref s1.heap.objs.size,upd H1 s1.heap.objs.size (.tup xs),I1.laid (t':=s1.toks) (fun b u e=>Heap.get?_push_of_some _ e) (Nat.le_refl _) ?_,rfl,q _ hf⟩;exact⟨z,us,r,⟨_,Heap.get?_push_size _ rfl,rfl,_,rfl⟩⟩
def B7(h:PA X es t):PE X (.List es pos) (Gh t):=by
 intro pins s σ H Q I hq;refine wpAny_List_spliced (thn (h pos pins s σ H _ I hq) fun us s1 ⟨xs,H1,I1,r,z,q⟩=>⟨by rw[<-r.length];exact z,?_⟩);have hf:H1 s1.heap.objs.size=none:=I1.hok.fresh (Nat.le_refl _);refine⟨.ref s1.heap.objs.size,upd H1 s1.heap.objs.size (.lst xs),I1.laid (t':=s1.toks) (fun b u e=>Heap.get?_push_of_some _ e) (Nat.le_refl _) ?_,rfl,q _ hf⟩;exact⟨z,us,0,r,Heap.get?_push_size _ rfl⟩
end
@[reducible]noncomputable def Sp:=List V->Hp->VK->XK->Prop
@[reducible]noncomputable def CXT:=List Env->Hp->Shared->XK->Value->Shared->Prop
structure uc(P:Program)(w:World)(K:PySem.W.Frag)(mg:Str->Option Value)(base:Heap)(A:Around)(outer:List Env)(s:Shared)(H:Hp):Prop where
 frames:A.frames=some outer
 mod:Mod K mg base
 bs:∀ b o,base.get? b=some o->s.heap.get? b=some o/\H b=none
 bsz:base.objs.size<=s.heap.objs.size
 gc:s.heap.FunFrames base outer
 frf:∀ b∈frs outer,H b=none
 hok:HOk P w H s.heap
 bare:AllBare s.gens
abbrev CE(outer:List Env)(P:Program)(w:World)(H:Hp)(s:Shared)(Q:VK)(u:Value)(s':Shared):Prop :=
 ∃ v H',s'.os=s.os/\AllBare s'.gens/\Un (frs outer) [] H H' s.heap s'.heap/\HOk P w H' s'.heap/\RelV v u/\Q v H'
abbrev CR(CX:CXT)(outer:List Env)(P:Program)(w:World)(H:Hp)(s:Shared)(Q:VK)(E:XK)(r:Result)(s':Shared):Prop :=
 match r with
 | .ok (.ret u)=>CE outer P w H s Q u s'
 | .ok _=>False
 | .error e=>CX outer H s E e s'
structure gG(P:Program)(w:World)(K:PySem.W.Frag)(mg:Str->Option Value)(base:Heap)(CX:CXT)(k:Nat)(f:Addr)(fd:FuncData)(ps:List Str)(sp:Sp):Prop where
 len:∀ vs H Q E,sp vs H Q E->vs.length=ps.length
 run:∀ (A:Around) (outer:List Env) (s:Shared) (H:Hp) (args:Args) (us:List Value) (vs:List V) (Q:VK) (E:XK),dN k A->uc P w K mg base A outer s H->BindsTo s fd args (ps.zip us)->Vals vs us->sp vs H Q E ->
  codeAny (model P w) A (.call (.ref f) args) (CR CX outer P w H s Q E) s
section
variable{X:Cx}{pins:List (Addr × Obj)}{σ:St}{H:Hp}{s s':Shared}
def Inv.Fq(I:Inv X pins σ H s):uc X.prog X.w X.K X.mg X.base X.A X.stack s H :=
 ⟨I.ok.frames,I.ok.mod,I.bs,Nat.le_trans I.ok.bsz I.sz,I.stack,I.qR,I.hok,I.bare⟩
def Inv.after(I:Inv X pins σ H s)(h:CE X.stack X.prog X.w H s Q u s'):EP X pins σ Q u s':=by
 obtain⟨v,H',os,bare,un,hok,r,q⟩:=h;obtain⟨hh,g,d,t,os'⟩:=s';obtain rfl:os'=s.os:=os;exact⟨v,H',I.call (h':=hh) (g':=g) (d':=d) (t':=t) (ch:=[]) un hok bare (fun b z=>absurd z (by simp)),r,q⟩
end
abbrev lA(sp:Sp)(dvs:List V)(E:XK)(t:TA):TE:=fun σ H Q=>t σ H fun vs H1=>sp (vs++dvs) H1 Q E
abbrev Binds(K:PySem.W.Frag)(fd:FuncData)(ps:List Str)(ds:List Value):Prop :=
 ∀ (s:Shared) (us:List Value),K.In s.heap->(us++ds).length=ps.length->BindsTo s fd ⟨us,[]⟩ (ps.zip (us++ds))
def Binds.all{K:PySem.W.Frag}(h:∀ us:List Value,us.length=ps.length->bindArgs fd ⟨us,[]⟩=pure (ps.zip us)):Binds K fd ps []:=fun s us _ hl=>by
 rw[List.append_nil]at hl ⊢;exact .of_eq (h us hl)
abbrev Passes(CX:CXT)(X:Cx)(E:XK):Prop:=∀ (pins:List (Addr × Obj)) (σ:St) (H:Hp) (s:Shared) (e:Value) (s':Shared),Inv X pins σ H s->CX X.stack H s E e s'->X.xe e s'
section
variable{X:Cx}{CX:CXT}{k:Nat}{f C:Addr}{fd:FuncData}{ps:List Str}{sp:Sp}{dvs:List V}{ds:List Value}{E:XK}{x m:Str}{p pos apos:Pos}{e o:Expr}{es:List Expr}{ta:TE}{t:TA}
def C3(F:gG X.prog X.w X.K X.mg X.base CX k f fd ps sp)(hr:dN k X.A)(hb:Binds X.K fd ps ds)(hd:Vals dvs ds)(hx:Passes CX X E)
 (I:Inv X pins σ H s)(r:Vals vs us)(h:sp (vs++dvs) H Q E):wpAny (model X.prog X.w) X.A (call (.ref f) us) (EP X pins σ Q) X.xe s:=by
 have r2:Vals (vs++dvs) (us++ds):=r.append hd
 have hl:(us++ds).length=ps.length:=by rw[<-r2.length];exact F.len _ _ _ _ h
 refine wpAny_call (codeAny_mono (F.run X.A X.stack s H ⟨us,[]⟩ (us++ds) (vs++dvs) Q E hr I.Fq (hb s us I.kIn hl) r2 h) fun r s' hq=>?_)
 cases r with
 | error e=>exact hx pins σ H s e s' I hq
 |ok fl=>
  cases fl with
  | ret u=>exact I.after hq
  | next=>exact False.elim hq
  | brk=>exact False.elim hq
  | cont=>exact False.elim hq
def sh(F:gG X.prog X.w X.K X.mg X.base CX k f fd ps sp)(hr:dN k X.A)(hg:Gl X x)(hm:X.mg x=some (.ref f))(hk:PySem.W.keepIn X.K (.ref f)=true)(hb:Binds X.K fd ps ds)(hd:Vals dvs ds)(hx:Passes CX X E)
 (ha:PA X (e::es) t)(hdb:(x == ("__debug__" : Str))=false)(he:starEach (e::es) X.env=(false,eval e X.env)::starEach es X.env)(hpl:(backTo pos (starEach es X.env)).any (·.1)=false) :
  PE X (.Call (.Name x p) (e::es) [] pos) (lA sp dvs E t):=by
 intro pins s σ H Q I h;refine wpAny_Call_Name_kw (rT I hg hm ?_ hdb);refine PySem.W.callWith_K (h₀:=X.base) I.ok.mod.kin hk (thn (ha pos pins s σ H _ I h) fun us s1 ⟨vs,H1,I1,r,q⟩=>⟨I1.kIn,?_⟩) he hpl;exact C3 F hr hb hd hx I1 r q
end
section
variable{X:Cx}{CX:CXT}{k:Nat}{f C:Addr}{fd:FuncData}{ps ks:List Str}{sp:Sp}{E:XK}{x m:Str}{p pos apos kpos:Pos}{e o:Expr}{es:List Expr}{kws:List Keyword}{te ta:TE}{t tk:TA}{nm:Option Str}
variable{g:List Value->List Value->List Value}{gV:List V->List V->List V}
end
structure j8(N P:List Str)(sc:Scope):Prop where
 kind:sc.kind=.function
 co:sc.isCoroutine=false
 gen:sc.isGenerator=false
 nd:N.Nodup
 pre:N.take P.length=P
 par:∀ x∈P,sc.names.lookup x=some .local\/sc.names.lookup x=some .cell
 DL:∀ y∈sc.names,y.2≠.free
def mP{kindOf:Str->Option NameKind}:∀ {binds:List (Str × Value)} {m:Str->Option Value},(∀ v,(x,v)∉binds)->bindL kindOf binds m x=m x
 | [],_,_=>rfl
 | (n,v)::r,m,h=>by
  unfold bindL;rw[mP fun w hw=>h w (List.mem_cons_of_mem _ hw)];split
  ·have:x≠n:=by rintro rfl;exact h v List.mem_cons_self
   simp[this]
  ·rfl
def nc{kindOf:Str->Option NameKind}:∀ {binds:List (Str × Value)} {m:Str->Option Value},(∀ v,(x,v)∉binds)->bindC kindOf binds m x=m x
 | [],_,_=>rfl
 | (n,v)::r,m,h=>by
  unfold bindC;rw[nc fun w hw=>h w (List.mem_cons_of_mem _ hw)];split
  ·rfl
  ·have:x≠n:=by rintro rfl;exact h v List.mem_cons_self
   simp[this]
def mR{kindOf:Str->Option NameKind}:∀ {P:List Str} {vs:List Value} {i:Nat} {m:Str->Option Value},P.Nodup->P[i]?=some x->vs[i]?=some v->kindOf x=some .local ->
  bindL kindOf (P.zip vs) m x=some v
 | [],_,_,_,_,h,_,_=>by simp at h
 | _::_,[],_,_,_,_,h,_=>by simp at h
 | p::P,w::vs,0,m,nd,h1,h2,hk=>by
  simp at h1 h2;subst h1;subst h2;show bindL kindOf ((p,w)::P.zip vs) m p=_;unfold bindL;rw[mP fun v hv=>(List.nodup_cons.mp nd).1 (List.of_mem_zip hv).1,if_pos hk];simp
 | p::P,w::vs,i+1,m,nd,h1,h2,hk=>by
  show bindL kindOf ((p,w)::P.zip vs) m x=_;unfold bindL;exact mR (i:=i) (List.nodup_cons.mp nd).2 (by simpa using h1) (by simpa using h2) hk
def nk{kindOf:Str->Option NameKind}:∀ {P:List Str} {vs:List Value} {i:Nat} {m:Str->Option Value},P.Nodup->P[i]?=some x->vs[i]?=some v->kindOf x≠some .local ->
  bindC kindOf (P.zip vs) m x=some v
 | [],_,_,_,_,h,_,_=>by simp at h
 | _::_,[],_,_,_,_,h,_=>by simp at h
 | p::P,w::vs,0,m,nd,h1,h2,hk=>by
  simp at h1 h2;subst h1;subst h2;show bindC kindOf ((p,w)::P.zip vs) m p=_;unfold bindC;rw[nc fun v hv=>(List.nodup_cons.mp nd).1 (List.of_mem_zip hv).1,if_neg hk];simp
 | p::P,w::vs,i+1,m,nd,h1,h2,hk=>by
  show bindC kindOf ((p,w)::P.zip vs) m x=_;unfold bindC;exact nk (i:=i) (List.nodup_cons.mp nd).2 (by simpa using h1) (by simpa using h2) hk
abbrev start(N:List Str)(vs:List V):St:=vs.map some++List.replicate (N.length-vs.length) none
abbrev k8(CX:CXT)(P:Program)(w:World)(K:PySem.W.Frag)(mg:Str->Option Value)(base:Heap)(N:List Str)(qual:Str)(scope:Scope)(f:Addr)(cd:Value)(A:Around)(outer:List Env)(s:Shared)(H:Hp)(E:XK):Cx where
 prog:=P
 w:=w
 K:=K
 mg:=mg
 base:=base
 A:=A.deeper (envOfC qual scope s.heap.objs.size f cd)
 N:=N
 s₀:=s
 H₀:=H
 env:=envOfC qual scope s.heap.objs.size f cd
 outer:=outer
 stack:=envOfC qual scope s.heap.objs.size f cd::outer
 ex:=[]
 calm:=true
 fn:=fun _=>true
 pn:=[]
 xe:=fun e s'=>wpAny (model P w) (A.deeper (envOfC qual scope s.heap.objs.size f cd)) (leaving (envOfC qual scope s.heap.objs.size f cd) e) (fun _ s''=>CX outer H s E e s'') (fun e' s''=>CX outer H s E e' s'') s'
def pd{sc:Scope}(h:sc.names.lookup x=some .cell):∃ c,(cellsFrom n sc.names []).lookup x=some c:=by
 have q:=PySem.W.cellsFrom_some sc.names n [] (.inl h);exact Option.isSome_iff_exists.mp q
def wB{CX:CXT}{P:Program}{w:World}{K:PySem.W.Frag}{mg:Str->Option Value}{base:Heap}{N ps:List Str}{qual:Str}{scope:Scope}{f:Addr}{cd:Value}{A:Around}{outer:List Env}{s s1:Shared}{H:Hp}{E:XK}{us:List Value}{vs:List V}
 (S:j8 N ps scope)(hd:A.handled=none)(e0:uc P w K mg base A outer s H)(hl:vs.length=ps.length)(r:Vals vs us)
 (x:InCallC s s.heap.objs.size (bindL (envOfC qual scope s.heap.objs.size f cd).kindOf (ps.zip us) fun _=>none) (cellsFrom (s.heap.objs.size+1) scope.names []) (bindC (envOfC qual scope s.heap.objs.size f cd).kindOf (ps.zip us) fun _=>none) s1) :
  Inv (k8 CX P w K mg base N qual scope f cd A outer s H E) [] (start N vs) H s1:=by
 have hpl:ps.length<=N.length:=by have:=congrArg List.length S.pre;rw[List.length_take]at this;omega
 obtain⟨h1,tk,rfl,hk⟩:=x.done;have noA:∀ b:Addr,b∉(k8 CX P w K mg base N qual scope f cd A outer s H E).ex:=fun b z=>absurd (show b∈([]:List Addr)from z) (by simp)
 refine⟨⟨e0.mod,S.kind,rfl,rfl,Nat.le_refl _,fun y z c h1 h2=>?_,fun y hy=>?_,fun y c _ h=>?_,⟨fun _=>hd,.inl hd⟩,Around.frames_deeper e0.frames,.inr ⟨rfl,rfl⟩,fun b z=>absurd z (noA b),e0.bs,e0.bsz,fun b _ _=>noA b,fun b z=>absurd z (noA b),e0.gc,e0.frf⟩,
  rfl,e0.bare,Un.kept hk,⟨_,x.toInCall.ns,fun i y v h1 h2 h3=>?_⟩,fun y c h=>⟨_,x.cell y c h⟩,e0.hok.fresh (Nat.le_refl _),fun y c h=>?_,fun p hp=>absurd (show p∈([]:List (Addr × Obj))from hp) (by simp),e0.hok.kept hk,?_⟩
 ·exact name_of_addr x.apart (PySem.mem_of_lookup h1) (PySem.mem_of_lookup h2)
 ·have hy:scope.names.lookup y=some .cell\/scope.names.lookup y=some .free:=hy;rcases hy with hy | hy
  ·exact pd hy
  ·exact absurd rfl (S.DL _ (PySem.mem_of_lookup hy))
 ·exact Nat.le_of_lt (x.above y c (PySem.mem_of_lookup h))
 ·have hi:i<vs.length:=by
   unfold start at h2;by_cases hi:i<vs.length
   ·exact hi
   ·rw[List.getElem?_append_right (by simpa using hi)]at h2;rw[List.getElem?_replicate]at h2;split at h2<;>cases h2
  have ha:vs[i]?=some v:=by
   unfold start at h2;rw[List.getElem?_append_left (by simpa using hi),List.getElem?_map]at h2
   cases e:vs[i]? with
   | none=>rw[e]at h2;cases h2
   | some a=>rw[e]at h2;cases h2;rfl
  obtain⟨u,hu,rv⟩:=r.get ha
  have hp:ps[i]?=some y:=by
   rw[<-S.pre,List.getElem?_take_of_lt (by omega)];exact h1
  have ndP:ps.Nodup:=by rw[<-S.pre];exact S.nd.sublist (List.take_sublist _ _)
  refine⟨u,rv,?_⟩;rcases S.par y (List.mem_of_getElem? hp)with k | k
  ·exact .inl ⟨k,mR ndP hp hu k⟩
  ·obtain⟨c,e⟩:=pd (n:=s.heap.objs.size+1) k;refine .inr ⟨.inl k,c,e,?_⟩;have q:=x.cell y c e;rw[nk ndP hp hu (by show scope.names.lookup y≠_;rw[k];decide)]at q;exact q
 ·exact e0.hok.fresh (Nat.le_of_lt (x.above y c (PySem.mem_of_lookup h)))
 ·unfold start;show _=N.length;rw[List.length_append,List.length_map,List.length_replicate];omega
def EL{CX:CXT}{P:Program}{w:World}{K:PySem.W.Frag}{mg:Str->Option Value}{base:Heap}{k:Nat}{f:Addr}{name qual:Str}{params:Arguments}{body:List Stmt}{scope:Scope}{dV kV doc pm cdv ct oc:Value}{an od:Option Addr}
 {osl:Array (Option Value)}{N ps:List Str}{sp:Sp}(lk:K.lookup f=some ⟨oc,od,.func (PySem.W.fnOf name qual params body scope dV kV doc pm an cdv ct),osl⟩)(hcd:PySem.W.codeIn K cdv qual=true)(S:j8 N ps scope)
 (len:∀ vs H Q E,sp vs H Q E->vs.length=ps.length)
 (hbody:∀ (A:Around) (outer:List Env) (s:Shared) (H:Hp) (vs:List V) (Q:VK) (E:XK),dN k (A.deeper (envOfC qual scope s.heap.objs.size f cdv))->sp vs H Q E ->
   ∃ t,PSs (k8 CX P w K mg base N qual scope f cdv A outer s H E) body t/\t { nx:=fun _ H'=>Q .non H',rt:=Q } (start N vs) H) :
  gG P w K mg base CX (k+1) f (PySem.W.fnOf name qual params body scope dV kV doc pm an cdv ct) ps sp:=by
 refine⟨len,fun A outer s H args us vs Q E hr e0 hb r hsp=>?_⟩;have hl:=len _ _ _ _ hsp;have KX:K.In s.heap:=e0.mod.kin.keeps fun b o e=>(e0.bs b o e).1;have lim:s.heap.NoLimit:=e0.mod.nolimit.keeps fun b o e=>(e0.bs b o e).1
 have hkind:∀ y∈ps.zip us,scope.names.lookup y.1=some .local\/(scope.names.lookup y.1=some .cell/\((cellsFrom (s.heap.objs.size+1) scope.names []).lookup y.1).isSome=true):=fun⟨n,v⟩ hy=>by
  rcases S.par n (List.of_mem_zip hy).1 with q | q
  ·exact .inl q
  ·exact .inr ⟨q,PySem.W.cellsFrom_some _ _ _ (.inl q)⟩
 refine codeAny_call_function hr.depth (KX _ _ lk) rfl S.co S.gen rfl (PySem.W.codeRec_of KX hcd) (hb _ _ _ _ ?_);refine wpAny_newFunctionEnv_cells S.kind hkind fun env he s1 x=>?_;subst he;refine⟨lim.keeps x.toInCall.keep,codeAny_func ?_⟩;obtain⟨t,ht,hq⟩:=hbody A outer s H vs Q E (hr.deeper _) hsp;have I:Inv (k8 CX P w K mg base N qual scope f cdv A outer s H E) [] (start N vs) H s1:=wB S hr.hd e0 hl r x;refine wpAny_mono (ht [] s1 (start N vs) H _ I hq) (fun fl s' hs=>?_) fun e s' hs=>hs
 have fin:∀ {σ':St} {H':Hp} {v:V} {u:Value},Inv (k8 CX P w K mg base N qual scope f cdv A outer s H E) [] σ' H' s'->RelV v u->Q v H'->CE outer P w H s Q u s' :=
  fun {σ' H' v u} J rv q=>⟨v,H',J.os,J.bare,J.base,J.hok,rv,q⟩
 cases fl with
 |ret u=>
  obtain⟨v,σ',H',J,rv,q⟩:=hs;exact fin J rv q
 |next=>
  obtain⟨σ',H',J,q⟩:=hs;exact fin (v:=V.non) (u:=Value.none) J rfl q
 |brk=>
  obtain⟨_,_,_,q⟩:=hs;exact False.elim q
 |cont=>
  obtain⟨_,_,_,q⟩:=hs;exact False.elim q
section
variable{X:Cx}{x:Str}{p pos:Pos}{e:Expr}{es:List Expr}{t:TA}{id T:String}{r:List V->Hp->VK->Prop}
abbrev tCB(r:List V->Hp->VK->Prop)(t:TA):TE:=fun σ H Q=>t σ H fun vs H1=>r vs H1 Q
def kg(hc:bA X (.builtin id) r)(hg:Gl X x)(hm:X.mg x=none)(hv:bootBuiltins x=some (.builtin id))(ha:PA X (e::es) t)(hn:x ≠ "__name__")(hdb:(x == ("__debug__" : Str))=false)
 (he:starEach (e::es) X.env=(false,eval e X.env)::starEach es X.env)(hpl:(backTo pos (starEach es X.env)).any (·.1)=false):PE X (.Call (.Name x p) (e::es) [] pos) (tCB r t):=by
 intro pins s σ H Q I h;refine wpAny_Call_Name_kw (gd I hg hm hv ?_ hn hdb);exact PyProof.Rows.callWith_builtin1 (thn (ha pos pins s σ H _ I h) fun us s1 ⟨vs,H1,I1,r1,q1⟩=>hc pins s1 σ H1 vs us Q I1 r1 q1) he hpl
def c9(hc:bA X (.type T) r)(hg:Gl X x)(hm:X.mg x=none)(hv:bootBuiltins x=some (.type T))(ha:PA X (e::es) t)(hn:x ≠ "__name__")(hdb:(x == ("__debug__" : Str))=false)
 (he:starEach (e::es) X.env=(false,eval e X.env)::starEach es X.env)(hpl:(backTo pos (starEach es X.env)).any (·.1)=false):PE X (.Call (.Name x p) (e::es) [] pos) (tCB r t):=by
 intro pins s σ H Q I h;refine wpAny_Call_Name_kw (gd I hg hm hv ?_ hn hdb);exact PyProof.Rows.callWith_type1 (thn (ha pos pins s σ H _ I h) fun us s1 ⟨vs,H1,I1,r1,q1⟩=>hc pins s1 σ H1 vs us Q I1 r1 q1) he hpl
end
end L2
namespace HT
open PySem PyProof.Rows
section
open PySem.SeqAt
open PySem.AutoSeq1 (wpAny_loadPart')
open PySem.MeetsSeq PySem.MeetsSeq2 PySem.MeetsSeq3
end
section
variable{prog:Program}{w:World}{A:Around}{E:Value->Shared->Prop}{s:Shared}
def zA(ht:IsTup s.heap t vs.toArray)(hb:IsTup s.heap b ws.toArray)(hv:vs≠[])
 (h1:ws=[]->Q (.ref t) s)(h2:ws≠[]->Q (.ref s.heap.objs.size) { s with heap:=s.heap.push { cls:=.type "tuple",data:=.seq (vs++ws).toArray } })
 (hsz:vs.length+ws.length<=sizeLine):wpAny (model prog w) A (binaryOp .Add (.ref t) (.ref b)) Q E s:=by
 obtain⟨⟨cls,dd,data,sl⟩,ho,hc,n,hd⟩:=id ht;obtain⟨⟨cls2,dd2,data2,sl2⟩,ho2,hc2,n2,hd2⟩:=id hb;simp only at hc hd hc2 hd2;subst hc hd hc2 hd2
 have e:vs.toArray++ws.toArray=(vs++ws).toArray:=by simp
 by_cases hw:ws=[]
 ·exact concat_meets ⟨_,ho,rfl⟩ ⟨_,ho2,rfl⟩ noFill_tuple_add seq_tuple_add PySem.F.slot_tuple_add PySem.F.entry_tuple_add (PySem.F.args_tuple_add_2 _ _)
   (tuple_addW1 t b vs.toArray ws.toArray n n2 dd dd2 sl sl2 (by simpa using hv) (by simp[hw])) ⟨ho,ho2,h1 hw⟩
 ·refine concat_meets ⟨_,ho,rfl⟩ ⟨_,ho2,rfl⟩ noFill_tuple_add seq_tuple_add PySem.F.slot_tuple_add PySem.F.entry_tuple_add (PySem.F.args_tuple_add_2 _ _)
   (tuple_addW2 t b vs.toArray ws.toArray n n2 dd dd2 sl sl2 (by simpa using hv) (by simpa using hw) (by rw[List.size_toArray,List.size_toArray];exact hsz)) ⟨ho,ho2,?_⟩
  rw[e];exact h2 hw
abbrev sIx(n d:Nat):Option Int->Nat
 | none=>d
 | some v=>if v<0 then(v+(n:Int)).toNat else min v.toNat n
def xb(n d:Nat):sIx n d none=d:=rfl
def B6(n d:Nat)(hd:d<=n)(o:Option Int):sIx n d o<=n:=by
 cases o with
 | none=>exact hd
 |some v=>
  show(if v<0 then(v+(n:Int)).toNat else min v.toNat n)<=n;by_cases hv:v<0
  ·rw[if_pos hv];omega
  ·rw[if_neg hv];exact Nat.min_le_right _ _
def jq(v:Int)(n d:Nat):(if v<0 then max (v+(n:Int)) 0 else min v (n:Int))=((sIx n d (some v):Nat):Int):=by
 show(if v<0 then max (v+(n:Int)) 0 else min v (n:Int))=(((if v<0 then(v+(n:Int)).toNat else min v.toNat n):Nat):Int);by_cases hv:v<0
 ·simp only[if_pos hv];omega
 ·simp only[if_neg hv];omega
def tG(lo hi:Option Int)(n:Nat):Builtin.Slice.sliceAdjust lo hi 1 (n:Int)=(((sIx n 0 lo:Nat):Int),((sIx n n hi:Nat):Int)):=by
 have h1:¬ ((1:Int)<0):=by omega
 unfold Builtin.Slice.sliceAdjust;simp only[h1,if_false];refine Prod.ext ?_ ?_
 ·cases lo with
  | none=>rfl
  | some v=>exact jq v n 0
 ·cases hi with
  | none=>rfl
  | some v=>exact jq v n n
def t9(i j:Nat):Builtin.Slice.slicePlaces (i:Int) (j:Int) 1=j-i:=by
 unfold Builtin.Slice.slicePlaces
 have h1:(1:Int) > 0:=by omega
 simp only[h1,if_true,Int.ediv_one];split<;>omega
def e8(p:IsPart v o)(h:Q o s):wpAny (model prog w) A (Builtin.Slice.slicePartIndex v) Q E s:=by
 cases p with
 | none=>exact slicePart_none h
 | int i t=>exact slicePart_int h
def jW{sl:Addr}{vl vu:Value}{lo hi:Option Int}{n:Nat}{Q:Int × Int × Nat->Shared->Prop}(hs:s.heap.IsSliceOf sl vl vu .none)(pl:IsPart vl lo)(pu:IsPart vu hi)
 (h:Q (((sIx n 0 lo:Nat):Int),1,sIx n n hi-sIx n 0 lo) s):wpAny (model prog w) A (Builtin.Slice.sliceApplied (.ref sl) (pure (n:Int))) Q E s:=by
 obtain⟨os,hos,hcs,hds⟩:=id hs;unfold Builtin.Slice.sliceApplied Builtin.Slice.sliceFields;refine wpAny_bind (wpAny_bind (wpAny_field hos hds (x:=vl) rfl (wpAny_bind (wpAny_field hos hds (x:=vu) rfl (wpAny_bind (wpAny_field hos hds (x:=.none) rfl (wpAny_pure ?_)))))));refine wpAny_bind (slicePart_none ?_);show wpAny _ _ (if((1:Int) == 0)=true then _ else _) _ _ s;rw[if_neg (by decide)];refine wpAny_bind (e8 pl (wpAny_bind (e8 pu (wpAny_bind (wpAny_pure ?_)))));show wpAny _ _ (match Builtin.Slice.sliceAdjust lo hi 1 (n:Int)with | (lo,hi)=>pure (lo,(1:Int),Builtin.Slice.slicePlaces lo hi 1)) _ _ s;rw[tG lo hi n];show wpAny _ _ (pure (((sIx n 0 lo:Nat):Int),(1:Int),Builtin.Slice.slicePlaces ((sIx n 0 lo:Nat):Int) ((sIx n n hi:Nat):Int) 1)) _ _ s;rw[t9];exact wpAny_pure h
def wW(xs:Array Value)(i k:Nat):((List.range k).filterMap fun(m:Nat)=>xs[((i:Int)+(m:Int)*1).toNat]?).toArray=((xs.toList.drop i).take k).toArray:=by
 have e:(fun(m:Nat)=>xs[((i:Int)+(m:Int)*1).toNat]?)=fun m=>xs[i+m]?:=by
  funext m
  have:((i:Int)+(m:Int)*1).toNat=i+m:=by omega
  rw[this]
 rw[e];have:=pick_run xs i k;rw[List.filterMap_map]at this;have e2:((fun x=>xs[x]?) ∘ fun x=>i+x)=fun m=>xs[i+m]?:=rfl;rw[e2]at this;rw[this]
def jM{t sl:Addr}{items:Array Value}{vl vu:Value}{lo hi:Option Int}{Q:Value->Shared->Prop}(ht:IsTup s.heap t items)(hs:s.heap.IsSliceOf sl vl vu .none)(pl:IsPart vl lo)(pu:IsPart vu hi)
 (hw:¬ (sIx items.size 0 lo=0/\sIx items.size items.size hi=items.size))
 (h:Q (.ref s.heap.objs.size) { s with heap:=s.heap.push { cls:=.type "tuple",data:=.seq ((items.toList.drop (sIx items.size 0 lo)).take (sIx items.size items.size hi-sIx items.size 0 lo)).toArray } })
 (hsz:items.size<=sizeLine):wpAny (model prog w) A (getItem (.ref t) (.ref sl)) Q E s:=by
 have htake:sizeOk (.seq ((items.toList.drop (sIx items.size 0 lo)).take (sIx items.size items.size hi-sIx items.size 0 lo)).toArray):=by
  show((items.toList.drop (sIx items.size 0 lo)).take (sIx items.size items.size hi-sIx items.size 0 lo)).toArray.size<=sizeLine;rw[List.size_toArray,List.length_take,List.length_drop,Array.length_toList];omega
 have hj:sIx items.size items.size hi<=items.size:=B6 _ _ (Nat.le_refl _) hi;obtain⟨os,hos,hcs,hds⟩:=id hs
 have hTs:s.TypeIs (.ref sl) "slice" := ⟨os,hos,hcs⟩
 unfold getItem
 try with_reducible refine wpAny_holding ?_
 first | refine wpAny_bind (wpAny_pure ?_) | skip
 refine wpAny_bind (wpAny_sequenceKey ht.typeIs (by decide) ?_)
 refine wpAny_bind (wpAny_callSpecial?_slot (name:=Str.ofString "__getitem__") ht.typeIs PyProof.Rows.slot_tuple_getitem
  (wpAny_call_entry PyProof.Rows.slot_tuple_getitem ht.typeIs entry_tuple_getitem ?_ (args_tuple_getitem _ _)))
 show wpAny _ _ (Builtin.Tuple.tupleItemsOf (.ref t) >>= _) _ _ s;refine wpAny_bind (tupleItemsOf_ ht ?_);refine wpAny_bind (wpAny_typeOf hTs ?_);rw[if_pos (by decide)];refine wpAny_bind (jW hs pl pu ?_)
 have hno:¬ ((((sIx items.size 0 lo:Nat):Int) == 0&&(1:Int) == 1&&(sIx items.size items.size hi-sIx items.size 0 lo) == items.size)=true):=by
  intro q;rw[Bool.and_eq_true,Bool.and_eq_true]at q;have q1:((sIx items.size 0 lo:Nat):Int)=0:=eq_of_beq q.1.1;have q2:sIx items.size items.size hi-sIx items.size 0 lo=items.size:=eq_of_beq q.2;exact hw ⟨by omega,by omega⟩
 show wpAny _ _ (if(((sIx items.size 0 lo:Nat):Int) == 0&&(1:Int) == 1&&(sIx items.size items.size hi-sIx items.size 0 lo) == items.size)=true then _ else _) _ _ s;rw[if_neg hno,wW]
 first
  | exact wpAny_bind (m:=Builtin.Tuple.tupleExact _) (wpAny_newObj_type (wpAny_pure ⟨_,rfl,wpAny_pure h⟩) htake)
  | exact wpAny_bind (m:=Builtin.Tuple.tupleExact _) (wpAny_newObj_type (wpAny_bind (wpAny_pure (wpAny_pure ⟨_,rfl,wpAny_pure h⟩))) htake)
  | exact wpAny_bind (wpAny_bind (m:=Builtin.Tuple.tupleExact _) (wpAny_newObj_type (wpAny_pure (wpAny_pure ⟨_,rfl,wpAny_pure h⟩)) htake))
  | exact wpAny_bind (wpAny_bind (m:=Builtin.Tuple.tupleExact _) (wpAny_newObj_type (wpAny_pure ⟨_,rfl,wpAny_pure h⟩) htake))
end
end HT
namespace L2
open PySem PySem.Spec PyProof.Rows
@[reducible]noncomputable def TO:=St->Hp->(Option Int->Hp->Prop)->Prop
abbrev PO(X:Cx)(e:Option Expr)(t:TO):Prop :=
 ∀ (pins:List (Addr × Obj)) (s:Shared) (σ:St) (H:Hp) (Q:Option Int->Hp->Prop),Inv X pins σ H s->t σ H Q ->
  wpAny (model X.prog X.w) X.A (evalPart e X.env) (fun u s'=>∃ o H',Inv X pins σ H' s'/\IsPart u o/\Q o H') X.xe s
abbrev Aq:TO:=fun _ H Q=>Q none H
abbrev Fp(t:TE):TO:=fun σ H Q=>t σ H fun x H1=>∃ i,x=.int i/\Q (some i) H1
section
variable{X:Cx}{e:Expr}{te:TE}{lo hi:Option Expr}{tl th:TO}{pos p2:Pos}
def zE:PO X none Aq:=by
 intro pins s σ H Q I h;rw[evalPart_none];exact wpAny_pure ⟨none,H,I,.none,h⟩
def zR(h:PE X e te):PO X (some e) (Fp te):=by
 intro pins s σ H Q I hw;rw[evalPart_some];refine thn (h pins s σ H _ I hw) fun u s1 ⟨x,H1,I1,r1,q1⟩=>?_;obtain⟨i,rfl,q⟩:=q1;obtain⟨t,rfl⟩:=r1;exact⟨some i,H1,I1,.int i t,q⟩
abbrev SlR(X:Cx)(r:V->Option Int->Option Int->Hp->VK->Prop):Prop :=
 ∀ (pins:List (Addr × Obj)) (s:Shared) (σ:St) (H:Hp) (x:V) (v vl vu:Value) (lo hi:Option Int) (sl:Addr) (Q:VK),Inv X pins σ H s->RelV x v->s.heap.IsSliceOf sl vl vu .none->IsPart vl lo->IsPart vu hi->r x lo hi H Q ->
  ∃ T id,typeLookup (.type T) "__getitem__" = pure (some (.builtin id))/\s.TypeIs v T/\wpAny (model X.prog X.w) X.A (getItem v (.ref sl)) (EP X pins σ Q) X.xe s
def SlR.or(h:SlR X r)(h':SlR X r'):SlR X (fun x lo hi H Q=>r x lo hi H Q\/r' x lo hi H Q):=by
 intro pins s σ H x v vl vu lo hi sl Q I rx hs pl pu q;rcases q with q | q
 ·exact h pins s σ H x v vl vu lo hi sl Q I rx hs pl pu q
 ·exact h' pins s σ H x v vl vu lo hi sl Q I rx hs pl pu q
abbrev tSl(r:V->Option Int->Option Int->Hp->VK->Prop)(te:TE)(tl th:TO):TE:=fun σ H Q=>te σ H fun x H1=>tl σ H1 fun l H2=>th σ H2 fun u H3=>r x l u H3 Q
def yx(hr:SlR X r)(he:PE X e te)(hl:PO X lo tl)(hu:PO X hi th):PE X (.Subscript e (.Slice lo hi none p2) pos) (tSl r te tl th):=by
 intro pins s σ H Q I h;refine Subscript_ (thn (he pins s σ H _ I h) fun v s1 ⟨x,H1,I1,r1,q1⟩=>?_);refine wpAny_Slice (thn (hl pins s1 σ H1 _ I1 q1) fun vl s2 ⟨l,H2,I2,pl,q2⟩=>thn (hu pins s2 σ H2 _ I2 q2) fun vu s3 ⟨u,H3,I3,pu,q3⟩=>?_);rw[evalPart_none];refine wpAny_pure ?_;have I4:Inv X pins σ H3 { s3 with heap:=s3.heap.push { cls:=.type "slice",data:=.fields #[vl,vu,.none] } }:=I3.kept (t':=s3.toks) fun b ob q=>Heap.get?_push_of_some _ q;obtain⟨T,id,hT,ht,hg⟩:=hr pins { s3 with heap:=s3.heap.push { cls:=.type "slice",data:=.fields #[vl,vu,.none] } } σ H3 x v vl vu l u s3.heap.objs.size Q I4 r1 (Heap.IsSliceOf.new ..) pl pu q3;show wpAny (model X.prog X.w) X.A (subscriptTail e (.Slice lo hi none p2) v (.ref s3.heap.objs.size)) (EP X pins σ Q) X.xe { s3 with heap:=s3.heap.push { cls:=.type "slice",data:=.fields #[vl,vu,.none] } };exact tail_any (ops:=[.ref s3.heap.objs.size,v]) ht hT hg (by with_unfolding_all rfl)
abbrev iA(xs:List V)(lo hi:Option Int):List V:=(xs.drop (HT.sIx xs.length 0 lo)).take (HT.sIx xs.length xs.length hi-HT.sIx xs.length 0 lo)
def jN(xs:List V)(lo hi:Option Int):(iA xs lo hi).length<=xs.length:=by
 unfold iA;rw[List.length_take,List.length_drop];omega
abbrev FQ(K:PySem.W.Frag):V->Option Int->Option Int->Hp->VK->Prop:=fun x lo hi H Q=>∃ a xs,x=.ref a/\SqT K H a xs /\
 ¬ (HT.sIx xs.length 0 lo=0/\HT.sIx xs.length xs.length hi=xs.length)/\∀ p,H p=none->Q (.ref p) (upd H p (.tup (iA xs lo hi)))
def DS:SlR X (FQ X.K):=by
 intro pins s σ H x v vl vu lo hi sl Q I rx hs pl pu h;obtain⟨a,xs,rfl,hx,hw,q⟩:=h;cases rx;obtain⟨its,r,ht,hz⟩:=I.tuple hx
 have hlen:its.toArray.size=xs.length:=by rw[List.size_toArray];exact r.length.symm
 refine⟨"tuple",_,PyProof.Rows.slot_tuple_getitem.lookup,ht.typeIs,?_⟩;refine HT.jM ht hs pl pu (by rw[hlen];exact hw) ?_ (by rw[hlen];exact hz);rw[hlen];refine⟨.ref s.heap.objs.size,_,I.laid (t':=s.toks) (o:=.tup (iA xs lo hi)) (fun b ob q=>Heap.get?_push_of_some _ q) (Nat.le_refl _) ?_,rfl,q _ (I.hok.fresh (Nat.le_refl _))⟩;exact⟨Nat.le_trans (jN xs lo hi) hz,_,(r.drop (HT.sIx xs.length 0 lo)).take (HT.sIx xs.length xs.length hi-HT.sIx xs.length 0 lo),IsTup.new _ _⟩
abbrev EH(K:PySem.W.Frag):R2:=fun x y H Q=>∃ a b xs ys,x=.ref a/\y=.ref b/\SqT K H a xs/\SqT K H b ys/\xs≠[]/\xs.length+ys.length<=sizeLine /\
 (ys=[]->Q (.ref a) H)/\(ys≠[]->∀ p,H p=none->Q (.ref p) (upd H p (.tup (xs++ys))))
def Vals.lX(r:Vals xs us):us=[]↔xs=[]:=by
 cases r with
 | nil=>simp
 | cons _ _=>simp
def zO:OpR X (binaryOp .Add) (EH X.K):=by
 intro pins s σ H x y v u Q I rx ry h;obtain⟨a,b,xs,ys,rfl,rfl,ha,hb,hx,hz,q1,q2⟩:=h;cases rx;cases ry;obtain⟨its,r1,p1,_⟩:=I.tuple ha;obtain⟨its2,r2,p2,_⟩:=I.tuple hb;refine HT.zA p1 p2 (fun z=>hx (r1.lX.mp z)) (fun z=>⟨.ref a,H,I,rfl,q1 (r2.lX.mp z)⟩) (fun z=>?_) (by rw[<-r1.length,<-r2.length];exact hz);refine⟨.ref s.heap.objs.size,_,I.laid (t':=s.toks) (o:=.tup (xs++ys)) (fun b ob q=>Heap.get?_push_of_some _ q) (Nat.le_refl _) ?_,rfl,q2 (fun w=>z (r2.lX.mpr w)) _ (I.hok.fresh (Nat.le_refl _))⟩;exact⟨by rw[List.length_append];exact hz,_,r1.append r2,IsTup.new _ _⟩
end
abbrev ixN(n:Nat)(i:Int):Option Nat:=if 0<=i then(if i<n then some i.toNat else none)else if -(n:Int)<=i then some (i+n).toNat else none
abbrev atI(xs:List α)(i:Int):Option α:=(ixN xs.length i).bind fun j=>xs[j]?
def rf(h:ixN n i=some j):seqIndex? i n=some j/\j<n/\-(n:Int)<=i/\i<n:=by
 unfold ixN at h;by_cases h0:0<=i
 ·rw[if_pos h0]at h;by_cases h1:i<n
  ·rw[if_pos h1]at h;have e:i.toNat=j:=Option.some.inj h;exact⟨by rw[seqIndex_of h0 h1,e],by omega,by omega,h1⟩
  ·rw[if_neg h1]at h;cases h
 ·rw[if_neg h0]at h;by_cases h1:-(n:Int)<=i
  ·rw[if_pos h1]at h;have e:(i+n).toNat=j:=Option.some.inj h;exact⟨by rw[seqIndex_neg (by omega) h1,e],by omega,h1,by omega⟩
  ·rw[if_neg h1]at h;cases h
def lL(h:atI xs i=some v):∃ j,seqIndex? i xs.length=some j/\xs[j]?=some v/\j<xs.length/\-(xs.length:Int)<=i/\i<xs.length:=by
 unfold atI at h
 cases e:ixN xs.length i with
 | none=>rw[e]at h;cases h
 |some j=>
  rw[e]at h;obtain⟨h1,h2,h3,h4⟩:=rf e;exact⟨j,h1,h,h2,h3,h4⟩
abbrev sA(b:Expr):Prop:=∀ o i,subscripted b false o i=operate [o,i] (getItem o i)
abbrev IxR(X:Cx)(r:R2):Prop :=
 ∀ (value slice:Expr) (pins:List (Addr × Obj)) (s:Shared) (σ:St) (H:Hp) (x y:V) (v u:Value) (Q:VK),Inv X pins σ H s->RelV x v->RelV y u->r x y H Q ->
  subscripted slice false v u=operate [v,u] (getItem v u)->wpAny (model X.prog X.w) X.A (subscriptTail value slice v u) (EP X pins σ Q) X.xe s
abbrev MtR(X:Cx)(id:String)(r:V->List V->Hp->VK->Prop):Prop :=
 ∀ (pins:List (Addr × Obj)) (s:Shared) (σ:St) (H:Hp) (x:V) (xs:List V) (v:Value) (us:List Value) (Q:VK),Inv X pins σ H s->RelV x v->Vals xs us->r x xs H Q ->
  wpAny (model X.prog X.w) X.A (call (.builtin id) (v::us)) (EP X pins σ Q) X.xe s
section
variable{X:Cx}{a b:Expr}{ta tb:TE}{pos:Pos}
def IxR.or(h:IxR X r)(h':IxR X r'):IxR X (fun x y H Q=>r x y H Q\/r' x y H Q):=by
 intro value slice pins s σ H x y v u Q I rx ry q hs;rcases q with q | q
 ·exact h value slice pins s σ H x y v u Q I rx ry q hs
 ·exact h' value slice pins s σ H x y v u Q I rx ry q hs
def Ek{r:R2}(hr:IxR X r)(ha:PE X a ta)(hb:PE X b tb)(hs:sA b):PE X (.Subscript a b pos) (tOp r ta tb):=by
 intro pins s σ H Q I h;exact Subscript_ (xU ha hb I h fun v u s2 x y H2 I2 rx ry q=>hr a b pins s2 σ H2 x y v u Q I2 rx ry q (hs _ _))
abbrev CZ(K:PySem.W.Frag):R2:=fun x y H Q=>∃ p xs i v,x=.ref p/\y=.int i/\SqL K H p xs/\atI xs i=some v/\Q v H
abbrev DD(K:PySem.W.Frag):R2:=fun x y H Q=>∃ p xs i v,x=.ref p/\y=.int i/\SqT K H p xs/\atI xs i=some v/\Q v H
abbrev B1:R2:=fun x y H Q=>∃ z i c,x=.str z/\y=.int i/\z.length<=sizeLine/\atI z.cps.toList i=some c/\Q (.str ⟨#[c]⟩) H
def AO:IxR X (CZ X.K):=by
 intro value slice pins s σ H x y v u Q I rx ry h hs;obtain⟨p,xs,i,z,rfl,rfl,hq,he,q⟩:=h;cases rx;obtain⟨t,rfl⟩:=ry;obtain⟨its,r,pl,hz⟩:=I.list hq;obtain⟨j,h1,h2,h3,h4,h5⟩:=lL he;obtain⟨w,ew,rw'⟩:=r.get h2;have hl:=r.length;have hn:=gJ
 have fin:EP X pins σ Q w s:=⟨z,H,I,rw',q⟩
 by_cases h0:0<=i
 ·have hj:i.toNat=j:=by
   rw[seqIndex_of h0 h5]at h1;exact Option.some.inj h1
  exact item_listR pl.isList h0 (by omega) (by rw[hj];simpa using ew) fin hs
 ·have hj:(i+(its.toArray.size:Int)).toNat=j:=by
   rw[seqIndex_neg (by omega) h4]at h1;rw[List.size_toArray,<-hl];exact Option.some.inj h1
  exact subscriptTail_builtinR (x:=w) pl.isList.typeIs slot_list_getitem.lookup
   (wpAny_getItem_list_neg (Q:=fun r s'=>r=w/\EP X pins σ Q r s') pl.isList (by omega) (by rw[List.size_toArray]<;>omega) (by omega) (by rw[hj];simpa using ew) ⟨rfl,fin⟩) hs
def DU:IxR X (DD X.K):=by
 intro value slice pins s σ H x y v u Q I rx ry h hs;obtain⟨p,xs,i,z,rfl,rfl,hq,he,q⟩:=h;cases rx;obtain⟨t,rfl⟩:=ry;obtain⟨its,r,pl,hz⟩:=I.tuple hq;obtain⟨j,h1,h2,h3,h4,h5⟩:=lL he;obtain⟨w,ew,rw'⟩:=r.get h2;have hl:=r.length;have hn:=gJ
 have fin:EP X pins σ Q w s:=⟨z,H,I,rw',q⟩
 exact subscriptTail_builtinR (x:=w) pl.typeIs slot_tuple_getitem.lookup
  (getItem_tuple (j:=j) (Q:=fun r s'=>r=w/\EP X pins σ Q r s') pl (by omega) (by omega) (by rw[List.size_toArray,<-hl];exact h1) (by simpa using ew) ⟨rfl,fin⟩) hs
def Dw:IxR X B1:=by
 intro value slice pins s σ H x y v u Q I rx ry h hs;obtain⟨z,i,c,rfl,rfl,hz,he,q⟩:=h;obtain⟨t,rfl⟩:=rx;obtain⟨t',rfl⟩:=ry;obtain⟨j,h1,h2,h3,h4,h5⟩:=lL he
 have hl:z.cps.toList.length=z.length:=by simp[Str.length]
 rw[hl]at h1 h4 h5;have hn:=gJ
 exact tail_any (typeIs_str s z t) slot_str_getitem.lookup (getItem_str (c:=c) (by
  have e1:decide (i < -(2 ^ 63:Int))=false:=decide_eq_false (by omega);have e2:decide (i≥2 ^ 63)=false:=decide_eq_false (by omega)
  rw[e1,e2,Bool.or_false]) (by rw[h1];simpa using h2) ⟨.str ⟨#[c]⟩,H,I.tok _,⟨_,rfl⟩,q⟩) hs
abbrev rIx(K:PySem.W.Frag):R2:=fun x y H Q=>CZ K x y H Q\/DD K x y H Q\/B1 x y H Q
def CJ:IxR X (rIx X.K):=AO.or (DU.or Dw)
def tR(its:List Value)(n j:Nat)(u:Value):Obj.mapSeq (·.setIfInBounds j u) { cls:=.type "list",data:=.seq its.toArray n }={ cls:=.type "list",data:=.seq (its.set j u).toArray n }:=by
 simp[Obj.mapSeq]
def Inv.lst{pins:List (Addr × Obj)}{σ:St}{H:Hp}{s:Shared}{p:Addr}{xs:List V}(I:Inv X pins σ H s)(h:H p=some (.lst xs)) :
  ∃ (its:List Value) (n:Nat),Vals xs its/\s.heap.get? p=some { cls:=.type "list",data:=.seq its.toArray n }/\xs.length<=sizeLine:=by
 obtain⟨z,its,n,r,e⟩:=I.hok p _ h;exact⟨its,n,r,e,z⟩
def Inv.CQ{pins:List (Addr × Obj)}{σ:St}{H:Hp}{s:Shared}{p:Addr}{xs ys:List V}{its its':List Value}{n n':Nat}{f:Obj->Obj}(I:Inv X pins σ H s)(h:H p=some (.lst xs))
 (ho:s.heap.get? p=some { cls:=.type "list",data:=.seq its.toArray n })(hf:f { cls:=.type "list",data:=.seq its.toArray n }={ cls:=.type "list",data:=.seq its'.toArray n' })(r:Vals ys its')(hz:ys.length<=sizeLine)(t:Nat) :
  Inv X pins σ (upd H p (.lst ys)) { s with heap:=s.heap.update p f,toks:=t }:=by
 have e:(s.heap.update p f).get? p=some { cls:=.type "list",data:=.seq its'.toArray n' }:=by
  rw[Heap.get?_update_self f ho (by rw[hf]<;>rfl),hf]
 refine I.write (x:=p) (e:=p) (by rw[h];trivial) (.inl rfl) (fun b u hb q=>(Heap.get?_update_other _ _ (Ne.symm hb)).trans q) ⟨_,e⟩ ?_;exact⟨hz,its',n',r,e⟩
abbrev tM:V->V->V->Hp->(Hp->Prop)->Prop:=fun o i v H Q=>∃ p xs k j,o=.ref p/\i=.int k/\H p=some (.lst xs)/\ixN xs.length k=some j/\Q (upd H p (.lst (xs.set j v)))
def set_list:Bl X tM:=by
 intro pins s σ H o i v ov iv u Q I ro ri rv h;obtain⟨p,xs,k,j,rfl,rfl,hp,hj,q⟩:=h;cases ro;obtain⟨t,rfl⟩:=ri;obtain⟨its,n,r,ho,hz⟩:=I.lst hp;obtain⟨h1,h2,h3,h4⟩:=rf hj;have hl:=r.length;have hn:=gJ
 have I':Inv X pins σ (upd H p (.lst (xs.set j v))) { s with heap:=s.heap.update p (Obj.mapSeq (·.setIfInBounds j u)) } :=
  I.CQ hp ho (tR its n j u) (r.set rv j) (by rw[List.length_set];exact hz) s.toks
 by_cases h0:0<=k
 ·have hk:k.toNat=j:=by
   rw[seqIndex_of h0 h4]at h1;exact Option.some.inj h1
  exact PySem.W.ki_setAt ho h0 (by omega) (by rw[List.size_toArray,<-hl];exact h4) (by rw[hk];exact⟨_,I',q⟩)
 ·have hk:(k+(its.toArray.size:Int)).toNat=j:=by
   rw[seqIndex_neg (by omega) h3]at h1;rw[List.size_toArray,<-hl];exact Option.some.inj h1
  exact PySem.W.ki_setBack ho (by omega) (by rw[List.size_toArray,<-hl];exact h3) (by omega) (by rw[hk];exact⟨_,I',q⟩)
def pb(lo hi:Option Int)(n:Nat):(sliceBounds lo hi none n).1=((HT.sIx n 0 lo:Nat):Int)/\(sliceBounds lo hi none n).2.1=((HT.sIx n n hi:Nat):Int)/\(sliceBounds lo hi none n).2.2=1:=by
 refine⟨?_,?_,rfl⟩
 ·cases lo with
  | none=>simp[sliceBounds,HT.sIx]
  |some i=>
   simp only[sliceBounds,HT.sIx,Option.getD_none,show(1:Int) > 0 by decide,if_true];by_cases h:i<0
   ·simp only[h,if_true]<;>omega
   ·simp only[h,if_false]<;>omega
 ·cases hi with
  | none=>simp[sliceBounds,HT.sIx]
  |some i=>
   simp only[sliceBounds,HT.sIx,Option.getD_none,show(1:Int) > 0 by decide,if_true];by_cases h:i<0
   ·simp only[h,if_true]<;>omega
   ·simp only[h,if_false]<;>omega
def nG(its:List Value)(lo hi:Option Int):slicePick its.toArray lo hi none=((its.drop (HT.sIx its.length 0 lo)).take (HT.sIx its.length its.length hi-HT.sIx its.length 0 lo)).toArray:=by
 obtain⟨h1,h2,h3⟩:=pb lo hi its.toArray.size;unfold slicePick;rw[h1,h2,h3];simp only[sliceRange_one,pick_run,List.size_toArray]<;>rfl
abbrev Gm(K:PySem.W.Frag):V->Option Int->Option Int->Hp->VK->Prop:=fun x lo hi H Q=>∃ a xs,x=.ref a/\SqL K H a xs/\∀ p,H p=none->Q (.ref p) (upd H p (.lst (iA xs lo hi)))
def zP:SlR X (Gm X.K):=by
 intro pins s σ H x v vl vu lo hi sl Q I rx hs pl pu h;obtain⟨a,xs,rfl,hx,q⟩:=h;cases rx;obtain⟨its,r,ht,hz⟩:=I.list hx;have hlen:=r.length;refine⟨"list",_,slot_list_getitem.lookup,ht.isList.typeIs,?_⟩;refine wpAny_getItem_list_slice ht.isList hs pl pu .none (by simp) ?_ (by rw[List.size_toArray]<;>omega);rw[nG,<-hlen];refine⟨.ref s.heap.objs.size,_,I.laid (t':=s.toks) (o:=.lst (iA xs lo hi)) (fun b ob q=>Heap.get?_push_of_some _ q) (Nat.le_refl _) ?_,rfl,q _ (I.hok.fresh (Nat.le_refl _))⟩;exact⟨Nat.le_trans (jN xs lo hi) hz,_,0,(r.drop (HT.sIx xs.length 0 lo)).take (HT.sIx xs.length xs.length hi-HT.sIx xs.length 0 lo),Heap.get?_push_size _ rfl⟩
def bA.or(h:bA X f r)(h':bA X f r'):bA X f (fun xs H Q=>r xs H Q\/r' xs H Q):=by
 intro pins s σ H xs us Q I rs q;rcases q with q | q
 ·exact h pins s σ H xs us Q I rs q
 ·exact h' pins s σ H xs us Q I rs q
def pZ:bA X (.type "list") (fun xs H Q=>∃ p ys,xs=[.ref p]/\(SqL X.K H p ys\/SqT X.K H p ys)/\∀ l,H l=none->Q (.ref l) (upd H l (.lst ys))):=by
 intro pins s σ H xs us Q I r h;obtain⟨p,ys,rfl,hq,q⟩:=h;obtain⟨u,rfl,rx⟩:=vals1 r;cases rx
 have fin:∀ (its:List Value),Vals ys its->ys.length<=sizeLine->∀ (h':Heap) (c':Nat),(∀ b o',s.heap.get? b=some o'->h'.get? b=some o') ->
   h'.get? s.heap.objs.size=some { cls:=.type "list",dict:=none,data:=.seq its.toArray c',slots:=#[] }->EP X pins σ Q (.ref s.heap.objs.size) { s with heap:=h' }:=fun its r' hz h' c' kp e =>
  ⟨.ref s.heap.objs.size,_,I.laid (t':=s.toks) kp (Nat.le_refl _) (show aX X.prog X.w _ h' _ (.lst ys)from⟨hz,its,c',r',e⟩),rfl,q _ (I.hok.fresh (Nat.le_refl _))⟩
 rcases hq with hq | hq
 ·obtain⟨its,r',pl,hz⟩:=I.list hq;have hlen:=r'.length;obtain⟨o,ho,hc,n,hd⟩:=pl.isList;exact call_list_seq p (.inl rfl) ho hc hd (fun h' c' kp e=>fin its r' hz h' c' kp e) (by simp only[List.size_toArray]<;>omega)
 ·obtain⟨its,r',pl,hz⟩:=I.tuple hq;have hlen:=r'.length;obtain⟨o,ho,hc,n,hd⟩:=pl;exact call_list_seq p (.inr rfl) ho hc hd (fun h' c' kp e=>fin its r' hz h' c' kp e) (by simp only[List.size_toArray]<;>omega)
def nI:bA X (.type "tuple") (fun xs H Q=>∃ p ys,xs=[.ref p]/\((SqL X.K H p ys/\∀ l,H l=none->Q (.ref l) (upd H l (.tup ys)))\/(SqT X.K H p ys/\Q (.ref p) H))):=by
 intro pins s σ H xs us Q I r h;obtain⟨p,ys,rfl,h⟩:=h;obtain⟨u,rfl,rx⟩:=vals1 r;cases rx
 rcases h with⟨hq,q⟩ | ⟨hq,q⟩
 ·obtain⟨its,r',pl,hz⟩:=I.list hq;have hlen:=r'.length;refine call_tuple_list pl.isList (fun h' kp=>?_) (by simp only[List.size_toArray]<;>omega);have I1:Inv X pins σ H { s with heap:=h' }:=I.kept (t':=s.toks) kp
  have I2:Inv X pins σ (upd H h'.objs.size (.tup ys)) { s with heap:=h'.push { cls:=.type "tuple",data:=.seq its.toArray } } :=
   I1.laid (t':=s.toks) (fun b o e=>Heap.get?_push_of_some _ e) (Nat.le_refl _) (show aX X.prog X.w _ _ _ (.tup ys)from⟨hz,its,r',IsTup.new _ _⟩)
  exact⟨.ref h'.objs.size,_,I2,rfl,q _ (I1.hok.fresh (Nat.le_refl _))⟩
 ·obtain⟨its,r',pl,hz⟩:=I.tuple hq;exact call_tuple_same pl ⟨.ref p,H,I,rfl,q⟩
abbrev tyV(K:PySem.W.Frag)(T:String)(x:V)(H:Hp):Prop:=match x with
 | .str _=>T = "str"
 | .int _=>T = "int"
 | .ref p=>(T = "list" /\ ∃ xs,SqL K H p xs)\/(T = "tuple" /\ ∃ o,K.lookup p=some o/\o.cls=.type "tuple" /\ o.dict=none) \/
   (T = "dict" /\ ((∃ kvs,H p=some (.dK kvs))\/∃ kvs,H p=some (.dT kvs)))\/(T = "set" /\ ∃ S n,H p=some (.set S n))
 | _=>False
def vc(I:Inv X pins σ H s)(r:RelV x v)(ty:tyV X.K T x H) :
  s.TypeIs v T/\∀ a,v=.ref a->∃ ob,s.heap.get? a=some ob/\ob.dict=none:=by
 cases x with
 |str z=>
  obtain⟨t,rfl⟩:=r;cases(show T = "str" from ty);exact⟨typeIs_str s z t,fun _ e=>nomatch e⟩
 |int i=>
  obtain⟨t,rfl⟩:=r;cases(show T = "int" from ty);exact⟨typeIs_int s i t,fun _ e=>nomatch e⟩
 |ref p=>
  cases r
  rcases ty with⟨rfl,xs,hq⟩ | ⟨rfl,o,hk,hc,hd⟩ | ⟨rfl,hk⟩ | ⟨rfl,S,n,hk⟩
  ·obtain⟨its,_,pl,_⟩:=I.list hq;refine⟨pl.isList.typeIs,fun a e=>?_⟩;cases e;obtain⟨o,n,e,c,hd,_⟩:=pl;exact⟨o,e,hd⟩
  ·refine⟨⟨o,I.kIn p o hk,hc⟩,fun a e=>?_⟩;cases e;exact⟨o,I.kIn _ o hk,hd⟩
  ·have z:∃ o,s.heap.get? p=some o/\o.ExactDict:=by
    rcases hk with⟨kvs,hk⟩ | ⟨kvs,hk⟩
    ·obtain⟨_,_,_,_,o,_,_,e,ex,_⟩:=I.hok p _ hk;exact⟨o,e,ex⟩
    ·obtain⟨_,_,_,_,o,_,_,e,ex,_⟩:=I.hok p _ hk;exact⟨o,e,ex⟩
   obtain⟨o,e,ex⟩:=z;refine⟨⟨o,e,ex.1⟩,fun a e2=>?_⟩;cases e2;exact⟨o,e,ex.2.1⟩
  ·obtain⟨o,_,_,_,e,ex,_⟩:=I.hok p _ hk;refine⟨⟨o,e,ex.1⟩,fun a e2=>?_⟩;cases e2;exact⟨o,e,ex.2.1⟩
 | _=>exact False.elim ty
abbrev Dy(K:PySem.W.Frag)(T:String)(r:V->List V->Hp->VK->Prop)(to:TE):TE:=fun σ H Q=>to σ H fun x H1=>tyV K T x H1/\r x [] H1 Q
abbrev tBM(K:PySem.W.Frag)(T:String)(r:V->List V->Hp->VK->Prop)(to:TE)(t:TA):TE:=fun σ H Q=>to σ H fun x H1=>tyV K T x H1/\t σ H1 fun xs H2=>r x xs H2 Q
variable{o e:Expr}{es:List Expr}{to:TE}{t:TA}{name:Str}{apos cpos:Pos}{T id:String}{r:V->List V->Hp->VK->Prop}
def D6(pa:PlainAttrs T)(slot:Slot T name id)(hty:typeOf (.builtin id)=pure (.type "method_descriptor"))(hm:MtR X id r)(ho:PE X o to)
 (hbase:attributeBase o name X.env (eval o X.env)=eval o X.env)(hline:(apos.endLine == cpos.line)=true):PE X (.Call (.Attribute o name apos) [] [] cpos) (Dy X.K T r to):=by
 intro pins s σ H Q I h;refine wpAny_Call_method0_late hbase hline (thn (ho pins s σ H _ I h) fun v s1 ⟨x,H1,I1,r1,ty,q1⟩=>?_);obtain⟨h1,h2⟩:=vc I1 r1 ty;exact⟨T,id,pa,slot,hty,h1,h2,Calls.callWith_builtin rfl (PySem.evalArgs_none (hm pins s1 σ H1 x [] v [] Q I1 r1 .nil q1))⟩
def EF(pa:PlainAttrs T)(slot:Slot T name id)(hty:typeOf (.builtin id)=pure (.type "method_descriptor"))(hm:MtR X id r)(ho:PE X o to)(ha:PA X (e::es) t)
 (hbase:attributeBase o name X.env (eval o X.env)=eval o X.env)
 (hfew:((backTo cpos (starEach (e::es) X.env)).all (fun x=>!x.1)&&(backToKw cpos (keywordEach [] X.env)).all (fun x=>x.1.isSome)
   && decide ((e::es).length+([]:List Keyword).length+(if([]:List Keyword).isEmpty then 0 else 1)<30))=true:=by rfl)
 (hline:(apos.endLine == cpos.line)=true)(hs:starEach (e::es) X.env=(false,eval e X.env)::starEach es X.env)(hplain:(backTo cpos (starEach es X.env)).any (·.1)=false) :
  PE X (.Call (.Attribute o name apos) (e::es) [] cpos) (tBM X.K T r to t):=by
 intro pins s σ H Q I h;refine wpAny_Call_method_late hbase hfew hline rfl (thn (ho pins s σ H _ I h) fun v s1 ⟨x,H1,I1,r1,ty,q1⟩=>?_);obtain⟨h1,h2⟩:=vc I1 r1 ty;refine⟨T,id,pa,slot,hty,h1,h2,?_⟩;have hA:=ha cpos pins s1 σ H1 _ I1 q1;rw[hs]at hA ⊢;refine Calls.callWith_builtin (by show(false || (backTo cpos (starEach es X.env)).any (·.1))=false;rw[hplain]<;>rfl) (Calls.evalArgs_plain ?_);exact thn hA fun us s2 ⟨vs,H2,I2,r2,q2⟩=>hm pins s2 σ H2 x vs v us Q I2 r1 r2 q2
end
abbrev MtM(X:Cx)(id:String)(r:V->List V->Hp->VK->Prop):Prop :=
 ∀ (pins:List (Addr × Obj)) (s:Shared) (σ:St) (H:Hp) (x:V) (xs:List V) (v:Value) (us:List Value) (Q:VK),Inv X pins σ H s->RelV x v->Vals xs us->r x xs H Q ->
  wpAny (model X.prog X.w) X.A (call (.builtin id) (v::us)) (EP X pins σ Q) X.xe s
def Vals.one:∀ {x:V} {us:List Value},Vals [x] us->∃ u,us=[u]/\RelV x u
 | _,_,.cons r .nil=>⟨_,rfl,r⟩
def Vals.zero:∀ {us:List Value},Vals [] us->us=[]
 | _,.nil=>rfl
def Vals.dropLast(h:Vals xs us):Vals xs.dropLast us.dropLast:=by
 induction h with
 | nil=>exact .nil
 |cons r t ih=>
  cases t with
  | nil=>exact .nil
  | cons q t'=>exact .cons r ih
def Vals.reverse(h:Vals xs us):Vals xs.reverse us.reverse:=by
 induction h with
 | nil=>exact .nil
 | cons r t ih=>rw[List.reverse_cons,List.reverse_cons];exact Vals.append ih (.cons r .nil)
def Vals.rep(h:Vals xs us):∀ k:Nat,Vals (List.replicate k xs).flatten (List.replicate k us).flatten
 | 0=>.nil
 | k+1=>by
  rw[List.replicate_succ,List.replicate_succ,List.flatten_cons,List.flatten_cons];exact Vals.append h (Vals.rep h k)
def sU(l:List α):l.eraseIdx (l.length-1)=l.dropLast:=by
 induction l with
 | nil=>rfl
 |cons a r ih=>
  cases r with
  | nil=>rfl
  |cons b r=>
   have e:(a::b::r).length-1=((b::r).length-1)+1:=by
    have h1:(a::b::r).length=r.length+2:=rfl;have h2:(b::r).length=r.length+1:=rfl;omega
   rw[e,List.eraseIdx_cons_succ,ih]
   all_goals rfl
def foldl_rep(its:List Value):∀ (k:Nat) (acc:List Value),
  List.foldl (fun x1 x2=>x1++x2) acc.toArray (List.replicate k its.toArray)=(acc++(List.replicate k its).flatten).toArray
 | 0,acc=>by simp
 | k+1,acc=>by
  have e:acc.toArray++its.toArray=(acc++its).toArray:=by simp
  have e2:(acc++its)++(List.replicate k its).flatten=acc++(List.replicate (k+1) its).flatten:=by
   rw[List.replicate_succ,List.flatten_cons,List.append_assoc]
  rw[<-e2,<-foldl_rep its k (acc++its),<-e,List.replicate_succ,List.foldl_cons]
section
variable{X:Cx}{pins:List (Addr × Obj)}{σ:St}{H:Hp}{s:Shared}{l b:Addr}{xs ys zs:List V}
def Inv.Cm{its its':List Value}{n:Nat}{f:Array Value->Array Value}{t':Nat}(I:Inv X pins σ H s)(hH:H l=some (.lst xs))
 (e:s.heap.get? l=some { cls:=.type "list",data:=.seq its.toArray n })(hf:f its.toArray=its'.toArray)(hv:Vals ys its')(hz:ys.length<=sizeLine) :
  Inv X pins σ (upd H l (.lst ys)) { s with heap:=s.heap.update l (Obj.mapSeq f),toks:=t' }:=by
 have q:=PySem.IsL.update e f;rw[hf]at q;refine I.write (x:=l) (e:=l) (by rw[hH];exact trivial) (.inl rfl) (fun b' u hb hu=>(Heap.get?_update_other s.heap (Obj.mapSeq f) (Ne.symm hb)).trans hu) ⟨_,q⟩ ?_;exact⟨hz,its',_,hv,q⟩
def Inv.yA(I:Inv X pins σ H s)(hv:Vals ys its)(hz:ys.length<=sizeLine) :
  Inv X pins σ (upd H s.heap.objs.size (.lst ys)) { s with heap:=s.heap.push { cls:=.type "list",data:=.seq its.toArray },toks:=t' } :=
 I.laid (fun _ _ q=>Heap.get?_push_of_some _ q) (Nat.le_refl _) ⟨hz,its,0,hv,Heap.get?_push_size _ rfl⟩
def Inv.fresh(I:Inv X pins σ H s):H s.heap.objs.size=none:=I.hok.fresh (Nat.le_refl _)
def Inv.oR(I:Inv X pins σ H s)(hH:H l=some (.lst xs)):xs.length<=sizeLine/\∃ (its:List Value) (n:Nat),Vals xs its/\xs.length=its.length/\s.heap.get? l=some { cls:=.type "list",data:=.seq its.toArray n }:=by
 obtain⟨z,its,n,r,e⟩:=I.hok l _ hH;exact⟨z,its,n,r,r.length,e⟩
def x8(h:n<=sizeLine):Builtin.List.listTooLong n=false:=by
 unfold Builtin.List.listTooLong;exact decide_eq_false (by omega)
end
section
variable{X:Cx}
abbrev rX:V->List V->Hp->VK->Prop:=fun x vs H Q=>∃ l xs y,x=.ref l/\vs=[y]/\H l=some (.lst xs)/\xs.length<sizeLine/\Q .non (upd H l (.lst (xs++[y])))
def mO:MtM X "list.append" rX:=by
 intro pins s σ H x vs v us Q I rx rv h;obtain⟨l,xs,y,rfl,rfl,hH,hz,q⟩:=h;cases rx;obtain⟨u,rfl,ru⟩:=rv.one;obtain⟨z,its,n,r,hl,e⟩:=I.oR hH;refine call_meets F.slot_list_append ⟨_,e,rfl⟩ F.entry_list_append (F.args_list_append_2 _ _) (PySem.list_append l its.toArray n u (by rw[List.size_toArray];omega)) ⟨e,?_⟩;refine⟨.non,_,I.Cm (its':=its++[u]) hH e (by simp) (r.append (.cons ru .nil)) ?_,rfl,q⟩;rw[List.length_append,List.length_singleton];omega
abbrev CL:V->List V->Hp->VK->Prop:=fun x vs H Q=>∃ l xs y,x=.ref l/\vs=[]/\H l=some (.lst xs)/\xs[xs.length-1]?=some y/\Q y (upd H l (.lst xs.dropLast))
def B5:MtM X "list.pop" CL:=by
 intro pins s σ H x vs v us Q I rx rv h;obtain⟨l,xs,y,rfl,rfl,hH,hy,q⟩:=h;cases rx;have hus:=rv.zero;subst hus;obtain⟨z,its,n,r,hl,e⟩:=I.oR hH;obtain⟨u,hu,ru⟩:=r.get hy
 have hy':its.toArray[its.toArray.size-1]?=some u:=by
  show its.toArray[its.length-1]?=some u;rw[<-Array.getElem?_toList,<-hl];exact hu
 refine call_meets F.slot_list_pop ⟨_,e,rfl⟩ F.entry_list_pop (F.args_list_pop_1 _) (MeetsSeq.list_pop_last l its.toArray n u hy' (by rw[List.size_toArray];omega)) ⟨e,?_⟩;refine⟨y,_,I.Cm (its':=its.dropLast) hH e ?_ r.dropLast ?_,ru,q⟩
 ·show its.toArray.eraseIdxIfInBounds (its.toArray.size-1)=its.dropLast.toArray;rw[List.size_toArray,List.eraseIdxIfInBounds_toArray,sU]
 ·rw[List.length_dropLast];omega
abbrev Ga:R2:=fun x y H Q=>∃ l b xs zs,x=.ref l/\y=.ref b/\H l=some (.lst xs)/\H b=some (.lst zs)/\xs.length+zs.length<=sizeLine/\∀ p,H p=none->Q (.ref p) (upd H p (.lst (xs++zs)))
def C8:OpR X (binaryOp .Add) Ga:=by
 intro pins s σ H x y v u Q I rx ry h;obtain⟨l,b,xs,zs,rfl,rfl,hH,hB,hz,q⟩:=h;cases rx;cases ry;obtain⟨z,its,n,r,hl,e⟩:=I.oR hH;obtain⟨z2,its2,n2,r2,hl2,e2⟩:=I.oR hB;refine PySem.P.add_list e e2 ?_ (by rw[List.size_toArray,List.size_toArray];omega)
 have ea:its.toArray++its2.toArray=(its++its2).toArray:=by simp
 rw[ea];exact⟨.ref _,_,I.yA (t':=s.toks) (r.append r2) (by rw[List.length_append];omega),rfl,q _ I.fresh⟩
abbrev Fs:R2:=fun x y H Q=>∃ l k xs,x=.ref l/\y=.int k/\H l=some (.lst xs)/\-(2 ^ 63)<=k/\k<2 ^ 63/\xs.length*k.toNat<=sizeLine /\
 ∀ p,H p=none->Q (.ref p) (upd H p (.lst (List.replicate k.toNat xs).flatten))
def len_rep(xs:List α)(k:Nat):(List.replicate k xs).flatten.length=k*xs.length:=by
 induction k with
 | zero=>simp
 | succ k ih=>rw[List.replicate_succ,List.flatten_cons,List.length_append,ih,Nat.succ_mul,Nat.add_comm]
def D7:OpR X (binaryOp .Mult) Fs:=by
 intro pins s σ H x y v u Q I rx ry h;obtain⟨l,k,xs,rfl,rfl,hH,h1,h2,hz,q⟩:=h;cases rx;obtain⟨t,rfl⟩:=ry;obtain⟨z,its,n,r,hl,e⟩:=I.oR hH
 have hlen:its.toArray.size*k.toNat<=sizeLine:=by rw[List.size_toArray,<-hl];exact hz
 have hcap:¬ its.toArray.size*k.toNat > (2 ^ 63-1) / 8:=by
  have:(sizeLine:Nat)<=(2 ^ 63-1) / 8:=by decide
  omega
 have hfit:¬ (!Builtin.List.listFitsIndex k)=true:=by
  rw[fitsIndex_both h1 h2];exact Bool.false_ne_true
 have hlong:¬ Builtin.List.listTooLong (its.toArray.size*k.toNat)=true:=by
  rw[x8 hlen];exact Bool.false_ne_true
 have hnew:List.foldl (fun x1 x2=>x1++x2) #[] (List.replicate (if its.toArray.isEmpty=true then 0 else k.toNat) its.toArray)=(List.replicate k.toNat its).flatten.toArray:=by
  have f0:∀ m:Nat,List.foldl (fun x1 x2=>x1++x2) #[] (List.replicate m its.toArray)=(List.replicate m its).flatten.toArray:=fun m=>by
   have:=foldl_rep its m [];rw[List.nil_append]at this;exact this
  rw[f0]
  cases its with
  | nil=>simp
  | cons a r'=>rw[if_neg (by simp)]
 refine wpAny_binaryOp_repeat_ref (T := "list") (U := "int") (by decide) ⟨_,e,rfl⟩ (fun s'=>typeIs_int s' k t) noFill_list_mul F.fills_int_mul F.slot_int_rmul repeat_list F.slot_int_index.lookup
  (call_meets F.slot_int_rmul (typeIs_int s k t) F.entry_int_rmul (F.args_int_rmul_2 _ _) (int___rmul___int_list k t l its.toArray n)
   ⟨e,rfl,⟨_,e,rfl⟩,call_meets F.slot_list_mul ⟨_,e,rfl⟩ F.entry_list_mul (F.args_list_mul_2 _ _) (AutoListH.list___mul___list_int_3 l its.toArray n k t hfit hcap hlong) ⟨e,?_⟩⟩)
 rw[hnew];exact⟨.ref _,_,I.yA (t':=s.toks) (r.rep k.toNat) (by rw[len_rep,Nat.mul_comm];exact hz),rfl,q _ I.fresh⟩
end
section
variable{prog:Program}{w:World}{A:Around}{E:Value->Shared->Prop}{s:Shared}
end
section
variable{X:Cx}
end
section
variable{κ:Type} [DecidableEq κ]
abbrev jU(kvs:List (κ × V))(k:κ):Option V:=(kvs.find? fun kv=>decide (kv.1=k)).map (·.2)
abbrev putK(kvs:List (κ × V))(k:κ)(v:V):List (κ × V) :=
 if(kvs.any fun kv=>decide (kv.1=k))=true then kvs.map (fun kv=>if kv.1=k then(kv.1,v)else kv)else kvs++[(k,v)]
def qw{p:κ × V}{r:List (κ × V)}{k:κ}(e:p.1=k):jU (p::r) k=some p.2:=by simp[jU,List.find?_cons,e]
def p9{p:κ × V}{r:List (κ × V)}{k:κ}(e:¬ p.1=k):jU (p::r) k=jU r k:=by simp[jU,List.find?_cons,e]
def qt(k:κ):∀ kvs:List (κ × V),(kvs.any fun kv=>decide (kv.1=k))=(jU kvs k).isSome
 | []=>rfl
 | p::r=>by
  rw[List.any_cons];by_cases e:p.1=k
  ·simp only[qw e,decide_eq_true e,Bool.true_or,Option.isSome_some]
  ·rw[p9 e,decide_eq_false e,Bool.false_or];exact qt k r
def jO(kvs:List (κ × V))(k:κ)(v:V):(putK kvs k v).length<=kvs.length+1:=by
 unfold putK;split
 ·rw[List.length_map];omega
 ·rw[List.length_append,List.length_cons,List.length_nil];omega
def mm.uJ(r:mm o u):o.isSome=u.isSome:=by
 cases o with
 | none=>cases u with
  | none=>rfl
  | some _=>exact(show False from r).elim
 | some _=>cases u with
  | none=>exact(show False from r).elim
  | some _=>rfl
def KV.any(r:KV kvs vs)(k:κ):(kvs.any fun kv=>decide (kv.1=k))=vs.any fun kv=>decide (kv.1=k):=by
 unfold KV at r
 induction r with
 | nil=>rfl
 | cons h t ih=>rw[List.any_cons,List.any_cons,ih,h.1]
def KV.yw(r:KV kvs vs)(k:κ)(ry:RelV y u) :
  KV (kvs.map fun kv=>if kv.1=k then(kv.1,y)else kv) (vs.map fun kv=>if kv.1=k then(kv.1,u)else kv):=by
 unfold KV at r ⊢
 induction r with
 | nil=>exact .nil
 |@cons p q ps qs h t ih=>
  rw[List.map_cons,List.map_cons];refine .cons ?_ ih;obtain⟨h1,h2⟩:=h;by_cases e:p.1=k
  ·rw[if_pos e,if_pos (h1.symm.trans e)];exact⟨h1,ry⟩
  ·rw[if_neg e,if_neg (fun z=>e (h1.trans z))];exact⟨h1,h2⟩
def KV.put(r:KV kvs vs)(k:κ)(ry:RelV y u):KV (putK kvs k y) (stored vs k u):=by
 unfold putK stored;rw[r.any k];by_cases e:(vs.any fun kv=>decide (kv.1=k))=true
 ·rw[if_pos e,if_pos e];exact r.yw k ry
 ·rw[if_neg e,if_neg e];exact Paired.snoc r ⟨rfl,ry⟩
def KV.length(r:KV kvs vs):kvs.length=vs.length:=Paired.length r
end
def yG(r:RelV (kV k) u):(bM P w).is k u=true:=by
 cases k with
 | inl i=>obtain⟨t,e⟩:=(show ∃ t,u=Value.int i t from r);subst e;exact qP P w i t
 | inr x=>obtain⟨t,e⟩:=(show ∃ t,u=Value.str x t from r);subst e;exact qI P w x t
def ng:∀ {ks:List Key} {us:List Value},Vals (ks.map kV) us->ItemsAre (bM P w) ks us
 | [],_,r=>by rw[List.map_nil]at r;cases r;exact .nil
 | k::ks,_,r=>by
  rw[List.map_cons]at r
  cases r with
  | cons h t=>exact .cons (yG h) (ng t)
@[reducible]noncomputable def KT(H:Hp):List (List Key × V)->List (List Key × Addr × Value)->Prop:=Paired fun p q=>p.1=q.1/\H q.2.1=some (.tup (p.1.map kV))/\RelV p.2 q.2.2
def KT.val{H:Hp}{kvs:List (List Key × V)}{xs:List (List Key × Addr × Value)}(r:KT H kvs xs)(k:List Key):mm (jU kvs k) ((atKey xs k).map (·.2)):=by
 induction r with
 | nil=>exact True.intro
 |@cons p q ps qs h t ih=>
  obtain⟨h1,_,h2⟩:=h;by_cases e:p.1=k
  ·have e':q.1=k:=h1.symm.trans e
   have b:atKey (q::qs) k=some q.2:=by simp[atKey,List.find?_cons,e']
   rw[qw e,b];exact h2
  ·have e':¬ q.1=k:=fun z=>e (h1.trans z)
   have b:atKey (q::qs) k=atKey qs k:=by simp[atKey,List.find?_cons,e']
   rw[p9 e,b];exact ih
def KT.yw(r:KT H kvs xs)(k:List Key)(ry:RelV y u) :
  KT H (kvs.map fun kv=>if kv.1=k then(kv.1,y)else kv) (xs.map (putAt k u)):=by
 induction r with
 | nil=>exact .nil
 |@cons p q ps qs h t ih=>
  rw[List.map_cons,List.map_cons];refine .cons ?_ ih;obtain⟨h1,h2,h3⟩:=h;unfold putAt;by_cases e:p.1=k
  ·rw[if_pos e,if_pos (h1.symm.trans e)];exact⟨h1,h2,ry⟩
  ·rw[if_neg e,if_neg (fun z=>e (h1.trans z))];exact⟨h1,h2,h3⟩
def KT.put(r:KT H kvs xs)(k:List Key)(hb:H b=some (.tup (k.map kV)))(ry:RelV y u) :
  KT H (putK kvs k y) (storedH xs k b u):=by
 have e:(kvs.any fun kv=>decide (kv.1=k))=(atKey xs k).isSome:=by
  rw[qt,(r.val k).uJ,Option.isSome_map]
 unfold putK storedH;rw[e];by_cases q:(atKey xs k).isSome=true
 ·rw[if_pos q,if_pos q];exact r.yw k ry
 ·rw[if_neg q,if_neg q];exact Paired.snoc r ⟨rfl,hb,ry⟩
def KT.keeps(r:KT H kvs xs)(ht:∀ b ys,H b=some (.tup ys)->H' b=some (.tup ys)):KT H' kvs xs :=
 Paired.yB r fun _ _ z=>⟨z.1,ht _ _ z.2.1,z.2.2⟩
section
variable{P:Program}{w:World}{H:Hp}{h:Heap}{a:Addr}
def yX(ok:HOk P w H h)(e:Rd H a u):aX P w H h a u:=e.ok ok
def yV(ok:HOk P w H h)(e:Rd H a (.dK kvs)):kvs.length<=sizeLine/\(a == sysModules)=false/\∃ vs,KV kvs vs/\h.DictOf (bM P w) a vs :=
 show aX P w H h a (.dK kvs)from yX ok e
def EU(ok:HOk P w H h)(e:H a=some (.dK kvs)):kvs.length<=sizeLine/\(a == sysModules)=false/\∃ vs,KV kvs vs/\h.DictOf (bM P w) a vs:=yV ok (.inl e)
def vI(ok:HOk P w H h)(e:H a=some (.tup (ks.map kV))):(tupleKind (bM P w)).is h ks a:=by
 obtain⟨_,its,r,o,h1,h2,n,h3⟩:=(show aX P w H h a (.tup (ks.map kV))from ok a _ e)
 exact⟨o,its.toArray,n,h1,h2,h3,by simpa using ng r⟩
def E8(ok:HOk P w H h)(e:Rd H a (.dT kvs)):kvs.length<=sizeLine/\(a == sysModules)=false /\
  ∃ xs,KT H kvs xs/\h.DictOfH (tupleKind (bM P w)) a xs:=by
 obtain⟨z,y,xs,r,o,es,ep,h1,h2,h3,h4,h5⟩:=(show aX P w H h a (.dT kvs)from yX ok e)
 refine⟨z,y,xs,r,o,es,ep,h1,h2,h3,h4,fun x hx=>?_,h5⟩
 have all:∀ {l:List (List Key × V)} {m:List (List Key × Addr × Value)},KT H l m->∀ x∈m,(tupleKind (bM P w)).is h x.1 x.2.1:=by
  intro l m q
  induction q with
  | nil=>intro x hx;exact nomatch hx
  |@cons p q ps qs hq t ih=>
   intro x hx;rcases List.mem_cons.mp hx with e | hx
   ·subst e;exact vI ok (by rw[<-hq.1];exact hq.2.1)
   ·exact ih x hx
 exact all r x hx
def zg(ok:HOk P w H h)(e:H a=some (.dT kvs)):kvs.length<=sizeLine/\(a == sysModules)=false /\
  ∃ xs,KT H kvs xs/\h.DictOfH (tupleKind (bM P w)) a xs:=E8 ok (.inl e)
end
abbrev iZ(H:Hp)(a:Addr)(y v:V)(H':Hp):Prop :=
 (∃ kvs k,H a=some (.dK kvs)/\y=kV k/\kvs.length<sizeLine/\H'=upd H a (.dK (putK kvs k v))) \/
 ∃ kvs k b,H a=some (.dT kvs)/\y=.ref b/\H b=some (.tup (k.map kV))/\kvs.length<sizeLine/\H'=upd H a (.dT (putK kvs k v))
def iZ.k{H:Hp}{a:Addr}{kvs:List (Key × V)}{k:Key}{v:V}(e:H a=some (.dK kvs))(hl:kvs.length<sizeLine):iZ H a (kV k) v (upd H a (.dK (putK kvs k v))):=.inl ⟨kvs,k,e,rfl,hl,rfl⟩
def iZ.t{H:Hp}{a b:Addr}{kvs:List (List Key × V)}{k:List Key}{v:V}(e:H a=some (.dT kvs))(eb:H b=some (.tup (k.map kV)))(hl:kvs.length<sizeLine) :
  iZ H a (.ref b) v (upd H a (.dT (putK kvs k v))):=.inr ⟨kvs,k,b,e,rfl,eb,hl,rfl⟩
section
variable{X:Cx}{pins:List (Addr × Obj)}{σ:St}{H:Hp}{s:Shared}{a:Addr}{y v:V}{u r:Value}{o:Option V}{A:Around}{E:Value->Shared->Prop}
def Inv.big(I:Inv X pins σ H s):sysModules<s.heap.objs.size:=by
 have h:mainGlobals<s.heap.objs.size:=(I.mod.glob.keeps I.bk).lt;exact Nat.lt_trans (by decide) h
def rO(I:Inv X pins σ H s)(mu:Mut (H a))(hs:Heap.SameBut a s.heap h')(he:∃ q,h'.get? a=some q)(new:aX X.prog X.w (upd H a ob) h' a ob) :
  Inv X pins σ (upd H a ob) { s with heap:=h',toks:=t' } :=
 I.write (x:=a) (e:=a) mu (.inl rfl) (fun b q hb z=>(hs.2 b hb).trans z) he new
def Cb(z:kvs.length<=sizeLine)(hd:(a == sysModules)=false)(rel:KV kvs vs)(dd:h'.DictOf (bM P w) a vs) :
  aX P w H' h' a (.dK kvs):=⟨z,hd,vs,rel,dd⟩
def wD(hu:A.units+1<cLine)(I:Inv X pins σ H s)(g:iZ H a y v H')(ry:RelV y u)(rv:RelV v r)(h:∀ s',Inv X pins σ H' s'->Q () s') :
  wpAny (model X.prog X.w) A (setItem (.ref a) u r) Q E s:=by
 rcases g with⟨kvs,k,e,ey,l,eH⟩ | ⟨kvs,k,b,e,ey,eb,l,eH⟩
 ·subst ey eH;obtain⟨z,hd,vs,rel,dd⟩:=EU I.hok e
  have hz:vs.length<=sizeLine:=by rw[<-rel.length];exact z
  have hl:(putK kvs k v).length<=sizeLine:=by have:=jO kvs k v;omega
  refine wpAny_setItem_pairs (hsz:=hz) (yG ry) dd fun h' dd' hs=>h _ ?_;have he:∃ q,h'.get? a=some q:=let ⟨q,_,_,hq,_⟩:=dd';⟨q,hq⟩;exact rO I (by rw[e];exact True.intro) hs he (Cb hl hd (rel.put k rv) dd')
 ·subst ey eH;cases(show u=Value.ref b from ry);obtain⟨z,hd,xs,rel,dd⟩:=zg I.hok e
  have hz:xs.length<=sizeLine:=by rw[<-Paired.length rel];exact z
  have hl:(putK kvs k v).length<=sizeLine:=by have:=jO kvs k v;omega
  refine wpAny_setItem_heap (hsz:=hz) (tupleKind_room_in1 hu) (vI I.hok eb) dd fun h' dd' hs=>h _ ?_;obtain⟨q,es,ep,hq,h2,h3,h4,_,h5⟩:=dd';refine rO I (by rw[e];exact True.intro) hs ⟨q,hq⟩ ⟨hl,hd,_,(rel.put k eb rv).keeps fun c ys ec=>?_,q,es,ep,hq,h2,h3,h4,h5⟩;rw[aD (jE ec e (fun z=>nomatch z))];exact ec
end
section
variable{X:Cx}{pins:List (Addr × Obj)}{σ:St}{H:Hp}{s:Shared}{a:Addr}{kvs:List (Key × V)}{k:Key}{u:Value}{A:Around}{E:Value->Shared->Prop}
def EK(I:Inv X pins σ H s)(e:Rd H a (.dK kvs))(h:∀ t s',Inv X pins σ H s'->Q (.int kvs.length t) s'):wpAny (model X.prog X.w) A (call (.builtin "len") [.ref a]) Q E s:=by
 obtain⟨z,hd,vs,rel,dd⟩:=yV I.hok e;refine call_len_dict hd dd (by rw[<-rel.length];rw[sizeLine_eq]at z;omega) ?_;rw[<-rel.length];exact h _ _ (I.tok _)
end
abbrev uy(td ty tv:TE):TS:=fun D σ H=>tv σ H fun v H1=>td σ H1 fun x H2=>ty σ H2 fun y H3=>∃ a H4,x=.ref a/\iZ H3 a y v H4/\D.nx σ H4
section
variable{X:Cx}{o i e value:Expr}{pos pos' tpos:Pos}{td ty tv:TE}
def Ba(hu:X.A.units+1<cLine)(ho:PE X o td)(hi:PE X i ty)(hv:PE X value tv)(hs:swapsWith value (some (.Subscript o i pos')) pos.line X.env=pure false) :
  PS X (.Assign [.Subscript o i pos'] value pos) (uy td ty tv):=by
 intro pins s σ H D I h;refine wpAny_Assign_Subscript (thn (hv pins s σ H _ I h) fun r s1 ⟨v,H1,I1,rv,q1⟩=>thn (ho pins s1 σ H1 _ I1 q1) fun u s2 ⟨x,H2,I2,rx,q2⟩=>thn (hi pins s2 σ H2 _ I2 q2) fun iv s3 ⟨y,H3,I3,ry,a,H4,ex,g,q3⟩=>?_) hs;subst ex;obtain rfl:u=Value.ref a:=rx
 exact wD hu I3 g ry rv fun s4 I4=>⟨σ,H4,I4,q3⟩
end
def x4(h:Heap)(hb:sysModules<h.objs.size):aX P w H (h.push { cls:=.type "dict",data:=.dict #[] }) h.objs.size (.dT []) :=
 ⟨Nat.zero_le _,beq_eq_false_iff_ne.mpr (Ne.symm (Nat.ne_of_lt hb)),[],.nil,_,#[],0,Heap.get?_push_size _ rfl,⟨rfl,rfl,rfl⟩,rfl,rfl,List.nodup_nil⟩
abbrev BR:TE:=fun _ H Q=>∀ p,H p=none->Q (.ref p) (upd H p (.dT []))
section
variable{X:Cx}{pos:Pos}
def yb:PE X (.Dict [] [] pos) BR:=fun pins s σ H Q I h =>
 wpAny_Dict_empty ⟨.ref s.heap.objs.size,_,I.laid (a:=s.heap.objs.size) (o:=.dT []) (t':=s.toks) (fun _ _ q=>Heap.get?_push_of_some _ q) (Nat.le_refl _) (x4 s.heap I.big),rfl,h _ (I.hok.fresh (Nat.le_refl _))⟩
end
section
variable{X:Cx}{pins:List (Addr × Obj)}{σ:St}{H:Hp}{s:Shared}{a:Addr}{y d:V}{u r:Value}{o:Option V}{A:Around}{E:Value->Shared->Prop}
end
section
variable{X:Cx}{o e f:Expr}{apos cpos:Pos}{td ty tx:TE}
end
section
variable{X:Cx}{pins:List (Addr × Obj)}{σ:St}{H:Hp}{s:Shared}{a:Addr}{kvs:List (Key × V)}{A:Around}{E:Value->Shared->Prop}
end
section
variable{X:Cx}{pins:List (Addr × Obj)}{σ:St}{H:Hp}{s:Shared}{a:Addr}{y:V}{u:Value}{A:Around}{E:Value->Shared->Prop}
end
end L2
namespace Att
open PySem PySem.W PySem.Calls PyProof.Rows
def l6:∀ (ns:List Int) (vs:List Value),WellAll P h vs (ns.map WData.int)->IntsAre vs ns:=by
 intro ns
 induction ns with
 |nil=>
  intro vs w;rw[List.map_nil]at w;cases w;exact .nil
 |cons n ns ih=>
  intro vs w;rw[List.map_cons]at w
  cases w with
  |cons a b=>
   cases a;exact .cons _ _ (ih _ b)
def uT{l:OpenLaw}{n:Nat}(hn:l.most=some n){P:Params}{h:Heap}{args:List WData}{vals:List Value}
 (hpre:l.row.toRowW.claim.pre args=true)(hwl:WellAll P h vals args) :
  ∃ a vs ns,vals=[Value.ref a]/\args=[WData.list (ns.map WData.int)]/\h.get? a=some { cls:=.type "list",data:=.seq vs.toArray }/\IntsAre vs ns/\ns.length<=n:=by
 have hsh:WShape.hasAll [] args [.list .int]=true:=(pre_splitW hpre).1;have hc:l.pre.holds [] { args:=args }=true:=(pre_splitW hpre).2;obtain⟨d,r,rfl,h1,h2⟩:=hasAllW_cons hsh;obtain rfl:=hasAllW_nil h2;obtain⟨xs,rfl,h3⟩:=hasW_list h1;obtain⟨ns,rfl⟩:=items_int h3
 have hlen:ns.length<=n:=by
  unfold OpenLaw.pre at hc
  have h4:(WTm.not (.lt (.lit (.int (n:Int))) (.len (.arg 0)))).holds [] { args:=[.list (ns.map .int)] }=true:=by
   have h4:=(holds_andW hc).1;rw[hn]at h4;exact h4
  have h5:=condW_of h4 (w_not (w_lt w_lit (w_len_list (w_arg rfl))));rw[List.length_map]at h5;refine Nat.le_of_not_lt fun q=>?_
  have q':(n:Int)<((ns.length:Nat):Int):=by omega
  first
   | (rw[decide_eq_true q']at h5;exact absurd h5 (by decide))
   | (simp at h5;omega)
 cases hwl with
 |cons w1 w2=>
  cases w2
  cases w1 with
  | list ho hall=>exact⟨_,_,ns,rfl,rfl,ho,l6 ns _ hall,hlen⟩
def wF(l:OpenLaw)(args:List WData):l.row.toRowW.claim.post args (.bool true) args=true :=
 postW_of (r:=l.row.toRowW) (X:=(true == true))
  (show WShape.has [] (.bool true) .bool=true by first | rfl | decide | simp[WShape.has,WShape.arms,WShape.armsAll])
  (show(WTm.eq .res (.lit (.bool true))).value [] { args:=args,res:=some (.bool true),after:=args }=some (.bool (true == true))from w_eq_bool (w_res rfl) w_lit) rfl
def qM{l:OpenLaw}{n:Nat}{q:Program}{loose:List Str}{XP:(Str->Option Value)->Heap->Prop}{YP:World->Heap->Prop}{d:DefRec}
 (hn:l.most=some n)(hdf:d.params.defaults=[])
 (call:∀ (w:World) (s₀ s₁:Shared) (mg mb:Str->Option Value) (fa:Addr) (o:Obj) (pm cd doc:Value) (a:Addr) (vs:List Value) (ns:List Int),
   Ground q loose [] XP w s₀ mg mb s₁.heap->YP w s₁.heap ->
   s₁.heap.get? fa=some o->o.data=.func (docDef d.name d.params d.body d.scope pm cd doc)->s₁.heap.CodeRec cd d.name->mg d.name=some (.ref fa) ->
   s₁.heap.get? a=some { cls:=.type "list",data:=.seq vs.toArray }->IntsAre vs ns->ns.length<=n->s₁.gens=#[] ->
   codeAny (model l.prog w) callerA (.call (.ref fa) ⟨[.ref a],[]⟩) (fun r s'=>r=.ok (.ret (.bool true))/\OldK s₁.heap s'.heap/\s'.os=s₁.os/\AllBare s'.gens) s₁) :
  WalkO q loose XP YP l.row.toRowW d [] (fun f vs=>PySem.call f vs):=by
 intro w s₀ s₁ mg mb G Y fa o pm cd doc dV kV ho hd hcd hD hmg hg args vals as hpre hlay hrd hwl hlo;obtain rfl:dV=.none:=Dflts.none hD hdf;obtain rfl:kV=.none:=Dflts.noKw hD;obtain⟨a,vs,ns,rfl,rfl,hobj,hints,hlen⟩:=uT hn hpre hwl;refine enter_call (codeAny_mono (call w s₀ s₁ mg mb fa o pm cd doc a vs ns G Y ho (fd_plain hd) hcd hmg hobj hints hlen hg) fun r s' hq=>?_);obtain⟨rfl,h2,h3,h4⟩:=hq;exact⟨.inl ⟨.bool true,.bool true,[],rfl,fun _=>rfl,.bool true,wF l _,fun _=>⟨List.Pairwise.nil,fun _ hm=>(nomatch hm)⟩⟩,h2,h3,h4⟩
section
variable{prog:Program}{w:World}{A:Around}{E:Value->Shared->Prop}{s:Shared}{K:Frag}
end
end Att
namespace L2
open PySem PySem.Spec PyProof.Rows
def mV:∀ {vs:List Value} {ns:List Int},IntsAre vs ns->Vals (ns.map V.int) vs
 | _,_,.nil=>.nil
 | _,_,.cons n t h=>.cons ⟨t,rfl⟩ (mV h)
abbrev qH(H:Hp):Prop:=∀ b,H b=none\/∃ o xs,H b=some (.frz o (.lst xs))
def ye{P:Program}{w:World}{K:PySem.W.Frag}{mg mb:Str->Option Value}{CX:CXT}{k:Nat}{fa a:Addr}{fd:FuncData}{x:Str}{sp:Sp}{s₁:Shared}{vs:List Value}{ns:List Int}
 (KX:K.In s₁.heap)(hns:s₁.heap.Ns mainGlobals mg)(hb:s₁.heap.Ns builtinsNs mb)(hbb:∀ x:Str,x ≠ "__name__" -> mb x=bootBuiltins x)(hlim:s₁.heap.NoLimit)(hg:s₁.gens=#[])
 (ha:s₁.heap.get? a=some { cls:=.type "list",data:=.seq vs.toArray })(hi:IntsAre vs ns)(hl:ns.length<=sizeLine)(hr:dN k callerA)
 (F:∀ base:Heap,K.In base->base.Ns mainGlobals mg->gG P w K mg base CX k fa fd [x] sp)(hbind:∀ (s:Shared) (u:Value),BindsTo s fd ⟨[u],[]⟩ [(x,u)])
 (hsp:∀ H:Hp,qH H->SqL K H a (ns.map V.int)->sp [.ref a] H (fun v _=>v=.bl true) fun _ _ _=>False)
 (hCX:∀ H e s',CX [] H s₁ (fun _ _ _=>False) e s'->False) :
  codeAny (model P w) callerA (.call (.ref fa) ⟨[.ref a],[]⟩) (fun r s'=>r=.ok (.ret (.bool true))/\OldK s₁.heap s'.heap/\s'.os=s₁.os/\AllBare s'.gens) s₁:=by
 have rv:=mV hi;have lenV:=hi.length
 have core:∀ H:Hp,qH H->SqL K H a (ns.map V.int)->HOk P w H s₁.heap->(∀ b,H b≠none->b=a)->(H a≠none->K.lookup a=none) ->
   codeAny (model P w) callerA (.call (.ref fa) ⟨[.ref a],[]⟩) (fun r s'=>r=.ok (.ret (.bool true))/\OldK s₁.heap s'.heap/\s'.os=s₁.os/\AllBare s'.gens) s₁:=by
  intro H hO hS hok hA hK;have base_of:∀ {b:Addr} {o:Obj},s₁.heap.get? b=some o->H b=none->(i7 s₁.heap H).get? b=some o:=fun e n=>yc e n
  have noA:∀ {b:Addr} {o:Obj} {es:Array DictEntry} {ep:Nat},s₁.heap.get? b=some o->o.data=.dict es ep->H b=none:=fun {b o es ep} e d=>by
   cases q:H b with
   | none=>rfl
   |some u=>
    have e':b=a:=hA b (by rw[q];simp);subst e';rw[ha]at e;cases e;have d':Data.seq vs.toArray _=Data.dict es ep:=d;cases d'
  have nsK:∀ {b:Addr} {m:Str->Option Value},s₁.heap.Ns b m->(i7 s₁.heap H).Ns b m:=fun {b m} ⟨o,es,ep,e,d,r⟩=>⟨o,es,ep,base_of e (noA e d),d,r⟩
  have hKb:K.In (i7 s₁.heap H):=fun b o e=>base_of (KX b o e) (by
   cases q:H b with
   | none=>rfl
   |some u=>
    have e':b=a:=hA b (by rw[q];simp);subst e'
    rw[hK (by rw[q];simp)]at e;cases e)
  have hM:Mod K mg (i7 s₁.heap H):=⟨hKb,nsK hns,⟨mb,nsK hb,hbb⟩,let ⟨mc,h1,h2⟩:=hlim;⟨mc,nsK h1,h2⟩⟩
  have e0:uc P w K mg (i7 s₁.heap H) callerA [] s₁ H:=⟨rfl,hM,fun b o e=>AN e,Nat.le_of_eq (vO _ _),trivial,fun b hb=>absurd (show b∈([]:List Addr)from hb) (by simp),hok,.of_eq hg⟩
  refine codeAny_mono ((F _ hKb (nsK hns)).run callerA [] s₁ H ⟨[.ref a],[]⟩ [.ref a] [.ref a] _ _ hr e0 (hbind s₁ (.ref a)) (.cons rfl .nil) (hsp H hO hS)) fun r s' h=>?_
  cases r with
  | error e=>exact(hCX H e s' h).elim
  |ok fl=>
   cases fl with
   | next=>exact False.elim h
   | brk=>exact False.elim h
   | cont=>exact False.elim h
   |ret u=>
    obtain⟨v,H',os,bare,un,hok',r',q⟩:=h;have q':v=.bl true:=q;subst q';obtain rfl:u=Value.bool true:=r';refine⟨rfl,OldK.of_keep fun b o e=>?_,os,bare⟩
    cases q:H b with
    | none=>exact un.keep b o e q (by intro z;exact absurd (show b∈([]:List Addr)from z) (by simp)) (by simp)
    |some u=>
     rcases hO b with z | ⟨ob,xs,z⟩
     ·rw[q]at z;cases z
     ·have z2:=un.fM b ob _ z;obtain⟨e1,_⟩:=hok b _ z;obtain⟨e2,_⟩:=hok' b _ z2;rw[e]at e1;cases e1;exact e2
 cases hk:K.lookup a with
 |some o=>
  have e:=KX a o hk;rw[ha]at e;cases e;refine core (fun _=>none) (fun _=>.inl rfl) (.inr ⟨_,vs.toArray,_,hk,rfl,rfl,rfl,by rw[List.size_toArray,lenV];exact hl,by simpa using rv⟩) (fun b u z=>by have z':(none:Option HO)=some u:=z;cases z') (fun b z=>absurd rfl z) fun z=>absurd rfl z
 |none=>
  refine core (fun b=>if b=a then some (.frz { cls:=.type "list",data:=.seq vs.toArray } (.lst (ns.map V.int)))else none) (fun b=>?_) (.inl (.inr ⟨{ cls:=.type "list",data:=.seq vs.toArray },if_pos rfl⟩)) (fun b u z=>?_) (fun b z=>?_) fun _=>hk
  ·by_cases hb:b=a
   ·exact .inr ⟨_,_,if_pos hb⟩
   ·exact .inl (if_neg hb)
  ·by_cases hb:b=a
   ·have z':=(if_pos hb).symm.trans z;cases z';subst hb;exact⟨ha,by rw[List.length_map];exact hl,vs,_,rv,ha⟩
   ·have z':=(if_neg hb).symm.trans z;cases z'
  ·by_cases hb:b=a
   ·exact hb
   ·exact absurd (if_neg hb) z
@[reducible]noncomputable def KOf{K:PySem.W.Frag}{h:Heap}(_:K.In h):PySem.W.Frag:=K
def rV{l:PySem.W.OpenLaw}{n k:Nat}{q:Program}{loose:List Str}{XP:(Str->Option Value)->Heap->Prop}{YP:World->Heap->Prop}{d:DefRec}{K:Params->PySem.W.Frag}{CX:World->CXT}{sp:World->Sp}{x:Str}
 (hn:l.most=some n)(hn2:n<=sizeLine)(hdf:d.params.defaults=[])(hr:dN k callerA)
 (hY:∀ (w:World) (h:Heap),YP w h->(K w.params).In h)
 (F:∀ (w:World) (mg:Str->Option Value) (fa:Addr) (h:Heap),(K w.params).In h->h.Ns mainGlobals mg->mg d.name=some (.ref fa) ->
   ∃ fd:FuncData,(∀ (s:Shared) (u:Value),BindsTo s fd ⟨[u],[]⟩ [(x,u)]) /\
    ∀ base:Heap,(K w.params).In base->base.Ns mainGlobals mg->gG l.prog w (K w.params) mg base (CX w) k fa fd [x] (sp w))
 (hsp:∀ (w:World) (H:Hp) (a:Addr) (ns:List Int),ns.length<=n->qH H->SqL (K w.params) H a (ns.map V.int)->sp w [.ref a] H (fun v _=>v=.bl true) fun _ _ _=>False)
 (hCX:∀ (w:World) (H:Hp) (s:Shared) (e:Value) (s':Shared),CX w [] H s (fun _ _ _=>False) e s'->False) :
  PySem.W.WalkO q loose XP YP l.row.toRowW d [] (fun f vs=>PySem.call f vs):=by
 refine Att.qM hn hdf fun w s₀ s₁ mg mb fa o pm cd doc a vs ns G Y ho hd hcd hmg hobj hints hlen hg=>?_;have KX:=hY w _ Y;obtain⟨fd,hb,hF⟩:=F w mg fa _ KX G.T.g hmg;exact ye KX G.T.g G.T.b G.T.builtins G.T.nolimit hg hobj hints (Nat.le_trans hlen hn2) hr hF hb (fun H hO hS=>hsp w H a ns hlen hO hS) fun H e s'=>hCX w H s₁ e s'
def x9{l:PySem.W.OpenLaw}{n k:Nat}{q:Program}{loose:List Str}{XP:(Str->Option Value)->Heap->Prop}{YP:World->Heap->Prop}{d:DefRec}{K:Params->PySem.W.Frag}{CX:CXT}{sp:PySem.W.Frag->Sp}{x:Str}
 (hn:l.most=some n)(hn2:n<=sizeLine)(hdf:d.params.defaults=[])(hr:dN k callerA)
 (hY:∀ (w:World) (h:Heap),YP w h->(K w.params).In h)
 (F:∀ (w:World) (mg:Str->Option Value) (fa:Addr) (h:Heap),(K w.params).In h->h.Ns mainGlobals mg->mg d.name=some (.ref fa) ->
   ∃ fd:FuncData,(∀ (s:Shared) (u:Value),BindsTo s fd ⟨[u],[]⟩ [(x,u)]) /\
    ∀ base:Heap,(K w.params).In base->base.Ns mainGlobals mg->gG l.prog w (K w.params) mg base CX k fa fd [x] (sp (K w.params)))
 (hsp:∀ (K:PySem.W.Frag) (H:Hp) (a:Addr) (ns:List Int),ns.length<=n->qH H->SqL K H a (ns.map V.int)->sp K [.ref a] H (fun v _=>v=.bl true) fun _ _ _=>False)
 (hCX:∀ (H:Hp) (s:Shared) (e:Value) (s':Shared),CX [] H s (fun _ _ _=>False) e s'->False) :
  PySem.W.WalkO q loose XP YP l.row.toRowW d [] (fun f vs=>PySem.call f vs) :=
 rV (K:=K) (CX:=fun _=>CX) (sp:=fun w=>sp (K w.params)) hn hn2 hdf hr hY F (fun w H a ns h1 h2 h3=>hsp (K w.params) H a ns h1 h2 h3) fun _ H s e s'=>hCX H s e s'
abbrev fJ(s:Stmt):Arguments:=match s with
 | .FunctionDef _ a _ _ _ _ _ _ _ _=>a
 | _=>{ posonlyargs:=[],args:=[],vararg:=none,kwonlyargs:=[],kw_defaults:=[],kwarg:=none,defaults:=[] }
abbrev dP(s:Stmt):List Stmt:=match s with
 | .FunctionDef _ _ b _ _ _ _ _ _ _=>b
 | _=>[]
abbrev bS(s:Stmt):Scope:=match s with
 | .FunctionDef _ _ _ _ _ _ sc _ _ _=>sc
 | _=>{ kind:=.function,names:=[],isGenerator:=false,isCoroutine:=false }
@[reducible]noncomputable def CX0:CXT:=fun _ _ _ _ _ _=>False
@[reducible]noncomputable def E0:XK:=fun _ _ _=>False
def zo:Passes CX0 X E0:=fun _ _ _ _ _ _ _ h=>h.elim
structure Fun(K:PySem.W.Frag)(x qual:Str)(st:Stmt)(f:Addr)(fd:FuncData):Prop where
 ex:∃ (oc:Value) (od:Option Addr) (kV doc pm:Value) (an:Option Addr) (cdv ct:Value) (osl:Array (Option Value)),
  fd=PySem.W.fnOf x qual (fJ st) (dP st) (bS st) .none kV doc pm an cdv ct/\K.lookup f=some ⟨oc,od,.func fd,osl⟩/\PySem.W.codeIn K cdv qual=true
 kp:PySem.W.keepIn K (.ref f)=true
section
variable{P:Program}{w:World}{K:PySem.W.Frag}{mg:Str->Option Value}{base:Heap}
def Fun.ok{x qual:Str}{st:Stmt}{f:Addr}{fd:FuncData}{N ps:List Str}{k:Nat}{sp:Sp}(F:Fun K x qual st f fd)(S:j8 N ps (bS st))(len:∀ vs H Q E,sp vs H Q E->vs.length=ps.length)
 (hbody:∀ (cdv:Value) (A:Around) (outer:List Env) (s:Shared) (H:Hp) (vs:List V) (Q:VK) (E:XK),dN k (A.deeper (envOfC qual (bS st) s.heap.objs.size f cdv))->sp vs H Q E ->
   ∃ t,PSs (k8 CX0 P w K mg base N qual (bS st) f cdv A outer s H E).nox (dP st) t/\t { nx:=fun _ H'=>Q .non H',rt:=Q } (start N vs) H):gG P w K mg base CX0 (k+1) f fd ps sp:=by
 obtain⟨oc,od,kV,doc,pm,an,cdv,ct,osl,rfl,lk,hcd⟩:=F.ex;refine EL lk hcd S len fun A outer s H vs Q E hr hsp=>?_;obtain⟨t,h,q⟩:=hbody cdv A outer s H vs Q E hr hsp;exact⟨t,h.nox,q⟩
def Fun.binds{x qual:Str}{st:Stmt}{f:Addr}{fd:FuncData}{ps:List Str}(F:Fun K x qual st f fd)
 (h:∀ (kV doc pm:Value) (an:Option Addr) (cdv ct:Value) (us:List Value),us.length=ps.length->bindArgs (PySem.W.fnOf x qual (fJ st) (dP st) (bS st) .none kV doc pm an cdv ct) ⟨us,[]⟩=pure (ps.zip us)):Binds K fd ps []:=by
 obtain⟨oc,od,kV,doc,pm,an,cdv,ct,osl,rfl,lk,hcd⟩:=F.ex;exact .all (h kV doc pm an cdv ct)
def vM{x qual:Str}{st:Stmt}{f:Addr}{oc:Value}{od an:Option Addr}{osl:Array (Option Value)}{kV doc pm cdv ct:Value}(l:K.lookup f=some ⟨oc,od,.func (PySem.W.fnOf x qual (fJ st) (dP st) (bS st) .none kV doc pm an cdv ct),osl⟩)
 (c:PySem.W.codeIn K cdv qual=true)(k:PySem.W.keepIn K (.ref f)=true):Fun K x qual st f (PySem.W.fnOf x qual (fJ st) (dP st) (bS st) .none kV doc pm an cdv ct):=⟨⟨oc,od,kV,doc,pm,an,cdv,ct,osl,rfl,l,c⟩,k⟩
end
def nj(h:n<=1000):n<sizeLine:=Nat.lt_of_le_of_lt h (by decide)
section
variable{X:Cx}
end
def f7{A B:Prop}(h:B):if false=true then A else B:=by
 rw[if_neg Bool.false_ne_true];exact h
def eJ{A B:Prop}(h:A):if true=true then A else B:=by
 rw[if_pos rfl];exact h
abbrev aq(H H':Hp):Prop:=∀ b o,H b=some o->H' b=some o
def aq.refl(H:Hp):aq H H:=fun _ _ h=>h
def aq.trans(a:aq H H1)(b:aq H1 H2):aq H H2:=fun c o h=>b c o (a c o h)
def aq.free(e:aq H H')(h:H' l=Option.none):H l=Option.none:=by
 cases q:H l with
 | none=>rfl
 |some o=>
  rw[e l o q]at h;cases h
section
variable{X:Cx}
def v5:bA X (.builtin "len") (fun xs H Q=>∃ a kvs,xs=[V.ref a]/\H a=some (.dK kvs)/\Q (.int kvs.length) H):=by
 intro pins s σ H xs us Q I r h;obtain⟨a,kvs,rfl,ha,q⟩:=h;obtain⟨u,rfl,ru⟩:=vals1 r;cases ru
 exact EK I (.inl ha) fun t s' I'=>⟨.int kvs.length,H,I',⟨t,rfl⟩,q⟩
end
section
variable{κ:Type} [DecidableEq κ]
end
end L2
namespace RS
open PySem PySem.Spec PyProof.Rows L2
@[reducible]def VE:List Value:=[.type "ValueError",.type "Exception",.type "BaseException",.type "object"]
abbrev xk:List Str:=["RibbonError", "BadPegs", "BadFrame", "BadHalf", "BadHook", "BadName", "NoNumber", "NoFrame", "NoStack", "NoPlace", "Taken", "Full", "NothingThere", "BadTrade", "Hangs", "BadPage"]
abbrev CY(f:Option PySem.Builtin.ObjectAttr.Found):Bool:=match f with
 | some (.bind (.builtin a) (.builtin b))=>a == "getset_descriptor.__get__" && b == "object.__class__"
 | _=>false
abbrev Fh(K:PySem.W.Frag)(x:Str)(C:Addr):Bool :=
 PySem.W.excIn K C VE "ValueError.__new__" && PySem.W.findIn K (.ref C) "__getattribute__" == some (some (.builtin "BaseException.__getattribute__"))&&PySem.W.findIn K (.ref C) "__getattr__" == some none&&CY (PySem.W.findObj K C none "__class__") &&
 PySem.W.mroIn K C (.type "object") == some true&&PySem.W.subIn K (.ref C) (.type "BaseException") == some true&&(PySem.W.clsIn K C).isSome&&PySem.W.kitOne K (.ref C) (.type "ValueError") == some true &&
 xk.all fun c=>match PySem.W.nsIn K mainGlobals c with
  | some (some (.ref D))=>PySem.W.kitOne K (.ref C) (.ref D) == some (RL.yY x c)&&PySem.W.subIn K (.ref C) (.ref D) == some (RL.yY x c)
  | _=>true
structure Cls(K:PySem.W.Frag)(x:Str)(C:Addr):Prop where
 ns:PySem.W.nsIn K mainGlobals x=some (some (.ref C))
 ok:Fh K x C=true
section
variable{K:PySem.W.Frag}
end
abbrev nP:Addr->Prop:=fun _=>False
abbrev gB(K:PySem.W.Frag)(H:Hp)(a:Addr)(xs:List V):Prop:=(∃ o,H a=some (.frz o (.lst xs)))\/SqL K (fun _=>none) a xs
def gB.seq{K:PySem.W.Frag}(h:gB K H a xs):SqL K H a xs:=by
 rcases h with⟨o,h⟩ | (h | ⟨o,h⟩) | h
 ·exact .inl (.inr ⟨o,h⟩)
 ·cases h
 ·cases h
 ·exact .inr h
def gB.same{K:PySem.W.Frag}(e:aq H H')(h:gB K H a xs):gB K H' a xs:=by
 rcases h with⟨o,h⟩ | h
 ·exact .inl ⟨o,e _ _ h⟩
 ·exact .inr h
abbrev ExV(K:PySem.W.Frag)(H:Hp)(c:Str)(v:V):Prop:=∃ a o u D vs,v=.ref a/\H a=some (.frz o u)/\(o.cls=.ref D/\o.dict=none)/\o.data=.fields vs/\vs[2]?=some .none/\Cls K c D
def ExV.keep{K:PySem.W.Frag}(h:ExV K H c v)(k:∀ b o u,H b=some (.frz o u)->H' b=some (.frz o u)):ExV K H' c v :=
 let ⟨a,o,u,D,vs,h1,h2,r⟩:=h;⟨a,o,u,D,vs,h1,k _ _ _ h2,r⟩
mutual
noncomputable def Rep(P:Addr->Prop)(K:PySem.W.Frag)(H:Hp):RL.D->V->Prop
 | .non,v=>v=.non
 | .bl b,v=>v=.bl b
 | .int i,v=>v=.int i
 | .str x,v=>v=.str x
 | .tup ds,v=>∃ a xs,v=.ref a/\H a=some (.tup xs)/\aa P K H ds xs
 | .lst ds,v=>∃ a xs,v=.ref a/\¬ P a/\H a=some (.lst xs)/\aa P K H ds xs
 | .dK ks ds,v=>∃ a xs,v=.ref a/\¬ P a/\H a=some (.dK (ks.zip xs))/\ks.length=ds.length/\aa P K H ds xs
 | .dT ks ds,v=>∃ a xs,v=.ref a/\¬ P a/\H a=some (.dT (ks.zip xs))/\ks.length=ds.length/\aa P K H ds xs
 | .scr ds,v=>∃ a xs,v=.ref a/\gB K H a xs/\aa P K H ds xs
 | .exc c,v=>ExV K H c v
 | .fT ks,v=>∃ a o kvs,v=.ref a/\H a=some (.frz o (.dT kvs))/\kvs.map (·.1)=ks
noncomputable def aa(P:Addr->Prop)(K:PySem.W.Frag)(H:Hp):List RL.D->List V->Prop
 | [],xs=>xs=[]
 | d::r,xs=>∃ x t,xs=x::t/\Rep P K H d x/\aa P K H r t
end
mutual
theorem Rep.same{P:Addr->Prop}{K:PySem.W.Frag}{H H':Hp}(e:aq H H'):∀ {d:RL.D} {v:V},Rep P K H d v->Rep P K H' d v
 | .non,v,h=>by simpa[Rep]using h
 | .bl _,v,h=>by simpa[Rep]using h
 | .int _,v,h=>by simpa[Rep]using h
 | .str _,v,h=>by simpa[Rep]using h
 | .tup ds,v,h=>by
  rw[Rep]at h ⊢;obtain⟨a,xs,e1,e2,e3⟩:=h;exact⟨a,xs,e1,e _ _ e2,aa.same e e3⟩
 | .lst ds,v,h=>by
  rw[Rep]at h ⊢;obtain⟨a,xs,e1,e0,e2,e3⟩:=h;exact⟨a,xs,e1,e0,e _ _ e2,aa.same e e3⟩
 | .dK ks ds,v,h=>by
  rw[Rep]at h ⊢;obtain⟨a,xs,e1,e0,e2,el,e3⟩:=h;exact⟨a,xs,e1,e0,e _ _ e2,el,aa.same e e3⟩
 | .dT ks ds,v,h=>by
  rw[Rep]at h ⊢;obtain⟨a,xs,e1,e0,e2,el,e3⟩:=h;exact⟨a,xs,e1,e0,e _ _ e2,el,aa.same e e3⟩
 | .scr ds,v,h=>by
  rw[Rep]at h ⊢;obtain⟨a,xs,e1,e2,e3⟩:=h;exact⟨a,xs,e1,gB.same e e2,aa.same e e3⟩
 | .exc c,v,h=>by rw[Rep]at h ⊢;exact h.keep fun _ _ _ q=>e _ _ q
 | .fT ks,v,h=>by rw[Rep]at h ⊢;obtain⟨a,o,kvs,e1,e2,e3⟩:=h;exact⟨a,o,kvs,e1,e _ _ e2,e3⟩
theorem aa.same{P:Addr->Prop}{K:PySem.W.Frag}{H H':Hp}(e:aq H H'):∀ {ds:List RL.D} {xs:List V},aa P K H ds xs->aa P K H' ds xs
 | [],xs,h=>by rw[aa]at h ⊢;exact h
 | d::r,xs,h=>by
  rw[aa]at h ⊢;obtain⟨x,t,e1,e2,e3⟩:=h;exact⟨x,t,e1,Rep.same e e2,aa.same e e3⟩
end
mutual
theorem Rep.weak{P P':Addr->Prop}{K:PySem.W.Frag}{H:Hp}(e:∀ a,P' a->P a):∀ {d:RL.D} {v:V},Rep P K H d v->Rep P' K H d v
 | .non,v,h=>by simpa[Rep]using h
 | .bl _,v,h=>by simpa[Rep]using h
 | .int _,v,h=>by simpa[Rep]using h
 | .str _,v,h=>by simpa[Rep]using h
 | .tup ds,v,h=>by
  rw[Rep]at h ⊢;obtain⟨a,xs,e1,e2,e3⟩:=h;exact⟨a,xs,e1,e2,aa.weak e e3⟩
 | .lst ds,v,h=>by
  rw[Rep]at h ⊢;obtain⟨a,xs,e1,e0,e2,e3⟩:=h;exact⟨a,xs,e1,fun z=>e0 (e a z),e2,aa.weak e e3⟩
 | .dK ks ds,v,h=>by
  rw[Rep]at h ⊢;obtain⟨a,xs,e1,e0,e2,el,e3⟩:=h;exact⟨a,xs,e1,fun z=>e0 (e a z),e2,el,aa.weak e e3⟩
 | .dT ks ds,v,h=>by
  rw[Rep]at h ⊢;obtain⟨a,xs,e1,e0,e2,el,e3⟩:=h;exact⟨a,xs,e1,fun z=>e0 (e a z),e2,el,aa.weak e e3⟩
 | .scr ds,v,h=>by
  rw[Rep]at h ⊢;obtain⟨a,xs,e1,e2,e3⟩:=h;exact⟨a,xs,e1,e2,aa.weak e e3⟩
 | .exc c,v,h=>by rw[Rep]at h ⊢;exact h
 | .fT ks,v,h=>by rw[Rep]at h ⊢;exact h
theorem aa.weak{P P':Addr->Prop}{K:PySem.W.Frag}{H:Hp}(e:∀ a,P' a->P a):∀ {ds:List RL.D} {xs:List V},aa P K H ds xs->aa P' K H ds xs
 | [],xs,h=>by rw[aa]at h ⊢;exact h
 | d::r,xs,h=>by
  rw[aa]at h ⊢;obtain⟨x,t,e1,e2,e3⟩:=h;exact⟨x,t,e1,Rep.weak e e2,aa.weak e e3⟩
end
def Rep.none{P:Addr->Prop}{K:PySem.W.Frag}(h:Rep P K H d v):Rep nP K H d v:=h.weak fun _ z=>z.elim
mutual
theorem Rep.imm{P P':Addr->Prop}{K:PySem.W.Frag}{H:Hp}:∀ {d:RL.D} {v:V},d.imm=true->Rep P K H d v->Rep P' K H d v
 | .non,v,_,h=>by simpa[Rep]using h
 | .bl _,v,_,h=>by simpa[Rep]using h
 | .int _,v,_,h=>by simpa[Rep]using h
 | .str _,v,_,h=>by simpa[Rep]using h
 | .tup ds,v,i,h=>by
  rw[Rep]at h ⊢;rw[RL.D.imm]at i;obtain⟨a,xs,e1,e2,e3⟩:=h;exact⟨a,xs,e1,e2,aa.imm i e3⟩
 | .lst ds,v,i,h=>by rw[RL.D.imm]at i;cases i
 | .dK ks ds,v,i,h=>by rw[RL.D.imm]at i;cases i
 | .dT ks ds,v,i,h=>by rw[RL.D.imm]at i;cases i
 | .scr ds,v,i,h=>by
  rw[Rep]at h ⊢;rw[RL.D.imm]at i;obtain⟨a,xs,e1,e2,e3⟩:=h;exact⟨a,xs,e1,e2,aa.imm i e3⟩
 | .exc c,v,i,h=>by rw[Rep]at h ⊢;exact h
 | .fT ks,v,i,h=>by rw[Rep]at h ⊢;exact h
theorem aa.imm{P P':Addr->Prop}{K:PySem.W.Frag}{H:Hp}:∀ {ds:List RL.D} {xs:List V},RL.ao ds=true->aa P K H ds xs->aa P' K H ds xs
 | [],xs,_,h=>by rw[aa]at h ⊢;exact h
 | d::r,xs,i,h=>by
  rw[aa]at h ⊢;rw[RL.ao,Bool.and_eq_true]at i;obtain⟨x,t,e1,e2,e3⟩:=h;exact⟨x,t,e1,Rep.imm i.1 e2,aa.imm i.2 e3⟩
end
abbrev bZ(o:HO):Prop:=(∃ xs,o=.lst xs)\/(∃ kvs,o=.dK kvs)\/(∃ kvs,o=.dT kvs)
mutual
theorem Rep.upd{P:Addr->Prop}{K:PySem.W.Frag}{H:Hp}{a:Addr}{o o':HO}(ha:H a=some o)(m:bZ o)(p:P a):∀ {d:RL.D} {v:V},Rep P K H d v->Rep P K (upd H a o') d v
 | .non,v,h=>by simpa[Rep]using h
 | .bl _,v,h=>by simpa[Rep]using h
 | .int _,v,h=>by simpa[Rep]using h
 | .str _,v,h=>by simpa[Rep]using h
 | .tup ds,v,h=>by
  rw[Rep]at h ⊢;obtain⟨b,xs,e1,e2,e3⟩:=h;have n:b≠a:=jE e2 ha (by rcases m with⟨z,rfl⟩ | ⟨z,rfl⟩ | ⟨z,rfl⟩<;>(intro q;cases q));exact⟨b,xs,e1,by rw[L2.aD n];exact e2,aa.upd ha m p e3⟩
 | .lst ds,v,h=>by
  rw[Rep]at h ⊢;obtain⟨b,xs,e1,e0,e2,e3⟩:=h;have n:b≠a:=fun z=>e0 (z▸p);exact⟨b,xs,e1,e0,by rw[L2.aD n];exact e2,aa.upd ha m p e3⟩
 | .dK ks ds,v,h=>by
  rw[Rep]at h ⊢;obtain⟨b,xs,e1,e0,e2,el,e3⟩:=h;have n:b≠a:=fun z=>e0 (z▸p);exact⟨b,xs,e1,e0,by rw[L2.aD n];exact e2,el,aa.upd ha m p e3⟩
 | .dT ks ds,v,h=>by
  rw[Rep]at h ⊢;obtain⟨b,xs,e1,e0,e2,el,e3⟩:=h;have n:b≠a:=fun z=>e0 (z▸p);exact⟨b,xs,e1,e0,by rw[L2.aD n];exact e2,el,aa.upd ha m p e3⟩
 | .scr ds,v,h=>by
  rw[Rep]at h ⊢;obtain⟨b,xs,e1,e2,e3⟩:=h;refine⟨b,xs,e1,?_,aa.upd ha m p e3⟩;rcases e2 with⟨q,e2⟩ | e2
  ·have n:b≠a:=jE e2 ha (by rcases m with⟨z,rfl⟩ | ⟨z,rfl⟩ | ⟨z,rfl⟩<;>(intro q;cases q));exact .inl ⟨q,by rw[L2.aD n];exact e2⟩
  ·exact .inr e2
 | .exc c,v,h=>by
  rw[Rep]at h ⊢;refine h.keep fun b ob u q=>?_;have n:b≠a:=jE q ha (by rcases m with⟨z,rfl⟩ | ⟨z,rfl⟩ | ⟨z,rfl⟩<;>(intro q;cases q));rw[L2.aD n];exact q
 | .fT ks,v,h=>by
  rw[Rep]at h ⊢;obtain⟨b,ob,kvs,e1,e2,e3⟩:=h;have n:b≠a:=jE e2 ha (by rcases m with⟨z,rfl⟩ | ⟨z,rfl⟩ | ⟨z,rfl⟩<;>(intro q;cases q));exact⟨b,ob,kvs,e1,by rw[L2.aD n];exact e2,e3⟩
theorem aa.upd{P:Addr->Prop}{K:PySem.W.Frag}{H:Hp}{a:Addr}{o o':HO}(ha:H a=some o)(m:bZ o)(p:P a):∀ {ds:List RL.D} {xs:List V},aa P K H ds xs->aa P K (upd H a o') ds xs
 | [],xs,h=>by rw[aa]at h ⊢;exact h
 | d::r,xs,h=>by
  rw[aa]at h ⊢;obtain⟨x,t,e1,e2,e3⟩:=h;exact⟨x,t,e1,Rep.upd ha m p e2,aa.upd ha m p e3⟩
end
section lists
variable{K:PySem.W.Frag}
def aa.nil:aa P K H [] []:=by rw[aa]
def aa.cons{d:RL.D}{ds:List RL.D}{x:V}{xs:List V}(h:Rep P K H d x)(t:aa P K H ds xs):aa P K H (d::ds) (x::xs):=by rw[aa];exact⟨x,xs,rfl,h,t⟩
def aa.length:∀ {ds:List RL.D} {xs:List V},aa P K H ds xs->ds.length=xs.length
 | [],xs,h=>by rw[aa]at h;rw[h];rfl
 | d::r,xs,h=>by
  rw[aa]at h;obtain⟨x,t,rfl,_,e3⟩:=h;rw[List.length_cons,List.length_cons,aa.length e3]
def aa.append:∀ {ds es:List RL.D} {xs ys:List V},aa P K H ds xs->aa P K H es ys->aa P K H (ds++es) (xs++ys)
 | [],_,xs,_,h,k=>by rw[aa]at h;rw[h];exact k
 | d::r,_,xs,_,h,k=>by
  rw[aa]at h;obtain⟨x,t,rfl,e2,e3⟩:=h;exact aa.cons e2 (aa.append e3 k)
def aa.get:∀ {ds:List RL.D} {xs:List V} {i:Nat} {d:RL.D},aa P K H ds xs->ds[i]?=some d->∃ x,xs[i]?=some x/\Rep P K H d x
 | [],_,i,d,_,e=>by simp at e
 | d::r,xs,0,d',h,e=>by
  rw[aa]at h;obtain⟨x,t,rfl,e2,_⟩:=h;simp at e;subst e;exact⟨x,rfl,e2⟩
 | d::r,xs,i+1,d',h,e=>by
  rw[aa]at h;obtain⟨x,t,rfl,_,e3⟩:=h;obtain⟨y,h1,h2⟩:=aa.get (i:=i) e3 (by simpa using e);exact⟨y,by simpa using h1,h2⟩
def aa.set:∀ {ds:List RL.D} {xs:List V} (i:Nat) {d:RL.D} {x:V},aa P K H ds xs->Rep P K H d x->aa P K H (ds.set i d) (xs.set i x)
 | [],xs,_,_,_,h,_=>by rw[aa]at h;rw[h];exact aa.nil
 | d::r,xs,0,_,_,h,k=>by
  rw[aa]at h;obtain⟨x,t,rfl,_,e3⟩:=h;exact aa.cons k e3
 | d::r,xs,i+1,_,_,h,k=>by
  rw[aa]at h;obtain⟨x,t,rfl,e2,e3⟩:=h;exact aa.cons e2 (aa.set i e3 k)
def aa.take:∀ {ds:List RL.D} {xs:List V} (n:Nat),aa P K H ds xs->aa P K H (ds.take n) (xs.take n)
 | _,_,0,_=>by simpa using aa.nil
 | [],xs,n+1,h=>by rw[aa]at h;rw[h];simpa using aa.nil
 | d::r,xs,n+1,h=>by
  rw[aa]at h;obtain⟨x,t,rfl,e2,e3⟩:=h;exact aa.cons e2 (aa.take n e3)
def aa.rev(h:aa P K H ds xs):aa P K H ds.reverse xs.reverse:=by
 induction ds generalizing xs with
 | nil=>rw[aa]at h;rw[h];exact aa.nil
 |cons d r ih=>
  rw[aa]at h;obtain⟨x,t,rfl,e2,e3⟩:=h;rw[List.reverse_cons,List.reverse_cons];exact aa.append (ih e3) (aa.cons e2 aa.nil)
def aa.rep(h:aa P K H ds xs):∀ n:Nat,aa P K H (List.replicate n ds).flatten (List.replicate n xs).flatten
 | 0=>aa.nil
 | n+1=>by
  rw[List.replicate_succ,List.replicate_succ,List.flatten_cons,List.flatten_cons];exact aa.append h (aa.rep h n)
end lists
abbrev RV0(K:PySem.W.Frag)(σD:RL.St)(σ:L2.St)(H:Hp):Prop:=σD.length<=σ.length/\∀ (i:Nat) (d:RL.D),σD[i]?=some (some d)->∃ v,σ[i]?=some (some v)/\Rep nP K H d v
def RV0.same{K:PySem.W.Frag}(h:RV0 K σD σ H)(e:aq H H'):RV0 K σD σ H':=⟨h.1,fun i d q=>by
 obtain⟨v,h1,h2⟩:=h.2 i d q
 exact⟨v,h1,h2.same e⟩⟩
abbrev iL:RL.D->Bool
 | .lst _=>true
 | .dK _ _=>true
 | .dT _ _=>true
 | _=>false
structure Res(K:PySem.W.Frag)(σD:RL.St)(σ:L2.St)(H:Hp)(e:RL.E)(d:RL.D)(v:V)(H':Hp):Prop where
 same:aq H H'
 rep:Rep nP K H' d v
 fresh:RL.a9 e=true->iL d=true->∀ a,v=.ref a->H a=none
 av:∀ M,RL.avE M e=true->∀ P:Addr->Prop,(∀ a,P a->H a≠none)->(∀ (j:Nat) (dj:RL.D) (vj:V),M.contains j=false->σD[j]?=some (some dj)->σ[j]?=some (some vj)->Rep P K H dj vj)->Rep P K H' d v
abbrev tE(K:PySem.W.Frag)(cl:RL.Cl)(e:RL.E):TE:=fun σ H Q=>∃ σD d,RV0 K σD σ H/\RL.ev cl σD e=some d/\∀ v H',Res K σD σ H e d v H'->Q v H'
abbrev SE(X:Cx)(cl:RL.Cl)(e:Expr)(e':RL.E):Prop:=PE X e (tE X.K cl e')
def PE.weak(h:PE X e t)(w:∀ σ H Q,t' σ H Q->t σ H Q):PE X e t':=fun pins s σ H Q I q=>h pins s σ H Q I (w σ H Q q)
abbrev tEs(K:PySem.W.Frag)(cl:RL.Cl)(es:RL.Es):TA:=fun σ H Q=>∃ σD ds,RV0 K σD σ H/\RL.evs cl σD es=some ds/\∀ vs H',aq H H'->aa nP K H' ds vs->Q vs H'
abbrev SEs(X:Cx)(cl:RL.Cl)(es:List Expr)(es':RL.Es):Prop:=PA X es (tEs X.K cl es')
section rules
variable{X:Cx}
def two{σD:RL.St}{σ:L2.St}{H:Hp}{x y:RL.D}{R:V->V->Hp->Prop}(rv:RV0 X.K σD σ H)(ea:RL.ev cl σD a'=some x)(eb:RL.ev cl σD b'=some y)
 (k:∀ v u H1 H2,aq H H1->aq H1 H2->Rep nP X.K H2 x v->Rep nP X.K H2 y u->Res X.K σD σ H a' x v H1->Res X.K σD σ H1 b' y u H2->R v u H2) :
  tE X.K cl a' σ H fun v H1=>tE X.K cl b' σ H1 fun u H2=>R v u H2 :=
 ⟨σD,x,rv,ea,fun v H1 r1=>⟨σD,y,rv.same r1.same,eb,fun u H2 r2=>k v u H1 H2 r1.same r2.same (r1.rep.same r2.same) r2.rep r1 r2⟩⟩
def bind_some(h:o.bind f=some y):∃ x,o=some x/\f x=some y:=by
 cases o with
 | none=>cases h
 | some x=>exact⟨x,rfl,h⟩
def map_some(h:o.map f=some y):∃ x,o=some x/\f x=y:=by
 cases o with
 | none=>cases h
 | some x=>exact⟨x,rfl,Option.some.inj h⟩
def bK:RL.most<=sizeLine:=by decide
def aq.bW(hn:H p=none):aq H (upd H p o):=fun b u e=>by rw[aD (aB e hn)];exact e
def Bj(hN:X.N[i]?=some x)(hv:Vis X.env.scope x)(hd:(x == ("__debug__" : Str))=false)(hcd:(x == ("__classdict__" : Str))=false):SE X cl (.Name x pos) (.var i):=by
 refine PE.weak (gN hN hv hd hcd) fun σ H Q h=>?_;obtain⟨σD,d,rv,e,k⟩:=h
 have e':σD[i]?=some (some d):=by
  obtain⟨o,h1,h2⟩:=bind_some e
  cases o with
  | none=>cases h2
  | some z=>cases h2;exact h1
 obtain⟨v,h1,h2⟩:=rv.2 i d e';refine⟨v,h1,k v H ⟨aq.refl H,h2,fun z=>(by cases z),fun M z P hP av=>?_⟩⟩;rw[RL.DM]at z;exact av i d v (by simpa using z) e' h1
def kH(h:PE X (.Constant k j pos) (tC v))(r:∀ P H,Rep P X.K H d v)(hm:iL d=false):SE X cl (.Constant k j pos) (.cst d):=by
 refine PE.weak h fun σ H Q q=>?_;obtain⟨σD,d',rv,e,k⟩:=q;cases e;exact k v H ⟨aq.refl H,r _ _,fun z=>(by cases z),fun M z=>nomatch (show false=true from z)⟩
def Cp{x:Str}{i:Int}{u:Value}(h:PE X (.Name x pos) (tC (.int i))):SE X cl (.Name x pos) (.glb x i):=by
 refine PE.weak h fun σ H Q q=>?_;obtain⟨σD,d',rv,e,k⟩:=q;cases e;exact k _ H ⟨aq.refl H,(by rw[Rep]),fun z=>(by cases z),fun M z=>nomatch (show false=true from z)⟩
end rules
section rules
variable{X:Cx}
def cV(sm:aq H H')(r:Rep nP X.K H' d v)(im:d.imm=true):Res X.K σD σ H e d v H' where
 same:=sm
 rep:=r
 fresh:=fun _ m=>by
  cases d with
  | lst _=>cases im
  | dK _ _=>cases im
  | dT _ _=>cases im
  | _=>cases m
 av:=fun M _ P _ _=>r.imm im
def xc:OpR X (binaryOp .FloorDiv) (rI (fun _ j=>0<j/\j<2 ^ 200) fun i j=>.int (i / j)):=opI fun i j _ _ _ _ _ hc q=>by
 refine floordiv_int (by lia) ?_ (.inl (PyProof.noPylong_of_log2 ?_))
 ·rw[Int.fdiv_eq_ediv_of_nonneg _ (by lia)];exact q
 ·have h0:j.natAbs≠0:=by lia
  have h1:j.natAbs<2 ^ 200:=by
   have:=hc.2;omega
  have h2:j.natAbs.log2<200:=(Nat.log2_lt h0).mpr h1;lia
def cM(sm:aq H H1)(hn:H1 p=none)(r:aa nP X.K H1 ds xs)(hav:∀ M,RL.avE M e=false):Res X.K σD σ H e (.lst ds) (.ref p) (upd H1 p (.lst xs)) where
 same:=sm.trans (aq.bW hn)
 rep:=by
  rw[Rep];exact⟨p,xs,rfl,fun z=>z,aW,r.same (aq.bW hn)⟩
 fresh:=fun _ _ a z=>by
  cases z;exact sm.free hn
 av:=fun M z=>by rw[hav M]at z;cases z
def fY(sm:aq H H1)(hn:H1 p=none)(r:aa nP X.K H1 ds xs)(hav:∀ M,RL.avE M e=false):Res X.K σD σ H e (.tup ds) (.ref p) (upd H1 p (.tup xs)) where
 same:=sm.trans (aq.bW hn)
 rep:=by
  rw[Rep];exact⟨p,xs,rfl,aW,r.same (aq.bW hn)⟩
 fresh:=fun _ m=>by cases m
 av:=fun M z=>by rw[hav M]at z;cases z
abbrev qq:RL.Bop->Operator
 | .add=>.Add
 | .sub=>.Sub
 | .mul=>.Mult
 | .fdiv=>.FloorDiv
 | .mod=>.Mod
 | .pow=>.Pow
def aR{P:Addr->Prop}{K:PySem.W.Frag}:Rep P K H (.int i) (.int i):=by rw[Rep]
def qE{P:Addr->Prop}{K:PySem.W.Frag}:Rep P K H (.bl i) (.bl i):=by rw[Rep]
def hV{P:Addr->Prop}{K:PySem.W.Frag}:Rep P K H (.str i) (.str i):=by rw[Rep]
def af{P:Addr->Prop}{K:PySem.W.Frag}(h:Rep P K H (.int i) v):v=.int i:=by rw[Rep]at h;exact h
def aL{P:Addr->Prop}{K:PySem.W.Frag}(h:Rep P K H (.bl i) v):v=.bl i:=by rw[Rep]at h;exact h
def aF{P:Addr->Prop}{K:PySem.W.Frag}(h:Rep P K H (.str i) v):v=.str i:=by rw[Rep]at h;exact h
abbrev l9(X:Cx)(o:RL.Bop)(r:R2):Prop :=
 ∀ (σD:RL.St) (σ:L2.St) (H H2:Hp) (e:RL.E) (x y d:RL.D) (v u:V) (Q:VK),aq H H2->Rep nP X.K H2 x v->Rep nP X.K H2 y u->RL.aE o x y=some d->(∀ M,RL.avE M e=false) ->
  (∀ w H',Res X.K σD σ H e d w H'->Q w H')->r v u H2 Q
def fG(ho:OpR X (binaryOp (qq o)) r)(ok:l9 X o r)(ha:SE X cl a a')(hb:SE X cl b b'):SE X cl (.BinOp a (qq o) b pos) (.bin o a' b'):=by
 refine PE.weak (za ho ha hb) fun σ H Q h=>?_;obtain⟨σD,d,rv,e,k⟩:=h;obtain⟨x,ea,e⟩:=bind_some e;obtain⟨y,eb,e⟩:=bind_some e;refine two rv ea eb fun v u H1 H2 s1 s2 rx ry _ _=>?_;exact ok σD σ H H2 _ x y d v u Q (s1.trans s2) rx ry e (fun _=>rfl) k
end rules
section rules
variable{X:Cx}{cl:RL.Cl}{a b c:Expr}{a' b' c':RL.E}{pos:Pos}
def bQ{α:Type}{c:Prop} [Decidable c]{a d:α}(h:(if c then some a else none)=some d):c/\d=a:=by
 by_cases hc:c
 ·rw[if_pos hc]at h;exact⟨hc,(Option.some.inj h).symm⟩
 ·rw[if_neg hc]at h;cases h
def noN{α:Type}{o:Option α}{d:α}{p:Prop}(e:o=none)(h:o=some d):p:=by rw[e]at h;cases h
def yC{x y d:RL.D}(h:RL.aE .add x y=some d):(∃ i j,x=.int i/\y=.int j/\d=.int (i+j))\/(∃ i j:Str,x=.str i/\y=.str j/\i.length+j.length<=RL.most/\d=.str (i++j)) \/
  (∃ i j,x=.lst i/\y=.lst j/\i.length+j.length<=RL.most/\d=.lst (i++j)) \/
  (∃ i j,x=.tup i/\y=.tup j/\(i.length+j.length<=RL.most/\0<i.length)/\d=.tup (i++j)):=by
 cases x with
 | int i=>cases y with
  | int j=>cases h;exact .inl ⟨i,j,rfl,rfl,rfl⟩
  | _=>exact noN rfl h
 | str i=>cases y with
  |str j=>
   obtain⟨hc,e⟩:=bQ h;exact .inr (.inl ⟨i,j,rfl,rfl,hc,e⟩)
  | _=>exact noN rfl h
 | lst i=>cases y with
  |lst j=>
   obtain⟨hc,e⟩:=bQ h;exact .inr (.inr (.inl ⟨i,j,rfl,rfl,hc,e⟩))
  | _=>exact noN rfl h
 | tup i=>cases y with
  |tup j=>
   obtain⟨hc,e⟩:=bQ h;exact .inr (.inr (.inr ⟨i,j,rfl,rfl,hc,e⟩))
  | _=>exact noN rfl h
 | _=>exact noN rfl h
def xB{x y d:RL.D}(h:RL.aE .mul x y=some d):(∃ i j,x=.int i/\y=.int j/\sZ i j/\d=.int (i*j)) \/
  (∃ i j,x=.lst i/\y=.int j/\(0<=j/\j<=RL.most/\i.length*j.toNat<=RL.most)/\d=.lst (List.replicate j.toNat i).flatten):=by
 cases x with
 | int i=>cases y with
  |int j=>
   obtain⟨hc,e⟩:=bQ h;exact .inl ⟨i,j,rfl,rfl,hc,e⟩
  | _=>exact noN rfl h
 | lst i=>cases y with
  |int j=>
   obtain⟨hc,e⟩:=bQ h;exact .inr ⟨i,j,rfl,rfl,hc,e⟩
  | _=>exact noN rfl h
 | _=>exact noN rfl h
def gx{o:RL.Bop}{x y d:RL.D}(h:RL.aE o x y=some d)(ho:o≠.add)(hm:o≠.mul):∃ i j,x=.int i/\y=.int j/\RL.aE o (.int i) (.int j)=some d:=by
 have no:∀ {a b:RL.D},RL.aE .sub a b=none->RL.aE .fdiv a b=none->RL.aE .mod a b=none->RL.aE .pow a b=none->RL.aE o a b=some d->False:=fun e1 e2 e3 e4 h=>by
  cases o with
  | add=>exact ho rfl
  | mul=>exact hm rfl
  | sub=>rw[e1]at h;cases h
  | fdiv=>rw[e2]at h;cases h
  | mod=>rw[e3]at h;cases h
  | pow=>rw[e4]at h;cases h
 cases x with
 | int i=>cases y with
  | int j=>exact⟨i,j,rfl,rfl,h⟩
  | _=>exact(no rfl rfl rfl rfl h).elim
 | _=>exact(no rfl rfl rfl rfl h).elim
def wJ{x y d:RL.D}(h:RL.aE .sub x y=some d):∃ i j,x=.int i/\y=.int j/\d=.int (i-j):=by
 obtain⟨i,j,e1,e2,h⟩:=gx h (by decide) (by decide);cases h;exact⟨i,j,e1,e2,rfl⟩
def uK{x y d:RL.D}(h:RL.aE .fdiv x y=some d):∃ i j,x=.int i/\y=.int j/\(0<j/\j<2 ^ 200)/\d=.int (i / j):=by
 obtain⟨i,j,e1,e2,h⟩:=gx h (by decide) (by decide);obtain⟨hc,e⟩:=bQ h;exact⟨i,j,e1,e2,hc,e⟩
def wV{x y d:RL.D}(h:RL.aE .mod x y=some d):∃ i j,x=.int i/\y=.int j/\0<j/\d=.int (i%j):=by
 obtain⟨i,j,e1,e2,h⟩:=gx h (by decide) (by decide);obtain⟨hc,e⟩:=bQ h;exact⟨i,j,e1,e2,hc,e⟩
def xR{x y d:RL.D}(h:RL.aE .pow x y=some d):∃ i j,x=.int i/\y=.int j/\(0<=j/\j<=1000/\i.natAbs<2 ^ 64)/\d=.int (i ^ j.toNat):=by
 obtain⟨i,j,e1,e2,h⟩:=gx h (by decide) (by decide);obtain⟨hc,e⟩:=bQ h;exact⟨i,j,e1,e2,hc,e⟩
def a7{P:Addr->Prop}{K:PySem.W.Frag}{H:Hp}{ds:List RL.D}{v:V}(h:Rep P K H (.lst ds) v):∃ a xs,v=.ref a/\¬ P a/\H a=some (.lst xs)/\aa P K H ds xs:=by rw[Rep]at h;exact h
def aS{P:Addr->Prop}{K:PySem.W.Frag}{H:Hp}{ds:List RL.D}{v:V}(h:Rep P K H (.tup ds) v):∃ a xs,v=.ref a/\H a=some (.tup xs)/\aa P K H ds xs:=by rw[Rep]at h;exact h
def CU:l9 X .sub (rI0 fun i j=>.int (i-j)):=by
 intro σD σ H H2 e x y d v u Q sm rx ry h hav k;obtain⟨i,j,rfl,rfl,rfl⟩:=wJ h;exact⟨i,j,af rx,af ry,k _ _ (cV sm aR rfl)⟩
def Af:l9 X .fdiv (rI (fun _ j=>0<j/\j<2 ^ 200) fun i j=>.int (i / j)):=by
 intro σD σ H H2 e x y d v u Q sm rx ry h hav k;obtain⟨i,j,rfl,rfl,hc,rfl⟩:=uK h;exact⟨i,j,af rx,af ry,hc,k _ _ (cV sm aR rfl)⟩
def CS:l9 X .mod (rI (fun _ j=>0<j) fun i j=>.int (i%j)):=by
 intro σD σ H H2 e x y d v u Q sm rx ry h hav k;obtain⟨i,j,rfl,rfl,hc,rfl⟩:=wV h;exact⟨i,j,af rx,af ry,hc,k _ _ (cV sm aR rfl)⟩
def DY:l9 X .pow (rI Eh fun i j=>.int (i ^ j.toNat)):=by
 intro σD σ H H2 e x y d v u Q sm rx ry h hav k;obtain⟨i,j,rfl,rfl,hc,rfl⟩:=xR h;exact⟨i,j,af rx,af ry,⟨hc.1,Int.le_trans hc.2.1 (by decide),hc.2.2⟩,k _ _ (cV sm aR rfl)⟩
def Ef(ha:SE X cl a a')(hb:SE X cl b b'):SE X cl (.BinOp a .Add b pos) (.bin .add a' b'):=by
 refine fG (o:=.add) (By.or (t5.or (C8.or zO))) ?_ ha hb;intro σD σ H H2 e x y d v u Q sm rx ry h hav k
 rcases yC h with⟨i,j,rfl,rfl,rfl⟩ | ⟨i,j,rfl,rfl,hc,rfl⟩ | ⟨i,j,rfl,rfl,hc,rfl⟩ | ⟨i,j,rfl,rfl,⟨hc,ha⟩,rfl⟩
 ·exact .inl ⟨i,j,af rx,af ry,k _ _ (cV sm aR rfl)⟩
 ·exact .inr (.inl ⟨i,j,aF rx,aF ry,Nat.le_trans hc bK,k _ _ (cV sm hV rfl)⟩)
 ·obtain⟨p,xs,e1,_,e2,e3⟩:=a7 rx;obtain⟨q,ys,f1,_,f2,f3⟩:=a7 ry;refine .inr (.inr (.inl ⟨p,q,xs,ys,e1,f1,e2,f2,?_,fun l hl=>k _ _ (cM sm hl (e3.append f3) hav)⟩));rw[<-e3.length,<-f3.length];exact Nat.le_trans hc bK
 ·obtain⟨p,xs,e1,e2,e3⟩:=aS rx;obtain⟨q,ys,f1,f2,f3⟩:=aS ry;refine .inr (.inr (.inr ⟨p,q,xs,ys,e1,f1,SqT.of e2,SqT.of f2,fun z=>?_,?_,fun z=>?_,fun _ l hl=>k _ _ (fY sm hl (e3.append f3) hav)⟩))
  ·rw[e3.length,z]at ha;exact absurd ha (by decide)
  ·rw[<-e3.length,<-f3.length];exact Nat.le_trans hc bK
  ·have hj:j=[]:=by
    have:=f3.length;rw[z]at this;exact List.length_eq_zero_iff.mp this
   subst hj;rw[List.append_nil]at k;exact k _ _ ⟨sm,e1▸rx,fun _ m=>(by cases m),fun M z=>by rw[hav M]at z;cases z⟩
def BF(ha:SE X cl a a')(hb:SE X cl b b'):SE X cl (.BinOp a .Mult b pos) (.bin .mul a' b'):=by
 refine fG (o:=.mul) (Bo.or D7) ?_ ha hb;intro σD σ H H2 e x y d v u Q sm rx ry h hav k
 rcases xB h with⟨i,j,rfl,rfl,hc,rfl⟩ | ⟨i,j,rfl,rfl,hc,rfl⟩
 ·exact .inl ⟨i,j,af rx,af ry,hc,k _ _ (cV sm aR rfl)⟩
 ·obtain⟨p,xs,e1,_,e2,e3⟩:=a7 rx;refine .inr ⟨p,j,xs,e1,af ry,e2,?_,?_,?_,fun l hl=>k _ _ (cM sm hl (e3.rep _) hav)⟩
  ·exact Int.le_trans (by decide) hc.1
  ·exact Int.lt_of_le_of_lt hc.2.1 (by decide)
  ·rw[<-e3.length];exact Nat.le_trans hc.2.2 bK
def CT{o:RL.Bop}(ha:SE X cl a a')(hb:SE X cl b b'):SE X cl (.BinOp a (qq o) b pos) (.bin o a' b'):=by
 cases o with
 | add=>exact Ef ha hb
 | mul=>exact BF ha hb
 | sub=>exact fG (o:=.sub) Dq CU ha hb
 | fdiv=>exact fG (o:=.fdiv) xc Af ha hb
 | mod=>exact fG (o:=.mod) Bq CS ha hb
 | pow=>exact fG (o:=.pow) CG DY ha hb
def eL{σD:RL.St}{σ:L2.St}{H H':Hp}{e:RL.E}{k:Bool}(sm:aq H H'):Res X.K σD σ H e (.bl k) (.bl k) H':=cV sm qE rfl
def BJ{rest:List Expr}(ha:SE X cl a a')(hb:SE X cl (.BoolOp .And (b::rest) pos) b'):SE X cl (.BoolOp .And (a::b::rest) pos) (.and a' b'):=by
 refine PE.weak (DB ha hb) fun σ H Q h=>?_;obtain⟨σD,d,rv,e,k⟩:=h;obtain⟨x,ea,e⟩:=bind_some e;refine⟨σD,x,rv,ea,fun v H1 r1=>?_⟩
 cases x with
 |bl t=>
  refine⟨t,aL r1.rep,?_⟩
  cases t with
  |true=>
   refine eJ ?_;refine⟨σD,d,rv.same r1.same,e,fun w H2 r2=>k w H2 ?_⟩;exact⟨r1.same.trans r2.same,r2.rep,fun z=>(by cases z),fun M z=>nomatch (show false=true from z)⟩
  |false=>
   refine f7 ?_;cases e;exact k _ _ (eL r1.same)
 | _=>cases e
def E4{rest:List Expr}(ha:SE X cl a a')(hb:SE X cl (.BoolOp .Or (b::rest) pos) b'):SE X cl (.BoolOp .Or (a::b::rest) pos) (.or a' b'):=by
 refine PE.weak (Fd ha hb) fun σ H Q h=>?_;obtain⟨σD,d,rv,e,k⟩:=h;obtain⟨x,ea,e⟩:=bind_some e;refine⟨σD,x,rv,ea,fun v H1 r1=>?_⟩
 cases x with
 |bl t=>
  refine⟨t,aL r1.rep,?_⟩
  cases t with
  |false=>
   refine f7 ?_;refine⟨σD,d,rv.same r1.same,e,fun w H2 r2=>k w H2 ?_⟩;exact⟨r1.same.trans r2.same,r2.rep,fun z=>(by cases z),fun M z=>nomatch (show false=true from z)⟩
  |true=>
   refine eJ ?_;cases e;exact k _ _ (eL r1.same)
 | _=>cases e
def wz{op}(ha:SE X cl a a'):SE X cl (.BoolOp op [a] pos) a':=BO ha
abbrev tT(K:PySem.W.Frag)(cl:RL.Cl)(e:RL.E):TT:=fun σ H Q=>∃ σD k,RV0 K σD σ H/\(RL.ev cl σD e).bind RL.truth=some k/\∀ H',aq H H'->Q k H'
abbrev ST(X:Cx)(cl:RL.Cl)(e:Expr)(e':RL.E):Prop:=PT X e (tT X.K cl e')
abbrev SW(X:Cx)(cl:RL.Cl)(e:Expr)(e':RL.E):Prop:=PW X e (tT X.K cl e')
def PT.weak{e:Expr}{t t':TT}(h:PT X e t)(w:∀ σ H Q,t' σ H Q->t σ H Q):PT X e t':=fun pins s σ H Q I q=>h pins s σ H Q I (w σ H Q q)
def PW.weak{e:Expr}{t t':TT}(h:PW X e t)(w:∀ σ H Q,t' σ H Q->t σ H Q):PW X e t':=fun wh pins s σ H Q I q=>h wh pins s σ H Q I (w σ H Q q)
def aa.isEmpty{P:Addr->Prop}{K:PySem.W.Frag}{H:Hp}{ds:List RL.D}{xs:List V}(h:aa P K H ds xs):ds.isEmpty=xs.isEmpty:=by
 cases ds with
 | nil=>rw[aa]at h;rw[h];rfl
 |cons d r=>
  rw[aa]at h;obtain⟨x,t,rfl,_⟩:=h;rfl
def Bn{K:PySem.W.Frag}{H:Hp}{d:RL.D}{v:V}{k:Bool}(r:Rep nP K H d v)(h:RL.truth d=some k):tZ K v H k:=by
 cases d<;>simp only[RL.truth]at h<;>first | (cases h;done) | skip
 case bl t=>cases h;rw[aL r];exact rfl
 case int t =>
  cases h;rw[af r];simp[tZ]
 case tup ds =>
  obtain⟨a,xs,rfl,e,rs⟩:=aS r;cases h;exact .inr (.inl ⟨xs,SqT.of e,by rw[rs.isEmpty]⟩)
 case lst ds =>
  obtain⟨a,xs,rfl,_,e,rs⟩:=a7 r;cases h;exact .inl ⟨xs,SqL.of e,by rw[rs.isEmpty]⟩
def xo(ha:SE X cl a a')(he:∀ whole,isTrue a X.env whole=(do let v <- whole;standAt a.pos;holding [v] (truthy v))):ST X cl a a':=by
 refine PT.weak (yu ha he) fun σ H Q h=>?_;obtain⟨σD,k,rv,e,q⟩:=h;obtain⟨d,e1,e2⟩:=bind_some e;exact⟨σD,d,rv,e1,fun v H1 r1=>⟨k,Bn r1.rep e2,q H1 r1.same⟩⟩
def uS{op:BoolOp}(ha:ST X cl a a'):SW X cl (.BoolOp op [a] pos) a':=by
 cases op with
 | And=>exact zJ ha
 | Or=>exact Dl ha
def vW{σD:RL.St}{k:Bool}(h:(RL.ev cl σD (.and a' b')).bind RL.truth=some k):∃ t,(RL.ev cl σD a').bind RL.truth=some t/\(if t=true then(RL.ev cl σD b').bind RL.truth=some k else k=false):=by
 rw[RL.jK]at h
 cases ea:RL.ev cl σD a' with
 | none=>rw[ea]at h;cases h
 |some x=>
  rw[ea]at h
  cases x with
  |bl t=>
   cases t with
   | true=>exact⟨true,rfl,eJ h⟩
   | false=>exact⟨false,rfl,f7 (by cases h;rfl)⟩
  | _=>exact noN rfl h
def yD{σD:RL.St}{k:Bool}(h:(RL.ev cl σD (.or a' b')).bind RL.truth=some k):∃ t,(RL.ev cl σD a').bind RL.truth=some t/\(if t=true then k=true else(RL.ev cl σD b').bind RL.truth=some k):=by
 rw[RL.xa]at h
 cases ea:RL.ev cl σD a' with
 | none=>rw[ea]at h;cases h
 |some x=>
  rw[ea]at h
  cases x with
  |bl t=>
   cases t with
   | true=>exact⟨true,rfl,eJ (by cases h;rfl)⟩
   | false=>exact⟨false,rfl,f7 h⟩
  | _=>exact noN rfl h
def DI{rest:List Expr}(ha:ST X cl a a')(hb:SW X cl (.BoolOp .And (b::rest) pos) b'):SW X cl (.BoolOp .And (a::b::rest) pos) (.and a' b'):=by
 refine PW.weak (BP ha hb) fun σ H Q h=>?_;obtain⟨σD,k,rv,e,q⟩:=h;obtain⟨t,e1,e2⟩:=vW e;refine⟨σD,t,rv,e1,fun H1 s1=>?_⟩
 cases t with
 | true=>exact eJ ⟨σD,k,rv.same s1,e2,fun H2 s2=>q H2 (s1.trans s2)⟩
 |false=>
  have e2:k=false:=e2;subst e2;exact f7 (q H1 s1)
def EW{rest:List Expr}(ha:ST X cl a a')(hb:SW X cl (.BoolOp .Or (b::rest) pos) b'):SW X cl (.BoolOp .Or (a::b::rest) pos) (.or a' b'):=by
 refine PW.weak (Fe ha hb) fun σ H Q h=>?_;obtain⟨σD,k,rv,e,q⟩:=h;obtain⟨t,e1,e2⟩:=yD e;refine⟨σD,t,rv,e1,fun H1 s1=>?_⟩
 cases t with
 |true=>
  have e2:k=true:=e2;subst e2;exact eJ (q H1 s1)
 | false=>exact f7 ⟨σD,k,rv.same s1,e2,fun H2 s2=>q H2 (s1.trans s2)⟩
def Br(ha:ST X cl a a'):ST X cl (.UnaryOp .Not a pos) (.not a'):=by
 refine PT.weak (C7 ha) fun σ H Q h=>?_;obtain⟨σD,k,rv,e,q⟩:=h;obtain⟨d,e1,e2⟩:=bind_some e;obtain⟨t,e3,e4⟩:=map_some e1;subst e4;cases e2;exact⟨σD,t,rv,e3,fun H1 s1=>q H1 s1⟩
def DN(hc:ST X cl c c')(ha:SE X cl a a')(hb:SE X cl b b'):SE X cl (.IfExp c a b pos) (.ifx c' a' b'):=by
 refine PE.weak (yz hc ha hb) fun σ H Q h=>?_;obtain⟨σD,d,rv,e,q⟩:=h;obtain⟨t,e1,e2⟩:=bind_some e;refine⟨σD,t,rv,e1,fun H1 s1=>?_⟩;have fin:∀ (a':RL.E) (v:V) (H2:Hp),(∀ M,RL.avE M (.ifx c' a' b')=true->RL.avE M a'=true)->True:=fun _ _ _ _=>trivial
 cases t with
 |true=>
  refine eJ ⟨σD,d,rv.same s1,e2,fun v H2 r2=>q v H2 ⟨s1.trans r2.same,r2.rep,fun z=>(by cases z),fun M z P hP av=>?_⟩⟩;have z:(RL.avE M a'&&RL.avE M b')=true:=z;rw[Bool.and_eq_true]at z;exact r2.av M z.1 P (fun a p=>(Option.ne_none_iff_exists'.mpr (by obtain⟨o,ho⟩:=Option.ne_none_iff_exists'.mp (hP a p);exact⟨o,s1 _ _ ho⟩))) fun j dj vj h1 h2 h3=>(av j dj vj h1 h2 h3).same s1
 |false=>
  refine f7 ⟨σD,d,rv.same s1,e2,fun v H2 r2=>q v H2 ⟨s1.trans r2.same,r2.rep,fun z=>(by cases z),fun M z P hP av=>?_⟩⟩;have z:(RL.avE M a'&&RL.avE M b')=true:=z;rw[Bool.and_eq_true]at z;exact r2.av M z.2 P (fun a p=>(Option.ne_none_iff_exists'.mpr (by obtain⟨o,ho⟩:=Option.ne_none_iff_exists'.mp (hP a p);exact⟨o,s1 _ _ ho⟩))) fun j dj vj h1 h2 h3=>(av j dj vj h1 h2 h3).same s1
end rules
section rules
variable{X:Cx}
def BD(ha:SE X cl a a'):SE X cl (.UnaryOp .Not a pos) (.not a'):=by
 intro pins s σ H Q I h;obtain⟨σD,d,rv,e,k⟩:=h;obtain⟨t,e1,e2⟩:=map_some e;obtain⟨x,e3,e4⟩:=bind_some e1;subst e2;refine UnaryOp_ (thn (ha pins s σ H (fun v H1=>aq H H1/\Rep nP X.K H1 x v) I ⟨σD,x,rv,e3,fun v H1 r1=>⟨r1.same,r1.rep⟩⟩) fun v s1 ⟨y,H1,I1,r1,sm,rp⟩=>?_);refine not_of (thn (uH pins s1 σ H1 y v (fun k H2=>k=t/\H2=H1) I1 r1 ⟨t,Bn rp e4,rfl,rfl⟩) fun k2 s2 ⟨H2,I2,q1,q2⟩=>?_);subst q1;subst q2;exact⟨.bl (!k2),H2,I2,rfl,k _ _ (eL sm)⟩
abbrev noStar:Expr->Bool
 | .Starred _ _=>false
 | _=>true
def a5(es:List Expr)(h:noStar e=true):starEach (e::es) X.env=(false,eval e X.env)::starEach es X.env:=by
 cases e<;>first | rfl | (cases h)
def dO:∀ {es:List Expr} {pos:Pos},es.all noStar=true->(backTo pos (starEach es X.env)).any (·.1)=false
 | [],_,_=>rfl
 | e::es,pos,h=>by
  rw[List.all_cons,Bool.and_eq_true]at h;rw[a5 es h.1];show(false || (backTo pos (starEach es X.env)).any (·.1))=false;rw[dO h.2];rfl
def cL:SEs X cl [] .nil:=by
 intro pos pins s σ H Q I h;obtain⟨σD,ds,rv,e,k⟩:=h;cases e;exact eu pos pins s σ H Q I (k [] H (aq.refl H) aa.nil)
def bh(he:SE X cl e e')(hr:SEs X cl es es')(hn:noStar e=true):SEs X cl (e::es) (.cons e' es'):=by
 intro pos pins s σ H Q I h;refine bV he hr (a5 es hn) pos pins s σ H Q I ?_;obtain⟨σD,ds,rv,e,k⟩:=h;obtain⟨d,e1,e2⟩:=bind_some e;obtain⟨r,e3,e4⟩:=map_some e2;subst e4;refine⟨σD,d,rv,e1,fun v H1 r1=>⟨σD,r,rv.same r1.same,e3,fun vs H2 s2 r2=>k (v::vs) H2 (r1.same.trans s2) (aa.cons (r1.rep.same s2) r2)⟩⟩
abbrev et:RL.Es->Nat
 | .nil=>0
 | .cons _ r=>et r+1
def jX:∀ {es:RL.Es} {ds:List RL.D},RL.evs cl σD es=some ds->ds.length=et es
 | .nil,ds,h=>by rw[RL.evs]at h;cases h;rfl
 | .cons e r,ds,h=>by
  obtain⟨d,e1,e2⟩:=bind_some h;obtain⟨t,e3,e4⟩:=map_some e2;subst e4;rw[List.length_cons,jX e3,et]
def BI(h:SEs X cl es es')(hl:et es'<=1000):SE X cl (.Tuple es x1 pos) (.tup es'):=by
 refine PE.weak (DV h) fun σ H Q q=>?_;obtain⟨σD,d,rv,e,k⟩:=q;obtain⟨ds,e1,e2⟩:=map_some e;subst e2;refine⟨σD,ds,rv,e1,fun vs H1 s1 r1=>⟨?_,fun p hp=>k _ _ (fY s1 hp r1 fun _=>rfl)⟩⟩;rw[<-r1.length,jX e1];exact Nat.le_of_lt (nj hl)
def BY(h:SEs X cl es es')(hl:et es'<=1000):SE X cl (.List es pos) (.lst es'):=by
 refine PE.weak (B7 h) fun σ H Q q=>?_;obtain⟨σD,d,rv,e,k⟩:=q;obtain⟨ds,e1,e2⟩:=map_some e;subst e2;refine⟨σD,ds,rv,e1,fun vs H1 s1 r1=>⟨?_,fun p hp=>k _ _ (cM s1 hp r1 fun _=>rfl)⟩⟩;rw[<-r1.length,jX e1];exact Nat.le_of_lt (nj hl)
def lO(h:RL.c8 xs i=some x):atI xs i=some x:=by
 unfold RL.c8 at h;unfold atI ixN;by_cases h0:0<=i
 ·rw[if_pos h0]at h;rw[if_pos h0];obtain⟨h1,_⟩:=List.getElem?_eq_some_iff.mp h;rw[if_pos (by lia)];exact h
 ·rw[if_neg h0]at h;rw[if_neg h0];by_cases h1:-(xs.length:Int)<=i
  ·rw[if_pos h1]at h;rw[if_pos h1];exact h
  ·rw[if_neg h1]at h;cases h
def gh{P:Addr->Prop}{K:PySem.W.Frag}(r:aa P K H ds xs)(h:RL.c8 ds i=some d):∃ x,RL.c8 xs i=some x/\Rep P K H d x:=by
 unfold RL.c8 at h ⊢;rw[<-r.length];by_cases h0:0<=i
 ·rw[if_pos h0]at h ⊢;exact r.get h
 ·rw[if_neg h0]at h ⊢;by_cases h1:-(ds.length:Int)<=i
  ·rw[if_pos h1]at h ⊢;exact r.get h
  ·rw[if_neg h1]at h;cases h
abbrev pB:Expr->Bool
 | .Slice _ _ _ _=>false
 | _=>true
def Am(h:pB b=true):sA b:=by
 intro o i
 cases b<;>first | rfl | (cases h)
def vk(h:RL.ixV x y=some d):(∃ xs i,x=.lst xs/\y=.int i/\RL.c8 xs i=some d)\/(∃ xs i,x=.tup xs/\y=.int i/\RL.c8 xs i=some d) \/
  (∃ (z:Str) (i:Int) (c:Nat),x=.str z/\y=.int i/\z.length<=RL.most/\RL.c8 z.cps.toList i=some c/\d=.str ⟨#[c]⟩):=by
 have no:∀ {o:Option RL.D},o=none->o=some d->False:=fun e h=>by rw[e]at h;cases h
 cases x with
 | lst xs=>cases y with
  | int i=>exact .inl ⟨xs,i,rfl,rfl,h⟩
  | _=>exact(no rfl h).elim
 | tup xs=>cases y with
  | int i=>exact .inr (.inl ⟨xs,i,rfl,rfl,h⟩)
  | _=>exact(no rfl h).elim
 | str z=>cases y with
  |int i=>
   by_cases hc:z.length<=RL.most
   ·obtain⟨c,e1,e2⟩:=map_some (show(RL.c8 z.cps.toList i).map (fun c=>RL.D.str ⟨#[c]⟩)=some d from(if_pos hc).symm.trans h);exact .inr (.inr ⟨z,i,c,rfl,rfl,hc,e1,e2.symm⟩)
   ·exact(no (if_neg hc) h).elim
  | _=>exact(no rfl h).elim
 | _=>exact(no rfl h).elim
def Em(ha:SE X cl a a')(hb:SE X cl b b')(hs:pB b=true):SE X cl (.Subscript a b pos) (.ix a' b'):=by
 refine PE.weak (Ek CJ ha hb (Am hs)) fun σ H Q h=>?_;obtain⟨σD,d,rv,e,k⟩:=h;obtain⟨x,ea,e⟩:=bind_some e;obtain⟨y,eb,e⟩:=bind_some e;refine two rv ea eb fun v u H1 H2 s1 s2 rx ry ra rb=>?_
 have fin:∀ (w:V),Rep nP X.K H2 d w->(∀ P:Addr->Prop,Rep P X.K H2 x v->Rep P X.K H2 d w)->Res X.K σD σ H (.ix a' b') d w H2:=fun w h1 h2=>{
  same:=s1.trans s2
  rep:=h1
  fresh:=fun z=>by cases z
  av:=fun M z P hP av=>h2 P ((ra.av M z P hP av).same s2) }
 rcases vk e with⟨xs,i,rfl,rfl,hd⟩ | ⟨xs,i,rfl,rfl,hd⟩ | ⟨z,i,c,rfl,rfl,hz,hd,rfl⟩
 ·obtain⟨p,ys,rfl,_,e2,e3⟩:=a7 rx;obtain⟨w,h1,h2⟩:=gh e3 hd;refine .inl ⟨p,ys,i,w,rfl,af ry,SqL.of e2,lO h1,k _ _ (fin w h2 fun P rp=>?_)⟩;obtain⟨p',ys',q1,_,q2,q3⟩:=a7 rp;cases q1;rw[e2]at q2;cases q2;obtain⟨w',h3,h4⟩:=gh q3 hd;rw[h1]at h3;cases h3;exact h4
 ·obtain⟨p,ys,rfl,e2,e3⟩:=aS rx;obtain⟨w,h1,h2⟩:=gh e3 hd;refine .inr (.inl ⟨p,ys,i,w,rfl,af ry,SqT.of e2,lO h1,k _ _ (fin w h2 fun P rp=>?_)⟩);obtain⟨p',ys',q1,q2,q3⟩:=aS rp;cases q1;rw[e2]at q2;cases q2;obtain⟨w',h3,h4⟩:=gh q3 hd;rw[h1]at h3;cases h3;exact h4
 ·exact .inr (.inr ⟨z,i,c,aF rx,af ry,Nat.le_trans hz bK,lO hd,k _ _ (fin _ hV fun P _=>hV)⟩)
end rules
section rules
def fI:∀ {as bs:List RL.D} {k:Bool},RL.eqs f as bs=some k ->
  ∃ e:Nat->Bool,k=(List.range (min as.length bs.length)).all e/\∀ j x y,as[j]?=some x->bs[j]?=some y->f x y=some (e j)
 | [],bs,k,h=>by
  have h:some true=some k:=by simpa[RL.eqs]using h
  cases h;exact⟨fun _=>true,by simp,fun j x y h1=>by simp at h1⟩
 | a::r,[],k,h=>by
  have h:some true=some k:=by simpa[RL.eqs]using h
  cases h;exact⟨fun _=>true,by simp,fun j x y h1 h2=>by simp at h2⟩
 | a::r,b::s,k,h=>by
  rw[RL.eqs]at h;obtain⟨e0,h1,h2⟩:=bind_some h;obtain⟨k',h3,h4⟩:=map_some h2;obtain⟨e,h5,h6⟩:=fI h3;refine⟨fun j=>match j with | 0=>e0 | j+1=>e j,?_,fun j x y hx hy=>?_⟩
  ·rw[<-h4,h5,List.length_cons,List.length_cons,Nat.succ_min_succ,List.range_succ_eq_map,List.all_cons,List.all_map];rfl
  ·cases j with
   |zero=>
    simp at hx hy;subst hx hy;exact h1
   | succ j=>exact h6 j x y (by simpa using hx) (by simpa using hy)
def fg(h:RL.eqD n x y=some k):(∃ i j,x=.bl i/\y=.bl j/\(i == j)=k)\/(∃ i j,x=.int i/\y=.int j/\(i == j)=k)\/(∃ i j,x=.str i/\y=.str j/\(i == j)=k) \/
  (∃ m i j,n=m+1/\x=.tup i/\y=.tup j/\Option.map (fun k=>k&&i.length == j.length) (RL.eqs (RL.eqD m) i j)=some k)\/(∃ m i j,n=m+1/\x=.lst i/\y=.lst j/\Option.map (fun k=>k&&i.length == j.length) (RL.eqs (RL.eqD m) i j)=some k):=by
 cases n with
 | zero=>cases x with
  | bl i=>cases y with
   | bl j=>exact .inl ⟨i,j,rfl,rfl,Option.some.inj h⟩
   | _=>exact noN rfl h
  | int i=>cases y with
   | int j=>exact .inr (.inl ⟨i,j,rfl,rfl,Option.some.inj h⟩)
   | _=>exact noN rfl h
  | str i=>cases y with
   | str j=>exact .inr (.inr (.inl ⟨i,j,rfl,rfl,Option.some.inj h⟩))
   | _=>exact noN rfl h
  | _=>exact noN rfl h
 | succ m=>cases x with
  | bl i=>cases y with
   | bl j=>exact .inl ⟨i,j,rfl,rfl,Option.some.inj h⟩
   | _=>exact noN rfl h
  | int i=>cases y with
   | int j=>exact .inr (.inl ⟨i,j,rfl,rfl,Option.some.inj h⟩)
   | _=>exact noN rfl h
  | str i=>cases y with
   | str j=>exact .inr (.inr (.inl ⟨i,j,rfl,rfl,Option.some.inj h⟩))
   | _=>exact noN rfl h
  | tup i=>cases y with
   | tup j=>exact .inr (.inr (.inr (.inl ⟨m,i,j,rfl,rfl,rfl,h⟩)))
   | _=>exact noN rfl h
  | lst i=>cases y with
   | lst j=>exact .inr (.inr (.inr (.inr ⟨m,i,j,rfl,rfl,rfl,h⟩)))
   | _=>exact noN rfl h
  | _=>exact noN rfl h
def mM{K:PySem.W.Frag}:∀ (n:Nat) (x y:RL.D) (v:V) (k:Bool),Rep nP K H x v->Rep nP K H y v->RL.eqD n x y=some k->k=true:=by
 intro n
 induction n with
 |zero=>
  intro x y v k rx ry h
  rcases fg h with⟨i,j,rfl,rfl,rfl⟩ | ⟨i,j,rfl,rfl,rfl⟩ | ⟨i,j,rfl,rfl,rfl⟩ | ⟨m,i,j,hn,hx,hy,h⟩ | ⟨m,i,j,hn,hx,hy,h⟩
  ·have:=aL rx;rw[aL ry]at this;cases this;simp
  ·have:=af rx;rw[af ry]at this;cases this;simp
  ·have:=aF rx;rw[aF ry]at this;cases this;simp
  ·cases hn
  ·cases hn
 |succ n ih=>
  intro x y v k rx ry h
  have seq:∀ (i j:List RL.D) (xs:List V) (k:Bool),aa nP K H i xs->aa nP K H j xs->Option.map (fun k=>k&&i.length == j.length) (RL.eqs (RL.eqD n) i j)=some k->k=true:=by
   intro i j xs k e3 f3 h;obtain⟨k',h1,h2⟩:=map_some h;obtain⟨e,h3,h4⟩:=fI h1;have hl:i.length=j.length:=e3.length.trans f3.length.symm
   have hk:k'=true:=by
    rw[h3,List.all_eq_true];intro m hm;rw[List.mem_range]at hm;obtain⟨w,w1,w2⟩:=e3.get (i:=m) (d:=i[m]'(by lia)) (by simp);obtain⟨w',w1',w2'⟩:=f3.get (i:=m) (d:=j[m]'(by lia)) (by simp);rw[w1]at w1';cases w1';exact ih _ _ w (e m) w2 w2' (h4 m _ _ (by simp) (by simp))
   rw[<-h2,hk,hl];simp
  rcases fg h with⟨i,j,rfl,rfl,rfl⟩ | ⟨i,j,rfl,rfl,rfl⟩ | ⟨i,j,rfl,rfl,rfl⟩ | ⟨m,i,j,hn,hx,hy,h⟩ | ⟨m,i,j,hn,hx,hy,h⟩
  ·have:=aL rx;rw[aL ry]at this;cases this;simp
  ·have:=af rx;rw[af ry]at this;cases this;simp
  ·have:=aF rx;rw[aF ry]at this;cases this;simp
  ·cases hn;subst hx;subst hy;obtain⟨p,xs,rfl,e2,e3⟩:=aS rx;obtain⟨q,ys,q1,f2,f3⟩:=aS ry;cases q1;rw[e2]at f2;cases f2;exact seq i j xs k e3 f3 h
  ·cases hn;subst hx;subst hy;obtain⟨p,xs,rfl,_,e2,e3⟩:=a7 rx;obtain⟨q,ys,q1,_,f2,f3⟩:=a7 ry;cases q1;rw[e2]at f2;cases f2;exact seq i j xs k e3 f3 h
open SeqAt in
def deep(I:Inv X pins σ H s):∀ (n:Nat) (A:Around) (x y:RL.D) (v u:V) (va ua:Value) (k:Bool),A.units+n<cLine->Rep nP X.K H x v->Rep nP X.K H y u->RelV v va->RelV u ua ->
  RL.eqD n x y=some k->RcAt A s va ua k/\EqAt A s va ua k:=by
 intro n
 induction n with
 |zero=>
  intro A x y v u va ua k hu rx ry qx qy h
  rcases fg h with⟨i,j,rfl,rfl,rfl⟩ | ⟨i,j,rfl,rfl,rfl⟩ | ⟨i,j,rfl,rfl,rfl⟩ | ⟨m,i,j,hn,hx,hy,h⟩ | ⟨m,i,j,hn,hx,hy,h⟩
  ·rw[aL rx]at qx;rw[aL ry]at qy;cases qx;cases qy;exact⟨RcAt.bool_bool i j,EqAt.bool_bool i j⟩
  ·rw[af rx]at qx;rw[af ry]at qy;obtain⟨t,rfl⟩:=qx;obtain⟨t',rfl⟩:=qy;exact⟨RcAt.int_int i t j t',EqAt.int_int i t j t'⟩
  ·rw[aF rx]at qx;rw[aF ry]at qy;obtain⟨t,rfl⟩:=qx;obtain⟨t',rfl⟩:=qy;exact⟨RcAt.str_str i t j t',EqAt.str_str i t j t'⟩
  ·cases hn
  ·cases hn
 |succ n ih=>
  intro A x y v u va ua k hu rx ry qx qy h
  rcases fg h with⟨i,j,rfl,rfl,rfl⟩ | ⟨i,j,rfl,rfl,rfl⟩ | ⟨i,j,rfl,rfl,rfl⟩ | ⟨m,i,j,hn,hx,hy,h⟩ | ⟨m,i,j,hn,hx,hy,h⟩
  ·rw[aL rx]at qx;rw[aL ry]at qy;cases qx;cases qy;exact⟨RcAt.bool_bool i j,EqAt.bool_bool i j⟩
  ·rw[af rx]at qx;rw[af ry]at qy;obtain⟨t,rfl⟩:=qx;obtain⟨t',rfl⟩:=qy;exact⟨RcAt.int_int i t j t',EqAt.int_int i t j t'⟩
  ·rw[aF rx]at qx;rw[aF ry]at qy;obtain⟨t,rfl⟩:=qx;obtain⟨t',rfl⟩:=qy;exact⟨RcAt.str_str i t j t',EqAt.str_str i t j t'⟩
  ·cases hn;subst hx;subst hy;obtain⟨p,xs,rfl,e2,e3⟩:=aS rx;obtain⟨q,ys,rfl,f2,f3⟩:=aS ry;cases qx;cases qy;obtain⟨its,r1,t1,z1⟩:=I.tuple (SqT.of e2);obtain⟨jts,r2,t2,z2⟩:=I.tuple (SqT.of f2);obtain⟨k',h1,h2⟩:=map_some h;obtain⟨e,h3,h4⟩:=fI h1;have l1:i.length=its.length:=e3.length.trans r1.length;have l2:j.length=jts.length:=f3.length.trans r2.length
   have he:∀ m (g1:m<its.toArray.size) (g2:m<jts.toArray.size),EqAt A.in1 s its.toArray[m] jts.toArray[m] (e m):=fun m g1 g2=>by
    rw[List.size_toArray]at g1 g2;obtain⟨w,w1,w2⟩:=e3.get (i:=m) (d:=i[m]'(by lia)) (by simp);obtain⟨w',w1',w2'⟩:=f3.get (i:=m) (d:=j[m]'(by lia)) (by simp);obtain⟨uu,b1,b2⟩:=r1.get w1;obtain⟨uu',b1',b2'⟩:=r2.get w1'
    have c1:its.toArray[m]=uu:=by simpa using(List.getElem?_eq_some_iff.mp b1).2
    have c2:jts.toArray[m]=uu':=by simpa using(List.getElem?_eq_some_iff.mp b1').2
    rw[c1,c2];exact(ih A.in1 _ _ w w' uu uu' (e m) (by show A.units+1+n<cLine;lia) w2 w2' b2 b2' (h4 m _ _ (by simp) (by simp))).2
   have main:RcAt A s (.ref p) (.ref q) k:=by
    have z:=RcAt.tuples (e:=e) t1 t2 (by lia) he;rw[List.size_toArray,List.size_toArray,<-l1,<-l2,<-h3,h2]at z;exact z
   refine⟨main,?_⟩;by_cases z:p=q
   ·subst z;rw[mM (n+1) _ _ _ k rx ry h];exact EqAt.same _
   ·exact EqAt.of_refs z main
  ·cases hn;subst hx;subst hy;obtain⟨p,xs,rfl,_,e2,e3⟩:=a7 rx;obtain⟨q,ys,rfl,_,f2,f3⟩:=a7 ry;cases qx;cases qy;obtain⟨its,r1,t1,z1⟩:=I.list (SqL.of e2);obtain⟨jts,r2,t2,z2⟩:=I.list (SqL.of f2);obtain⟨k',h1,h2⟩:=map_some h;obtain⟨e,h3,h4⟩:=fI h1;have l1:i.length=its.length:=e3.length.trans r1.length;have l2:j.length=jts.length:=f3.length.trans r2.length
   have he:∀ m (g1:m<its.toArray.size) (g2:m<jts.toArray.size),EqAt A.in1 s its.toArray[m] jts.toArray[m] (e m):=fun m g1 g2=>by
    rw[List.size_toArray]at g1 g2;obtain⟨w,w1,w2⟩:=e3.get (i:=m) (d:=i[m]'(by lia)) (by simp);obtain⟨w',w1',w2'⟩:=f3.get (i:=m) (d:=j[m]'(by lia)) (by simp);obtain⟨uu,b1,b2⟩:=r1.get w1;obtain⟨uu',b1',b2'⟩:=r2.get w1'
    have c1:its.toArray[m]=uu:=by simpa using(List.getElem?_eq_some_iff.mp b1).2
    have c2:jts.toArray[m]=uu':=by simpa using(List.getElem?_eq_some_iff.mp b1').2
    rw[c1,c2];exact(ih A.in1 _ _ w w' uu uu' (e m) (by show A.units+1+n<cLine;lia) w2 w2' b2 b2' (h4 m _ _ (by simp) (by simp))).2
   have main:RcAt A s (.ref p) (.ref q) k:=by
    by_cases hl:its.length=jts.length
    ·have z:=RcAt.lists (e:=e) t1.isList t2.isList (by rw[List.size_toArray,List.size_toArray];exact hl) (by lia) he;rw[List.size_toArray]at z
     have hk:k=(List.range its.length).all e:=by
      rw[<-h2,h3,l1,l2,hl];simp
     rw[hk];exact z
    ·have hk:k=false:=by
      rw[<-h2,l1,l2];simp[hl]
     rw[hk];exact RcAt.lists_lengths t1.isList t2.isList (by rw[List.size_toArray,List.size_toArray];simpa using hl) (by lia)
   refine⟨main,?_⟩;by_cases z:p=q
   ·subst z;rw[mM (n+1) _ _ _ k rx ry h];exact EqAt.same _
   ·exact EqAt.of_refs z main
end rules
section rules
variable{X:Cx}
open SeqAt in
def Dt(I:Inv X pins σ H s)(n:Nat)(A:Around)(x y:RL.D)(v u:V)(va ua:Value)(k:Bool)(hu:A.units+n<cLine)(rx:Rep nP X.K H x v)(ry:Rep nP X.K H y u)(qx:RelV v va)(qy:RelV u ua)
 (h:RL.eqD n x y=some k):RcNeAt A s va ua (!k):=by
 rcases fg h with⟨i,j,rfl,rfl,rfl⟩ | ⟨i,j,rfl,rfl,rfl⟩ | ⟨i,j,rfl,rfl,rfl⟩ | ⟨nn,i,j,hn,hx,hy,h⟩ | ⟨nn,i,j,hn,hx,hy,h⟩
 ·rw[aL rx]at qx;rw[aL ry]at qy;cases qx;cases qy;exact RcNeAt.bool_bool i j
 ·rw[af rx]at qx;rw[af ry]at qy;obtain⟨t,rfl⟩:=qx;obtain⟨t',rfl⟩:=qy;exact RcNeAt.int_int i t j t'
 ·rw[aF rx]at qx;rw[aF ry]at qy;obtain⟨t,rfl⟩:=qx;obtain⟨t',rfl⟩:=qy;exact RcNeAt.str_str i t j t'
 ·subst hn;subst hx;subst hy;obtain⟨p,xs,rfl,e2,e3⟩:=aS rx;obtain⟨q,ys,rfl,f2,f3⟩:=aS ry;cases qx;cases qy;obtain⟨its,r1,t1,z1⟩:=I.tuple (SqT.of e2);obtain⟨jts,r2,t2,z2⟩:=I.tuple (SqT.of f2);obtain⟨k',h1,h2⟩:=map_some h;obtain⟨e,h3,h4⟩:=fI h1;have l1:i.length=its.length:=e3.length.trans r1.length;have l2:j.length=jts.length:=f3.length.trans r2.length
  have he:∀ m (g1:m<its.toArray.size) (g2:m<jts.toArray.size),EqAt A.in1 s its.toArray[m] jts.toArray[m] (e m):=fun m g1 g2=>by
   rw[List.size_toArray]at g1 g2;obtain⟨w,w1,w2⟩:=e3.get (i:=m) (d:=i[m]'(by lia)) (by simp);obtain⟨w',w1',w2'⟩:=f3.get (i:=m) (d:=j[m]'(by lia)) (by simp);obtain⟨uu,b1,b2⟩:=r1.get w1;obtain⟨uu',b1',b2'⟩:=r2.get w1'
   have c1:its.toArray[m]=uu:=by simpa using(List.getElem?_eq_some_iff.mp b1).2
   have c2:jts.toArray[m]=uu':=by simpa using(List.getElem?_eq_some_iff.mp b1').2
   rw[c1,c2];exact(deep I nn A.in1 _ _ w w' uu uu' (e m) (by show A.units+1+nn<cLine;lia) w2 w2' b2 b2' (h4 m _ _ (by simp) (by simp))).2
  have z:=RcNeAt.tuples (e:=e) t1 t2 (by lia) he;rw[List.size_toArray,List.size_toArray,<-l1,<-l2,<-h3,h2]at z;exact z
 ·subst hn;subst hx;subst hy;obtain⟨p,xs,rfl,_,e2,e3⟩:=a7 rx;obtain⟨q,ys,rfl,_,f2,f3⟩:=a7 ry;cases qx;cases qy;obtain⟨its,r1,t1,z1⟩:=I.list (SqL.of e2);obtain⟨jts,r2,t2,z2⟩:=I.list (SqL.of f2);obtain⟨k',h1,h2⟩:=map_some h;obtain⟨e,h3,h4⟩:=fI h1;have l1:i.length=its.length:=e3.length.trans r1.length;have l2:j.length=jts.length:=f3.length.trans r2.length
  have he:∀ m (g1:m<its.toArray.size) (g2:m<jts.toArray.size),EqAt A.in1 s its.toArray[m] jts.toArray[m] (e m):=fun m g1 g2=>by
   rw[List.size_toArray]at g1 g2;obtain⟨w,w1,w2⟩:=e3.get (i:=m) (d:=i[m]'(by lia)) (by simp);obtain⟨w',w1',w2'⟩:=f3.get (i:=m) (d:=j[m]'(by lia)) (by simp);obtain⟨uu,b1,b2⟩:=r1.get w1;obtain⟨uu',b1',b2'⟩:=r2.get w1'
   have c1:its.toArray[m]=uu:=by simpa using(List.getElem?_eq_some_iff.mp b1).2
   have c2:jts.toArray[m]=uu':=by simpa using(List.getElem?_eq_some_iff.mp b1').2
   rw[c1,c2];exact(deep I nn A.in1 _ _ w w' uu uu' (e m) (by show A.units+1+nn<cLine;lia) w2 w2' b2 b2' (h4 m _ _ (by simp) (by simp))).2
  by_cases hl:its.length=jts.length
  ·have z:=RcNeAt.lists (e:=e) t1.isList t2.isList (by rw[List.size_toArray,List.size_toArray];exact hl) (by lia) he;rw[List.size_toArray]at z
   have hk:k=(List.range its.length).all e:=by
    rw[<-h2,h3,l1,l2,hl];simp
   rw[hk];exact z
  ·have hk:k=false:=by
    rw[<-h2,l1,l2];simp[hl]
   rw[hk];exact RcNeAt.lists_lengths t1.isList t2.isList (by rw[List.size_toArray,List.size_toArray];simpa using hl) (by lia)
abbrev cO:RL.Cop->CmpOp
 | .lt=>.Lt
 | .le=>.LtE
 | .gt=>.Gt
 | .ge=>.GtE
 | .eq=>.Eq
 | .ne=>.NotEq
abbrev uv(K:PySem.W.Frag)(c:RL.Cop):R2:=fun v u H Q=>∃ x y k,Rep nP K H x v/\Rep nP K H y u/\RL.aZ c x y=some k/\Q (.bl k) H
def iG{c:RL.Cop}(hc:c≠.eq)(hc2:c≠.ne)(h:RL.aZ c x y=some k):∃ i j,x=.int i/\y=.int j:=by
 have no:∀ {a b:RL.D},RL.aZ .lt a b=none->RL.aZ .le a b=none->RL.aZ .gt a b=none->RL.aZ .ge a b=none->RL.aZ c a b=some k->False:=fun e1 e2 e3 e4 h=>by
  cases c with
  | eq=>exact hc rfl
  | ne=>exact hc2 rfl
  | lt=>rw[e1]at h;cases h
  | le=>rw[e2]at h;cases h
  | gt=>rw[e3]at h;cases h
  | ge=>rw[e4]at h;cases h
 cases x with
 | int i=>cases y with
  | int j=>exact⟨_,_,rfl,rfl⟩
  | _=>exact(no rfl rfl rfl rfl h).elim
 | _=>exact(no rfl rfl rfl rfl h).elim
def gZ{c:RL.Cop}(hu:X.A.units+100<cLine):OpR X (compareOp (cO c)) (uv X.K c):=by
 intro pins s σ H x y v u Q I rx ry h;obtain⟨dx,dy,k,ex,ey,e,q⟩:=h
 have fin:EP X pins σ Q (.bool k) s:=⟨.bl k,H,I,rfl,q⟩
 cases c with
 |eq=>
  have e:RL.eqD 8 dx dy=some k:=e;exact(deep I 8 X.A dx dy x y v u k (by lia) ex ey rx ry e).1 X.prog X.w X.xe _ fin
 |ne=>
  obtain⟨k',e1,e2⟩:=map_some (show(RL.eqD 8 dx dy).map not=some k from e);subst e2;exact Dt I 8 X.A dx dy x y v u k' (by lia) ex ey rx ry e1 X.prog X.w X.xe _ fin
 |lt=>
  obtain⟨i,j,rfl,rfl⟩:=iG (by decide) (by decide) e;cases e;rw[af ex]at rx;rw[af ey]at ry;obtain⟨t,rfl⟩:=rx;obtain⟨t',rfl⟩:=ry;exact lt_int fin
 |le=>
  obtain⟨i,j,rfl,rfl⟩:=iG (by decide) (by decide) e;cases e;rw[af ex]at rx;rw[af ey]at ry;obtain⟨t,rfl⟩:=rx;obtain⟨t',rfl⟩:=ry;exact le_int fin
 |gt=>
  obtain⟨i,j,rfl,rfl⟩:=iG (by decide) (by decide) e;cases e;rw[af ex]at rx;rw[af ey]at ry;obtain⟨t,rfl⟩:=rx;obtain⟨t',rfl⟩:=ry;exact gt_int fin
 |ge=>
  obtain⟨i,j,rfl,rfl⟩:=iG (by decide) (by decide) e;cases e;rw[af ex]at rx;rw[af ey]at ry;obtain⟨t,rfl⟩:=rx;obtain⟨t',rfl⟩:=ry;exact ge_int fin
def iq{c:RL.Cop}(b:Expr):behindInMarks (cO c) b=false:=by cases c<;>exact qg b (by decide) (by decide)
def uX{c:RL.Cop}(h:∃ σD d,RV0 X.K σD σ H/\RL.ev cl σD (.cmp c a' b')=some d/\∀ H',aq H H'->∃ k,d=.bl k/\Q (.bl k) H'):tOp (uv X.K c) (tE X.K cl a') (tE X.K cl b') σ H Q:=by
 obtain⟨σD,d,rv,e,k⟩:=h;obtain⟨x,ea,e⟩:=bind_some e;obtain⟨y,eb,e⟩:=bind_some e;obtain⟨t,e1,e2⟩:=map_some e;refine two rv ea eb fun v u H1 H2 s1 s2 rx ry _ _=>?_;obtain⟨k',h1,h2⟩:=k H2 (s1.trans s2);rw[h1]at e2;cases e2;exact⟨x,y,t,rx,ry,e1,h2⟩
def nE{c:RL.Cop}(e:RL.ev cl σD (.cmp c a' b')=some d):∃ k,d=.bl k:=by
 obtain⟨x,ea,e⟩:=bind_some e;obtain⟨y,eb,e⟩:=bind_some e;obtain⟨t,e1,e2⟩:=map_some e;exact⟨t,e2.symm⟩
def DQ{c:RL.Cop}(hu:X.A.units+100<cLine)(ha:SE X cl a a')(hb:SE X cl b b'):SE X cl (.Compare a [cO c] [b] pos) (.cmp c a' b'):=by
 refine PE.weak (sL (gZ hu) ha hb (iq b)) fun σ H Q h=>?_;obtain⟨σD,d,rv,e,k⟩:=h;obtain⟨t,rfl⟩:=nE e;exact uX ⟨σD,_,rv,e,fun H' sm=>⟨t,rfl,k _ _ (eL sm)⟩⟩
def Bx{c:RL.Cop}(hu:X.A.units+100<cLine)(ha:SE X cl a a')(hb:SE X cl b b'):ST X cl (.Compare a [cO c] [b] pos) (.cmp c a' b'):=by
 refine PT.weak (me (gZ hu) ha hb (iq b)) fun σ H Q h=>?_;obtain⟨σD,k,rv,e,q⟩:=h;obtain⟨d,e1,e2⟩:=bind_some e;obtain⟨t,rfl⟩:=nE e1;cases e2;exact uX ⟨σD,_,rv,e1,fun H' sm=>⟨k,rfl,k,rfl,q H' sm⟩⟩
def yZ{c c':RL.Cop}(b e:Expr):lastMarks [cO c,cO c'] [b,e]=false:=by
 show behindInMarks (cO c') e=false;exact iq e
def jP{c c':RL.Cop}(h:RL.ev cl σD (.chain c c' a' b' e')=some d):∃ k,d=.bl k:=by
 obtain⟨x,ea,h⟩:=bind_some h;obtain⟨y,eb,h⟩:=bind_some h;obtain⟨t,e1,h⟩:=bind_some h
 cases t with
 |true=>
  obtain⟨z,ec,h⟩:=bind_some (show(RL.ev cl σD e').bind _=some d from h);obtain⟨t,e1,e2⟩:=map_some h;exact⟨t,e2.symm⟩
 | false=>exact⟨false,(Option.some.inj (show some (RL.D.bl false)=some d from h)).symm⟩
def qc{c c':RL.Cop}(h:∃ σD k,RV0 X.K σD σ H/\RL.ev cl σD (.chain c c' a' b' e')=some (.bl k)/\∀ H',aq H H'->Q (.bl k) H') :
  qa (uv X.K c) (uv X.K c') (tE X.K cl a') (tE X.K cl b') (tE X.K cl e') σ H Q:=by
 obtain⟨σD,k,rv,h,q⟩:=h;obtain⟨x,ea,h⟩:=bind_some h;obtain⟨y,eb,h⟩:=bind_some h;obtain⟨t,e1,h⟩:=bind_some h;refine two rv ea eb fun v u H1 H2 s1 s2 rx ry _ _=>?_;refine⟨x,y,t,rx,ry,e1,t,rfl,?_⟩;have sm:=s1.trans s2
 cases t with
 |true=>
  rw[if_pos rfl]at h;obtain⟨z,ec,h⟩:=bind_some h;obtain⟨t,e3,e2⟩:=map_some h;cases e2;exact eJ ⟨σD,z,rv.same sm,ec,fun w H3 r3=>⟨y,z,k,ry.same r3.same,r3.rep,e3,q H3 (sm.trans r3.same)⟩⟩
 |false=>
  rw[if_neg (by decide)]at h;cases h;exact f7 (q H2 sm)
def wR{c c':RL.Cop}(hu:X.A.units+100<cLine)(ha:SE X cl a a')(hb:SE X cl b b')(he:SE X cl e e'):SE X cl (.Compare a [cO c,cO c'] [b,e] pos) (.chain c c' a' b' e'):=by
 refine PE.weak (xr (gZ hu) (gZ hu) ha hb he (yZ b e)) fun σ H Q h=>?_;obtain⟨σD,d,rv,h,k⟩:=h;obtain⟨t,rfl⟩:=jP h;exact qc ⟨σD,t,rv,h,fun H' sm=>k _ _ (eL sm)⟩
def x6{c c':RL.Cop}(hu:X.A.units+100<cLine)(ha:SE X cl a a')(hb:SE X cl b b')(he:SE X cl e e'):ST X cl (.Compare a [cO c,cO c'] [b,e] pos) (.chain c c' a' b' e'):=by
 refine PT.weak (xF (gZ hu) (gZ hu) ha hb he (yZ b e)) fun σ H Q h=>?_;obtain⟨σD,k,rv,h,q⟩:=h;obtain⟨d,e1,e2⟩:=bind_some h;obtain⟨t,rfl⟩:=jP e1;cases e2;exact qc ⟨σD,k,rv,e1,fun H' sm=>⟨k,rfl,q H' sm⟩⟩
end rules
section rules
variable{X:Cx}
def nB{neg:Bool}(b:Expr):behindInMarks (if neg then .IsNot else .Is) b=false:=by cases neg<;>exact qg b (by decide) (by decide)
def rJ{neg:Bool}:OpR X (compareOp (if neg then .IsNot else .Is)) (fun x y H Q=>y=.non/\Q (.bl (if neg then !decide (x=.non)else decide (x=.non))) H):=by
 cases neg with
 | true=>exact Bc
 | false=>exact Bf
def uG(h:RL.ev cl σD (.isN neg a')=some d):∃ x,RL.ev cl σD a'=some x/\∀ v (H:Hp),Rep nP X.K H x v->d=.bl (if neg then !decide (v=.non)else decide (v=.non)):=by
 obtain⟨x,ea,h⟩:=bind_some h;refine⟨x,ea,fun v H r=>?_⟩
 cases x with
 | non=>cases h;rw[Rep]at r;subst r;cases neg<;>rfl
 | bl k=>cases h;rw[aL r];cases neg<;>rfl
 | int k=>cases h;rw[af r];cases neg<;>rfl
 | str k=>cases h;rw[aF r];cases neg<;>rfl
 | tup k=>cases h;obtain⟨p,xs,rfl,_⟩:=aS r;cases neg<;>rfl
 | lst k=>cases h;obtain⟨p,xs,rfl,_⟩:=a7 r;cases neg<;>rfl
 | scr k=>cases h;rw[Rep]at r;obtain⟨p,xs,rfl,_⟩:=r;cases neg<;>rfl
 | exc k=>cases h;rw[Rep]at r;obtain⟨p,_,_,_,_,rfl,_⟩:=r;cases neg<;>rfl
 | dK _ _=>cases h
 | dT _ _=>cases h
 | fT _=>cases h
def C1(ha:SE X cl a a'):SE X cl (.Compare a [if neg then .IsNot else .Is] [.Constant .none j p] pos) (.isN neg a'):=by
 refine PE.weak (sL rJ ha oF (nB _)) fun σ H Q h=>?_;obtain⟨σD,d,rv,e,q⟩:=h;obtain⟨x,ea,hx⟩:=uG (X:=X) e;refine⟨σD,_,rv,ea,fun v H1 r1=>⟨rfl,?_⟩⟩;have hd:=hx v H1 r1.rep;subst hd;exact q _ _ (eL r1.same)
def BV(ha:SE X cl a a'):ST X cl (.Compare a [if neg then .IsNot else .Is] [.Constant .none j p] pos) (.isN neg a'):=by
 refine PT.weak (me rJ ha oF (nB _)) fun σ H Q h=>?_;obtain⟨σD,k,rv,e,q⟩:=h;obtain⟨d,e1,e2⟩:=bind_some e;obtain⟨x,ea,hx⟩:=uG (X:=X) e1;refine⟨σD,_,rv,ea,fun v H1 r1=>⟨rfl,?_⟩⟩;have hd:=hx v H1 r1.rep;subst hd;cases e2;exact⟨_,rfl,q _ r1.same⟩
def eO{P:Addr->Prop}{K:PySem.W.Frag}(h:RL.items d=some ds)(r:Rep P K H d v):∃ p xs,v=.ref p/\((H p=some (.lst xs)/\d=.lst ds)\/(H p=some (.tup xs)/\d=.tup ds))/\aa P K H ds xs:=by
 cases d<;>simp only[RL.items]at h<;>first | (cases h;done) | skip
 case lst ys=>cases h;obtain⟨p,xs,e1,_,e2,e3⟩:=a7 r;exact⟨p,xs,e1,.inl ⟨e2,rfl⟩,e3⟩
 case tup ys=>cases h;obtain⟨p,xs,e1,e2,e3⟩:=aS r;exact⟨p,xs,e1,.inr ⟨e2,rfl⟩,e3⟩
abbrev spF(K:PySem.W.Frag)(cl:RL.Cl)(f:Nat):Sp:=fun vs H Q _=>∃ ds d,aa nP K H ds vs/\cl f ds=some d/\∀ v H',aq H H'->Rep (fun p=>H p≠none) K H' d v->Q v H'
def A0(F:gG X.prog X.w X.K X.mg X.base CX0 k fa fd ps (spF X.K cl f))(hr:dN k X.A)(hg:Gl X x)
 (hm:X.mg x=some (.ref fa))(hk:PySem.W.keepIn X.K (.ref fa)=true)(hb:Binds X.K fd ps [])(he:SEs X cl (e::es) (.cons e' es'))(hdb:(x == ("__debug__" : Str))=false)(hn:noStar e=true)(hns:es.all noStar=true) :
  SE X cl (.Call (.Name x p) (e::es) [] pos) (.call f (.cons e' es')):=by
 refine PE.weak (sh F hr hg hm hk hb .nil zo he hdb (a5 es hn) (dO hns)) fun σ H Q h=>?_;obtain⟨σD,d,rv,ev,q⟩:=h;obtain⟨ds,e1,e2⟩:=bind_some ev;refine⟨σD,ds,rv,e1,fun vs H1 s1 r1=>?_⟩;show spF X.K cl f (vs++[]) H1 Q E0;rw[List.append_nil];refine⟨ds,d,r1,e2,fun v H2 s2 r2=>q v H2 ⟨s1.trans s2,r2.none,fun _ m a z=>?_,fun M _ P hP _=>?_⟩⟩
 ·subst z
  have hh:H1 a=none:=by
   cases d with
   | lst ds=>obtain⟨p,xs,e1,e2,_⟩:=a7 r2;cases e1;exact Classical.byContradiction e2
   | dK ks ds=>rw[Rep]at r2;obtain⟨p,xs,e1,e2,_⟩:=r2;cases e1;exact Classical.byContradiction e2
   | dT ks ds=>rw[Rep]at r2;obtain⟨p,xs,e1,e2,_⟩:=r2;cases e1;exact Classical.byContradiction e2
   | _=>cases m
  exact s1.free hh
 ·refine r2.weak fun a z=>?_;obtain⟨o,ho⟩:=Option.ne_none_iff_exists'.mp (hP a z);rw[s1 _ _ ho]
  exact fun q=>nomatch q
end rules
abbrev Off(P:Addr->Prop)(H H':Hp):Prop:=∀ b o,¬ P b->H b=some o->H' b=some o
def Off.same{H H':Hp}(h:aq H H'){P:Addr->Prop}:Off P H H':=fun b o _ e=>h b o e
mutual
theorem Rep.off{P:Addr->Prop}{K:PySem.W.Frag}{H H':Hp}(hm:∀ b o,P b->H b=some o->bZ o)(k:Off P H H'):∀ {d:RL.D} {v:V},Rep P K H d v->Rep P K H' d v
 | .non,v,h=>by simpa[Rep]using h
 | .bl _,v,h=>by simpa[Rep]using h
 | .int _,v,h=>by simpa[Rep]using h
 | .str _,v,h=>by simpa[Rep]using h
 | .tup ds,v,h=>by
  rw[Rep]at h ⊢;obtain⟨b,xs,e1,e2,e3⟩:=h
  have n:¬ P b:=fun p=>by rcases hm b _ p e2 with⟨z,q⟩ | ⟨z,q⟩ | ⟨z,q⟩<;>cases q
  exact⟨b,xs,e1,k _ _ n e2,aa.off hm k e3⟩
 | .lst ds,v,h=>by
  rw[Rep]at h ⊢;obtain⟨b,xs,e1,e0,e2,e3⟩:=h;exact⟨b,xs,e1,e0,k _ _ e0 e2,aa.off hm k e3⟩
 | .dK ks ds,v,h=>by
  rw[Rep]at h ⊢;obtain⟨b,xs,e1,e0,e2,el,e3⟩:=h;exact⟨b,xs,e1,e0,k _ _ e0 e2,el,aa.off hm k e3⟩
 | .dT ks ds,v,h=>by
  rw[Rep]at h ⊢;obtain⟨b,xs,e1,e0,e2,el,e3⟩:=h;exact⟨b,xs,e1,e0,k _ _ e0 e2,el,aa.off hm k e3⟩
 | .scr ds,v,h=>by
  rw[Rep]at h ⊢;obtain⟨b,xs,e1,e2,e3⟩:=h;refine⟨b,xs,e1,?_,aa.off hm k e3⟩;rcases e2 with⟨q,e2⟩ | e2
  ·have n:¬ P b:=fun p=>by rcases hm b _ p e2 with⟨z,q⟩ | ⟨z,q⟩ | ⟨z,q⟩<;>cases q
   exact .inl ⟨q,k _ _ n e2⟩
  ·exact .inr e2
 | .exc c,v,h=>by
  rw[Rep]at h ⊢;exact h.keep fun b ob u q=>k _ _ (fun p=>by rcases hm b _ p q with⟨z,y⟩ | ⟨z,y⟩ | ⟨z,y⟩<;>cases y) q
 | .fT ks,v,h=>by
  rw[Rep]at h ⊢;obtain⟨b,ob,kvs,e1,e2,e3⟩:=h;exact⟨b,ob,kvs,e1,k _ _ (fun p=>by rcases hm b _ p e2 with⟨z,y⟩ | ⟨z,y⟩ | ⟨z,y⟩<;>cases y) e2,e3⟩
theorem aa.off{P:Addr->Prop}{K:PySem.W.Frag}{H H':Hp}(hm:∀ b o,P b->H b=some o->bZ o)(k:Off P H H'):∀ {ds:List RL.D} {xs:List V},aa P K H ds xs->aa P K H' ds xs
 | [],xs,h=>by rw[aa]at h ⊢;exact h
 | d::r,xs,h=>by
  rw[aa]at h ⊢;obtain⟨x,t,e1,e2,e3⟩:=h;exact⟨x,t,e1,Rep.off hm k e2,aa.off hm k e3⟩
end
structure gD(K:PySem.W.Frag)(J:L2.It)(ds:List RL.D)(P:Addr->Prop)(H:Hp):Prop where
 go:∀ H' i,Off P H H'->i<ds.length->J.go i H'
 stop:∀ H',Off P H H'->J.stop ds.length H'
 yld:∀ H' i d x H2,Off P H H'->ds[i]?=some d->J.yld i H' x H2->aq H' H2/\(d.imm=true\/aq H H'->Rep nP K H2 d x)
abbrev yJ(K:PySem.W.Frag)(σD:RL.St)(σ:L2.St)(H:Hp)(it:RL.It)(J:L2.It)(ds:List RL.D)(H1:Hp):Prop :=
 gD K J ds nP H1/\∀ (M:List Nat) (P:Addr->Prop),RL.u6 M it=true->(∀ b,P b->∃ o,H b=some o/\bZ o)->(∀ (j:Nat) (dj:RL.D) (vj:V),M.contains j=false->σD[j]?=some (some dj)->σ[j]?=some (some vj)->Rep P K H dj vj)->gD K J ds P H1
abbrev tI(K:PySem.W.Frag)(cl:RL.Cl)(it:RL.It):TI:=fun σ H R=>∃ σD ds,RV0 K σD σ H/\RL.bw cl σD it=some ds/\∀ J H1,aq H H1->yJ K σD σ H it J ds H1->R J H1
abbrev SI(X:Cx)(cl:RL.Cl)(tg iter:Expr)(it:RL.It):Prop:=PI X tg iter (tI X.K cl it)
def PI.weak{X:Cx}{tg iter:Expr}{t t':TI}(h:PI X tg iter t)(w:∀ σ H R,t' σ H R->t σ H R):PI X tg iter t':=fun pins s σ H R I q=>h pins s σ H R I (w σ H R q)
def eM{K:PySem.W.Frag}{P:Addr->Prop}{H H':Hp}{d:RL.D}{v:V}(hm:∀ b o,P b->H b=some o->bZ o)(k:Off P H H')(r:Rep nP K H d v)(i:d.imm=true):Rep nP K H' d v :=
 ((r.imm i).off hm k).imm i
def qS{K:PySem.W.Frag}{H:Hp}{a:Addr}{ds:List RL.D}{xs:List V}{P:Addr->Prop}(h:H a=some (.lst xs))(r:aa nP K H ds xs)(hp:¬ P a)(hm:∀ b o,P b->H b=some o->bZ o):gD K (Itl K a) ds P H where
 go:=fun H' i k hi=>by
  obtain⟨x,e,_⟩:=r.get (i:=i) (d:=ds[i]) (by simp[hi]);exact⟨xs,x,SqL.of (k _ _ hp h),e⟩
 stop:=fun H' k=>⟨xs,SqL.of (k _ _ hp h),by rw[r.length];exact Nat.le_refl _⟩
 yld:=fun H' i d x H2 k e y=>by
  obtain⟨z,y⟩:=y;subst z;have hx:=y xs (SqL.of (k _ _ hp h));obtain⟨x',e1,e2⟩:=r.get e;rw[hx]at e1;cases e1;refine⟨aq.refl _,fun q=>?_⟩;rcases q with q | q
  ·exact eM hm k e2 q
  ·exact e2.same q
def uC{K:PySem.W.Frag}{H:Hp}{a:Addr}{ds:List RL.D}{xs:List V}{P:Addr->Prop}(h:gB K H a xs)(r:aa nP K H ds xs)(hm:∀ b o,P b->H b=some o->bZ o):gD K (Itl K a) ds P H:=by
 have kp:∀ H',Off P H H'->SqL K H' a xs:=fun H' k=>by
  rcases h with⟨o,h⟩ | h
  ·exact .inl (.inr ⟨o,k _ _ (fun p=>by rcases hm a _ p h with⟨z,q⟩ | ⟨z,q⟩ | ⟨z,q⟩<;>cases q) h⟩)
  ·exact gB.seq (.inr h)
 exact {
  go:=fun H' i k hi=>by
   obtain⟨x,e,_⟩:=r.get (i:=i) (d:=ds[i]) (by simp[hi]);exact⟨xs,x,kp _ k,e⟩
  stop:=fun H' k=>⟨xs,kp _ k,by rw[r.length];exact Nat.le_refl _⟩
  yld:=fun H' i d x H2 k e y=>by
   obtain⟨z,y⟩:=y;subst z;have hx:=y xs (kp _ k);obtain⟨x',e1,e2⟩:=r.get e;rw[hx]at e1;cases e1;refine⟨aq.refl _,fun q=>?_⟩;rcases q with q | q
   ·exact eM hm k e2 q
   ·exact e2.same q }
def wx{K:PySem.W.Frag}{H:Hp}{a:Addr}{ds:List RL.D}{xs:List V}{P:Addr->Prop}(h:H a=some (.tup xs))(r:aa nP K H ds xs)(hm:∀ b o,P b->H b=some o->bZ o):gD K (Itt K a) ds P H:=by
 have hp:¬ P a:=fun p=>by rcases hm a _ p h with⟨z,q⟩ | ⟨z,q⟩ | ⟨z,q⟩<;>cases q
 exact {
  go:=fun H' i k hi=>by
   obtain⟨x,e,_⟩:=r.get (i:=i) (d:=ds[i]) (by simp[hi]);exact⟨xs,x,SqT.of (k _ _ hp h),e⟩
  stop:=fun H' k=>⟨xs,SqT.of (k _ _ hp h),by rw[r.length];exact Nat.le_refl _⟩
  yld:=fun H' i d x H2 k e y=>by
   obtain⟨z,y⟩:=y;subst z;have hx:=y xs (SqT.of (k _ _ hp h));obtain⟨x',e1,e2⟩:=r.get e;rw[hx]at e1;cases e1;refine⟨aq.refl _,fun q=>?_⟩;rcases q with q | q
   ·exact eM hm k e2 q
   ·exact e2.same q }
def lB:∀ (n:Nat) (lo:Int) (i:Nat) (d:RL.D),(RL.cb lo n)[i]?=some d->d=.int (lo+i)
 | 0,lo,i,d,h=>by simp[RL.cb]at h
 | n+1,lo,0,d,h=>by simp[RL.cb]at h;simp[h]
 | n+1,lo,i+1,d,h=>by
  rw[RL.cb,List.getElem?_cons_succ]at h;rw[lB n (lo+1) i d h];congr 1;lia
def hZ:∀ (n:Nat) (lo:Int),(RL.cb lo n).length=n
 | 0,_=>rfl
 | n+1,lo=>by rw[RL.cb,List.length_cons,hZ n]
def kD{K:PySem.W.Frag}{H:Hp}{lo:Int}{n:Nat}{P:Addr->Prop}:gD K (Itr lo n) (RL.cb lo n) P H where
 go:=fun H' i k hi=>by rw[hZ]at hi;exact hi
 stop:=fun H' k=>by rw[hZ];exact Nat.le_refl _
 yld:=fun H' i d x H2 k e y=>by
  obtain⟨z,y⟩:=y;subst z;refine⟨aq.refl _,fun _=>?_⟩;rw[lB n lo i d e,y];exact aR
section rules
variable{X:Cx}{cl:RL.Cl}{tg a b l:Expr}{a' b' e':RL.E}{pos p:Pos}
def EA{t t':TE}{l:Expr}(hl:PE X l t):PI X tg l (fun σ H R=>t σ H fun x H1=>(∃ a,x=.ref a/\(∃ xs,SqL X.K H1 a xs)/\R (Itl X.K a) H1)\/(∃ a,x=.ref a/\(∃ xs,SqT X.K H1 a xs)/\R (Itt X.K a) H1)):=by
 intro pins s σ H R I h;refine thn (hl pins s σ H _ I h) fun v s1 ⟨x,H1,I1,r1,q1⟩=>?_
 rcases q1 with⟨a,e,⟨xs,hq⟩,q⟩ | ⟨a,e,⟨xs,hq⟩,q⟩
 ·subst e;cases r1;obtain⟨its,rv,p,hz⟩:=I1.list hq;refine wpAny_pyIter_list p.isList ⟨s1.heap.objs.size,[s1.heap.objs.size],_,_,H1,rfl,I1.kept (t':=s1.toks) fun b o e=>Heap.get?_push_of_some _ e,wy a _,⟨_,Heap.get?_push_size _ rfl,rfl,rfl⟩,fun b hb=>?_,q⟩;rw[show b=s1.heap.objs.size by simpa using hb];exact I1.m7 (Nat.le_refl _) (I1.hok.fresh (Nat.le_refl _))
 ·subst e;cases r1;obtain⟨its,rv,p,hz⟩:=I1.tuple hq;refine wpAny_pyIter_tuple (show s1.heap.IsTuple a its.toArray from p) ⟨s1.heap.objs.size,[s1.heap.objs.size],_,_,H1,rfl,I1.kept (t':=s1.toks) fun b o e=>Heap.get?_push_of_some _ e,tF a _,⟨_,Heap.get?_push_size _ rfl,rfl,rfl⟩,fun b hb=>?_,q⟩;rw[show b=s1.heap.objs.size by simpa using hb];exact I1.m7 (Nat.le_refl _) (I1.hok.fresh (Nat.le_refl _))
def l7{σD:RL.St}{σ:L2.St}{H H1:Hp}{d:RL.D}{v:V}{M:List Nat}{P:Addr->Prop}(r1:Res X.K σD σ H e' d v H1)(z:(RL.avE M e' || RL.a9 e')=true)(hP:∀ b,P b->∃ o,H b=some o/\bZ o)
 (av:∀ (j:Nat) (dj:RL.D) (vj:V),M.contains j=false->σD[j]?=some (some dj)->σ[j]?=some (some vj)->Rep P X.K H dj vj):∀ ds a,d=.lst ds->v=.ref a->¬ P a:=by
 intro ds a hd hv;subst hd hv;rw[Bool.or_eq_true]at z;rcases z with z | z
 ·obtain⟨p,xs,e1,e2,_⟩:=a7 (r1.av M z P (fun b q=>by obtain⟨o,ho,_⟩:=hP b q;rw[ho];exact fun z=>nomatch z) av);cases e1;exact e2
 ·intro q;obtain⟨o,ho,_⟩:=hP a q;rw[r1.fresh z rfl a rfl]at ho;cases ho
def cP{P:Addr->Prop}{H H1:Hp}(s:aq H H1)(hP:∀ b,P b->∃ o,H b=some o/\bZ o):∀ b o,P b->H1 b=some o->bZ o:=fun b o q e=>by
 obtain⟨o',ho,m⟩:=hP b q;rw[s _ _ ho]at e;cases e;exact m
def eV{H1:Hp}:∀ b o,nP b->H1 b=some o->bZ o:=fun b o q=>q.elim
def Eb(hl:SE X cl l e')(hs:True):PI X tg l (fun σ H R=>∃ σD d ds,RV0 X.K σD σ H/\RL.ev cl σD e'=some d/\RL.iX d=some ds/\∀ J H1,aq H H1->yJ X.K σD σ H (.seq e') J ds H1->R J H1):=by
 refine PI.weak (EA (t':=tE X.K cl e') hl) fun σ H R h=>?_;obtain⟨σD,d,ds,rv,e,ei,k⟩:=h;refine⟨σD,d,rv,e,fun v H1 r1=>?_⟩
 cases d with
 |scr es=>
  cases ei;have r:=r1.rep;rw[Rep]at r;obtain⟨p,xs,rfl,hp,rs⟩:=r;exact .inl ⟨p,rfl,⟨xs,hp.seq⟩,k _ _ r1.same ⟨uC hp rs eV,fun M P z hP av=>uC hp rs (cP r1.same hP)⟩⟩
 |lst es=>
  obtain⟨p,xs,rfl,hp,rs⟩:=eO (show RL.items (.lst es)=some ds from ei) r1.rep
  rcases hp with⟨hp,e9⟩ | ⟨hp,e9⟩
  ·cases e9;exact .inl ⟨p,rfl,⟨xs,SqL.of hp⟩,k _ _ r1.same ⟨qS hp rs (fun z=>z) eV,fun M P z hP av=>qS hp rs (l7 r1 z hP av _ _ rfl rfl) (cP r1.same hP)⟩⟩
  ·cases e9
 |tup es=>
  obtain⟨p,xs,rfl,hp,rs⟩:=eO (show RL.items (.tup es)=some ds from ei) r1.rep
  rcases hp with⟨hp,e9⟩ | ⟨hp,e9⟩
  ·cases e9
  ·exact .inr ⟨p,rfl,⟨xs,SqT.of hp⟩,k _ _ r1.same ⟨wx hp rs eV,fun M P z hP av=>wx hp rs (cP r1.same hP)⟩⟩
 | _=>cases ei
def l0{x y:RL.D}{ds:List RL.D}(h:RL.cu x y=some ds):∃ i j:Int,x=.int i/\y=.int j/\(-(2 ^ 62)<=i/\i<2 ^ 62/\-(2 ^ 62)<=j/\j<2 ^ 62)/\(j-i).toNat<=RL.most/\ds=RL.cb i (j-i).toNat:=by
 have no:∀ {o:Option (List RL.D)},o=none->o=some ds->False:=fun e h=>by rw[e]at h;cases h
 cases x with
 | int i=>cases y with
  |int j=>
   obtain⟨hc,e⟩:=bQ h
   have lo:-(2 ^ 62:Int)<=-(2 ^ 60):=by decide
   have hi:(2 ^ 60:Int)<2 ^ 62:=by decide
   exact⟨i,j,rfl,rfl,⟨Int.le_trans lo hc.2.1,Int.lt_trans hc.2.2.1 hi,Int.le_trans lo hc.2.2.2.1,Int.lt_trans hc.2.2.2.2 hi⟩,hc.1,e⟩
  | _=>exact(no rfl h).elim
 | _=>exact(no rfl h).elim
def A1(hg:Gl X "range")(hm:X.mg "range" = none)(ha:SE X cl a a')(hn:noStar a=true):SI X cl tg (.Call (.Name "range" p) [a] [] pos) (.rng1 a'):=by
 refine PI.weak (uR hg hm (bh (cl:=cl) ha cL hn) (a5 [] hn)) fun σ H R h=>?_;obtain⟨σD,ds,rv,e,k⟩:=h;obtain⟨x,ea,e⟩:=bind_some e;obtain⟨i,j,e1,rfl,hb,_,rfl⟩:=l0 e;cases e1;refine⟨σD,[.int j],rv,by rw[RL.evs,ea];rfl,fun vs H1 s1 r1=>?_⟩;rw[aa]at r1;obtain⟨v,t,rfl,r2,r3⟩:=r1;rw[aa]at r3;subst r3;refine⟨j,by rw[af r2],hb.2.2.1,hb.2.2.2,?_⟩
 have hz:(j-0).toNat=j.toNat:=by simp
 rw[hz]at k;exact k _ _ s1 ⟨kD,fun _ _ _ _ _=>kD⟩
def Ar(hg:Gl X "range")(hm:X.mg "range" = none)(ha:SE X cl a a')(hb:SE X cl b b')(hn:noStar a=true)(hn2:noStar b=true):SI X cl tg (.Call (.Name "range" p) [a,b] [] pos) (.rng2 a' b'):=by
 refine PI.weak (uB hg hm (bh (cl:=cl) ha (bh hb cL hn2) hn) (by rw[a5 _ hn,a5 _ hn2];rfl) (a5 [] hn2)) fun σ H R h=>?_;obtain⟨σD,ds,rv,e,k⟩:=h;obtain⟨x,ea,e⟩:=bind_some e;obtain⟨y,eb,e⟩:=bind_some e;obtain⟨i,j,rfl,rfl,hb,_,rfl⟩:=l0 e;refine⟨σD,[.int i,.int j],rv,by rw[RL.evs,ea,RL.evs,eb];rfl,fun vs H1 s1 r1=>?_⟩;rw[aa]at r1;obtain⟨v,t,rfl,r2,r3⟩:=r1;rw[aa]at r3;obtain⟨u,t,rfl,r4,r5⟩:=r3;rw[aa]at r5;subst r5;exact⟨i,j,by rw[af r2,af r4],hb,k _ _ s1 ⟨kD,fun _ _ _ _ _=>kD⟩⟩
end rules
end RS
namespace L2
open PySem PySem.Spec PyProof.Rows
abbrev fN(ifs:List Expr)(env:Env):Sem Bool:=forIn ifs true fun c r=>if r=true then do let ok <- isTrue c env (eval c env);pure (ForInStep.yield ok)else pure (ForInStep.yield r)
section
def D0(h:wpAny M A m P (fun _ _=>False) s):wpAny M A m P E s :=
 wpAny_mono h (fun _ _ q=>q) fun _ _ z=>z.elim
def cN(h:wpAny M A m (fun a s1=>wpAny M A (k a) P E s1) (fun _ _=>False) s):wpAny M A (m >>= k) P E s:=wpAny_bind (D0 h)
end
section
abbrev nD(prog:Program)(w:World)(A:Around)(elt tg:Expr)(ifs:List Expr)(it acc:Value)(env:Env)(stop next:Shared->Prop)(s:Shared):Prop :=
 wpAny (model prog w) A (pyNext it) (fun r s1=>match r with
  | none=>stop s1
  | some v=>wpAny (model prog w) A (letOwnedTupleGo tg it v) (fun _ s2=>wpAny (model prog w) A (assign tg env v) (fun _ s3=>wpAny (model prog w) A (fN ifs env) (fun ok s4 =>
     if ok=true then wpAny (model prog w) A (eval elt env) (fun x s5=>wpAny (model prog w) A (call (.builtin "list.append") [acc,x]) (fun _ s6=>next s6) (fun _ _=>False) s5) (fun _ _=>False) s4
     else next s4) (fun _ _=>False) s3) (fun _ _=>False) s2) (fun _ _=>False) s1) (fun _ _=>False) s
def xy(h:nD prog w A elt tg ifs it acc env stop next s) :
  wpAny (model prog w) A (compTurn (.ListComp elt [⟨tg,iter,ifs,0⟩] scope pos) 0 it acc env) (fun fin s'=>match fin with
   | .done f=>f=.next/\stop s'
   | .again c=>c=.compLoop (.ListComp elt [⟨tg,iter,ifs,0⟩] scope pos) 0 it acc env/\next s') E s:=by
 rw[compTurn_list];apply wpAny_bind;apply wpAny_standAt;apply cN;refine thn h fun r s1 h1=>?_
 cases r with
 |none=>
  apply wpAny_pure;exact⟨rfl,h1⟩
 |some v=>
  apply cN;refine thn h1 fun _ s2 h2=>?_;apply cN;refine thn h2 fun _ s3 h3=>?_;apply cN;refine thn h3 fun ok s4 h4=>?_;cases ok
  ·apply wpAny_pure;exact⟨rfl,h4⟩
  ·apply wpAny_bind;apply cN;refine thn h4 fun x s5 h5=>?_;apply cN;refine thn h5 fun _ s6 h6=>?_;apply wpAny_pure;apply wpAny_pure;exact⟨rfl,h6⟩
def vG(I:Nat->Shared->Prop)(turn:∀ n s,I n s->nD prog w A elt tg ifs it acc env (R (.ok .next)) (fun s'=>∃ m,m<n/\I m s') s)
 (n:Nat)(h:I n s):codeAny (model prog w) A (.compLoop (.ListComp elt [⟨tg,iter,ifs,0⟩] scope pos) 0 it acc env) R s :=
 codeAny_loop (M:=model prog w) rfl I (fun n s hI=>wpAny_noted (thn (xy (turn n s hI)) fun fin s' q=>by
  cases fin with
  |done f=>
   obtain⟨rfl,q⟩:=q;exact q
  | again c=>exact q)) n h
end
def j9:∀ (names:List (Str × NameKind)) (n:Nat) (acc:List (Str × Addr)) (x:Str) (c:Addr),(cellsFrom n names acc).lookup x=some c->(acc.lookup x=some c/\(x,NameKind.cell)∉names)\/(n<=c/\(x,NameKind.cell)∈names)
 | [],n,acc,x,c,h=>.inl ⟨h,by simp⟩
 | (nm,k)::r,n,acc,x,c,h=>by
  unfold cellsFrom at h;by_cases hk:(k == NameKind.cell)=true
  ·rw[if_pos hk]at h
   have ek:k=.cell:=by simpa using hk
   subst ek
   rcases j9 r (n+1) ((nm,n)::acc) x c h with⟨a,b⟩ | ⟨a,b⟩
   ·rw[List.lookup_cons]at a
    cases hx:x == nm with
    |true=>
     rw[hx]at a;cases a
     have:x=nm:=by simpa using hx
     subst this;exact .inr ⟨Nat.le_refl _,List.mem_cons_self ..⟩
    |false=>
     rw[hx]at a;refine .inl ⟨a,fun z=>?_⟩;rcases List.mem_cons.mp z with z | z
     ·cases z;simp at hx
     ·exact b z
   ·exact .inr ⟨Nat.le_of_succ_le a,List.mem_cons_of_mem _ b⟩
  ·rw[if_neg hk]at h
   rcases j9 r n acc x c h with⟨a,b⟩ | ⟨a,b⟩
   ·refine .inl ⟨a,fun z=>?_⟩;rcases List.mem_cons.mp z with z | z
    ·cases z;exact hk (by simp)
    ·exact b z
   ·exact .inr ⟨a,List.mem_cons_of_mem _ b⟩
def lN:∀ (names:List (Str × NameKind)) (n:Nat) (acc:List (Str × Addr)) (x:Str),(x,NameKind.cell)∉names->(cellsFrom n names acc).lookup x=acc.lookup x
 | [],n,acc,x,_=>rfl
 | (nm,k)::r,n,acc,x,h=>by
  have hr:(x,NameKind.cell)∉r:=fun z=>h (List.mem_cons_of_mem _ z);unfold cellsFrom;by_cases hk:(k == NameKind.cell)=true
  ·rw[if_pos hk,lN r (n+1) _ x hr,List.lookup_cons]
   have ek:k=.cell:=by simpa using hk
   subst ek
   have:(x == nm)=false:=by
    rw[beq_eq_false_iff_ne];intro z;subst z;exact h (List.mem_cons_self ..)
   rw[this]
  ·rw[if_neg hk];exact lN r n acc x hr
def qr:∀ (names:List (Str × NameKind)) (n:Nat) (acc:List (Str × Addr)),(∀ x c,acc.lookup x=some c->c<n)->(∀ x y c,acc.lookup x=some c->acc.lookup y=some c->x=y)->∀ x y c,(cellsFrom n names acc).lookup x=some c->(cellsFrom n names acc).lookup y=some c->x=y
 | [],n,acc,_,hi,x,y,c,h1,h2=>hi x y c h1 h2
 | (nm,k)::r,n,acc,hl,hi,x,y,c,h1,h2=>by
  unfold cellsFrom at h1 h2;by_cases hk:(k == NameKind.cell)=true
  ·rw[if_pos hk]at h1 h2;refine qr r (n+1) ((nm,n)::acc) (fun x c e=>?_) (fun x y c e1 e2=>?_) x y c h1 h2
   ·rw[List.lookup_cons]at e
    cases hx:x == nm with
    | true=>rw[hx]at e;cases e;exact Nat.lt_succ_self _
    | false=>rw[hx]at e;exact Nat.lt_succ_of_lt (hl x c e)
   ·rw[List.lookup_cons]at e1 e2
    cases hx:x == nm with
    |true=>
     rw[hx]at e1;cases e1
     cases hy:y == nm with
     |true=>
      have a:x=nm:=by simpa using hx
      have b:y=nm:=by simpa using hy
      rw[a,b]
     |false=>
      rw[hy]at e2;exact absurd (hl y n e2) (Nat.lt_irrefl _)
    |false=>
     rw[hx]at e1
     cases hy:y == nm with
     |true=>
      rw[hy]at e2;cases e2;exact absurd (hl x n e1) (Nat.lt_irrefl _)
     |false=>
      rw[hy]at e2;exact hi x y c e1 e2
  ·rw[if_neg hk]at h1 h2;exact qr r n acc hl hi x y c h1 h2
def lY:∀ (names:List (Str × NameKind)) (h:Heap) (acc:List (Str × Addr)) (x:Str) (c:Addr),(cellsFrom h.objs.size names acc).lookup x=some c->acc.lookup x=some c\/(pushCells h names).IsCell c none
 | [],h,acc,x,c,e=>.inl e
 | (nm,k)::r,h,acc,x,c,e=>by
  unfold cellsFrom at e;unfold pushCells;by_cases hk:(k == NameKind.cell)=true
  ·rw[if_pos hk]at e ⊢
   have e':(cellsFrom (h.push { cls:=.type "cell",data:=.cell none }).objs.size r ((nm,h.objs.size)::acc)).lookup x=some c:=by rw[Heap.size_push];exact e
   rcases lY r (h.push { cls:=.type "cell",data:=.cell none }) ((nm,h.objs.size)::acc) x c e' with a | a
   ·rw[List.lookup_cons]at a
    cases hx:x == nm with
    |true=>
     rw[hx]at a;cases a;exact .inr ⟨_,pushCells_keeps r _ _ _ (Heap.get?_push_size _ rfl),rfl⟩
    |false=>
     rw[hx]at a;exact .inl a
   ·exact .inr a
  ·rw[if_neg hk]at e ⊢;exact lY r h acc x c e
def A6{M:Model}{A:Around}{E:Value->Shared->Prop}{s:Shared}{scope:Scope}{globals:Addr}{closure:List (Str × Addr)}{qual:Str}{func:Option Addr}{code:Value}{outer:Env}{builtins:Addr}{Q:Env->Shared->Prop}
 (hQ:Q (newEnv scope s.heap.objs.size globals (cellsFrom (s.heap.objs.size+1) scope.names closure) qual func code (some outer) builtins) { s with heap:=pushCells (s.heap.push { cls:=.type "dict",data:=.dict #[] }) scope.names }) :
  wpAny M A (newFunctionEnv scope globals closure [] qual func code (some outer) builtins) Q E s:=by
 simp only[newFunctionEnv,Option.isSome_some,if_true];refine wpAny_bind (wpAny_alloc ?_);refine wpAny_bind (wpAny_layCells _ (fun name kind cells=>by cases hkc:kind == NameKind.cell<;>simp[hkc]) _ _ _ _ ?_);rw[show({ s with heap:=s.heap.push { cls:=.type "dict",data:=.dict #[] } }:Shared).heap.objs.size=s.heap.objs.size+1 from Heap.size_push ..];refine wpAny_bind ?_;rw[List.forIn_nil];exact wpAny_pure (wpAny_pure hQ)
abbrev blk(X:Cx)(scope:Scope)(cls:List (Str × Addr))(C:Addr)(fp:List Addr)(s:Shared)(H:Hp):Cx where
 prog:=X.prog
 w:=X.w
 K:=X.K
 mg:=X.mg
 base:=X.base
 A:=X.A
 N:=X.N
 s₀:=s
 H₀:=H
 env:=compEnvC scope cls C X.env
 outer:=X.stack
 stack:=X.stack
 ex:=fp
 fn:=fun x=>scope.names.lookup x == some .cell
 calm:=X.calm
 pn:=[]
 xe:=fun _ _=>False
structure fk(scope:Scope)(sc:Scope)(cls:List (Str × Addr))(cells:List (Str × Addr)):Prop where
 kind:scope.kind=.function
 own:∀ x∈scope.names,x.2=.cell->scope.names.lookup x.1=some .cell
 loc:∀ x∈scope.names,x.2=.local->scope.names.lookup x.1=some .local
 sub:∀ x c,cls.lookup x=some c->cells.lookup x=some c
 has:∀ x,scope.names.lookup x=some .free->∃ c,cls.lookup x=some c
 vis:∀ x,scope.names.lookup x=some .free->sc.names.lookup x=some .cell\/sc.names.lookup x=some .free
def bD{env:Env}:∀ {names:List (Str × NameKind)} {x:Str} {k:NameKind},
  (names.map fun(n,k)=>if(k == NameKind.free&&env.scope.kind == .function&&env.kindOf n == some .cell)then(n,NameKind.cell)else(n,k)).lookup x=some k ->
  names.lookup x=some k\/(k=.cell/\names.lookup x=some .free/\env.kindOf x=some .cell)
 | [],x,k,h=>by simp at h
 | (n,k')::r,x,k,h=>by
  have ih:=@bD env r x k;rw[List.map_cons]at h
  cases hx:x == n with
  |true=>
   have en:x=n:=by simpa using hx
   subst en;by_cases hc:(k' == NameKind.free&&env.scope.kind == .function&&env.kindOf x == some .cell)=true
   ·simp only[hc,if_true]at h;rw[List.lookup_cons,hx]at h;cases h;simp only[Bool.and_eq_true,beq_iff_eq]at hc;refine .inr ⟨rfl,?_,hc.2⟩;rw[List.lookup_cons,hx,hc.1.1]
   ·simp only[Bool.not_eq_true]at hc;simp only[hc,Bool.false_eq_true,if_false]at h;rw[List.lookup_cons,hx]at h;cases h;exact .inl (by rw[List.lookup_cons,hx])
  |false=>
   have h':(r.map fun(n,k)=>if(k == NameKind.free&&env.scope.kind == .function&&env.kindOf n == some .cell)then(n,NameKind.cell)else(n,k)).lookup x=some k:=by
    by_cases hc:(k' == NameKind.free&&env.scope.kind == .function&&env.kindOf n == some .cell)=true
    ·simp only[hc,if_true]at h;rw[List.lookup_cons,hx]at h;exact h
    ·simp only[Bool.not_eq_true]at hc;simp only[hc,Bool.false_eq_true,if_false]at h;rw[List.lookup_cons,hx]at h;exact h
   rcases ih h' with q | ⟨q1,q2,q3⟩
   ·exact .inl (by rw[List.lookup_cons,hx];exact q)
   ·exact .inr ⟨q1,by rw[List.lookup_cons,hx];exact q2,q3⟩
abbrev yN(X:Cx)(scope:Scope)(σ σB:St):Prop:=σB.length=σ.length/\∀ (i:Nat) (x:Str) (v:V),X.N[i]?=some x->σB[i]?=some (some v)->σ[i]?=some (some v)/\scope.names.lookup x≠some .local/\scope.names.lookup x≠some .cell
section
def Inv.hxb(I:Inv X pins σ H s):HX (blk X scope cls C fp s H):=by
 rcases I.ok.hd.2 with z | ⟨h,o,u,vs,h1,h2,h3⟩
 ·exact .inl z
 ·exact .inr ⟨h,o,u,vs,h1,I.base.fM _ _ _ h2,h3⟩
def Al(I:Inv X pins σ H s)(S:fk scope X.env.scope cls X.env.cells)(hf:∀ b∈fp,i9 X pins H b/\b<s.heap.objs.size)(ho:yN X scope σ σB)
 (hns:h'.Ns s.heap.objs.size (fun _=>none))(hk:∀ b o,s.heap.get? b=some o->h'.get? b=some o)(hcl:∀ x c,(cellsFrom (s.heap.objs.size+1) scope.names cls).lookup x=some c->cls.lookup x=some c\/h'.IsCell c none) :
  Inv (blk X scope (cellsFrom (s.heap.objs.size+1) scope.names cls) s.heap.objs.size fp s H) [] σB H { s with heap:=h',toks:=t }:=by
 have hC:H s.heap.objs.size=none:=I.hok.fresh (Nat.le_refl _)
 have clt:∀ x c,cls.lookup x=some c->c<s.heap.objs.size:=fun x c e=>by
  obtain⟨v,q⟩:=I.cell x c (S.sub x c e);exact q.lt
 have cas:∀ x c,(cellsFrom (s.heap.objs.size+1) scope.names cls).lookup x=some c->(X.env.cells.lookup x=some c/\c<s.heap.objs.size)\/(s.heap.objs.size+1<=c/\scope.names.lookup x=some .cell):=fun x c e=>by
  rcases j9 _ _ _ _ _ e with⟨a,_⟩ | ⟨a,b⟩
  ·exact .inl ⟨S.sub x c a,clt x c a⟩
  ·exact .inr ⟨a,S.own _ b rfl⟩
 have fre:∀ x c,cls.lookup x=some c->scope.names.lookup x=some .free->(cellsFrom (s.heap.objs.size+1) scope.names cls).lookup x=some c:=fun x c e f=>by
  rw[lN _ _ _ _ fun z=>by rw[S.own _ z rfl]at f;cases f];exact e
 refine⟨⟨I.ok.mod,?_,I.ok.glob,I.ok.blt,Nat.le_refl _,fun x y c h1 h2=>qr _ _ _ (fun x c e=>Nat.lt_succ_of_lt (clt x c e)) (fun x y c e1 e2=>I.ok.inj x y c (S.sub x c e1) (S.sub y c e2)) x y c h1 h2,fun x hx=>?_,fun x c z e=>?_,⟨I.ok.hd.1,I.hxb⟩,I.ok.frames,.inl rfl,fun b hb=>?_,fun b o e=>I.bs b o e,Nat.le_trans I.ok.bsz I.sz,fun b o e hb=>?_,fun b hb=>?_,I.stack,I.qR⟩,
  rfl,I.bare,Un.kept hk,⟨_,hns,fun i x v h1 h2 h3=>?_⟩,fun x c e=>?_,hC,fun x c e=>?_,fun p hp=>absurd hp (by simp[blk]),I.hok.kept hk,ho.1.trans I.len⟩
 ·exact S.kind
 ·have hx:(relabel scope X.env).names.lookup x=some .cell\/(relabel scope X.env).names.lookup x=some .free:=hx
  have key:scope.names.lookup x=some .cell\/scope.names.lookup x=some .free:=by
   rcases hx with hx | hx
   ·rcases bD hx with q | ⟨_,q,_⟩
    ·exact .inl q
    ·exact .inr q
   ·rcases bD hx with q | ⟨q,_⟩
    ·exact .inr q
    ·cases q
  rcases key with q | q
  ·have:=PySem.W.cellsFrom_some scope.names (s.heap.objs.size+1) cls (.inl q);exact Option.isSome_iff_exists.mp this
  ·obtain⟨c,hc⟩:=S.has x q;exact⟨c,fre x c hc q⟩
 ·have z:(scope.names.lookup x == some .cell)=true:=z
  rcases j9 _ _ _ _ _ (show(cellsFrom (s.heap.objs.size+1) scope.names cls).lookup x=some c from e)with⟨_,b⟩ | ⟨b,_⟩
  ·exact absurd (PySem.mem_of_lookup (by simpa using z)) b
  ·exact Nat.le_of_succ_le b
 ·obtain⟨⟨f0,f1,f2,f3,f4,f5⟩,f6⟩:=hf b hb;refine⟨Nat.ne_of_lt f6,fun x c e=>?_⟩
  rcases cas x c e with⟨a,_⟩ | ⟨a,_⟩
  ·exact f4 x c a
  ·exact Nat.ne_of_gt (Nat.lt_trans f6 a)
 ·obtain⟨⟨f0,f1,f2,f3,f4,f5⟩,f6⟩:=hf b hb;rcases f3 with z | z
  ·exact I.ok.q0 b o e z
  ·exact absurd (Nat.lt_of_lt_of_le (Heap.lt_size e) I.ok.bsz) (Nat.not_lt.mpr z)
 ·obtain⟨⟨f0,f1,f2,f3,f4,f5⟩,f6⟩:=hf b hb;intro z;rcases List.mem_cons.mp (I.oJ b z)with e | e
  ·exact f1 e
  ·exact f2 e
 ·obtain⟨h4,h5,h6⟩:=ho.2 i x v h1 h2;have h3:(relabel scope X.env).names.lookup x=some .local\/(relabel scope X.env).names.lookup x=some .cell\/(relabel scope X.env).names.lookup x=some .free:=h3
  have key:scope.names.lookup x=some .free:=by
   rcases h3 with z | z | z
   ·rcases bD z with q | ⟨q,_⟩
    ·exact absurd q h5
    ·cases q
   ·rcases bD z with q | ⟨_,q,_⟩
    ·exact absurd q h6
    ·exact q
   ·rcases bD z with q | ⟨q,_⟩
    ·exact q
    ·cases q
  obtain⟨c,hc⟩:=S.has x key;have hcx:=S.sub x c hc;obtain⟨m,hn,hl⟩:=I.loc;have hv:Vis X.env.scope x:=.inr (S.vis x key);obtain⟨u,ru,lk⟩:=hl i x v h1 h4 hv;refine⟨u,ru,.inr ⟨?_,c,fre x c hc key,?_⟩⟩
  ·rcases h3 with z | z
   ·rcases bD z with q | ⟨q,_⟩
    ·exact absurd q h5
    ·cases q
   ·exact z
  ·rcases lk with⟨z,_⟩ | ⟨_,c',e',q⟩
   ·have z:X.env.scope.names.lookup x=some .local:=z;rcases S.vis x key with z' | z'<;>(rw[z]at z';cases z')
   ·rw[hcx]at e';cases e';obtain⟨o,g1,g2⟩:=q;exact⟨o,hk _ _ g1,g2⟩
 ·rcases hcl x c e with a | a
  ·obtain⟨v,q⟩:=I.cell x c (S.sub x c a);obtain⟨o,h1,h2⟩:=q;exact⟨v,o,hk _ _ h1,h2⟩
  ·exact⟨none,a⟩
 ·rcases cas x c e with⟨a,_⟩ | ⟨a,_⟩
  ·exact I.eh x c a
  ·exact I.hok.fresh (Nat.le_of_succ_le a)
abbrev gU(wi:TI)(clr:St->St)(g:TG)(tc:TT)(te:TE):TE:=fun σ H Q=>wi σ H fun J H1=>∀ l,H1 l=none->∃ W:Nat->Nat->List V->Hp->Prop,(∃ m,W 0 m [] (upd H1 l (.lst []))) /\
 ∀ i m ys H2,W i m ys H2->H2 l=some (.lst ys)/\((J.stop i H2/\Q (.ref l) H2)\/(J.go i H2/\∀ x H3,J.yld i H2 x H3->g x (clr σ) H3 fun σ4 H4=>tc σ4 H4 fun k H5 =>
  if k=true then te σ4 H5 fun y H6=>H6 l=some (.lst ys)/\ys.length<sizeLine/\∃ m',m'<m/\W (i+1) m' (ys++[y]) (upd H6 l (.lst (ys++[y])))else ∃ m',m'<m/\W (i+1) m' ys H5))
structure oa(X:Cx)(scope:Scope)(tg:Expr)(ifs:List Expr)(elt:Expr)(clr:St->St)(g:TG)(tc:TT)(te:TE):Prop where
 htg:∀ cls C fp s H,PG (blk X scope cls C fp s H) tg g
 htc:∀ cls C fp s H pins s' σ H' Q,Inv (blk X scope cls C fp s H) pins σ H' s'->tc σ H' Q->wpAny (model X.prog X.w) X.A (fN ifs (compEnvC scope cls C X.env)) (TP (blk X scope cls C fp s H) pins σ Q) (fun _ _=>False) s'
 hte:∀ cls C fp s H,PE (blk X scope cls C fp s H) elt te
 DA:∀ σ:St,σ.length=X.N.length->yN X scope σ (clr σ)
 zc:∀ (x:V) (σ:St) (H:Hp) (Q:St->Hp->Prop),g x (clr σ) H Q->g x (clr σ) H fun σ2 H2=>Q σ2 H2/\(clr σ).length=σ2.length/\∀ (i:Nat) v,(clr σ)[i]?=some (some v)->σ2[i]?=some (some v)
def mQ{elt tg iter:Expr}{ifs:List Expr}{pos:Pos}{wi:TI}{clr:St->St}{g:TG}{tc:TT}{te:TE}{Q:VK}{RR:Value->Addr->Result->Shared->Prop}{CM:Cx->Prop}(hc:∀ {pins:List (Addr × Obj)} {σ:St} {H:Hp} {s:Shared} (cls:List (Str × Addr)) (C:Addr) (fp:List Addr),Inv X pins σ H s->CM (blk X scope cls C fp s H))(S:fk scope X.env.scope cls X.env.cells)
 (hi:PI' CM X tg iter wi)(B:oa X scope tg ifs elt clr g tc te)(I:Inv X pins σ H s)(h:gU wi clr g tc te σ H Q)
 (hRR:∀ l C H' s',Inv X pins σ H' s'->(∃ m,s'.heap.Ns C m)->H' C=none->C≠X.env.locals->X.s₀.heap.objs.size<=C->(∀ x c,X.env.cells.lookup x=some c->c≠C)->(∀ p∈X.pn++pins,p.1≠C)->Q (.ref l) H'->RR (.ref l) C (.ok .next) s') :
  wpAny (model X.prog X.w) X.A (eval iter X.env) (fun x s1=>wpAny (model X.prog X.w) X.A (pyIter x) (fun it s2=>wpAny (model X.prog X.w) X.A (newList []) (fun acc s3 =>
   wpAny (model X.prog X.w) X.A (newFunctionEnv scope X.env.globals cls [] X.env.qual none .none (some X.env)) (fun cenv s4 =>
    codeAny (model X.prog X.w) X.A (.compStart (.ListComp elt [⟨tg,iter,ifs,0⟩] scope pos) 0 it acc { cenv with scope:=relabel scope X.env }) (RR acc cenv.locals) s4) X.xe s3) X.xe s2) X.xe s1) X.xe s:=by
 refine thn (hi pins s σ H _ I h) fun x s1 h1=>thn h1 fun itv s2 h2=>?_;obtain⟨it,fp,tn,J,H2,e,I2,T,st2,f2,h3⟩:=h2;subst e
 have flt:∀ b∈fp,b<s2.heap.objs.size:=fun b hb=>by
  obtain⟨o,e,_⟩:=T.obj _ _ st2 b hb;exact Heap.lt_size e
 refine wpAny_newObj_type ?_
 have I3:Inv X pins σ (upd H2 s2.heap.objs.size (.lst [])) { s2 with heap:=s2.heap.push { cls:=.type "list",dict:=none,data:=.seq ([]:List Value).toArray } } :=
  I2.laid (t':=s2.toks) (fun b u e=>Heap.get?_push_of_some _ e) (Nat.le_refl _) ⟨Nat.zero_le _,[],0,.nil,Heap.get?_push_size _ rfl⟩
 have hl2:H2 s2.heap.objs.size=none:=I2.hok.fresh (Nat.le_refl _);obtain⟨W,⟨m0,w0⟩,turn⟩:=h3 s2.heap.objs.size hl2
 have f3:∀ b∈fp,i9 X pins (upd H2 s2.heap.objs.size (.lst [])) b/\b<(s2.heap.push { cls:=.type "list",dict:=none,data:=.seq ([]:List Value).toArray }).objs.size:=fun b hb=>by
  obtain⟨z0,z⟩:=f2 b hb;refine⟨⟨?_,z⟩,?_⟩
  ·rw[aD (Nat.ne_of_lt (flt b hb))];exact z0
  ·rw[Heap.size_push];exact Nat.lt_succ_of_lt (flt b hb)
 generalize hs3:({ s2 with heap:=s2.heap.push { cls:=.type "list",dict:=none,data:=.seq ([]:List Value).toArray } }:Shared)=s3 at I3
 have hs3h:s3.heap=s2.heap.push { cls:=.type "list",dict:=none,data:=.seq ([]:List Value).toArray }:=by rw[<-hs3]
 rw[<-hs3h]at f3
 have st3:tn 0 s3.heap:=T.keep _ _ _ st2 fun b hb o e=>by rw[hs3h];exact Heap.get?_push_of_some _ e
 refine A6 ?_;have k4:∀ b o,s3.heap.get? b=some o->(pushCells (s3.heap.push { cls:=.type "dict",data:=.dict #[] }) scope.names).get? b=some o:=fun b o e=>pushCells_keeps _ _ b o (Heap.get?_push_of_some _ e);have hns4:(pushCells (s3.heap.push { cls:=.type "dict",data:=.dict #[] }) scope.names).Ns s3.heap.objs.size (fun _=>none):=(Heap.Ns.new s3.heap (.type "dict")).keeps (pushCells_keeps _ _);have hcl4:∀ x c,(cellsFrom (s3.heap.objs.size+1) scope.names cls).lookup x=some c->cls.lookup x=some c\/(pushCells (s3.heap.push { cls:=.type "dict",data:=.dict #[] }) scope.names).IsCell c none:=fun x c e=>lY scope.names (s3.heap.push { cls:=.type "dict",data:=.dict #[] }) cls x c (by rw[Heap.size_push];exact e);generalize pushCells (s3.heap.push { cls:=.type "dict",data:=.dict #[] }) scope.names=h4 at k4 hns4 hcl4
 have I4:Inv (blk X scope (cellsFrom (s3.heap.objs.size+1) scope.names cls) s3.heap.objs.size fp s3 (upd H2 s2.heap.objs.size (.lst []))) [] (clr σ) (upd H2 s2.heap.objs.size (.lst [])) { s3 with heap:=h4 } :=
  Al (t:=s3.toks) I3 S f3 (B.DA σ I.len) hns4 k4 hcl4
 generalize hs4:({ s3 with heap:=h4 }:Shared)=s4 at I4
 have hs4h:s4.heap=h4:=by rw[<-hs4]
 generalize hH3:upd H2 s2.heap.objs.size (.lst [])=H3 at I3 I4 w0
 have st4:tn 0 s4.heap:=T.keep _ _ _ st3 fun b hb o e=>by rw[hs4h];exact k4 b o e
 have fn4:∀ b∈fp,H3 b=none:=fun b hb=>by rw[<-hH3];exact(f3 b hb).1.1
 have stat:∀ {H':Hp} {σ':St} {s':Shared},Inv (blk X scope (cellsFrom (s3.heap.objs.size+1) scope.names cls) s3.heap.objs.size fp s3 H3) [] σ' H' s'->(∀ b∈fp,H' b=none)->∀ b∈fp,i9 (blk X scope (cellsFrom (s3.heap.objs.size+1) scope.names cls) s3.heap.objs.size fp s3 H3) [] H' b :=
  fun {H' σ' s'} J hn b hb=>⟨hn b hb,(J.ok.exf b hb).1,J.ok.qv b hb,.inl hb,(J.ok.exf b hb).2,fun p hp=>absurd hp (by simp[blk])⟩
 have fin:∀ {H':Hp} {s':Shared},Inv (blk X scope (cellsFrom (s3.heap.objs.size+1) scope.names cls) s3.heap.objs.size fp s3 H3) [] (clr σ) H' s'->Q (.ref s2.heap.objs.size) H'->RR (.ref s2.heap.objs.size) s3.heap.objs.size (.ok .next) s':=fun {H' s'} J q=>by
  obtain⟨m,hn,_⟩:=J.loc
  have J1:Inv X pins σ H' s':=I3.yQ (s':=s') (ch:=fp) (J.os.trans rfl) J.base J.hok J.bare fun b hb=>by
   obtain⟨⟨g0,g1,g2,g3,g4,g5⟩,_⟩:=f3 b hb;exact⟨g3,g1,g4,g5⟩
  refine hRR _ _ H' s' J1 ⟨m,hn⟩ J.free (Nat.ne_of_gt I3.lt) I3.sz (fun x c e=>?_) (fun p hp=>?_) q
  ·obtain⟨v,z⟩:=I3.cell x c e;exact Nat.ne_of_lt z.lt
  ·exact Nat.ne_of_lt (Heap.lt_size (I3.pin p hp).1)
 have loop:codeAny (model X.prog X.w) X.A (.compLoop (.ListComp elt [⟨tg,iter,ifs,0⟩] scope pos) 0 (.ref it) (.ref s2.heap.objs.size) (compEnvC scope (cellsFrom (s3.heap.objs.size+1) scope.names cls) s3.heap.objs.size X.env))
   (RR (.ref s2.heap.objs.size) s3.heap.objs.size) s4:=by
  refine vG (fun n s'=>∃ i ys H',Inv (blk X scope (cellsFrom (s3.heap.objs.size+1) scope.names cls) s3.heap.objs.size fp s3 H3) [] (clr σ) H' s'/\tn i s'.heap/\(∀ b∈fp,H' b=none)/\W i n ys H') ?_ m0 ⟨0,[],H3,I4,st4,fn4,w0⟩;rintro n s5 ⟨i,ys,H5,I5,st5,fr5,w5⟩;obtain⟨hl5,tr⟩:=turn i n ys H5 w5
  rcases tr with⟨stop,qn⟩ | ⟨go,step⟩
  ·refine thn (T.done (blk X scope (cellsFrom (s3.heap.objs.size+1) scope.names cls) s3.heap.objs.size fp s3 H3) rfl rfl rfl (hc _ _ _ I3) i [] s5 (clr σ) H5 (fun _ _=>False) I5 (stat I5 fr5) st5 stop) fun r s6 ⟨hr,I6⟩=>?_;subst hr;exact fin I6 qn
  ·refine thn (T.item (blk X scope (cellsFrom (s3.heap.objs.size+1) scope.names cls) s3.heap.objs.size fp s3 H3) rfl rfl rfl (hc _ _ _ I3) i [] s5 (clr σ) H5 (fun _ _=>False) I5 (stat I5 fr5) st5 go) fun r s6 ⟨u,hr,h6⟩=>?_;subst hr;refine thn h6 fun _ s7 ⟨x,H7,I7,r7,y7,st7,fr7⟩=>?_;have I7':=I7.pinned (stat I7 fr7) (T.obj _ _ st7)
   have back:∀ {σ':St} {H':Hp} {s':Shared},Inv (blk X scope (cellsFrom (s3.heap.objs.size+1) scope.names cls) s3.heap.objs.size fp s3 H3) ([]++jh fp s7.heap) σ' H' s'->(clr σ).length=σ'.length->(∀ (i:Nat) v,(clr σ)[i]?=some (some v)->σ'[i]?=some (some v))->(∃ m ys',m<n/\W (i+1) m ys' H') ->
     ∃ m,m<n/\∃ i ys H',Inv (blk X scope (cellsFrom (s3.heap.objs.size+1) scope.names cls) s3.heap.objs.size fp s3 H3) [] (clr σ) H' s'/\tn i s'.heap/\(∀ b∈fp,H' b=none)/\W i m ys H':=fun {σ' H' s'} J el ew hw=>by
    obtain⟨m,ys',hm,w8⟩:=hw;refine⟨m,hm,i+1,ys',H',J.ie.weak el ew,T.keep _ _ _ st7 fun b hb o e=>(J.pin (b,o) (List.mem_append_right _ (List.mem_append_right _ (fA hb e)))).1,fun b hb=>?_,w8⟩;obtain⟨o,e,d⟩:=T.obj _ _ st7 b hb;exact(J.pin (b,o) (List.mem_append_right _ (List.mem_append_right _ (fA hb e)))).2.1
   refine thn (B.htg _ s3.heap.objs.size fp s3 H3 _ s7 (clr σ) H7 x u _ I7' r7 (B.zc x σ H7 _ (step x H7 y7))) fun _ s8 ⟨σ8,H8,I8,q8,el8,ew8⟩=>?_;refine thn (B.htc _ s3.heap.objs.size fp s3 H3 _ s8 σ8 H8 _ I8 q8) fun ok s9 ⟨H9,I9,q9⟩=>?_
   cases ok with
   |false=>
    have q9:∃ m',m'<n/\W (i+1) m' ys H9:=q9;obtain⟨m',hm,w9⟩:=q9;exact back I9 el8 ew8 ⟨m',ys,hm,w9⟩
   |true=>
    refine thn (B.hte _ s3.heap.objs.size fp s3 H3 _ s9 σ8 H9 _ I9 q9) fun v s10 ⟨y,H10,I10,r10,hl10,hz,m',hm,w10⟩=>?_;refine thn (mO (X:=blk X scope (cellsFrom (s3.heap.objs.size+1) scope.names cls) s3.heap.objs.size fp s3 H3) _ s10 σ8 H10 (.ref s2.heap.objs.size) [y] (.ref s2.heap.objs.size) [v] (fun _ H'=>H'=upd H10 s2.heap.objs.size (.lst (ys++[y]))) I10 rfl (.cons r10 .nil) ⟨_,ys,y,rfl,rfl,hl10,hz,rfl⟩) fun _ s11 ⟨_,H11,I11,_,e11⟩=>?_;subst e11;exact back I11 el8 ew8 ⟨m',_,hm,w10⟩
 exact codeAny_compStart_list loop (T.self _ 0 _ _ _ st4 loop)
def sJ{elt tg iter:Expr}{ifs:List Expr}{pos:Pos}{wi:TI}{clr:St->St}{g:TG}{tc:TT}{te:TE}{CM:Cx->Prop}(hc:∀ {pins:List (Addr × Obj)} {σ:St} {H:Hp} {s:Shared} (cls:List (Str × Addr)) (C:Addr) (fp:List Addr),Inv X pins σ H s->CM (blk X scope cls C fp s H))(S:fk scope X.env.scope cls X.env.cells)(hclos:closureFor scope X.env=pure cls)
 (hi:PI' CM X tg iter wi)(B:oa X scope tg ifs elt clr g tc te)(hs:∀ x,foldedSetIterable iter X.env x=pure x):PE X (.ListComp elt [⟨tg,iter,ifs,0⟩] scope pos) (gU wi clr g tc te):=by
 intro pins s σ H Q I h;rw[eval_ListComp];refine wpAny_comprehension_free (use:=none) rfl hs hclos S.kind S.loc (mQ (RR:=fun acc C=>compPost (model X.prog X.w) X.A X.xe none (EP X pins σ Q) acc C) hc S hi B I h ?_);intro l C H' s' J hn c0 c1 c2 c3 c4 q;obtain⟨m,hn⟩:=hn;exact⟨m,hn,fun h' sb=>⟨.ref l,H',J.turned (it:=C) (h':=h') (t':=s'.toks) (fun b o hb e=>(sb.2 b hb).trans e) c0 (Ne.symm (Ne.symm c1)) (.inr c2) c3 c4,rfl,q⟩⟩
abbrev Er(i:Nat)(t:TE):TS:=fun D σ H=>t σ H fun v H1=>D.nx (σ.set i (some v)) H1
def sF(hc:X.calm=true)(hN:X.N.Nodup)(hiy:X.N[i]?=some y)(hy:X.env.scope.names.lookup y=some .local)
 (S:fk scope X.env.scope cls X.env.cells)(hclos:closureFor scope X.env=pure cls)
 (hi:PI X tg iter wi)(B:oa X scope tg ifs elt clr g tc te)(hs:∀ x,foldedSetIterable iter X.env x=pure x)
 (hsw:swapsWith (.ListComp elt [⟨tg,iter,ifs,0⟩] scope pos) (some (.Name y py)) spos.line X.env=pure true) :
  PS X (.Assign [.Name y py] (.ListComp elt [⟨tg,iter,ifs,0⟩] scope pos) spos) (Er i (gU wi clr g tc te)):=by
 intro pins s σ H D I h
 have back:∀ (l C:Addr) (H':Hp) (s':Shared),Inv X pins σ H' s'->(∃ m,s'.heap.Ns C m)->H' C=none->C≠X.env.locals->X.s₀.heap.objs.size<=C->(∀ x c,X.env.cells.lookup x=some c->c≠C)->(∀ p∈X.pn++pins,p.1≠C)->D.nx (σ.set i (some (.ref l))) H' ->
   compPost (model X.prog X.w) X.A X.xe (some (assign (.Name y py) X.env)) (fun _ s'=>SP X pins D .next s') (.ref l) C (.ok .next) s':=by
  intro l C H' s' J hn c0 c1 c2 c3 c4 q;obtain⟨m,hn⟩:=hn;show wpAny _ X.A (assign (.Name y py) X.env (.ref l)) _ _ s';refine wpAny_assign_Name (nr (v:=.ref l) J hN hiy (.inl hy) rfl (fun s2 J2 ⟨a,sb,ha⟩=>?_) (.inr hy))
  have hne:C≠a:=by
   rcases ha with z | z
   ·rw[z];exact c1
   ·exact(c3 _ _ z).symm
  exact⟨m,hn.sameBut sb hne,fun h' sb'=>⟨σ.set i (some (.ref l)),H',J2.turned (it:=C) (h':=h') (t':=s2.toks) (fun b o hb e=>(sb'.2 b hb).trans e) c0 c1 (.inr c2) c3 c4,q⟩⟩
 have core:=mQ (RR:=fun acc C=>compPost (model X.prog X.w) X.A X.xe (some (assign (.Name y py) X.env)) (fun _ s'=>SP X pins D .next s') acc C) (pos:=pos) (fun _ _ _ _=>hc) S hi B I h back;have whole:=wpAny_comprehension_free (e:=.ListComp elt [⟨tg,iter,ifs,0⟩] scope pos) (newAcc:=newList []) (use:=some (assign (.Name y py) X.env)) (Q:=fun _ s'=>SP X pins D .next s') (pos:=iter.pos) rfl hs hclos S.kind S.loc core;rw[exec_Assign_Name_used (hs:=hsw)];apply wpAny_bind;apply wpAny_standAt;apply wpAny_bind;apply wpAny_bind;refine thn whole fun _ s' hq=>?_;apply wpAny_pure;apply wpAny_pure;exact hq
end
end L2
namespace RS
open PySem PySem.Spec PyProof.Rows L2
def i4:∀ (names:List (Str × NameKind)) (acc:List (Str × Addr)),(∀ x,(x,NameKind.free)∈names->∃ c,env.cells.lookup x=some c)->(∀ x c,acc.lookup x=some c->env.cells.lookup x=some c) ->
  ∃ cls,(forIn names acc fun(p:Str × NameKind) cs=>match p with | (name,kind)=>if(kind == NameKind.free)=true then do let c <- cellOf env name;pure (ForInStep.yield ((name,c)::cs))else pure (ForInStep.yield cs):Sem (List (Str × Addr)))=pure cls /\
   (∀ x c,cls.lookup x=some c->env.cells.lookup x=some c)/\(∀ x,(acc.lookup x).isSome=true\/(x,NameKind.free)∈names->∃ c,cls.lookup x=some c)
 | [],acc,_,ha=>⟨acc,rfl,ha,fun x hx=>by
   rcases hx with h | h
   ·exact Option.isSome_iff_exists.mp h
   ·simp at h⟩
 | (n,k)::r,acc,hn,ha=>by
  by_cases hk:k=.free
  ·subst hk;obtain⟨c,hc⟩:=hn n List.mem_cons_self
   have ha':∀ x c',((n,c)::acc).lookup x=some c'->env.cells.lookup x=some c':=fun x c' e=>by
    rw[List.lookup_cons]at e
    cases hx:x == n with
    |true=>
     rw[hx]at e;cases e;rw[show x=n by simpa using hx];exact hc
    |false=>
     rw[hx]at e;exact ha x c' e
   obtain⟨cls,h1,h2,h3⟩:=i4 r ((n,c)::acc) (fun x hx=>hn x (List.mem_cons_of_mem _ hx)) ha';refine⟨cls,?_,h2,fun x hx=>h3 x ?_⟩
   ·rw[List.forIn_cons]
    have hcell:cellOf env n=pure c:=by unfold cellOf;rw[hc]
    simp only[beq_self_eq_true,if_true,hcell];exact h1
   ·rcases hx with h | h
    ·left;rw[List.lookup_cons];split<;>simp_all
    ·rcases List.mem_cons.mp h with e | e
     ·cases e;left;simp[List.lookup_cons]
     ·exact .inr e
  ·obtain⟨cls,h1,h2,h3⟩:=i4 r acc (fun x hx=>hn x (List.mem_cons_of_mem _ hx)) ha;refine⟨cls,?_,h2,fun x hx=>h3 x ?_⟩
   ·rw[List.forIn_cons]
    have:(k == NameKind.free)=false:=by simpa using hk
    simp only[this,Bool.false_eq_true,if_false];exact h1
   ·rcases hx with h | h
    ·exact .inl h
    ·rcases List.mem_cons.mp h with e | e
     ·cases e;exact absurd rfl hk
     ·exact .inr e
def u5(h:∀ x,(x,NameKind.free)∈scope.names->∃ c,env.cells.lookup x=some c) :
  ∃ cls,closureFor scope env=pure cls/\(∀ x c,cls.lookup x=some c->env.cells.lookup x=some c)/\(∀ x,scope.names.lookup x=some .free->∃ c,cls.lookup x=some c):=by
 obtain⟨cls,h1,h2,h3⟩:=i4 (env:=env) scope.names [] h (fun x c e=>by simp at e);refine⟨cls,?_,h2,fun x hx=>h3 x (.inr (PySem.mem_of_lookup hx))⟩;unfold closureFor;simp only[bind_pure_comp]at h1 ⊢;rw[h1];rfl
section
abbrev lS(K:PySem.W.Frag)(n:Nat)(t:TGs):TG:=fun v σ H Q=>∃ a xs,v=.ref a/\SqL K H a xs/\xs.length=n/\t xs σ H Q
def vm(hc:X.calm=true)(h:PGs X es t)(hn:(assignEach es X.env).length=n)(hst:(assignEach es X.env).findIdx? (·.1)=none):PG X (.Tuple es k pos) (lS X.K n t):=by
 intro pins s σ H v u Q I r hw;obtain⟨a,xs,e1,hq,hl,hw⟩:=hw;subst e1;cases r;obtain⟨its,rv,ht,hz⟩:=I.list hq
 have hsz:(assignEach es X.env).length=its.toArray.size:=by rw[hn,<-hl,rv.length,List.size_toArray]
 rw[PyProof.Rows.assign_Tuple];refine wpAny_bind (wpAny_standAt ?_);unfold unpack;rw[hsz,hst];refine wpAny_bind (wpAny_holding (PySem.W.kun_itemsOf (I.ok.hd.1 hc) ht.isList fun h' hx=>?_));have I1:Inv X pins σ H { s with heap:=h' }:=I.kept (t':=s.toks) fun b o e=>hx b o (Nat.ne_of_lt (Heap.lt_size e)) e;exact h pins _ σ H xs _ Q I1 (by simpa using rv) hw
end
section
def uW(h:PG X tgE t)(h':PG X tgE t'):PG X tgE (fun v σ H Q=>t v σ H Q\/t' v σ H Q):=by
 intro pins s σ H v u Q I r hw;rcases hw with q | q
 ·exact h pins s σ H v u Q I r q
 ·exact h' pins s σ H v u Q I r q
end
abbrev gs:List Nat->TGs
 | []=>C2
 | i::r=>yR (nV i) (gs r)
abbrev gT(K:PySem.W.Frag):List Nat->TG
 | [i]=>nV i
 | is=>fun v σ H Q=>lQ K is.length (gs is) v σ H Q\/lS K is.length (gs is) v σ H Q
abbrev cF:List Nat->List V->L2.St->L2.St
 | i::is,v::vs,σ=>cF is vs (σ.set i (some v))
 | _,_,σ=>σ
abbrev dF:List Nat->List RL.D->RL.St->RL.St
 | i::is,d::ds,σ=>dF is ds (σ.set i (some d))
 | _,_,σ=>σ
def fh:∀ {is:List Nat} {ds:List RL.D} {σ σ1:RL.St},RL.aN is ds σ=some σ1->is.length=ds.length/\σ1=dF is ds σ
 | [],[],σ,σ1,h=>by cases h;exact⟨rfl,rfl⟩
 | [],d::ds,σ,σ1,h=>by cases h
 | i::is,[],σ,σ1,h=>by cases h
 | i::is,d::ds,σ,σ1,h=>by
  obtain⟨h1,h2⟩:=fh (is:=is) (ds:=ds) (σ:=σ.set i (some d)) h;exact⟨by simp[h1],h2⟩
def iI:∀ {is:List Nat} {vs:List V} {σ:L2.St} {H:Hp} {Q:L2.St->Hp->Prop},is.length=vs.length->Q (cF is vs σ) H->gs is vs σ H Q
 | [],[],σ,H,Q,_,q=>⟨rfl,q⟩
 | [],_::_,_,_,_,h,_=>by simp at h
 | _::_,[],_,_,_,h,_=>by simp at h
 | i::is,v::vs,σ,H,Q,h,q=>⟨v,vs,rfl,iI (is:=is) (by simpa using h) q⟩
def zq{K:PySem.W.Frag}(h:RL.aV tg d σD=some σD1)(r:Rep nP K H d v) :
  ∃ ds vs,σD1=dF tg ds σD/\tg.length=ds.length/\aa nP K H ds vs/\(d.imm=true->RL.ao ds=true)/\∀ (σ:L2.St) (Q:L2.St->Hp->Prop),Q (cF tg vs σ) H->gT K tg v σ H Q:=by
 unfold RL.aV at h;split at h
 ·rename_i i;cases h;exact⟨[d],[v],rfl,rfl,aa.cons r aa.nil,fun z=>by simp[RL.ao,z],fun σ Q q=>q⟩
 ·rename_i hne
  have key:gT K tg=fun v σ H Q=>lQ K tg.length (gs tg) v σ H Q\/lS K tg.length (gs tg) v σ H Q:=by
   unfold gT;split
   ·rename_i i;exact absurd rfl (hne i)
   ·rfl
  rw[key];split at h
  ·rename_i ds;obtain⟨h1,h2⟩:=fh h;obtain⟨p,xs,rfl,e2,e3⟩:=aS r;exact⟨ds,xs,h2,h1,e3,fun z=>by rw[RL.D.imm]at z;exact z,fun σ Q q=>.inl ⟨p,xs,rfl,SqT.of e2,by rw[<-e3.length,h1],iI (h1.trans e3.length) q⟩⟩
  ·rename_i ds;obtain⟨h1,h2⟩:=fh h;obtain⟨p,xs,rfl,_,e2,e3⟩:=a7 r;exact⟨ds,xs,h2,h1,e3,fun z=>(by cases z),fun σ Q q=>.inr ⟨p,xs,rfl,SqL.of e2,by rw[<-e3.length,h1],iI (h1.trans e3.length) q⟩⟩
  ·cases h
def oy:∀ (is:List Nat) (vs:List V) (σ:L2.St),(cF is vs σ).length=σ.length
 | [],_,_=>rfl
 | _::_,[],_=>rfl
 | i::is,v::vs,σ=>by rw[cF,oy is vs,List.length_set]
def m8:∀ (is:List Nat) (vs:List V) (σ:L2.St) (j:Nat),is.contains j=false->(cF is vs σ)[j]?=σ[j]?
 | [],_,_,_,_=>rfl
 | _::_,[],_,_,_=>rfl
 | i::is,v::vs,σ,j,h=>by
  rw[List.contains_cons,Bool.or_eq_false_iff]at h;rw[cF,m8 is vs _ j h.2,List.getElem?_set_ne (by intro e;subst e;simp at h)]
def jV:∀ (is:List Nat) (vs:List RL.D) (σ:RL.St),(dF is vs σ).length=σ.length
 | [],_,_=>rfl
 | _::_,[],_=>rfl
 | i::is,v::vs,σ=>by rw[dF,jV is vs,List.length_set]
def jJ:∀ (is:List Nat) (vs:List RL.D) (σ:RL.St) (j:Nat),is.contains j=false->(dF is vs σ)[j]?=σ[j]?
 | [],_,_,_,_=>rfl
 | _::_,[],_,_,_=>rfl
 | i::is,v::vs,σ,j,h=>by
  rw[List.contains_cons,Bool.or_eq_false_iff]at h;rw[dF,jJ is vs _ j h.2,List.getElem?_set_ne (by intro e;subst e;simp at h)]
abbrev RVx(T:List Nat)(K:PySem.W.Frag)(σD:RL.St)(σ:L2.St)(H:Hp):Prop:=σD.length<=σ.length/\∀ (i:Nat) (d:RL.D),T.contains i=false->σD[i]?=some (some d)->∃ v,σ[i]?=some (some v)/\Rep nP K H d v
def RVx.set{K:PySem.W.Frag}(h:RVx (i::T) K σD σ H)(r:Rep nP K H d v):RVx T K (σD.set i (some d)) (σ.set i (some v)) H:=⟨by simpa using h.1,fun j dj hT e=>by
 by_cases hj:j=i
 ·subst hj
  have hlt:j<σD.length:=by
   have:=(List.getElem?_eq_some_iff.mp e).1;simpa using this
  rw[List.getElem?_set_self hlt]at e;cases e;exact⟨v,by rw[List.getElem?_set_self (Nat.lt_of_lt_of_le hlt h.1)],r⟩
 ·rw[List.getElem?_set_ne (Ne.symm hj)]at e ⊢
  exact h.2 j dj (by rw[List.contains_cons,hT,Bool.or_false];simpa using hj) e⟩
def RVx.aN{K:PySem.W.Frag}:∀ {is:List Nat} {ds:List RL.D} {vs:List V} {σD:RL.St} {σ:L2.St},RVx is K σD σ H->is.length=ds.length->aa nP K H ds vs->RV0 K (dF is ds σD) (cF is vs σ) H
 | [],_,_,_,_,h,_,_=>⟨h.1,fun i d e=>h.2 i d rfl e⟩
 | i::is,[],_,_,_,_,hl,_=>by simp at hl
 | i::is,d::ds,vs,σD,σ,h,hl,r=>by
  rw[aa]at r;obtain⟨v,t,rfl,r1,r2⟩:=r;rw[dF,cF];exact RVx.aN (h.set r1) (by simpa using hl) r2
def BE{K:PySem.W.Frag}(h:gT K tg v σ H Q):∃ vs,tg.length=vs.length/\Q (cF tg vs σ) H/\∀ Q':L2.St->Hp->Prop,Q' (cF tg vs σ) H->gT K tg v σ H Q':=by
 have inv:∀ (is:List Nat) (xs:List V) (σ:L2.St) (Q:L2.St->Hp->Prop),gs is xs σ H Q->is.length=xs.length/\Q (cF is xs σ) H:=by
  intro is
  induction is with
  | nil=>intro xs σ Q h;obtain⟨rfl,q⟩:=h;exact⟨rfl,q⟩
  |cons i r ih=>
   intro xs σ Q h;obtain⟨v,t,rfl,q⟩:=h;obtain⟨h1,h2⟩:=ih t _ Q q;exact⟨by simp[h1],h2⟩
 unfold gT at h;split at h
 ·rename_i i;exact⟨[v],rfl,h,fun Q' q=>q⟩
 ·rename_i hne
  have key:gT K tg=fun v σ H Q=>lQ K tg.length (gs tg) v σ H Q\/lS K tg.length (gs tg) v σ H Q:=by
   unfold gT;split
   ·rename_i i;exact absurd rfl (hne i)
   ·rfl
  rw[key]
  rcases h with⟨a,xs,rfl,hq,hl,hg⟩ | ⟨a,xs,rfl,hq,hl,hg⟩
  ·obtain⟨h1,h2⟩:=inv _ _ _ _ hg;exact⟨xs,h1,h2,fun Q' q=>.inl ⟨a,xs,rfl,hq,hl,iI h1 q⟩⟩
  ·obtain⟨h1,h2⟩:=inv _ _ _ _ hg;exact⟨xs,h1,h2,fun Q' q=>.inr ⟨a,xs,rfl,hq,hl,iI h1 q⟩⟩
abbrev f9(tg:List Nat)(σ:L2.St):L2.St:=σ.mapIdx fun i o=>if tg.contains i then none else o
def pQ(tg:List Nat)(σ:L2.St):(f9 tg σ).length=σ.length:=by simp[f9]
def si(h:tg.contains i=false):(f9 tg σ)[i]?=σ[i]?:=by
 unfold f9;rw[List.getElem?_mapIdx]
 cases σ[i]? with
 | none=>rfl
 | some o=>simp only[Option.map_some,h,Bool.false_eq_true,if_false]
def rH(h:tg.contains i=true):(f9 tg σ)[i]?≠some (some v):=by
 unfold f9;rw[List.getElem?_mapIdx]
 cases σ[i]? with
 | none=>simp
 | some o=>simp only[Option.map_some,h,if_true];intro z;cases z
section comp
variable{X:Cx}
structure ju(X:Cx)(cl:RL.Cl)(scope:Scope)(tgE:Expr)(tg:List Nat)(elt:Expr)(e':RL.E)(tcs:TT)(ifs:List Expr):Prop where
 htg:∀ cls C fp s H,PG (blk X scope cls C fp s H) tgE (gT X.K tg)
 htc:∀ cls C fp s H pins s' σ H' Q,Inv (blk X scope cls C fp s H) pins σ H' s'->tcs σ H' Q->wpAny (model X.prog X.w) X.A (fN ifs (compEnvC scope cls C X.env)) (TP (blk X scope cls C fp s H) pins σ Q) (fun _ _=>False) s'
 hte:∀ cls C fp s H,SE (blk X scope cls C fp s H) cl elt e'
 cover:∀ (i:Nat) (x:Str),X.N[i]?=some x->scope.names.lookup x=some .local\/scope.names.lookup x=some .cell->tg.contains i=true
def ju.blk{tcs:TT}(B:ju X cl scope tgE tg elt e' tcs ifs):oa X scope tgE ifs elt (f9 tg) (gT X.K tg) tcs (tE X.K cl e') where
 htg:=B.htg
 htc:=B.htc
 hte:=B.hte
 DA:=fun σ hl=>⟨pQ tg σ,fun i x v h1 h2=>by
  by_cases hc:tg.contains i=true
  ·exact absurd h2 (rH hc)
  ·simp only[Bool.not_eq_true]at hc;rw[si hc]at h2;refine⟨h2,fun z=>?_,fun z=>?_⟩
   ·rw[B.cover i x h1 (.inl z)]at hc;cases hc
   ·rw[B.cover i x h1 (.inr z)]at hc
    cases hc⟩
 zc:=fun x σ H Q h=>by
  obtain⟨vs,h1,h2,h3⟩:=BE h;refine h3 _ ⟨h2,(oy _ _ _).symm,fun i v e=>?_⟩;by_cases hc:tg.contains i=true
  ·exact absurd e (rH hc)
  ·simp only[Bool.not_eq_true]at hc;rw[m8 _ _ _ _ hc];exact e
def uO(h:RL.cG f tg σ (d::r)=some ys):∃ σ1 y ys',RL.aV tg d σ=some σ1/\f σ1=some y/\RL.cG f tg σ r=some ys'/\RL.k6 y ys'=some ys:=by
 rw[RL.cG]at h;obtain⟨σ1,h1,h⟩:=bind_some h;obtain⟨y,h2,h⟩:=bind_some h;obtain⟨ys',h3,h⟩:=bind_some h;exact⟨σ1,y,ys',h1,h2,h3,h⟩
def rG(rv:RV0 X.K σD σ H)(ei:RL.bw cl σD it=some ds)(hz:ds.length<=RL.most)(hm:RL.cG f tg σD ds=some total)
 (ht:∀ σ1 σV H y (Q:Bool->Hp->Prop),RV0 X.K σ1 σV H->f σ1=some y->(∀ k H',aq H H'->(if k=true then ∃ d,y=some d/\RL.ev cl σ1 e'=some d else y=none)->Q k H')->tcs σV H Q)
 (k:∀ l H',aq H H'->H l=none->(∃ xs,H' l=some (.lst xs)/\aa nP X.K H' total xs)->Q (.ref l) H'):gU (tI X.K cl it) (f9 tg) (gT X.K tg) tcs (tE X.K cl e') σ H Q:=by
 refine⟨σD,ds,rv,ei,fun J H1 s1 src l hl=>?_⟩;obtain⟨ok,_⟩:=src
 refine⟨fun i m xs H2=>∃ don rest,m=ds.length-i/\i<=ds.length/\aq H1 H2/\H2 l=some (.lst xs)/\aa (fun p=>p=l) X.K H2 don xs/\RL.cG f tg σD (ds.drop i)=some rest/\don++rest=total/\don.length<=i,
  ⟨_,[],total,rfl,Nat.zero_le _,aq.bW hl,aW,aa.nil,hm,rfl,Nat.le_refl _⟩,?_⟩
 rintro i m xs H2 ⟨don,rest,rfl,hi,s2,hl2,rs,hr,htot,hdn⟩;refine⟨hl2,?_⟩;have off:Off nP H1 H2:=Off.same s2;by_cases hlt:i<ds.length
 ·refine .inr ⟨ok.go H2 i off hlt,fun x H3 y=>?_⟩
  have hd:ds[i]?=some ds[i]:=by simp[hlt]
  obtain⟨s3,rp⟩:=ok.yld H2 i ds[i] x H3 off hd y;have rp:=rp (.inr s2);rw[List.drop_eq_getElem_cons hlt]at hr;obtain⟨σ1,y1,ys',h1,h2,h3,h4⟩:=uO hr;obtain⟨dv,vs,e1,e2,e3,_,e5⟩:=zq h1 rp;refine e5 _ _ ?_;have rv3:RV0 X.K σD σ H3:=rv.same ((s1.trans s2).trans s3)
  have rvx:RVx tg X.K σD (f9 tg σ) H3:=⟨by rw[pQ];exact rv3.1,fun j d hT e=>by rw[si hT];exact rv3.2 j d e⟩
  have rv1:RV0 X.K σ1 (cF tg vs (f9 tg σ)) H3:=by rw[e1];exact rvx.aN e2 e3
  refine ht σ1 _ H3 y1 _ rv1 h2 fun t H5 s5 hy=>?_;have hl5:H5 l=some (.lst xs):=s5 _ _ (s3 _ _ hl2);have rs5:aa (fun p=>p=l) X.K H5 don xs:=(rs.same s3).same s5
  cases t with
  |true=>
   obtain⟨d,rfl,hv⟩:=(show ∃ d,y1=some d/\RL.ev cl σ1 e'=some d from hy)
   have him:d.imm=true/\rest=d::ys':=by
    unfold RL.k6 at h4;dsimp only at h4;split at h4
    ·rename_i hh;cases h4;exact⟨hh,rfl⟩
    ·cases h4
   refine eJ ⟨σ1,d,rv1.same s5,hv,fun v H6 r6=>⟨r6.same _ _ hl5,?_,ds.length-(i+1),by lia,don++[d],ys',rfl,hlt,?_,aW,?_,h3,?_,?_⟩⟩
   ·rw[<-rs.length];exact Nat.lt_of_lt_of_le (Nat.lt_of_le_of_lt hdn (Nat.lt_of_lt_of_le hlt hz)) (Nat.le_of_lt (by decide))
   ·intro b o e;have hb:b≠l:=aB e hl;rw[aD hb];exact r6.same _ _ (s5 _ _ (s3 _ _ (s2 _ _ e)))
   ·exact aa.upd (P:=fun p=>p=l) (r6.same _ _ hl5) (.inl ⟨_,rfl⟩) rfl (aa.append (rs5.same r6.same) (aa.cons (r6.rep.imm him.1) aa.nil))
   ·rw[<-htot,him.2,List.append_assoc];rfl
   ·rw[List.length_append,List.length_singleton];lia
  |false=>
   have hy:y1=none:=hy;subst hy
   have hr2:rest=ys':=by
    unfold RL.k6 at h4;dsimp only at h4;cases h4;rfl
   refine f7 ⟨ds.length-(i+1),by lia,don,ys',rfl,hlt,(s2.trans s3).trans s5,hl5,rs5,h3,by rw[<-htot,hr2],by lia⟩
 ·have e:i=ds.length:=by lia
  subst e;refine .inl ⟨ok.stop H2 off,k l H2 (s1.trans s2) (s1.free hl) ⟨xs,hl2,?_⟩⟩;rw[List.drop_length,RL.cG]at hr;cases hr;rw[List.append_nil]at htot;rw[<-htot];exact aa.weak (fun _ z=>z.elim) rs
end comp
section comp
variable{X:Cx}
structure m9(scope sc:Scope):Prop where
 kind:scope.kind=.function
 own:∀ x∈scope.names,x.2=.cell->scope.names.lookup x.1=some .cell
 loc:∀ x∈scope.names,x.2=.local->scope.names.lookup x.1=some .local
 vis:∀ x∈scope.names,x.2=.free->sc.names.lookup x.1=some .cell\/sc.names.lookup x.1=some .free
def fC(S:m9 scope X.env.scope)(I:Inv X pins σ H s):∃ cls,closureFor scope X.env=pure cls/\fk scope X.env.scope cls X.env.cells:=by
 obtain⟨cls,h1,h2,h3⟩:=u5 (env:=X.env) (scope:=scope) fun x hx=>I.ok.has x (S.vis _ hx rfl);exact⟨cls,h1,S.kind,S.own,S.loc,h2,h3,fun x hx=>S.vis _ (PySem.mem_of_lookup hx) rfl⟩
def qe(sm:aq H H')(hl:H l=none)(h:∃ xs,H' l=some (.lst xs)/\aa nP X.K H' total xs)(hav:∀ M,RL.avE M e=false):Res X.K σD σ H e (.lst total) (.ref l) H' where
 same:=sm
 rep:=by
  obtain⟨xs,h1,h2⟩:=h;rw[Rep];exact⟨l,xs,rfl,fun z=>z,h1,h2⟩
 fresh:=fun _ _ a z=>by cases z;exact hl
 av:=fun M z=>by rw[hav M]at z;cases z
abbrev kB:TT:=fun _ H Q=>Q true H
def pS(h:tE X.K cl (.compA e' tg it) σ H Q):gU (tI X.K cl it) (f9 tg) (gT X.K tg) kB (tE X.K cl e') σ H Q:=by
 obtain⟨σD,d,rv,e,k⟩:=h;obtain⟨ds,e1,e⟩:=bind_some e;obtain⟨ds',e2,e⟩:=bind_some e;obtain⟨total,e3,e4⟩:=map_some e;unfold RL.fits at e2;split at e2
 ·rename_i hz;cases e2;subst e4;refine rG (f:=fun σ1=>(RL.ev cl σ1 e').map some) rv e1 hz e3 (fun σ1 σV H y Q rv1 hy q=>?_) fun l H' sm hl hx=>k _ _ (qe sm hl hx fun _=>rfl);obtain⟨d,h1,h2⟩:=map_some hy;exact q true H (aq.refl H) (eJ ⟨d,h2.symm,h1⟩)
 ·cases e2
def oC(h:tE X.K cl (.comp e' tg it c') σ H Q):gU (tI X.K cl it) (f9 tg) (gT X.K tg) (tT X.K cl c') (tE X.K cl e') σ H Q:=by
 obtain⟨σD,d,rv,e,k⟩:=h;obtain⟨ds,e1,e⟩:=bind_some e;obtain⟨ds',e2,e⟩:=bind_some e;obtain⟨total,e3,e4⟩:=map_some e;unfold RL.fits at e2;split at e2
 ·rename_i hz;cases e2;subst e4;refine rG rv e1 hz e3 (fun σ1 σV H y Q rv1 hy q=>?_) fun l H' sm hl hx=>k _ _ (qe sm hl hx fun _=>rfl);obtain⟨t,h1,h2⟩:=bind_some hy;refine⟨σ1,t,rv1,h1,fun H' sm=>q t H' sm ?_⟩
  cases t with
  |true=>
   obtain⟨d,h3,h4⟩:=map_some (show(RL.ev cl σ1 e').map some=some y from h2);exact eJ ⟨d,h4.symm,h3⟩
  |false=>
   cases(show(some none:Option (Option RL.D))=some y from h2);exact f7 rfl
 ·cases e2
def xw(hc:X.calm=true)(S:m9 scope X.env.scope)(hi:SI X cl tgE iter it)(B:ju X cl scope tgE tg elt e' kB [])(hs:∀ x,foldedSetIterable iter X.env x=pure x):SE X cl (.ListComp elt [⟨tgE,iter,[],0⟩] scope pos) (.compA e' tg it):=by
 intro pins s σ H Q I h;obtain⟨cls,h1,h2⟩:=fC S I;exact sJ (fun _ _ _ _=>hc) h2 h1 hi B.blk hs pins s σ H Q I (pS h)
def wL(hc:∀ {pins:List (Addr × Obj)} {σ:L2.St} {H:Hp} {s:Shared} (cls:List (Str × Addr)) (C:Addr) (fp:List Addr),Inv X pins σ H s->CM (blk X scope cls C fp s H))(S:m9 scope X.env.scope)(hi:PI' CM X tgE iter (tI X.K cl it))(B:ju X cl scope tgE tg elt e' (tT X.K cl c') [c])(hs:∀ x,foldedSetIterable iter X.env x=pure x):SE X cl (.ListComp elt [⟨tgE,iter,[c],0⟩] scope pos) (.comp e' tg it c'):=by
 intro pins s σ H Q I h;obtain⟨cls,h1,h2⟩:=fC S I;exact sJ hc h2 h1 hi B.blk hs pins s σ H Q I (oC h)
abbrev SA(X:Cx)(cl:RL.Cl)(st:Stmt)(i:Nat)(e':RL.E):Prop:=PS X st (fun D σ H=>tE X.K cl e' σ H fun v H1=>D.nx (σ.set i (some v)) H1)
def PS.weak{st:Stmt}(h:PS X st t)(w:∀ D σ H,t' D σ H->t D σ H):PS X st t':=fun pins s σ H D I q=>h pins s σ H D I (w D σ H q)
def PSs.weak{st:List Stmt}(h:PSs X st t)(w:∀ D σ H,t' D σ H->t D σ H):PSs X st t':=fun pins s σ H D I q=>h pins s σ H D I (w D σ H q)
def yd(hc:X.calm=true)(hN:X.N.Nodup)(hiy:X.N[i]?=some y)(hy:X.env.scope.names.lookup y=some .local)(S:m9 scope X.env.scope)(hi:SI X cl tgE iter it)(B:ju X cl scope tgE tg elt e' kB [])(hs:∀ x,foldedSetIterable iter X.env x=pure x)
 (hsw:swapsWith (.ListComp elt [⟨tgE,iter,[],0⟩] scope pos) (some (.Name y py)) spos.line X.env=pure true):SA X cl (.Assign [.Name y py] (.ListComp elt [⟨tgE,iter,[],0⟩] scope pos) spos) i (.compA e' tg it):=by
 intro pins s σ H D I h;obtain⟨cls,h1,h2⟩:=fC S I;exact sF hc hN hiy hy h2 h1 hi B.blk hs hsw pins s σ H D I (pS h)
def xZ(hc:X.calm=true)(hN:X.N.Nodup)(hiy:X.N[i]?=some y)(hy:X.env.scope.names.lookup y=some .local)(S:m9 scope X.env.scope)(hi:SI X cl tgE iter it)(B:ju X cl scope tgE tg elt e' (tT X.K cl c') [c])(hs:∀ x,foldedSetIterable iter X.env x=pure x)
 (hsw:swapsWith (.ListComp elt [⟨tgE,iter,[c],0⟩] scope pos) (some (.Name y py)) spos.line X.env=pure true):SA X cl (.Assign [.Name y py] (.ListComp elt [⟨tgE,iter,[c],0⟩] scope pos) spos) i (.comp e' tg it c'):=by
 intro pins s σ H D I h;obtain⟨cls,h1,h2⟩:=fC S I;exact sF hc hN hiy hy h2 h1 hi B.blk hs hsw pins s σ H D I (oC h)
def yi(hN:X.N.Nodup)(hiy:X.N[i]?=some y)(hx:Loc X.env.scope y)(he:SE X cl e e')(hf:X.fn y=true\/X.env.scope.names.lookup y=some .local)(hs:swapsWith e (some (.Name y py)) spos.line X.env=pure false)(hf2:True):SA X cl (.Assign [.Name y py] e spos) i e':=by
 exact CV hN hiy hx he hs hf
end comp
abbrev aI(M:List Nat)(σ:L2.St):Addr->Prop:=fun a=>∃ i,M.contains i=true/\σ[i]?=some (some (.ref a))
abbrev Own(K:PySem.W.Frag)(H:Hp)(d:RL.D)(v:V):Prop:=iL d=true/\RL.aG d=true/\Rep nP K H d v
structure RVm(K:PySem.W.Frag)(M:List Nat)(σD:RL.St)(σ:L2.St)(H:Hp):Prop where
 len:σD.length=σ.length
 val:∀ (i:Nat) (d:RL.D),σD[i]?=some (some d)->∃ v,σ[i]?=some (some v)/\(if M.contains i=true then Own K H d v else Rep (aI M σ) K H d v)
 non:∀ (i:Nat) (v:V),σ[i]?=some (some v)->∃ d,σD[i]?=some (some d)
 sep:∀ (i j:Nat) (a:Addr),M.contains i=true->M.contains j=true->σ[i]?=some (some (.ref a))->σ[j]?=some (some (.ref a))->i=j
abbrev Fr'(M:List Nat)(σ:L2.St)(H:Hp)(σ':L2.St)(H':Hp):Prop:=(∀ b o,H b=some o->¬ aI M σ b->H' b=some o/\¬ aI M σ' b)/\∀ j,2<=M.count j->σ'[j]?=σ[j]?
def Fr'.trans(a:Fr' M σ H σ1 H1)(b:Fr' M σ1 H1 σ2 H2):Fr' M σ H σ2 H2:=⟨fun c o e n=>b.1 c o (a.1 c o e n).1 (a.1 c o e n).2,fun j hj=>(b.2 j hj).trans (a.2 j hj)⟩
def Fr'.same(s:aq H H1):Fr' M σ H σ H1:=⟨fun c o e n=>⟨s _ _ e,n⟩,fun _ _=>rfl⟩
def j5{M:List Nat}(h:2<=M.count j):M.contains j=true:=by
 have:0<M.count j:=by lia
 simpa using List.count_pos_iff.mp this
section st
variable{K:PySem.W.Frag}
def Own.ref(h:Own K H d v):∃ a o,v=.ref a/\H a=some o/\bZ o:=by
 obtain⟨m,_,r⟩:=h
 cases d with
 | lst ds=>obtain⟨a,xs,e1,_,e2,_⟩:=a7 r;exact⟨a,_,e1,e2,.inl ⟨_,rfl⟩⟩
 | dK ks ds=>rw[Rep]at r;obtain⟨a,xs,e1,_,e2,_⟩:=r;exact⟨a,_,e1,e2,.inr (.inl ⟨_,rfl⟩)⟩
 | dT ks ds=>rw[Rep]at r;obtain⟨a,xs,e1,_,e2,_⟩:=r;exact⟨a,_,e1,e2,.inr (.inr ⟨_,rfl⟩)⟩
 | _=>cases m
def RVm.rv0(h:RVm K M σD σ H):RV0 K σD σ H:=⟨Nat.le_of_eq h.len,fun i d e=>by
 obtain⟨v,h1,h2⟩:=h.val i d e;refine⟨v,h1,?_⟩;by_cases hm:M.contains i=true
 ·rw[if_pos hm]at h2;exact h2.2.2
 ·rw[if_neg hm]at h2
  exact h2.none⟩
def RVm.yy(h:RVm K M σD σ H):∀ a,aI M σ a->∃ o,H a=some o/\bZ o:=fun a ⟨i,hi,e⟩=>by
 obtain⟨d,hd⟩:=h.non i _ e;obtain⟨v,h1,h2⟩:=h.val i d hd;rw[if_pos hi]at h2;obtain⟨b,o,e1,e2,e3⟩:=h2.ref;rw[e]at h1;cases h1;cases e1;exact⟨o,e2,e3⟩
def RVm.md(h:RVm K M σD σ H):∀ a,aI M σ a->H a≠none:=fun a p=>by
 obtain⟨o,e,_⟩:=h.yy a p;rw[e]
 exact fun z=>nomatch z
def Own.same(h:Own K H d v)(s:aq H H1):Own K H1 d v:=⟨h.1,h.2.1,h.2.2.same s⟩
def RVm.same(h:RVm K M σD σ H)(s:aq H H1):RVm K M σD σ H1:=⟨h.len,fun i d e=>by
 obtain⟨v,h1,h2⟩:=h.val i d e;refine⟨v,h1,?_⟩;by_cases hm:M.contains i=true
 ·rw[if_pos hm]at h2 ⊢;exact h2.same s
 ·rw[if_neg hm]at h2 ⊢
  exact h2.same s,h.non,h.sep⟩
def aI.set(hi:M.contains i=false):aI M (σ.set i (some v))=aI M σ:=by
 funext a;apply propext;constructor
 ·rintro⟨j,hj,e⟩
  have hne:i≠j:=fun z=>by subst z;rw[hi]at hj;cases hj
  rw[List.getElem?_set_ne hne]at e;exact⟨j,hj,e⟩
 ·rintro⟨j,hj,e⟩
  have hne:i≠j:=fun z=>by subst z;rw[hi]at hj;cases hj
  exact⟨j,hj,by rw[List.getElem?_set_ne hne];exact e⟩
def RVm.bind(h:RVm K M σD σ H)(hi:M.contains i=false)(r:Rep (aI M σ) K H d v):RVm K M (σD.set i (some d)) (σ.set i (some v)) H where
 len:=by simpa using h.len
 val:=fun j dj e=>by
  rw[aI.set hi];by_cases hj:j=i
  ·subst hj
   have hlt:j<σD.length:=by
    have:=(List.getElem?_eq_some_iff.mp e).1;simpa using this
   rw[List.getElem?_set_self hlt]at e;cases e;refine⟨v,by rw[List.getElem?_set_self (by rw[<-h.len];exact hlt)],?_⟩;rw[if_neg (by rw[hi];decide)];exact r
  ·rw[List.getElem?_set_ne (Ne.symm hj)]at e ⊢;exact h.val j dj e
 non:=fun j w e=>by
  by_cases hj:j=i
  ·subst hj
   have hlt:j<σ.length:=by
    have:=(List.getElem?_eq_some_iff.mp e).1;simpa using this
   exact⟨d,by rw[List.getElem?_set_self (by rw[h.len];exact hlt)]⟩
  ·rw[List.getElem?_set_ne (Ne.symm hj)]at e ⊢;exact h.non j w e
 sep:=fun j k a hj hk e1 e2=>by
  have n1:i≠j:=fun z=>by subst z;rw[hi]at hj;cases hj
  have n2:i≠k:=fun z=>by subst z;rw[hi]at hk;cases hk
  rw[List.getElem?_set_ne n1]at e1;rw[List.getElem?_set_ne n2]at e2;exact h.sep j k a hj hk e1 e2
def Fr'.bind{i:Nat}(hi:M.contains i=false)(s:aq H H1):Fr' M σ H (σ.set i (some v)) H1:=⟨fun b o e n=>⟨s _ _ e,by rw[aI.set hi];exact n⟩,fun j hj=>List.getElem?_set_ne (fun z=>by subst z;rw[j5 hj]at hi;cases hi)⟩
end st
mutual
theorem Rep.dt{P:Addr->Prop}{K:PySem.W.Frag}{H:Hp}{a:Addr}(ha:H a=none):∀ {d:RL.D} {v:V},Rep P K H d v->Rep (fun p=>P p\/p=a) K H d v
 | .non,v,h=>by simpa[Rep]using h
 | .bl _,v,h=>by simpa[Rep]using h
 | .int _,v,h=>by simpa[Rep]using h
 | .str _,v,h=>by simpa[Rep]using h
 | .tup ds,v,h=>by
  rw[Rep]at h ⊢;obtain⟨b,xs,e1,e2,e3⟩:=h;exact⟨b,xs,e1,e2,aa.dt ha e3⟩
 | .lst ds,v,h=>by
  rw[Rep]at h ⊢;obtain⟨b,xs,e1,e0,e2,e3⟩:=h;exact⟨b,xs,e1,fun z=>z.elim e0 (fun q=>aB e2 ha q),e2,aa.dt ha e3⟩
 | .dK ks ds,v,h=>by
  rw[Rep]at h ⊢;obtain⟨b,xs,e1,e0,e2,el,e3⟩:=h;exact⟨b,xs,e1,fun z=>z.elim e0 (fun q=>aB e2 ha q),e2,el,aa.dt ha e3⟩
 | .dT ks ds,v,h=>by
  rw[Rep]at h ⊢;obtain⟨b,xs,e1,e0,e2,el,e3⟩:=h;exact⟨b,xs,e1,fun z=>z.elim e0 (fun q=>aB e2 ha q),e2,el,aa.dt ha e3⟩
 | .scr ds,v,h=>by
  rw[Rep]at h ⊢;obtain⟨b,xs,e1,e2,e3⟩:=h;exact⟨b,xs,e1,e2,aa.dt ha e3⟩
 | .exc c,v,h=>by rw[Rep]at h ⊢;exact h
 | .fT ks,v,h=>by rw[Rep]at h ⊢;exact h
theorem aa.dt{P:Addr->Prop}{K:PySem.W.Frag}{H:Hp}{a:Addr}(ha:H a=none):∀ {ds:List RL.D} {xs:List V},aa P K H ds xs->aa (fun p=>P p\/p=a) K H ds xs
 | [],xs,h=>by rw[aa]at h ⊢;exact h
 | d::r,xs,h=>by
  rw[aa]at h ⊢;obtain⟨x,t,e1,e2,e3⟩:=h;exact⟨x,t,e1,Rep.dt ha e2,aa.dt ha e3⟩
end
section st
variable{K:PySem.W.Frag}
def RVm.own(h:RVm K M σD σ H)(s:aq H H1)(hi:M.contains i=true)(hi2:M.count i<2)(ha:H a=none)(r:Own K H1 d (.ref a)):RVm K M (σD.set i (some d)) (σ.set i (some (.ref a))) H1/\Fr' M σ H (σ.set i (some (.ref a))) H1:=by
 have sub:∀ b,aI M (σ.set i (some (.ref a))) b->aI M σ b\/b=a:=fun b ⟨j,hj,e⟩=>by
  by_cases hji:j=i
  ·subst hji
   have hlt:j<σ.length:=by
    have:=(List.getElem?_eq_some_iff.mp e).1;simpa using this
   rw[List.getElem?_set_self hlt]at e;cases e;exact .inr rfl
  ·rw[List.getElem?_set_ne (Ne.symm hji)]at e;exact .inl ⟨j,hj,e⟩
 have old:∀ b,aI M σ b->b≠a:=fun b p z=>h.md b p (z▸ha);refine⟨⟨by simpa using h.len,fun j dj e=>?_,fun j w e=>?_,fun j k b hj hk e1 e2=>?_⟩,⟨fun b o e n=>⟨s _ _ e,fun z=>(sub b z).elim n fun q=>aB e ha q⟩,fun j hj=>List.getElem?_set_ne (fun z=>by subst z;lia)⟩⟩
 ·by_cases hj:j=i
  ·subst hj
   have hlt:j<σD.length:=by
    have:=(List.getElem?_eq_some_iff.mp e).1;simpa using this
   rw[List.getElem?_set_self hlt]at e;cases e;refine⟨.ref a,by rw[List.getElem?_set_self (by rw[<-h.len];exact hlt)],?_⟩;rw[if_pos hi];exact r
  ·rw[List.getElem?_set_ne (Ne.symm hj)]at e ⊢;obtain⟨v,h1,h2⟩:=h.val j dj e;refine⟨v,h1,?_⟩;by_cases hm:M.contains j=true
   ·rw[if_pos hm]at h2 ⊢;exact h2.same s
   ·rw[if_neg hm]at h2 ⊢;exact((h2.dt ha).weak sub).same s
 ·by_cases hj:j=i
  ·subst hj
   have hlt:j<σ.length:=by
    have:=(List.getElem?_eq_some_iff.mp e).1;simpa using this
   exact⟨d,by rw[List.getElem?_set_self (by rw[h.len];exact hlt)]⟩
  ·rw[List.getElem?_set_ne (Ne.symm hj)]at e ⊢;exact h.non j w e
 ·by_cases h1:j=i
  ·by_cases h2:k=i
   ·rw[h1,h2]
   ·subst h1
    have hlt:j<σ.length:=by
     have:=(List.getElem?_eq_some_iff.mp e1).1;simpa using this
    rw[List.getElem?_set_self hlt]at e1;rw[List.getElem?_set_ne (Ne.symm h2)]at e2;cases e1;exact absurd rfl (old _ ⟨k,hk,e2⟩)
  ·rw[List.getElem?_set_ne (Ne.symm h1)]at e1;by_cases h2:k=i
   ·subst h2
    have hlt:k<σ.length:=by
     have:=(List.getElem?_eq_some_iff.mp e2).1;simpa using this
    rw[List.getElem?_set_self hlt]at e2;cases e2;exact absurd rfl (old _ ⟨j,hj,e1⟩)
   ·rw[List.getElem?_set_ne (Ne.symm h2)]at e2;exact h.sep j k b hj hk e1 e2
def RVm.iU(h:RVm K M σD σ H)(hi:M.contains i=true)(e:σ[i]?=some (some (.ref a)))(ha:H a=some o)(m:bZ o)(r:Own K (upd H a o') d' (.ref a)):RVm K M (σD.set i (some d')) σ (upd H a o')/\Fr' M σ H σ (upd H a o'):=by
 have pa:aI M σ a:=⟨i,hi,e⟩
 refine⟨⟨by simpa using h.len,fun j dj e'=>?_,fun j w e'=>?_,h.sep⟩,⟨fun b u eb n=>⟨?_,n⟩,fun _ _=>rfl⟩⟩
 ·by_cases hj:j=i
  ·subst hj
   have hlt:j<σD.length:=by
    have:=(List.getElem?_eq_some_iff.mp e').1;simpa using this
   rw[List.getElem?_set_self hlt]at e';cases e';refine⟨.ref a,e,?_⟩;rw[if_pos hi];exact r
  ·rw[List.getElem?_set_ne (Ne.symm hj)]at e';obtain⟨v,h1,h2⟩:=h.val j dj e';refine⟨v,h1,?_⟩;by_cases hm:M.contains j=true
   ·rw[if_pos hm]at h2 ⊢;obtain⟨b,ob,rfl,hb,_⟩:=h2.ref
    have hne:b≠a:=fun z=>by subst z;exact hj (h.sep j i b hm hi h1 e)
    obtain⟨q1,q2,q3⟩:=h2;refine⟨q1,q2,?_⟩;have im:∀ {ds:List RL.D} {xs:List V},RL.ao ds=true->aa nP K H ds xs->aa nP K (L2.upd H a o') ds xs:=fun hi r=>(aa.upd (P:=fun p=>p=a) ha m rfl (r.imm hi)).imm hi
    cases dj with
    | lst ds=>obtain⟨b',xs,e1,e0,e2,e3⟩:=a7 q3;cases e1;rw[Rep];exact⟨b,xs,rfl,fun z=>z,by rw[L2.aD hne];exact e2,im q2 e3⟩
    | dK ks ds=>rw[Rep]at q3 ⊢;obtain⟨b',xs,e1,e0,e2,el,e3⟩:=q3;cases e1;exact⟨b,xs,rfl,fun z=>z,by rw[L2.aD hne];exact e2,el,im q2 e3⟩
    | dT ks ds=>rw[Rep]at q3 ⊢;obtain⟨b',xs,e1,e0,e2,el,e3⟩:=q3;cases e1;exact⟨b,xs,rfl,fun z=>z,by rw[L2.aD hne];exact e2,el,im q2 e3⟩
    | _=>cases q1
   ·rw[if_neg hm]at h2 ⊢;exact Rep.upd ha m pa h2
 ·obtain⟨dj,hd⟩:=h.non j w e';by_cases hj:j=i
  ·subst hj;have hlt:=(List.getElem?_eq_some_iff.mp hd).1;exact⟨d',by rw[List.getElem?_set_self hlt]⟩
  ·exact⟨dj,by rw[List.getElem?_set_ne (Ne.symm hj)];exact hd⟩
 ·have hb:b≠a:=fun z=>n (z▸pa);rw[L2.aD hb];exact eb
end st
abbrev pN(K:PySem.W.Frag)(M:List Nat)(D:Ends)(σ:L2.St)(H:Hp):RL.Out->RL.St->Prop
 | .nx,σD'=>∀ σ' H',RVm K M σD' σ' H'->Fr' M σ H σ' H'->D.nx σ' H'
 | .rt d,σD'=>∀ σ1 H1 v H',RVm K M σD' σ1 H1->Fr' M σ H σ1 H1->aq H1 H'->(∀ P:Addr->Prop,(∀ p,P p->H1 p≠none/\¬ aI M σ1 p)->Rep P K H' d v)->D.rt v H'
def pN.from{K:PySem.W.Frag}(h:pN K M D σ H r σD')(f:Fr' M σ H σ1 H1):pN K M D σ1 H1 r σD':=by
 cases r with
 | nx=>exact fun σ2 H2 rv2 fr2=>h σ2 H2 rv2 (f.trans fr2)
 | rt d=>exact fun σ1 H1 v H2 rv2 fr2 sm rp=>h σ1 H1 v H2 rv2 (f.trans fr2) sm rp
abbrev tS(K:PySem.W.Frag)(M:List Nat)(f:RL.St->Option (RL.Out × RL.St)):TS:=fun D σ H=>∃ σD r σD',RVm K M σD σ H/\f σD=some (r,σD')/\pN K M D σ H r σD'
abbrev SS(X:Cx)(cl:RL.Cl)(M:List Nat)(st:Stmt)(s:RL.S):Prop:=PS X st (tS X.K M (RL.evS cl M s))
abbrev SSs(X:Cx)(cl:RL.Cl)(M:List Nat)(st:List Stmt)(s:RL.Ss):Prop:=PSs X st (tS X.K M (RL.ag cl M s))
section rules
variable{st:Stmt}{i j:Nat}
def zD:SSs X cl M [] .nil:=by
 refine PSs.weak zM fun D σ H h=>?_;obtain⟨σD,r,σD',rv,e,k⟩:=h;rw[RL.ag]at e;cases e;exact k σ H rv (Fr'.same (aq.refl H))
def xH(h1:SS X cl M st s)(h2:SSs X cl M sts r):SSs X cl M (st::sts) (.cons s r):=by
 refine PSs.weak (il h1 h2) fun D σ H h=>?_;obtain⟨σD,o,σD',rv,e,k⟩:=h;rw[RL.ag]at e;obtain⟨p,e1,e2⟩:=bind_some e;obtain⟨o1,σ1⟩:=p;refine⟨σD,o1,σ1,rv,e1,?_⟩
 cases o1 with
 |rt d=>
  cases e2;exact k
 |nx=>
  exact fun σ' H' rv' fr'=>⟨σ1,o,σD',rv',e2,k.from fr'⟩
def CK(h:SA X cl st i e')(hi:M.contains i=false):SS X cl M st (.asg i e'):=by
 refine PS.weak h fun D σ H h=>?_;obtain⟨σD,o,σD',rv,e,k⟩:=h;obtain⟨d,e1,e2⟩:=bind_some e;split at e2
 ·rename_i ok;cases e2;refine⟨σD,d,rv.rv0,e1,fun v H1 r1=>k _ _ ?_ (Fr'.bind hi r1.same)⟩;refine(rv.same r1.same).bind hi ?_;unfold RL.b0 at ok;rw[Bool.or_eq_true,Bool.or_eq_true,Bool.and_eq_true]at ok;rcases ok with(q | ⟨q1,q2⟩) | q
  ·exact r1.rep.imm q
  ·have rp:=r1.rep;have fr:iL d=true->∀ a,v=.ref a->¬ aI M σ a:=fun m a z p=>rv.md a p (r1.fresh q2 m a z)
   cases d with
   | lst ds=>obtain⟨a,xs,e1,e0,e2,e3⟩:=a7 rp;rw[Rep];exact⟨a,xs,e1,fr rfl a e1,e2,e3.imm q1⟩
   | dK ks ds=>rw[Rep]at rp ⊢;obtain⟨a,xs,e1,e0,e2,el,e3⟩:=rp;exact⟨a,xs,e1,fr rfl a e1,e2,el,e3.imm q1⟩
   | dT ks ds=>rw[Rep]at rp ⊢;obtain⟨a,xs,e1,e0,e2,el,e3⟩:=rp;exact⟨a,xs,e1,fr rfl a e1,e2,el,e3.imm q1⟩
   | _=>cases q1
  ·refine r1.av M q _ rv.md fun j dj vj hj h1 h2=>?_;obtain⟨v',h3,h4⟩:=rv.val j dj h1;rw[h2]at h3;cases h3;rw[if_neg (by rw[hj];decide)]at h4;exact h4
 ·cases e2
def Bs(h:SA X cl st i e')(hi:M.contains i=true)(hi2:M.count i<2):SS X cl M st (.own i e'):=by
 refine PS.weak h fun D σ H h=>?_;obtain⟨σD,o,σD',rv,e,k⟩:=h;obtain⟨d,e1,e2⟩:=bind_some e;split at e2
 ·rename_i ok;cases e2;rw[Bool.and_eq_true]at ok;refine⟨σD,d,rv.rv0,e1,fun v H1 r1=>?_⟩
  have m:iL d=true:=by
   cases d with
   | lst _=>rfl
   | dK _ _=>rfl
   | dT _ _=>rfl
   | _=>cases ok.1
  have ow:Own X.K H1 d v:=⟨m,ok.1,r1.rep⟩
  obtain⟨a,ob,rfl,_,_⟩:=ow.ref;obtain⟨h1,h2⟩:=rv.own r1.same hi hi2 (r1.fresh ok.2 m a rfl) ow;exact k _ _ h1 h2
 ·cases e2
def EC{c:Expr}(hc:ST X cl c c')(ha:SSs X cl M a a')(hb:SSs X cl M b b'):SS X cl M (.If c a b pos) (.ife c' a' b'):=by
 refine PS.weak (yS hc ha hb) fun D σ H h=>?_;obtain⟨σD,o,σD',rv,e,k⟩:=h;obtain⟨t,e1,e2⟩:=bind_some e;refine⟨σD,t,rv.rv0,e1,fun H1 s1=>?_⟩;have k1:=k.from (Fr'.same (σ:=σ) s1)
 cases t with
 | true=>exact eJ ⟨σD,o,σD',rv.same s1,e2,k1⟩
 | false=>exact f7 ⟨σD,o,σD',rv.same s1,e2,k1⟩
def Cv(he:SE X cl e e')(hv:∀ i,e'=.var i->M.contains i=false):SS X cl M (.Return (some e) pos) (.ret e'):=by
 refine PS.weak (wG he) fun D σ H h=>?_;obtain⟨σD,o,σD',rv,ev,k⟩:=h;obtain⟨d,e1,e2⟩:=bind_some ev;split at e2
 ·rename_i ok;cases e2;refine⟨σD,d,rv.rv0,e1,fun v H1 r1=>k σ H v H1 rv (Fr'.same (aq.refl H)) r1.same fun P hP=>?_⟩;unfold RL.bF at ok;rw[Bool.or_eq_true,Bool.and_eq_true,Bool.or_eq_true]at ok
  rcases ok with q | ⟨q1,q2⟩
  ·exact r1.rep.imm q
  ·have rp:=r1.rep
   have fr:iL d=true->∀ a,v=.ref a->¬ P a:=fun m a z p=>by
    rcases q2 with q | q
    ·exact(hP a p).1 (r1.fresh q m a z)
    ·cases e' with
     |var i=>
      have hi:M.contains i=true:=q;rw[hv i rfl]at hi;cases hi
     | _=>cases q
   cases d with
   | lst ds=>obtain⟨a,xs,e1,e0,e2,e3⟩:=a7 rp;rw[Rep];exact⟨a,xs,e1,fr rfl a e1,e2,e3.imm q1⟩
   | dK ks ds=>rw[Rep]at rp ⊢;obtain⟨a,xs,e1,e0,e2,el,e3⟩:=rp;exact⟨a,xs,e1,fr rfl a e1,e2,el,e3.imm q1⟩
   | dT ks ds=>rw[Rep]at rp ⊢;obtain⟨a,xs,e1,e0,e2,el,e3⟩:=rp;exact⟨a,xs,e1,fr rfl a e1,e2,el,e3.imm q1⟩
   | _=>cases q1
 ·cases e2
def Ak(hN:X.N[i]?=some x)(hv:Vis X.env.scope x)(hd:(x == ("__debug__" : Str))=false)(hcd:(x == ("__classdict__" : Str))=false)(hi:M.contains i=true):SS X cl M (.Return (some (.Name x p)) pos) (.ret (.var i)):=by
 refine PS.weak (wG (gN hN hv hd hcd)) fun D σ H h=>?_;obtain⟨σD,o,σD',rv,e,k⟩:=h;obtain⟨d,e1,e2⟩:=bind_some e;split at e2
 ·cases e2
  have e3:σD[i]?=some (some d):=by
   obtain⟨o,h1,h2⟩:=bind_some e1
   cases o with
   | none=>cases h2
   | some z=>cases h2;exact h1
  obtain⟨v,h1,h2⟩:=rv.val i d e3;rw[if_pos hi]at h2;refine⟨v,h1,k σ H v H rv (Fr'.same (aq.refl H)) (aq.refl H) fun P hP=>?_⟩;obtain⟨a,o,rfl,_,_⟩:=h2.ref;have np:¬ P a:=fun p=>(hP a p).2 ⟨i,hi,h1⟩;obtain⟨q1,q2,q3⟩:=h2
  cases d with
  | lst ds=>obtain⟨b,xs,e1,e0,e2,e3⟩:=a7 q3;cases e1;rw[Rep];exact⟨a,xs,rfl,np,e2,e3.imm q2⟩
  | dK ks ds=>rw[Rep]at q3 ⊢;obtain⟨b,xs,e1,e0,e2,el,e3⟩:=q3;cases e1;exact⟨a,xs,rfl,np,e2,el,e3.imm q2⟩
  | dT ks ds=>rw[Rep]at q3 ⊢;obtain⟨b,xs,e1,e0,e2,el,e3⟩:=q3;cases e1;exact⟨a,xs,rfl,np,e2,el,e3.imm q2⟩
  | _=>cases q1
 ·cases e2
def slot_get{σD:RL.St}(h:(σD[i]?).bind id=some d):σD[i]?=some (some d):=by
 obtain⟨o,h1,h2⟩:=bind_some h
 cases o with
 | none=>cases h2
 | some z=>cases h2;exact h1
def Cr(h:PS X st (oq (tBM X.K "list" rX (iP i) (tEs X.K cl (.cons e' .nil)))))(hi:M.contains i=true):SS X cl M st (.app i e'):=by
 refine PS.weak h fun D σ H h=>?_;obtain⟨σD,o,σD',rv,e,k⟩:=h;obtain⟨d,e1,e2⟩:=bind_some e;obtain⟨l,e3,e4⟩:=bind_some e2
 cases l with
 |lst ds=>
  dsimp only at e4;split at e4
  ·rename_i ok;cases e4;rw[Bool.and_eq_true,decide_eq_true_eq]at ok;obtain⟨v,h1,h2⟩:=rv.val i _ (slot_get e3);rw[if_pos hi]at h2;obtain⟨q1,q2,q3⟩:=h2;obtain⟨a,xs,rfl,_,f2,f3⟩:=a7 q3;refine⟨.ref a,h1,.inl ⟨rfl,xs,SqL.of f2⟩,σD,[d],rv.rv0,by rw[RL.evs,e1];rfl,fun vs H1 s1 r1=>?_⟩;rw[aa]at r1;obtain⟨y,t,rfl,r2,r3⟩:=r1;rw[aa]at r3;subst r3
   have hl:xs.length<sizeLine:=by rw[<-f3.length];exact Nat.lt_of_lt_of_le ok.2 bK
   refine⟨a,xs,y,rfl,rfl,s1 _ _ f2,hl,?_⟩
   have im:RL.ao (ds++[d])=true:=by
    have:∀ l:List RL.D,RL.ao l=true->RL.ao (l++[d])=true:=fun l=>by
     induction l with
     | nil=>intro _;simp[RL.ao,ok.1]
     | cons z r ih=>intro h;rw[RL.ao,Bool.and_eq_true]at h;rw[List.cons_append,RL.ao,h.1,ih h.2];rfl
    exact this ds q2
   have rs:aa nP X.K (upd H1 a (.lst (xs++[y]))) (ds++[d]) (xs++[y]):=(aa.upd (P:=fun p=>p=a) (s1 _ _ f2) (.inl ⟨_,rfl⟩) rfl ((aa.append (f3.same s1) (aa.cons r2 aa.nil)).imm im)).imm im;obtain⟨g1,g2⟩:=(rv.same s1).iU (d':=.lst (ds++[d])) (o':=.lst (xs++[y])) hi h1 (s1 _ _ f2) (.inl ⟨_,rfl⟩) ⟨rfl,im,by rw[Rep];exact⟨a,_,rfl,fun z=>z,aW,rs⟩⟩;exact k _ _ g1 ((Fr'.same s1).trans g2)
  ·cases e4
 | _=>cases e4
end rules
def RVm.aN{K:PySem.W.Frag}{M:List Nat}{H:Hp}:∀ {tg:List Nat} {ds:List RL.D} {vs:List V} {σD:RL.St} {σ:L2.St},RVm K M σD σ H->(∀ i∈tg,M.contains i=false)->tg.length=ds.length->RL.ao ds=true->aa nP K H ds vs ->
  RVm K M (dF tg ds σD) (cF tg vs σ) H/\aI M (cF tg vs σ)=aI M σ
 | [],_,_,_,_,h,_,_,_,_=>⟨h,rfl⟩
 | i::is,[],_,_,_,_,_,hl,_,_=>by simp at hl
 | i::is,d::ds,vs,σD,σ,h,hM,hl,him,r=>by
  rw[aa]at r;obtain⟨v,t,rfl,r1,r2⟩:=r;rw[RL.ao,Bool.and_eq_true]at him;rw[dF,cF];have hi:=hM i List.mem_cons_self;obtain⟨g1,g2⟩:=RVm.aN (h.bind hi (r1.imm him.1)) (fun j hj=>hM j (List.mem_cons_of_mem _ hj)) (by simpa using hl) him.2 r2;exact⟨g1,g2.trans (aI.set hi)⟩
def oH{M tg:List Nat}{vs:List V}{σ:L2.St}{j:Nat}(hM:∀ i∈tg,M.contains i=false)(hj:2<=M.count j):(cF tg vs σ)[j]?=σ[j]?:=by
 refine m8 tg vs σ j ?_
 cases hc:tg.contains j with
 | false=>rfl
 |true=>
  have:=hM j (by simpa using hc);rw[j5 hj]at this;cases this
section rules
variable{X:Cx}{cl:RL.Cl}{M:List Nat}{st:Stmt}{tgE iter:Expr}{body:List Stmt}{b:RL.Ss}{it:RL.It}{tg:List Nat}{e' k' a' b':RL.E}{i j:Nat}{pos:Pos}
def tU{f:RL.St->Option (RL.Out × RL.St)}{d:RL.D}{ds:List RL.D}{σ:RL.St}{p:RL.Out × RL.St}(h:RL.aP f tg (d::ds) σ=some p):d.imm=true/\∃ σ1 o σ2,RL.aV tg d σ=some σ1/\f σ1=some (o,σ2) /\
  (match o with | .nx=>RL.aP f tg ds σ2=some p | .rt d=>p=(.rt d,σ2)):=by
 rw[RL.aP]at h;split at h
 ·rename_i him;obtain⟨σ1,h1,h⟩:=bind_some h;obtain⟨⟨o,σ2⟩,h2,h⟩:=bind_some h;refine⟨him,σ1,o,σ2,h1,h2,?_⟩
  cases o with
  | nx=>exact h
  | rt d=>exact(Option.some.inj h).symm
 ·cases h
def Ci(hx:X.xe=fun _ _=>False)(hc:X.calm=true)(hi:SI X cl tgE iter it)(hg:PG X tgE (gT X.K tg))(hb:SSs X cl M body b)(hs:∀ x,foldedSetIterable iter X.env x=pure x)(hav:RL.u6 M it=true)(hM:∀ i∈tg,M.contains i=false) :
  SS X cl M (.For tgE iter body [] pos) (.forr tg it b):=by
 refine PS.weak (B3 (by rw[hx];exact PassesOwn.never) hc hi hg hb hs) fun D σ H h=>?_;obtain⟨σD,r,σD',rv,e,k⟩:=h;obtain⟨ds,e1,e2⟩:=bind_some e;refine⟨σD,ds,rv.rv0,e1,fun J H1 s1 src=>?_⟩
 have ok:gD X.K J ds (aI M σ) H1:=src.2 M (aI M σ) hav rv.yy fun j dj vj hj h1 h2=>by
  obtain⟨v',h3,h4⟩:=rv.val j dj h1;rw[h2]at h3;cases h3;rw[if_neg (by rw[hj];decide)]at h4;exact h4
 have k1:=k.from (Fr'.same (σ:=σ) s1);refine⟨fun i m σ2 H2=>∃ σD2,m=ds.length-i/\i<=ds.length/\RVm X.K M σD2 σ2 H2/\Fr' M σ H1 σ2 H2/\RL.aP (RL.ag cl M b) tg (ds.drop i) σD2=some (r,σD'),⟨_,σD,rfl,Nat.zero_le _,rv.same s1,Fr'.same (aq.refl _),e2⟩,?_⟩;rintro i m σ2 H2 ⟨σD2,rfl,hi2,rv2,fr2,hl⟩;have off:Off (aI M σ) H1 H2:=fun b o n e=>(fr2.1 b o e n).1;by_cases hlt:i<ds.length
 ·refine .inr ⟨ok.go H2 i off hlt,fun σ' H'=>∃ m',m'<ds.length-i/\∃ σD2,m'=ds.length-(i+1)/\i+1<=ds.length/\RVm X.K M σD2 σ' H'/\Fr' M σ H1 σ' H'/\RL.aP (RL.ag cl M b) tg (ds.drop (i+1)) σD2=some (r,σD'),fun σ' H' z=>z,fun x H3 y=>?_⟩;rw[List.drop_eq_getElem_cons hlt]at hl;obtain⟨him,σ3,o,σ4,h1,h2,h3⟩:=tU hl;obtain⟨s3,rp⟩:=ok.yld H2 i ds[i] x H3 off (by simp[hlt]) y;obtain⟨dv,vs,q1,q2,q3,q4,q5⟩:=zq h1 (rp (.inl him));refine q5 _ _ ?_;obtain⟨rv3,as3⟩:=(rv2.same s3).aN hM q2 (q4 him) q3
  have fr3:Fr' M σ H1 (cF tg vs σ2) H3:=⟨fun b o e n=>⟨s3 _ _ (fr2.1 b o e n).1,by rw[as3];exact(fr2.1 b o e n).2⟩,fun j hj=>(oH hM hj).trans (fr2.2 j hj)⟩
  refine⟨σ3,o,σ4,by rw[q1];exact rv3,h2,?_⟩
  cases o with
  | nx=>exact fun σ' H' rv' fr'=>⟨_,by lia,σ4,rfl,hlt,rv',fr3.trans fr',h3⟩
  |rt d=>
   cases h3;exact fun σ' H' v H4 rv' fr' sm rp=>k1 σ' H' v H4 rv' (fr3.trans fr') sm rp
 ·have e:i=ds.length:=by lia
  subst e;rw[List.drop_length,RL.aP]at hl;cases hl;exact .inl ⟨ok.stop H2 off,k1 σ2 H2 rv2 fr2⟩
def yr{n:Nat}{k:Int}{j:Nat}(h:RL.jY n k=some j):ixN n k=some j:=h
def vS:∀ {ds:List RL.D} {d:RL.D} (j:Nat),RL.ao ds=true->d.imm=true->RL.ao (ds.set j d)=true
 | [],d,j,_,_=>by simp[RL.ao]
 | x::r,d,0,h,hd=>by rw[RL.ao,Bool.and_eq_true]at h;rw[List.set_cons_zero,RL.ao,hd,h.2];rfl
 | x::r,d,j+1,h,hd=>by rw[RL.ao,Bool.and_eq_true]at h;rw[List.set_cons_succ,RL.ao,h.1,vS j h.2 hd];rfl
def rZ{H:Hp}{a:Addr}{ds:List RL.D}{xs ys:List V}{ds':List RL.D}(f2:H a=some (.lst xs))(im:RL.ao ds'=true)(rs:aa nP X.K H ds' ys):Own X.K (upd H a (.lst ys)) (.lst ds') (.ref a) :=
 ⟨rfl,im,by rw[Rep];exact⟨a,_,rfl,fun z=>z,aW,(aa.upd (P:=fun p=>p=a) f2 (.inl ⟨_,rfl⟩) rfl (rs.imm im)).imm im⟩⟩
def Df(h:PS X st (pF (tE X.K cl e') (xn (iP i) (tE X.K cl k') tM)))(hi:M.contains i=true)(hl:True):PS X st (tS X.K M fun σD=>(RL.ev cl σD e').bind fun d=>(RL.ev cl σD k').bind fun kk=>((σD[i]?).bind id).bind fun l=>match l with
  | .lst _=>if d.imm then(RL.mi l kk d).map fun l'=>(.nx,σD.set i (some l'))else none
  | _=>none):=by
 refine PS.weak h fun D σ H h=>?_;obtain⟨σD,o,σD',rv,e,k⟩:=h;obtain⟨d,e1,e⟩:=bind_some e;obtain⟨kk,e2,e⟩:=bind_some e;obtain⟨l,e3,e⟩:=bind_some e
 cases l with
 |lst ds=>
  dsimp only at e;split at e
  ·rename_i him;obtain⟨l',e4,e5⟩:=map_some e;cases e5;obtain⟨v,h1,h2⟩:=rv.val i _ (slot_get e3);rw[if_pos hi]at h2;obtain⟨q1,q2,q3⟩:=h2;obtain⟨a,xs,rfl,_,f2,f3⟩:=a7 q3
   cases kk with
   |int kk=>
    obtain⟨jx,e6,e7⟩:=map_some (show(RL.jY ds.length kk).map (fun j=>RL.D.lst (ds.set j d))=some l' from e4);subst e7;refine⟨σD,d,rv.rv0,e1,fun y H1 r1=>⟨.ref a,h1,σD,.int kk,rv.rv0.same r1.same,e2,fun z H2 r2=>?_⟩⟩;have sm:=r1.same.trans r2.same;refine⟨a,xs,kk,jx,rfl,af r2.rep,sm _ _ f2,?_,?_⟩
    ·rw[<-f3.length];exact yr e6
    ·have im:=vS jx q2 him;obtain⟨g1,g2⟩:=(rv.same sm).iU (d':=.lst (ds.set jx d)) (o':=.lst (xs.set jx y)) hi h1 (sm _ _ f2) (.inl ⟨_,rfl⟩) (rZ (ds:=ds) (sm _ _ f2) im (aa.set jx (f3.same sm) (r1.rep.same r2.same)));exact k _ _ g1 ((Fr'.same sm).trans g2)
   | _=>cases e4
  ·cases e
 | _=>cases e
def sx:∀ {ds:List RL.D},RL.ao ds=true->RL.ao ds.dropLast=true
 | [],_=>rfl
 | [x],_=>rfl
 | x::y::r,h=>by rw[RL.ao,Bool.and_eq_true]at h;rw[List.dropLast_cons_cons,RL.ao,h.1,sx h.2];rfl
def aa.dropLast{P:Addr->Prop}{K:PySem.W.Frag}{H:Hp}{ds:List RL.D}{xs:List V}(h:aa P K H ds xs):aa P K H ds.dropLast xs.dropLast:=by
 rw[List.dropLast_eq_take,List.dropLast_eq_take,<-h.length];exact h.take _
def D8(h:PS X st (oq (tE X.K cl e'))):SS X cl M st (.exc e'):=by
 refine PS.weak h fun D σ H h=>?_;obtain⟨σD,o,σD',rv,e,k⟩:=h;obtain⟨d,e1,e2⟩:=map_some e;cases e2;exact⟨σD,d,rv.rv0,e1,fun v H1 r1=>k _ _ (rv.same r1.same) (Fr'.same r1.same)⟩
end rules
section rules
variable{st:Stmt}
def zu(h:PS X st (pF (tE X.K cl e') (fun v σ H Q=>lQ X.K is.length (gs is) v σ H Q\/lS X.K is.length (gs is) v σ H Q)))(hM:∀ i∈is,M.contains i=false):SS X cl M st (.unp is e'):=by
 refine PS.weak h fun D σ H h=>?_;obtain⟨σD,o,σD',rv,e,k⟩:=h;obtain⟨d,e1,e⟩:=bind_some e;obtain⟨ds,e2,e⟩:=bind_some e;split at e
 ·rename_i him;obtain⟨σ1,e3,e4⟩:=map_some e;cases e4;obtain⟨q1,q2⟩:=fh e3;refine⟨σD,d,rv.rv0,e1,fun v H1 r1=>?_⟩;obtain⟨p,xs,rfl,hp,rs⟩:=eO e2 r1.rep;obtain⟨g1,g2⟩:=(rv.same r1.same).aN (vs:=xs) hM q1 him rs;have fin:D.nx (cF is xs σ) H1:=k _ _ (by rw[q2];exact g1) ⟨fun b o e n=>⟨r1.same _ _ e,by rw[g2];exact n⟩,fun j hj=>oH hM hj⟩
  have hl:xs.length=is.length:=by rw[<-rs.length,q1]
  rcases hp with⟨hp,_⟩ | ⟨hp,_⟩
  ·exact .inr ⟨p,xs,rfl,SqL.of hp,hl,iI hl.symm fin⟩
  ·exact .inl ⟨p,xs,rfl,SqT.of hp,hl,iI hl.symm fin⟩
 ·cases e
def ku(xs:List α)(k:Int):(xs.drop (HT.sIx xs.length 0 none)).take (HT.sIx xs.length xs.length (some k)-HT.sIx xs.length 0 none)=xs.take (RL.cutAt xs.length k):=by
 rw[HT.xb,List.drop_zero,Nat.sub_zero];congr 1;have h:=HT.jq k xs.length xs.length;unfold RL.cutAt;split at h
 ·rename_i h0;rw[if_neg (by lia)];lia
 ·rename_i h0;rw[if_pos (by lia)];lia
end rules
section rules
variable{X:Cx}
def one(rv:RV0 X.K σD σ H)(ea:RL.ev cl σD a'=some d)(k:∀ v H1,aq H H1->Rep nP X.K H1 d v->R [v] H1):tEs X.K cl (.cons a' .nil) σ H R :=
 ⟨σD,[d],rv,by rw[RL.evs,ea];rfl,fun vs H1 s1 r1=>by
  rw[aa]at r1;obtain⟨v,t,rfl,r2,r3⟩:=r1;rw[aa]at r3;subst r3
  exact k v H1 s1 r2⟩
def pair(rv:RV0 X.K σD σ H)(ea:RL.ev cl σD a'=some d)(eb:RL.ev cl σD b'=some d')(k:∀ v u H1,aq H H1->Rep nP X.K H1 d v->Rep nP X.K H1 d' u->R [v,u] H1):tEs X.K cl (.cons a' (.cons b' .nil)) σ H R :=
 ⟨σD,[d,d'],rv,by rw[RL.evs,ea,RL.evs,eb];rfl,fun vs H1 s1 r1=>by
  rw[aa]at r1;obtain⟨v,t,rfl,r2,r3⟩:=r1;rw[aa]at r3;obtain⟨u,t,rfl,r4,r5⟩:=r3;rw[aa]at r5;subst r5
  exact k v u H1 s1 r2 r4⟩
def je{id:String}{r:List V->Hp->VK->Prop}{b:RL.Bi}(hc:bA X (.builtin id) r)(hg:Gl X x)(hm:X.mg x=none)(hv:bootBuiltins x=some (.builtin id))(ha:SE X cl a a')(hn:noStar a=true)(h1:x ≠ "__name__")(h2:(x == ("__debug__" : Str))=false)
 (ok:∀ (σD:RL.St) (σ:L2.St) (H H1:Hp) (y d:RL.D) (v:V) (Q:VK),RL.biV b y=some d->aq H H1->Rep nP X.K H1 y v->(∀ w H',Res X.K σD σ H (.bi b a') d w H'->Q w H')->r [v] H1 Q):SE X cl (.Call (.Name x p) [a] [] pos) (.bi b a'):=by
 refine PE.weak (kg hc hg hm hv (bh (cl:=cl) ha cL hn) h1 h2 (a5 [] hn) rfl) fun σ H Q h=>?_;obtain⟨σD,d,rv,e,k⟩:=h;obtain⟨y,ea,e⟩:=bind_some e;exact one rv ea fun v H1 s1 r1=>ok σD σ H H1 y d v Q e s1 r1 k
def mX{T:String}{r:List V->Hp->VK->Prop}{b:RL.Bi}(hc:bA X (.type T) r)(hg:Gl X x)(hm:X.mg x=none)(hv:bootBuiltins x=some (.type T))(ha:SE X cl a a')(hn:noStar a=true)(h1:x ≠ "__name__")(h2:(x == ("__debug__" : Str))=false)
 (ok:∀ (σD:RL.St) (σ:L2.St) (H H1:Hp) (y d:RL.D) (v:V) (Q:VK),RL.biV b y=some d->aq H H1->Rep nP X.K H1 y v->(∀ w H',Res X.K σD σ H (.bi b a') d w H'->Q w H')->r [v] H1 Q):SE X cl (.Call (.Name x p) [a] [] pos) (.bi b a'):=by
 refine PE.weak (c9 hc hg hm hv (bh (cl:=cl) ha cL hn) h1 h2 (a5 [] hn) rfl) fun σ H Q h=>?_;obtain⟨σD,d,rv,e,k⟩:=h;obtain⟨y,ea,e⟩:=bind_some e;exact one rv ea fun v H1 s1 r1=>ok σD σ H H1 y d v Q e s1 r1 k
def Aj(hg:Gl X "list")(hm:X.mg "list" = none)(ha:SE X cl a a')(hn:noStar a=true):SE X cl (.Call (.Name "list" p) [a] [] pos) (.bi .list a'):=by
 refine mX pZ hg hm (by decide +kernel) ha hn (by decide) (by decide) fun σD σ H H1 y d v Q e s1 r1 k=>?_;obtain⟨ds,e1,e2⟩:=map_some (show(RL.items y).map RL.D.lst=some d from e);subst e2;obtain⟨q,xs,rfl,hp,rs⟩:=eO e1 r1;refine⟨q,xs,rfl,?_,fun l hl=>k _ _ (cM s1 hl rs fun _=>rfl)⟩
 rcases hp with⟨z,_⟩ | ⟨z,_⟩
 ·exact .inl (SqL.of z)
 ·exact .inr (SqT.of z)
def xN(hg:Gl X "tuple")(hm:X.mg "tuple" = none)(ha:SE X cl a a')(hn:noStar a=true):SE X cl (.Call (.Name "tuple" p) [a] [] pos) (.bi .tuple a'):=by
 refine mX nI hg hm (by decide +kernel) ha hn (by decide) (by decide) fun σD σ H H1 y d v Q e s1 r1 k=>?_;obtain⟨ds,e1,e2⟩:=map_some (show(RL.items y).map RL.D.tup=some d from e);subst e2;obtain⟨q,xs,rfl,hp,rs⟩:=eO e1 r1
 rcases hp with⟨z,_⟩ | ⟨z,_⟩
 ·exact⟨q,xs,rfl,.inl ⟨SqL.of z,fun l hl=>k _ _ (fY s1 hl rs fun _=>rfl)⟩⟩
 ·refine⟨q,xs,rfl,.inr ⟨SqT.of z,k _ _ ⟨s1,?_,fun _ m=>(by cases m),fun M z=>nomatch (show false=true from z)⟩⟩⟩;rw[Rep];exact⟨q,xs,rfl,z,rs⟩
def tN{prog:Program}{w:World}{K:Type} [DecidableEq K]{knd:HeapKind prog w K}(hd:(d == sysModules)=false) :
  MeetsIn prog w (Builtin.«dict.__len__» ⟨[.ref d],[]⟩) (fun _ R s=>∃ xs,s.heap.DictOfH knd d xs/\R (.ok (.ret (.int xs.length s.toks))) { s with toks:=s.toks+1 }) :=
 .of_wp fun A R s ⟨xs,hm,h⟩=>by
  obtain⟨o,es,ep,ho,hc,hdat,hk,_,_⟩:=hm;show wpAny _ _ (dictSize d >>= _) _ _ s;unfold dictSize;refine wpAny_bind (wpAny_bind (wpAny_dictEntries ho hdat (wpAny_pure ?_)));show wpAny _ _ (Builtin.Dict.pendingCount d >>= _) _ _ s;refine wpAny_bind (wpAny_pendingCount_other hd ?_);refine wpAny_ret_mkInt ?_;rw[Nat.add_zero,size_of_entries hk];exact h
def lP{prog:Program}{w:World}{K:Type} [DecidableEq K]{knd:HeapKind prog w K}{A:Around}{E:Value->Shared->Prop}{s:Shared}{d:Addr}{xs:List (K × Addr × Value)}{Q:Value->Shared->Prop}(hd:(d == sysModules)=false)(hm:s.heap.DictOfH knd d xs)(hfit:(xs.length:Int)<2 ^ 63)
 (h:Q (.int xs.length (s.toks+1)) { s with toks:=s.toks+1+1 }):wpAny (model prog w) A (call (.builtin "len") [.ref d]) Q E s:=by
 refine Calls.call_function_entry kind_len plain_len entry_len (args_len1 _) ?_;unfold Builtin.«len»;refine wpAny_bind (m:=oneArg "len" _) (wpAny_pure ?_)
 refine wpAny_bind (m:=callSpecial? (.ref d) (Str.ofString "__len__")) (wpAny_callSpecial?_slot (name:=Str.ofString "__len__") hm.typeIs F.slot_dict_len
  (call_meetsIn F.slot_dict_len hm.typeIs F.entry_dict_len (F.args_dict_len_1 _) (tN hd) ⟨xs,hm,?_⟩))
 show wpAny _ _ _ _ _ { s with toks:=s.toks+1 };refine wpAny_bind (wpAny_holding (wpAny_pure ?_));refine wpAny_bind (wpAny_letGo ?_);show wpAny _ _ (if((xs.length:Nat):Int)<0 then _ else _) _ _ _;rw[if_neg (by omega)];show wpAny _ _ (if((xs.length:Nat):Int)≥2 ^ 63 then _ else _) _ _ _;rw[if_neg (by omega)];exact wpAny_bind (wpAny_mkInt (wpAny_pure ⟨_,rfl,h⟩))
def wt:bA X (.builtin "len") (fun xs H Q=>∃ a kvs,xs=[V.ref a]/\H a=some (.dT kvs)/\Q (.int kvs.length) H):=by
 intro pins s σ H xs us Q I r h;obtain⟨a,kvs,rfl,ha,q⟩:=h;obtain⟨u,rfl,ru⟩:=vals1 r;cases ru;obtain⟨z,hd,xs,rel,dd⟩:=zg I.hok ha;have hl:kvs.length=xs.length:=Paired.length rel;refine lP hd dd (by rw[<-hl];rw[sizeLine_eq]at z;omega) ?_;rw[<-hl];exact⟨.int kvs.length,H,I.tok _,⟨_,rfl⟩,q⟩
def vU:bA X (.builtin "len") (fun xs H Q=>(∃ y n,xs=[y]/\Dk X.K y H n/\Q (.int n) H)\/(∃ q kvs,xs=[V.ref q]/\H q=some (.dK kvs)/\Q (.int kvs.length) H)\/∃ q kvs,xs=[V.ref q]/\H q=some (.dT kvs)/\Q (.int kvs.length) H):=bA.or yt (bA.or v5 wt)
def B4(hg:Gl X "len")(hm:X.mg "len" = none)(ha:SE X cl a a')(hn:noStar a=true):SE X cl (.Call (.Name "len" p) [a] [] pos) (.bi .len a'):=by
 refine je vU hg hm PySem.boot_len ha hn (by decide) (by decide) fun σD σ H H1 y d v Q e s1 r1 k=>?_
 cases y<;>first | (cases e;done) | skip
 case str t =>
  rw[RL.Et]at e;split at e
  ·rename_i hz;cases e;rw[aF r1];exact .inl ⟨_,_,rfl,⟨Nat.le_trans hz bK,rfl⟩,k _ _ (cV s1 aR rfl)⟩
  ·cases e
 case tup t =>
  cases e;obtain⟨q,xs,rfl,f2,f3⟩:=aS r1;dsimp only at k;rw[f3.length]at k;exact .inl ⟨_,_,rfl,.inr ⟨xs,SqT.of f2,rfl⟩,k _ _ (cV s1 aR rfl)⟩
 case lst t =>
  cases e;obtain⟨q,xs,rfl,_,f2,f3⟩:=a7 r1;dsimp only at k;rw[f3.length]at k;exact .inl ⟨_,_,rfl,.inl ⟨xs,SqL.of f2,rfl⟩,k _ _ (cV s1 aR rfl)⟩
 case dK ks t =>
  cases e;rw[Rep]at r1;obtain⟨q,xs,rfl,_,f2,fl,f3⟩:=r1;refine .inr (.inl ⟨q,_,rfl,f2,?_⟩)
  have:(ks.zip xs).length=ks.length:=by rw[List.length_zip,<-f3.length,fl,Nat.min_self]
  rw[this];exact k _ _ (cV s1 aR rfl)
 case dT ks t =>
  cases e;rw[Rep]at r1;obtain⟨q,xs,rfl,_,f2,fl,f3⟩:=r1;refine .inr (.inr ⟨q,_,rfl,f2,?_⟩)
  have:(ks.zip xs).length=ks.length:=by rw[List.length_zip,<-f3.length,fl,Nat.min_self]
  rw[this];exact k _ _ (cV s1 aR rfl)
abbrev tyN:RL.Ty->String
 | .int => "int"
 | .bool => "bool"
 | .list => "list"
 | .tuple => "tuple"
 | .str => "str"
def yo:bA X (.builtin "isinstance") (fun xs H Q=>∃ y t T k,xs=[y,.ty T]/\eB X.K H y t/\PySem.W.kitOne X.K t (.type T)=some k/\Q (.bl k) H):=by
 intro pins s σ H xs us Q I r h;obtain⟨y,t,T,k,rfl,ty,e,q⟩:=h;obtain⟨u,w,rfl,r1,r2⟩:=vals2 r;cases r2
 exact vD I r1 ty e fun tk=>⟨.bl k,H,I.tok tk,rfl,q⟩
def DC(h:RL.eR t d=some k)(r:Rep nP X.K H d v):∃ ty,eB X.K H v ty/\PySem.W.kitOne X.K ty (.type (tyN t))=some k:=by
 cases d with
 | non=>rw[Rep]at r;subst r;refine⟨_,.non,?_⟩;cases t<;>(cases h;rfl)
 | bl i=>rw[aL r];refine⟨_,.bl i,?_⟩;cases t<;>(cases h;rfl)
 | int i=>rw[af r];refine⟨_,.int i,?_⟩;cases t<;>(cases h;rfl)
 | str i=>rw[aF r];refine⟨_,.str i,?_⟩;cases t<;>(cases h;rfl)
 | tup i=>obtain⟨q,xs,rfl,f2,f3⟩:=aS r;refine⟨_,.tup f2,?_⟩;cases t<;>(cases h;rfl)
 | lst i=>obtain⟨q,xs,rfl,_,f2,f3⟩:=a7 r;refine⟨_,.lst f2,?_⟩;cases t<;>(cases h;rfl)
 | _=>cases t<;>cases h
def BM(hg:Gl X "isinstance")(hm:X.mg "isinstance" = none)(hgy:Gl X y)(hmy:X.mg y=none)(hy:bootBuiltins y=some (.type (tyN t)))(hy1:y ≠ "__name__")(hy2:(y == ("__debug__" : Str))=false)(ha:SE X cl a a')(hn:noStar a=true) :
  SE X cl (.Call (.Name "isinstance" p) [a,.Name y p2] [] pos) (.isi a' t):=by
 have hty:PE X (.Name y p2) (tC (.ty (tyN t))):=A8 hgy hmy hy rfl hy1 hy2;refine PE.weak (kg yo hg hm (by decide +kernel) (bV ha (bV hty eu rfl) (a5 _ hn)) (by decide) (by decide) (a5 _ hn) rfl) fun σ H Q h=>?_;obtain⟨σD,d,rv,e,k⟩:=h;obtain⟨u,ea,e⟩:=bind_some e;obtain⟨t',e1,e2⟩:=map_some e;subst e2;refine⟨σD,u,rv,ea,fun v H1 r1=>?_⟩;obtain⟨ty,h1,h2⟩:=DC e1 r1.rep;exact⟨v,ty,_,t',rfl,h1,h2,k _ _ (eL r1.same)⟩
end rules
end RS
namespace L2
open PySem PySem.Spec PyProof.Rows
structure jm(prog:Program)(w:World):Prop where
 draws:∀ {A:Around},A.handled=none->∀ (ti tp:Addr),tp≠ti->∀ its:Array Value,Draws prog w A ti [ti,tp] its.size (fun i v=>its[i]?=some v) (fun i h=>h.IsTupleIter ti tp i/\h.IsTuple tp its)
 call:∀ {A:Around} {E:Value->Shared->Prop} {z:Shared} {tp:Addr} {its:Array Value} {Q:Value->Shared->Prop},z.heap.IsTuple tp its ->
  (∀ g,IsEnum g (z.heap.objs.size+1) z.heap.objs.size 0 .none->g.IsTupleIter z.heap.objs.size tp 0->(∀ b o,z.heap.get? b=some o->g.get? b=some o)->Q (.ref (z.heap.objs.size+1)) { z with heap:=g })->wpAny (model prog w) A (call (.type "enumerate") [.ref tp]) Q E z
section
def Inv.mI{h':Heap}{t':Nat}{fp:List Addr}(I:Inv X pins σ H s)(k:∀ b o,b∉fp->s.heap.get? b=some o->h'.get? b=some o)(hf:∀ b∈fp,H b=none/\(b∈X.ex\/X.s₀.heap.objs.size<=b)/\b≠X.env.locals/\(∀ x c,X.env.cells.lookup x=some c->c≠b)/\∀ p∈X.pn++pins,p.1≠b) :
  Inv X pins σ H { s with heap:=h',toks:=t' }:=by
 have nf:∀ b u,H b=some u->b∉fp:=fun b u e z=>by rw[(hf b z).1]at e;cases e
 refine I.yQ (s':={ s with heap:=h',toks:=t' }) (ch:=fp) rfl ⟨fun b o e _ _ hx=>k b o hx e,fun b o e _ _ hx=>⟨o.slots,k b o hx e⟩,fun _ _ _ n _=>n,fun b o e hx=>⟨o,k b o hx e⟩,fun _ _ e=>e,fun _ _ _ e=>e,fun b ps e=>⟨#[],by rw[e];simp⟩⟩ (fun b u e=>?_) I.bare fun b hb=>(hf b hb).2;refine(I.hok b u e).m6 (fun c v hc q=>k c v ?_ q) (fun _ q=>q) fun _ _ q=>q;rcases hc with z | z
 ·rw[z];exact nf b u e
 ·exact nf c _ z
end
abbrev Ite(cont:Hp->List V->Prop):It :=
 ⟨fun i H=>∃ xs x,cont H xs/\xs[i]?=some x,fun i H v H'=>∃ p x,H p=none/\v=.ref p/\H'=upd H p (.tup [.int i,x])/\∀ xs,cont H xs->xs[i]?=some x,fun i H=>∃ xs,cont H xs/\xs.length=i⟩
structure Src(P:Program)(w:World)(K:PySem.W.Frag)(e it:Addr)(cont:Hp->List V->Prop)(ia:Nat->Heap->Prop):Prop where
 obj:∀ i h,ia i h->∃ o,h.get? it=some o/\∀ v,o.data≠.cell v
 keep:∀ i h h',ia i h->(∀ o,h.get? it=some o->h'.get? it=some o)->ia i h'
 inj:∀ (H:Hp) xs ys,cont H xs->cont H ys->xs=ys
 dr:∀ (X:Cx),X.prog=P->X.w=w->X.K=K->X.calm=true->∀ (pins:List (Addr × Obj)) (s:Shared) (σ:St) (H:Hp) (xs:List V),Inv X pins σ H s->H e=none->H it=none->cont H xs ->
  ∃ (fp:List Addr) (Pv:Nat->Value->Prop) (St:Nat->Heap->Prop),Draws P w X.A.in1 it fp xs.length Pv St/\e∉fp/\(∀ i,ia i s.heap->St i s.heap)/\(∀ i h,St i h->ia i h)/\∀ i v,Pv i v->∃ x,xs[i]?=some x/\RelV x v
def v9{P:Program}{w:World}{K:PySem.W.Frag}(hei:e≠it)(S:Src P w K e it cont ia) :
  Turn P w K (.Tuple elts kx tp) (Ite cont) [e,it] e (fun i h=>(∃ old,IsEnum h e it i old)/\ia i h) where
 mem:=by simp
 obj:=fun i h st b hb=>by
  rcases List.mem_cons.mp hb with rfl | hb
  ·obtain⟨⟨old,he⟩,_⟩:=st;exact⟨_,he,fun v z=>by cases z⟩
  ·rw[List.mem_singleton.mp hb];exact S.obj i h st.2
 keep:=fun i h h' st k=>by
  obtain⟨⟨old,he⟩,hi⟩:=st;exact⟨⟨old,k e (by simp) _ he⟩,S.keep i h h' hi fun o q=>k it (by simp) o q⟩
 item:=by
  intro X hP hw hK hc i pins s σ H E I hf st hg;subst hP hw hK;obtain⟨⟨old,he⟩,hi⟩:=st;obtain⟨xs,x,hq,hx⟩:=hg;have fe:=hf e (by simp);have fi:=hf it (by simp);obtain⟨fp,Pv,St,D,hef,h1,h2,h3⟩:=S.dr X rfl rfl rfl hc pins s σ H xs I fe.1 fi.1 hq;have hlt:i<xs.length:=(List.getElem?_eq_some_iff.mp hx).1;refine wpAny_pyNext_enum_itemD D he (h1 i hi) hlt hei hef fun v h' tk hP ho hs' hT hsz hk=>?_;obtain⟨x',hx',rx⟩:=h3 i v hP;rw[hx]at hx';cases hx';refine⟨.ref s.heap.objs.size,rfl,wpAny_letOwnedTupleGo_enum ho fun h'' he' hs''=>?_⟩;have hn:H s.heap.objs.size=none:=I.hok.fresh (Nat.le_refl _)
  have I1:Inv X pins σ (upd H s.heap.objs.size (.tup [.int i,x])) { s with heap:=s.heap.push { cls:=.type "tuple",data:=.seq #[.int i tk,v] },toks:=tk+1 } :=
   I.laid (t':=tk+1) (fun b u q=>Heap.get?_push_of_some _ q) (Nat.le_refl _) ⟨by show 2<=sizeLine;decide,[.int i tk,v],.cons ⟨tk,rfl⟩ (.cons rx .nil),⟨_,Heap.get?_push_size _ rfl,rfl,_,rfl⟩⟩
  have hes:e<s.heap.objs.size:=Heap.lt_size he
  have hit:it<s.heap.objs.size:=by obtain⟨o,q,_⟩:=S.obj i _ hi;exact Heap.lt_size q
  have stat:∀ b∈[e,it],upd H s.heap.objs.size (.tup [.int i,x]) b=none/\(b∈X.ex\/X.s₀.heap.objs.size<=b)/\b≠X.env.locals/\(∀ x c,X.env.cells.lookup x=some c->c≠b)/\∀ p∈X.pn++pins,p.1≠b:=fun b hb=>by
   obtain⟨f0,f1,f2,f3,f4,f5⟩:=hf b hb
   have hb':b≠s.heap.objs.size:=by
    rcases List.mem_cons.mp hb with rfl | hb
    ·exact Nat.ne_of_lt hes
    ·rw[List.mem_singleton.mp hb];exact Nat.ne_of_lt hit
   exact⟨by rw[aD hb'];exact f0,f3,f1,f4,f5⟩
  have I2:Inv X pins σ (upd H s.heap.objs.size (.tup [.int i,x])) { s with heap:=h'',toks:=tk+1 }:=by
   refine Inv.mI (s:={ s with heap:=s.heap.push { cls:=.type "tuple",data:=.seq #[.int i tk,v] },toks:=tk+1 }) (h':=h'') (t':=tk+1) (fp:=[e,it]) I1 (fun b o hb q=>?_) stat;have b1:b≠e:=fun z=>hb (by simp[z]);have b2:b≠it:=fun z=>hb (by simp[z]);refine hs''.extBut b o b1 ?_;by_cases hbT:b=s.heap.objs.size
   ·subst hbT;have q':(s.heap.push { cls:=.type "tuple",data:=.seq #[.int i tk,v] }).get? s.heap.objs.size=some o:=q;rw[Heap.get?_push_size _ rfl]at q';cases q';exact hT
   ·have q':s.heap.get? b=some o:=(Heap.get?_push_ne _ _ _ hbT).symm.trans q;exact hk b o b1 b2 q'
  refine⟨.ref s.heap.objs.size,_,I2,rfl,⟨s.heap.objs.size,x,hn,rfl,rfl,fun ys hy=>by rw[S.inj H ys xs hy hq];exact hx⟩,⟨⟨v,by simpa using he'⟩,S.keep _ h' h'' (h2 _ _ hs') fun o q=>hs''.extBut _ _ (Ne.symm hei) q⟩,fun b hb=>(stat b hb).1⟩
 done:=by
  intro X hP hw hK hc i pins s σ H E I hf st hg;subst hP hw hK;obtain⟨⟨old,he⟩,hi⟩:=st;obtain⟨xs,hq,hx⟩:=hg;have fe:=hf e (by simp);have fi:=hf it (by simp);obtain⟨fp,Pv,St,D,hef,h1,h2,h3⟩:=S.dr X rfl rfl rfl hc pins s σ H xs I fe.1 fi.1 hq;subst hx
  refine wpAny_pyNext_enum_endD D he (h1 _ hi) fun h' eb=>⟨rfl,?_⟩
  obtain⟨f0,f1,f2,f3,f4,f5⟩:=fi;exact I.turned (it:=it) (h':=h') (t':=s.toks) (fun b o hb q=>eb b o hb q) f0 f1 f3 f4 f5
 self:=fun A i s Q E st h=>by
  obtain⟨⟨old,he⟩,hi⟩:=st;exact wpAny_pyIter_enum he h
def src_list{P:Program}{w:World}{K:PySem.W.Frag}(hei:e≠it):Src P w K e it (fun H xs=>H l=some (.lst xs)) (fun i h=>h.IsListIter it l i) where
 obj:=fun i h st=>let ⟨o,ho,_,hd⟩:=st;⟨o,ho,fun v q=>by rw[hd]at q;cases q⟩
 keep:=fun i h h' st k=>st.at fun o q=>k o q
 inj:=fun H xs ys h1 h2=>by rw[h1]at h2;cases h2;rfl
 dr:=by
  intro X hP hw hK hc pins s σ H xs I he hi hx;subst hP hw hK;obtain⟨its,rv,p,hz⟩:=I.list (SqL.of hx)
  have hl:its.toArray.size=xs.length:=by rw[List.size_toArray,rv.length]
  have hh:X.A.in1.handled=none:=I.ok.hd.1 hc;have D:=Draws.list (prog:=X.prog) (w:=X.w) (A:=X.A.in1) hh it l (aB hx hi) its.toArray;rw[hl]at D;refine⟨_,_,_,D,?_,fun i st=>⟨st,p.isList⟩,fun i h st=>st.1,fun i v hv=>?_⟩
  ·intro m;rcases List.mem_cons.mp m with q | m
   ·exact hei q
   ·exact(aB hx he).symm (List.mem_singleton.mp m)
  ·have hv:its[i]?=some v:=by simpa using hv
   have hlt:i<xs.length:=by rw[rv.length];exact(List.getElem?_eq_some_iff.mp hv).1
   obtain⟨u,h1,h2⟩:=rv.get (i:=i) (x:=xs[i]) (by simp[hlt]);rw[hv]at h1;cases h1;exact⟨xs[i],by simp[hlt],h2⟩
def Ab{P:Program}{w:World}{K:PySem.W.Frag}(TE:jm P w)(hei:e≠it):Src P w K e it (fun H xs=>H l=some (.tup xs)) (fun i h=>h.IsTupleIter it l i) where
 obj:=fun i h st=>let ⟨o,ho,_,hd⟩:=st;⟨o,ho,fun v q=>by rw[hd]at q;cases q⟩
 keep:=fun i h h' st k=>let ⟨o,ho,r⟩:=st;⟨o,k o ho,r⟩
 inj:=fun H xs ys h1 h2=>by rw[h1]at h2;cases h2;rfl
 dr:=by
  intro X hP hw hK hc pins s σ H xs I he hi hx;subst hP hw hK;obtain⟨its,rv,p,hz⟩:=I.tuple (SqT.of hx)
  have hl:its.toArray.size=xs.length:=by rw[List.size_toArray,rv.length]
  have hh:X.A.in1.handled=none:=I.ok.hd.1 hc;have D:=TE.draws (A:=X.A.in1) hh it l (aB hx hi) its.toArray;rw[hl]at D;refine⟨_,_,_,D,?_,fun i st=>⟨st,p⟩,fun i h st=>st.1,fun i v hv=>?_⟩
  ·intro m;rcases List.mem_cons.mp m with q | m
   ·exact hei q
   ·exact(aB hx he).symm (List.mem_singleton.mp m)
  ·have hv:its[i]?=some v:=by simpa using hv
   have hlt:i<xs.length:=by rw[rv.length];exact(List.getElem?_eq_some_iff.mp hv).1
   obtain⟨u,h1,h2⟩:=rv.get (i:=i) (x:=xs[i]) (by simp[hlt]);rw[hv]at h1;cases h1;exact⟨xs[i],by simp[hlt],h2⟩
abbrev gL(x:Str):List V:=x.cps.toList.map fun c=>.str ⟨#[c]⟩
def Bb{P:Program}{w:World}{K:PySem.W.Frag}(hei:e≠it):Src P w K e it (fun _ xs=>xs=gL x) (fun i h=>h.IsStrIter it (strIterType x) x t i) where
 obj:=fun i h st=>let ⟨o,ho,_,hd⟩:=st;⟨o,ho,fun v q=>by rw[hd]at q;cases q⟩
 keep:=fun i h h' st k=>let ⟨o,ho,r⟩:=st;⟨o,k o ho,r⟩
 inj:=fun H xs ys h1 h2=>by rw[h1,h2]
 dr:=by
  intro X hP hw hK hc pins s σ H xs I he hi hx;subst hP hw hK hx;have hh:X.A.in1.handled=none:=I.ok.hd.1 hc
  have hl:x.cps.size=(gL x).length:=by simp[gL]
  have pv:∀ (i:Nat) (v:Value),(∃ c u,x.cps[i]?=some c/\v=Value.str ⟨#[c]⟩ u)->∃ y,(gL x)[i]?=some y/\RelV y v:=fun i v hv=>by
   obtain⟨c,u,h1,h2⟩:=hv;exact⟨.str ⟨#[c]⟩,by simp[gL,h1],u,h2⟩
  have ni:e∉[it]:=fun m=>hei (List.mem_singleton.mp m)
  cases ha:x.cps.all (·<128)with
  |true=>
   have ht:strIterType x = "str_ascii_iterator" := by simp[strIterType,ha]
   have D:=Draws.strAscii (prog:=X.prog) (w:=X.w) (A:=X.A.in1) hh it x t;rw[hl]at D;exact⟨_,_,_,D,ni,fun i st=>by rw[ht]at st;exact st,fun i h st=>by rw[ht];exact st,pv⟩
  |false=>
   have ht:strIterType x = "str_iterator" := by simp[strIterType,ha]
   have D:=Draws.strWide (prog:=X.prog) (w:=X.w) (A:=X.A.in1) hh it x t;rw[hl]at D;exact⟨_,_,_,D,ni,fun i st=>by rw[ht]at st;exact st,fun i h st=>by rw[ht];exact st,pv⟩
section
abbrev ED(ta:TA):TI:=fun σ H R=>ta σ H fun vs H1=>(∃ l xs,vs=[.ref l]/\H1 l=some (.lst xs)/\R (Ite fun H xs=>H l=some (.lst xs)) H1)\/(∃ l xs,vs=[.ref l]/\H1 l=some (.tup xs)/\R (Ite fun H xs=>H l=some (.tup xs)) H1) \/
 (∃ x,vs=[.str x]/\R (Ite fun _ xs=>xs=gL x) H1)
def ka(I:Inv X pins σ H s)(S:Src X.prog X.w X.K (s.heap.objs.size+1) s.heap.objs.size cont ia)
 (he:IsEnum g (s.heap.objs.size+1) s.heap.objs.size 0 .none)(hi:ia 0 g)(hk:∀ b o,s.heap.get? b=some o->g.get? b=some o)(q:R (Ite cont) H) :
  wpAny (model X.prog X.w) X.A (pyIter (.ref (s.heap.objs.size+1))) (PIE X pins σ (.Tuple elts kx tp) R) E { s with heap:=g }:=by
 refine wpAny_pyIter_enum he ⟨s.heap.objs.size+1,[s.heap.objs.size+1,s.heap.objs.size],_,_,H,rfl,I.kept (t':=s.toks) hk,v9 (Nat.succ_ne_self _) S,⟨⟨.none,he⟩,hi⟩,fun b hb=>?_,q⟩
 have hb':s.heap.objs.size<=b:=by
  rcases List.mem_cons.mp hb with z | z
  ·rw[z];exact Nat.le_succ _
  ·rw[List.mem_singleton.mp z];exact Nat.le_refl _
 exact I.m7 hb' (I.hok.fresh hb')
def A3(TE:jm X.prog X.w)(hg:Gl X "enumerate")(hm:X.mg "enumerate" = none)(ha:PA X [a] ta)(hs:starEach [a] X.env=[(false,eval a X.env)]):PI X (.Tuple elts kx tp) (.Call (.Name "enumerate" p) [a] [] pos) (ED ta):=by
 intro pins s σ H R I h;refine Call_ (gd I hg hm boot_enumerate (PyProof.Rows.callWith_type1 (thn (ha pos pins s σ H _ I h) fun us s1 ⟨vs,H1,I1,r1,q1⟩=>?_) hs rfl) (by decide) (by decide))
 rcases q1 with⟨l,xs,rfl,hx,q⟩ | ⟨l,xs,rfl,hx,q⟩ | ⟨x,rfl,q⟩
 ·obtain⟨u,rfl,ru⟩:=vals1 r1;cases ru;obtain⟨its,rv,pl,hz⟩:=I1.list (SqL.of hx);exact call_enumerate_list pl.isList fun g he hi hsz hk=>ka I1 (src_list (Nat.succ_ne_self _)) he hi hk q
 ·obtain⟨u,rfl,ru⟩:=vals1 r1;cases ru;obtain⟨its,rv,pl,hz⟩:=I1.tuple (SqT.of hx);exact TE.call pl fun g he hi hk=>ka I1 (Ab TE (Nat.succ_ne_self _)) he hi hk q
 ·obtain⟨u,rfl,ru⟩:=vals1 r1;obtain⟨t,rfl⟩:=ru;exact call_enumerate_str fun g he hi hsz hk=>ka I1 (Bb (Nat.succ_ne_self _)) he hi hk q
end
end L2
namespace RS
open PySem PySem.Spec PyProof.Rows L2
def jd:∀ (ds:List RL.D) (k:Int),(RL.cX k ds).length=ds.length
 | [],_=>rfl
 | d::r,k=>by rw[RL.cX,List.length_cons,List.length_cons,jd r]
def ny:∀ (ds:List RL.D) (k:Int) (i:Nat) (d:RL.D),(RL.cX k ds)[i]?=some d->∃ e,ds[i]?=some e/\d=.tup [.int (k+i),e]
 | [],k,i,d,h=>by simp[RL.cX]at h
 | e::r,k,0,d,h=>by simp[RL.cX]at h;exact⟨e,rfl,by simp[h]⟩
 | e::r,k,i+1,d,h=>by
  rw[RL.cX,List.getElem?_cons_succ]at h;obtain⟨e',h1,h2⟩:=ny r (k+1) i d h;refine⟨e',by simpa using h1,?_⟩;rw[h2];congr 3;lia
def fK{K:PySem.W.Frag}(hc:∀ H',Off P H H'->cont H' xs)(hj:∀ H' ys,cont H' xs->cont H' ys->ys=xs)(r:aa nP K H ds xs)(hm:∀ b o,P b->H b=some o->bZ o):gD K (Ite cont) (RL.cX 0 ds) P H where
 go:=fun H' i k hi=>by
  rw[jd]at hi;obtain⟨x,e,_⟩:=r.get (i:=i) (d:=ds[i]) (by simp[hi]);exact⟨xs,x,hc H' k,e⟩
 stop:=fun H' k=>⟨xs,hc H' k,by rw[jd,r.length]⟩
 yld:=fun H' i d v H2 k e y=>by
  obtain⟨p,x,hp,rfl,rfl,hx⟩:=y;obtain⟨e',h1,rfl⟩:=ny ds 0 i d e;obtain⟨x',h2,h3⟩:=r.get h1;rw[hx xs (hc H' k)]at h2;cases h2;refine⟨aq.bW hp,fun q=>?_⟩
  have re:Rep nP K H' e' x:=by
   rcases q with q | q
   ·have q:(true&&(e'.imm&&true))=true:=q;simp only[Bool.true_and,Bool.and_true]at q;exact eM hm k h3 q
   ·exact h3.same q
  rw[Rep];refine⟨p,[.int i,x],rfl,aW,aa.cons ?_ (aa.cons (re.same (aq.bW hp)) aa.nil)⟩;simpa using(aR (P:=nP) (K:=K) (H:=upd H' p (.tup [.int i,x])) (i:=(i:Int)))
def vo{P:Addr->Prop}{K:PySem.W.Frag}(h:RL.gQ d=some ds)(r:Rep P K H d v):(∃ p xs,v=.ref p/\H p=some (.lst xs)/\d=.lst ds/\aa P K H ds xs)\/(∃ p xs,v=.ref p/\H p=some (.tup xs)/\d=.tup ds/\aa P K H ds xs) \/
  (∃ x,v=.str x/\d=.str x/\ds=x.cps.toList.map fun c=>.str ⟨#[c]⟩):=by
 cases d<;>simp only[RL.gQ]at h<;>first | (cases h;done) | skip
 case lst ys=>cases h;obtain⟨p,xs,e1,_,e2,e3⟩:=a7 r;exact .inl ⟨p,xs,e1,e2,rfl,e3⟩
 case tup ys=>cases h;obtain⟨p,xs,e1,e2,e3⟩:=aS r;exact .inr (.inl ⟨p,xs,e1,e2,rfl,e3⟩)
 case str x=>cases h;exact .inr (.inr ⟨x,aF r,rfl,rfl⟩)
def ic{P:Addr->Prop}{K:PySem.W.Frag}:∀ (cs:List Nat),aa P K H (cs.map fun c=>RL.D.str ⟨#[c]⟩) (cs.map fun c=>V.str ⟨#[c]⟩)
 | []=>aa.nil
 | c::r=>aa.cons hV (ic r)
section rules
def Bt(TE:jm X.prog X.w)(hg:Gl X "enumerate")(hm:X.mg "enumerate" = none)(ha:SE X cl a a')(hn:noStar a=true):SI X cl (.Tuple elts kx tp) (.Call (.Name "enumerate" p) [a] [] pos) (.enm a'):=by
 intro pins s σ H R I h;obtain⟨σD,ds,rv,e,k⟩:=h;obtain⟨d,e1,e2⟩:=bind_some e;obtain⟨es,e3,e4⟩:=map_some e2;subst e4;have hpa:PA X [a] (kA (tE X.K cl a') uj):=bV ha eu (a5 [] hn);refine A3 TE hg hm hpa (a5 [] hn) pins s σ H R I ⟨σD,d,rv,e1,fun v H1 r1=>?_⟩
 rcases vo e3 r1.rep with⟨l,xs,rfl,hx,rfl,rs⟩ | ⟨l,xs,rfl,hx,rfl,rs⟩ | ⟨x,rfl,rfl,rfl⟩
 ·refine .inl ⟨l,xs,rfl,hx,k _ _ r1.same ⟨fK (fun H' o=>o _ _ (fun z=>z) hx) (fun H' ys h1 h2=>by rw[h1]at h2;cases h2;rfl) rs eV,fun M P z hP av=>?_⟩⟩;exact fK (fun H' o=>o _ _ (l7 r1 z hP av _ _ rfl rfl) hx) (fun H' ys h1 h2=>by rw[h1]at h2;cases h2;rfl) rs (cP r1.same hP)
 ·have np:∀ P:Addr->Prop,(∀ b o,P b->H1 b=some o->bZ o)->¬ P l:=fun P hP q=>by rcases hP l _ q hx with⟨z,q⟩ | ⟨z,q⟩ | ⟨z,q⟩<;>cases q
  exact .inr (.inl ⟨l,xs,rfl,hx,k _ _ r1.same ⟨fK (fun H' o=>o _ _ (np _ eV) hx) (fun H' ys h1 h2=>by rw[h1]at h2;cases h2;rfl) rs eV,fun M P z hP av=>fK (fun H' o=>o _ _ (np P (cP r1.same hP)) hx) (fun H' ys h1 h2=>by rw[h1]at h2;cases h2;rfl) rs (cP r1.same hP)⟩⟩)
 ·exact .inr (.inr ⟨x,rfl,k _ _ r1.same ⟨fK (fun H' o=>rfl) (fun H' ys h1 h2=>h2) (ic _) eV,fun M P z hP av=>fK (fun H' o=>rfl) (fun H' ys h1 h2=>h2) (ic _) (cP r1.same hP)⟩⟩)
end rules
section rules
variable{X:Cx}
def Ae{P:Addr->Prop}{K:PySem.W.Frag}(h:Rep P K H (.scr ds) v):∃ a xs,v=.ref a/\gB K H a xs/\aa P K H ds xs:=by rw[Rep]at h;exact h
def wj(n:Nat)(k:Int):HT.sIx n n (some k)=RL.cutAt n k:=by
 have h:=HT.jq k n n;unfold RL.cutAt;split at h
 ·rw[if_neg (by lia)];lia
 ·rw[if_pos (by lia)];lia
def DJ(ha:SE X cl a a')(hb:SE X cl b b'):SE X cl (.Subscript a (.Slice none (some b) none p2) pos) (.slT a' b'):=by
 refine PE.weak (yx (SlR.or zP DS) ha zE (zR hb)) fun σ H Q h=>?_;obtain⟨σD,d,rv,e,k⟩:=h;obtain⟨x,ea,e⟩:=bind_some e;obtain⟨y,eb,e⟩:=bind_some e;refine⟨σD,x,rv,ea,fun v H1 r1=>⟨σD,y,rv.same r1.same,eb,fun u H2 r2=>?_⟩⟩;have rx:=r1.rep.same r2.same;have sm:=r1.same.trans r2.same
 cases y with
 |int n=>
  refine⟨n,af r2.rep,?_⟩
  cases x with
  |lst xs=>
   cases e;obtain⟨q,ys,rfl,_,f2,f3⟩:=a7 rx;refine .inl ⟨q,ys,rfl,SqL.of f2,fun l hl=>?_⟩;unfold iA;rw[ku,<-f3.length];exact k _ _ (cM sm hl (f3.take _) fun _=>rfl)
  |scr xs=>
   cases e;obtain⟨q,ys,rfl,f2,f3⟩:=Ae rx;refine .inl ⟨q,ys,rfl,f2.seq,fun l hl=>?_⟩;unfold iA;rw[ku,<-f3.length];exact k _ _ (cM sm hl (f3.take _) fun _=>rfl)
  |tup xs=>
   simp only[RL.oU]at e;split at e
   ·rename_i hz;cases e;obtain⟨q,ys,rfl,f2,f3⟩:=aS rx;refine .inr ⟨q,ys,rfl,SqT.of f2,fun z=>?_,fun l hl=>?_⟩
    ·rw[wj,<-f3.length]at z;lia
    ·unfold iA;rw[ku,<-f3.length];exact k _ _ (fY sm hl (f3.take _) fun _=>rfl)
   ·cases e
  | _=>cases e
 | _=>cases x<;>cases e
def pU{P:Addr->Prop}{K:PySem.W.Frag}(h:RL.keyOf d=some k)(r:Rep P K H d v):v=kV k:=by
 cases d<;>simp only[RL.keyOf]at h<;>first | (cases h;done) | skip
 case int i=>cases h;exact af r
 case str i=>cases h;exact aF r
def mZ{P:Addr->Prop}{K:PySem.W.Frag}:∀ {ds:List RL.D} {k:List RL.Ky} {xs:List V},RL.keysOf ds=some k->aa P K H ds xs->xs=k.map kV
 | [],k,xs,h,r=>by cases h;rw[aa]at r;exact r
 | d::ds,k,xs,h,r=>by
  rw[RL.keysOf]at h;obtain⟨k1,h1,h⟩:=bind_some h;obtain⟨k2,h2,h3⟩:=map_some h;subst h3;rw[aa]at r;obtain⟨v,t,rfl,r1,r2⟩:=r;rw[pU h1 r1,mZ h2 r2];rfl
def DZ:SE X cl (.Dict [] [] pos) .dt0:=by
 refine PE.weak yb fun σ H Q h=>?_;obtain⟨σD,d,rv,e,k⟩:=h;cases e;intro q hq;refine k _ _ ⟨aq.bW hq,?_,fun _ _ a z=>(by cases z;exact hq),fun M z=>nomatch (show false=true from z)⟩;rw[Rep];exact⟨q,[],rfl,fun z=>z,aW,rfl,aa.nil⟩
end rules
section rules
variable{X:Cx}{st:Stmt}
def rh{κ:Type} [DecidableEq κ]{x:κ}{d:RL.D}{v:V}{P:Addr->Prop}{K:PySem.W.Frag}{H:Hp}{ks:List κ}{ds:List RL.D}{xs:List V}(hl:ks.length=ds.length)(r:aa P K H ds xs)(rv:Rep P K H d v) :
  ∃ ys,putK (ks.zip xs) x v=(RL.putD ks ds x d).1.zip ys/\(RL.putD ks ds x d).1.length=(RL.putD ks ds x d).2.length/\aa P K H (RL.putD ks ds x d).2 ys:=by
 have hx:ks.length=xs.length:=hl.trans r.length
 have any:∀ (ks:List κ) (xs:List V),ks.length=xs.length->((ks.zip xs).any fun kv=>decide (kv.1=x))=decide (x∈ks):=by
  intro ks
  induction ks with
  | nil=>intro xs _;simp
  |cons k r ih=>
   intro xs h
   cases xs with
   | nil=>simp at h
   |cons y t=>
    rw[List.zip_cons_cons,List.any_cons,ih t (by simpa using h)];by_cases hk:k=x
    ·simp[hk]
    ·simp[hk,Ne.symm hk]
 unfold putK RL.putD;rw[any ks xs hx];by_cases hm:x∈ks
 ·rw[if_pos (by simpa using hm),if_pos hm];refine⟨List.zipWith (fun k w=>if k=x then v else w) ks xs,?_,?_,?_⟩
  ·clear any hm hl r
   induction ks generalizing xs with
   | nil=>simp
   |cons k t ih=>
    cases xs with
    | nil=>simp at hx
    |cons y t'=>
     rw[List.zip_cons_cons,List.map_cons,List.zipWith_cons_cons,List.zip_cons_cons,ih (by simpa using hx)];by_cases hk:k=x<;>simp[hk]
  ·rw[List.length_zipWith,hl,Nat.min_self]
  ·clear any hm hx
   induction ks generalizing ds xs with
   | nil=>simpa using aa.nil
   |cons k t ih=>
    cases ds with
    | nil=>simp at hl
    |cons d0 ds=>
     rw[aa]at r;obtain⟨y,t',rfl,r1,r2⟩:=r;rw[List.zipWith_cons_cons,List.zipWith_cons_cons];refine aa.cons ?_ (ih (by simpa using hl) r2);by_cases hk:k=x
     ·rw[if_pos hk,if_pos hk];exact rv
     ·rw[if_neg hk,if_neg hk];exact r1
 ·rw[if_neg (by simpa using hm),if_neg hm];refine⟨xs++[v],?_,by simp[hl],aa.append r (aa.cons rv aa.nil)⟩;rw[List.zip_append hx];rfl
def vC [DecidableEq κ](hd:d.imm=true):∀ {ks:List κ} {ds:List RL.D},RL.ao ds=true->RL.ao (RL.putD ks ds x d).2=true:=by
 have app:∀ l:List RL.D,RL.ao l=true->RL.ao (l++[d])=true:=fun l=>by
  induction l with
  | nil=>intro _;simp[RL.ao,hd]
  | cons z r ih=>intro h;rw[RL.ao,Bool.and_eq_true]at h;rw[List.cons_append,RL.ao,h.1,ih h.2];rfl
 have zw:∀ (ks:List κ) (ds:List RL.D),RL.ao ds=true->RL.ao (List.zipWith (fun k w=>if k=x then d else w) ks ds)=true:=fun ks=>by
  induction ks with
  | nil=>intro ds _;simp[RL.ao]
  |cons k r ih=>
   intro ds h
   cases ds with
   | nil=>simp[RL.ao]
   |cons y t=>
    rw[RL.ao,Bool.and_eq_true]at h;rw[List.zipWith_cons_cons,RL.ao,ih t h.2,Bool.and_true];by_cases hk:k=x
    ·rw[if_pos hk];exact hd
    ·rw[if_neg hk];exact h.1
 intro ks ds h;unfold RL.putD;split
 ·exact zw ks ds h
 ·exact app ds h
def Bd(h:PS X st (uy (iP i) (tE X.K cl k') (tE X.K cl e')))(hi:M.contains i=true):PS X st (tS X.K M fun σD=>(RL.ev cl σD e').bind fun d=>(RL.ev cl σD k').bind fun kk=>((σD[i]?).bind id).bind fun l=>match l with
  | .lst _=>none
  | _=>if d.imm then(RL.mi l kk d).map fun l'=>(.nx,σD.set i (some l'))else none):=by
 refine PS.weak h fun D σ H h=>?_;obtain⟨σD,o,σD',rv,e,k⟩:=h;obtain⟨d,e1,e⟩:=bind_some e;obtain⟨kk,e2,e⟩:=bind_some e;obtain⟨l,e3,e⟩:=bind_some e;obtain⟨v,h1,h2⟩:=rv.val i _ (slot_get e3);rw[if_pos hi]at h2;obtain⟨q1,q2,q3⟩:=h2
 cases l with
 |dK ks ds=>
  dsimp only at e;split at e
  ·rename_i him;obtain⟨l',e4,e5⟩:=map_some e;cases e5;obtain⟨kx,e6,e7⟩:=bind_some (show(RL.keyOf kk).bind _=some l' from e4);split at e7
   ·rename_i hz;cases e7;rw[Rep]at q3;obtain⟨q,xs,rfl,_,f2,fl,f3⟩:=q3;refine⟨σD,d,rv.rv0,e1,fun y H1 r1=>⟨.ref q,h1,σD,kk,rv.rv0.same r1.same,e2,fun u H2 r2=>?_⟩⟩;have sm:=r1.same.trans r2.same;obtain⟨ys,p1,p2,p3⟩:=rh (x:=kx) fl (f3.same sm) (r1.rep.same r2.same)
    have hlen:(ks.zip xs).length<sizeLine:=by
     rw[List.length_zip,<-f3.length,fl,Nat.min_self,<-fl];exact Nat.lt_of_lt_of_le hz bK
    refine⟨q,_,rfl,by rw[pU e6 r2.rep];exact iZ.k (sm _ _ f2) hlen,?_⟩;have im:=vC (x:=kx) him (ks:=ks) q2
    obtain⟨g1,g2⟩:=(rv.same sm).iU (d':=.dK (RL.putD ks ds kx d).1 (RL.putD ks ds kx d).2) (o':=.dK (putK (ks.zip xs) kx y)) hi h1 (sm _ _ f2) (.inr (.inl ⟨_,rfl⟩)) ⟨rfl,im,by
     rw[Rep]
     exact⟨q,ys,rfl,fun z=>z,by rw[aW,p1],p2,(aa.upd (P:=fun p=>p=q) (sm _ _ f2) (.inr (.inl ⟨_,rfl⟩)) rfl (p3.imm im)).imm im⟩⟩
    exact k _ _ g1 ((Fr'.same sm).trans g2)
   ·cases e7
  ·cases e
 |dT ks ds=>
  dsimp only at e;split at e
  ·rename_i him;obtain⟨l',e4,e5⟩:=map_some e;cases e5
   cases kk with
   |tup kt=>
    obtain⟨kx,e6,e7⟩:=bind_some (show(RL.keysOf kt).bind _=some l' from e4);split at e7
    ·rename_i hz;cases e7;rw[Rep]at q3;obtain⟨q,xs,rfl,_,f2,fl,f3⟩:=q3;refine⟨σD,d,rv.rv0,e1,fun y H1 r1=>⟨.ref q,h1,σD,.tup kt,rv.rv0.same r1.same,e2,fun u H2 r2=>?_⟩⟩;have sm:=r1.same.trans r2.same;obtain⟨ys,p1,p2,p3⟩:=rh (x:=kx) fl (f3.same sm) (r1.rep.same r2.same)
     have hlen:(ks.zip xs).length<sizeLine:=by
      rw[List.length_zip,<-f3.length,fl,Nat.min_self,<-fl];exact Nat.lt_of_lt_of_le hz bK
     obtain⟨b,ws,rfl,g2,g3⟩:=aS r2.rep;rw[mZ e6 g3]at g2;refine⟨q,_,rfl,iZ.t (sm _ _ f2) g2 hlen,?_⟩;have im:=vC (x:=kx) him (ks:=ks) q2
     obtain⟨g1,g2⟩:=(rv.same sm).iU (d':=.dT (RL.putD ks ds kx d).1 (RL.putD ks ds kx d).2) (o':=.dT (putK (ks.zip xs) kx y)) hi h1 (sm _ _ f2) (.inr (.inr ⟨_,rfl⟩)) ⟨rfl,im,by
      rw[Rep]
      exact⟨q,ys,rfl,fun z=>z,by rw[aW,p1],p2,(aa.upd (P:=fun p=>p=q) (sm _ _ f2) (.inr (.inr ⟨_,rfl⟩)) rfl (p3.imm im)).imm im⟩⟩
     exact k _ _ g1 ((Fr'.same sm).trans g2)
    ·cases e7
   | _=>cases e4
  ·cases e
 | lst _=>cases e
 | _=>cases q1
end rules
end RS
namespace L2
open PySem PySem.Spec PyProof.Rows
abbrev Its(c lo:Int)(n:Nat):It:=⟨fun i _=>i<n,fun i H x H'=>H'=H/\x=.int (lo+i*c),fun i _=>n<=i⟩
def vq{P:Program}{w:World}{K:PySem.W.Frag}(it:Addr)(c lo:Int)(n:Nat):Turn P w K tg (Its c lo n) [it] it (fun i h=>IsRangeIter h it (lo+(i:Nat)*c) ((n:Int)-(i:Nat)) c) where
 mem:=by simp
 obj:=fun i h st b hb=>by
  rw[show b=it by simpa using hb];exact⟨_,st,fun v z=>by cases(show Data.fields _=Data.cell v from z)⟩
 keep:=fun i h h' st k=>k it (by simp) _ st
 item:=by
  intro X hP hw hK hc i pins s σ H E I hf st hg;subst hP hw hK;obtain⟨f0,f1,f2,f3,f4,f5⟩:=hf it (by simp);have W:=Walks.range (prog:=X.prog) (w:=X.w) (I.ok.hd.1 hc) it lo c n;refine W.item i s _ _ hg st fun v h' tk hv st' kk=>?_;obtain⟨t,rfl⟩:=hv;have I1:Inv X pins σ H { s with heap:=h',toks:=tk }:=I.turned (fun b o hb e=>kk b o (by simpa using hb) e) f0 f1 f3 f4 f5;exact⟨_,rfl,og (s:={ s with heap:=h',toks:=tk }) (n := "range_iterator") st' rfl rfl (by decide) ⟨.int (lo+i*c),H,I1,⟨t,rfl⟩,⟨rfl,rfl⟩,st',fun b hb=>(hf b hb).1⟩⟩
 done:=by
  intro X hP hw hK hc i pins s σ H E I hf st hg;subst hP hw hK;obtain⟨f0,f1,f2,f3,f4,f5⟩:=hf it (by simp)
  exact wpAny_pyNext_range_end (I.ok.hd.1 hc) st (by have:n<=i:=hg;lia) fun h' eb=>⟨rfl,I.turned (t':=s.toks) (fun b o hb e=>eb b o hb e) f0 f1 f3 f4 f5⟩
 self:=fun _ _ _ _ _ st h=>wpAny_pyIter_rangeiter st h
end L2
namespace RS
open PySem PySem.Spec PyProof.Rows L2
def l5(c:Int):∀ (n:Nat) (lo:Int) (i:Nat) (d:RL.D),(RL.bB c lo n)[i]?=some d->d=.int (lo+i*c)
 | 0,lo,i,d,h=>by simp[RL.bB]at h
 | n+1,lo,0,d,h=>by simp[RL.bB]at h;simp[h]
 | n+1,lo,i+1,d,h=>by
  rw[RL.bB,List.getElem?_cons_succ]at h;rw[l5 c n (lo+c) i d h];congr 1;rw[show((i+1:Nat):Int)=(i:Int)+1 by lia,Int.add_mul];lia
def iK(c:Int):∀ (n:Nat) (lo:Int),(RL.bB c lo n).length=n
 | 0,_=>rfl
 | n+1,lo=>by rw[RL.bB,List.length_cons,iK c n]
def qW{K:PySem.W.Frag}{H:Hp}{c lo:Int}:gD K (Its c lo n) (RL.bB c lo n) P H where
 go:=fun H' i k hi=>by rw[iK]at hi;exact hi
 stop:=fun H' k=>by rw[iK];exact Nat.le_refl _
 yld:=fun H' i d x H2 k e y=>by
  obtain⟨z,y⟩:=y;subst z;refine⟨aq.refl _,fun _=>?_⟩;rw[l5 c n lo i d e,y];exact aR
section rules
variable{st:Stmt}
end rules
abbrev mD(p:Addr)(a b c:Int):HO:=.ext fun h=>∃ t u v,IsRange h p a b c t u v
def oQ(a b c:Int):0<=Builtin.Range.rangeSize a b c:=by
 unfold Builtin.Range.rangeSize;split
 ·split
  ·have:=Int.ediv_nonneg (a:=b-a-1) (b:=c) (by lia) (by lia);omega
  ·lia
 ·split
  ·by_cases h0:c=0
   ·subst h0;simp
   ·have:=Int.ediv_nonneg (a:=a-b-1) (b:=-c) (by lia) (by lia);omega
  ·lia
def wQ(a b c:Int):Builtin.Range.rangeSize a b c<=(if a<b then b-a else a-b)+1:=by
 unfold Builtin.Range.rangeSize;split
 ·split
  ·have:=Int.ediv_le_self (a:=b-a-1) c (by lia);lia
  ·lia
 ·split
  ·have:=Int.ediv_le_self (a:=a-b-1) (-c) (by lia);split<;>omega
  ·split<;>lia
def ji(a b c:Int):(RL.bp c a b:Int)=Builtin.Range.rangeSize a b c:=Int.toNat_of_nonneg (oQ a b c)
def iM(ha:-(2 ^ 60)<=a)(ha':a<2 ^ 60)(hb:-(2 ^ 60)<=b)(hb':b<2 ^ 60)(hc:-(2 ^ 60)<=c)(hc':c<2 ^ 60):Builtin.Range.small a b c=true:=by
 have h1:=oQ a b c;have h2:=wQ a b c;unfold Builtin.Range.small;simp only[Builtin.Range.rangeFitsLong,Bool.and_eq_true,Bool.or_eq_true,decide_eq_true_eq,beq_iff_eq];refine⟨⟨⟨⟨?_,?_⟩,?_⟩,?_⟩,.inr ?_⟩
 ·lia
 ·lia
 ·lia
 ·split at h2<;>lia
 ·split<;>(rw[Bool.and_eq_true,decide_eq_true_eq,decide_eq_true_eq];lia)
section
variable{X:Cx}
abbrev pJ(xs:List V)(a b c:Int):Prop:=(xs=[.int b]/\a=0/\c=1)\/(xs=[.int a,.int b]/\c=1)\/(xs=[.int a,.int b,.int c]/\c≠0/\c.natAbs<2 ^ 60)
def km{pins:List (Addr × Obj)}{σ:L2.St}{H:Hp}{s:Shared}{a b c:Int}{t u v:Tok}{tk:Nat}(I:Inv X pins σ H s):Inv X pins σ (upd H s.heap.objs.size (mD s.heap.objs.size a b c)) { s with heap:=s.heap.push { cls:=.type "range",data:=.fields #[.int a t,.int b u,.int c v] },toks:=tk } :=
 I.laid (fun b u e=>Heap.get?_push_of_some _ e) (Nat.le_refl _) ⟨⟨t,u,v,IsRange.new _ a b c t u v⟩,⟨_,Heap.get?_push_size _ rfl⟩,fun h1 h2 ⟨t,u,v,e⟩ k=>⟨t,u,v,k _ e⟩⟩
def hX:bA X (.type "range") (fun xs H Q=>∃ a b c,pJ xs a b c/\∀ p,H p=none->Q (.ref p) (upd H p (mD p a b c))):=by
 intro pins s σ H xs us Q I r h;obtain⟨a,b,c,ha,q⟩:=h;have hf:H s.heap.objs.size=none:=I.hok.fresh (Nat.le_refl _)
 rcases ha with⟨rfl,rfl,rfl⟩ | ⟨rfl,rfl⟩ | ⟨rfl,hc,hc2⟩
 ·cases r with
  |cons r rr=>
   cases rr;obtain⟨t,rfl⟩:=r;exact call_range_1 ⟨.ref _,_,km I,rfl,q _ hf⟩
 ·cases r with
  |cons r rr=>
   cases rr with
   |cons r2 rr=>
    cases rr;obtain⟨t,rfl⟩:=r;obtain⟨t2,rfl⟩:=r2;exact call_range_2 ⟨.ref _,_,km I,rfl,q _ hf⟩
 ·cases r with
  |cons r rr=>
   cases rr with
   |cons r2 rr=>
    cases rr with
    |cons r3 rr=>
     cases rr;obtain⟨t,rfl⟩:=r;obtain⟨t2,rfl⟩:=r2;obtain⟨t3,rfl⟩:=r3;refine call_range_3 hc ⟨.ref _,_,km I,rfl,q _ hf⟩ (.inl (PyProof.noPylong_of_log2 ?_));have:c.natAbs.log2<60:=(Nat.log2_lt (by lia)).mpr hc2;lia
abbrev cJ(a c:Int)(n:Nat):List V:=(List.range n).map fun(i:Nat)=>V.int (a+(i:Int)*c)
def zx{a c:Int}{n:Nat}{acc:Array Value}(hI:ItemsOf (fun i v=>∃ t,v=.int (a+i*c) t) acc n):Vals (cJ a c n) acc.toList:=by
 have len:(cJ a c (n)).length=acc.toList.length:=by
  simp only[cJ,List.length_map,List.length_range,Array.length_toList,hI.1]
 have gen:∀ (xs:List V) (us:List Value),xs.length=us.length->(∀ (i:Nat) u,us[i]?=some u->∃ x,xs[i]?=some x/\RelV x u)->Vals xs us:=by
  intro xs
  induction xs with
  | nil=>intro us h _;cases us with
   | nil=>exact .nil
   | cons _ _=>cases h
  | cons x r ih=>intro us h g;cases us with
   | nil=>cases h
   |cons u us=>
    obtain⟨x',e1,e2⟩:=g 0 u rfl;cases e1
    exact .cons e2 (ih us (by simpa using h) fun i u hu=>by
     obtain⟨y,e3,e4⟩:=g (i+1) u (by simpa using hu)
     exact⟨y,by simpa using e3,e4⟩)
 refine gen _ _ len fun i u hu=>?_
 have hu':acc[i]?=some u:=by simpa using hu
 obtain⟨tk,rfl⟩:=hI.2 i u hu'
 have hi:i<n:=by
  have:=(Array.getElem?_eq_some_iff.mp hu').1;rw[hI.1]at this;exact this
 exact⟨.int (a+(i:Int)*c),by simp[cJ,hi],tk,rfl⟩
def fw(hc:X.calm=true):bA X (.type "list") (fun xs H Q=>∃ p a b c,xs=[.ref p]/\H p=some (mD p a b c)/\Builtin.Range.small a b c=true/\RL.bp c a b<=RL.most /\
  ∀ l,H l=none->Q (.ref l) (upd H l (.lst (cJ a c (RL.bp c a b))))):=by
 intro pins s σ H xs us Q I r h;obtain⟨p,a,b,c,rfl,hp,hs,hn,q⟩:=h
 cases r with
 |cons r rr=>
  cases rr;cases r;obtain⟨⟨t,u,v,hR⟩,_,_⟩:=I.hok p _ hp;refine call_list_range (I.ok.hd.1 hc) hR hs (ji a b c).symm (Nat.le_trans hn (by decide)) fun h' tk acc c' hk hS hI=>?_;have hf:H s.heap.objs.size=none:=I.hok.fresh (Nat.le_refl _);refine⟨.ref s.heap.objs.size,upd H s.heap.objs.size (.lst (cJ a c (RL.bp c a b))),I.laid hk (Nat.le_refl _) (show _/\_ from⟨?_,acc.toList,c',?_,?_⟩),rfl,q _ hf⟩
  ·simp only[cJ,List.length_map,List.length_range];exact Nat.le_trans hn bK
  ·exact zx hI
  ·rw[Array.toArray_toList];exact hS
def mS{P:Addr->Prop}{K:PySem.W.Frag}:∀ (n:Nat) (a c:Int),aa P K H (RL.bB c a n) (cJ a c n)
 | 0,a,c=>aa.nil
 | n+1,a,c=>by
  have e:cJ a c (n+1)=V.int a::cJ (a+c) c n:=by
   simp only[cJ,List.range_succ_eq_map,List.map_cons,List.map_map];congr 1
   ·simp
   ·apply List.map_congr_left;intro i _;show V.int (a+((i+1:Nat):Int)*c)=V.int (a+c+(i:Int)*c);congr 1;rw[show((i+1:Nat):Int)=(i:Int)+1 by lia,Int.add_mul];lia
  rw[RL.bB,e];exact aa.cons aR (mS n (a+c) c)
def ke:∀ (n:Nat) (a:Int),RL.cb a n=RL.bB 1 a n
 | 0,_=>rfl
 | n+1,a=>by rw[RL.cb,RL.bB,ke n]
def fE(a b:Int):RL.bp 1 a b=(b-a).toNat:=by
 have h:=ji a b 1;rw[rangeSize_one]at h;split at h<;>lia
def pX{σD:RL.St}{σ:L2.St}{H H1:Hp}{e:RL.E}{Q:VK}{vs:List V}{a b c:Int}{ds:List RL.D}(hv:pJ vs a b c)(hd:ds=RL.bB c a (RL.bp c a b))(hn:RL.bp c a b<=RL.most)(hs:Builtin.Range.small a b c=true)(sm:aq H H1)
 (hav:∀ M,RL.avE M e=false)(k:∀ v H',Res X.K σD σ H e (.lst ds) v H'->Q v H') :
  ∃ a b c,pJ vs a b c/\∀ p,H1 p=none->(fun xs H Q=>∃ p a b c,xs=[V.ref p]/\H p=some (mD p a b c)/\Builtin.Range.small a b c=true/\RL.bp c a b<=RL.most/\∀ l,H l=none->Q (.ref l) (upd H l (.lst (cJ a c (RL.bp c a b))))) [.ref p] (upd H1 p (mD p a b c)) Q:=by
 refine⟨a,b,c,hv,fun p hp=>⟨p,a,b,c,rfl,aW,hs,hn,fun l hl=>k _ _ ?_⟩⟩;subst hd;exact cM (sm.trans (aq.bW hp)) hl (mS _ _ _) hav
def zU(hc:X.calm=true)(hgl:Gl X "list")(hml:X.mg "list" = none)(hg:Gl X "range")(hm:X.mg "range" = none)(ha:SE X cl a a')(hn:noStar a=true){p2 pos2:Pos}:SE X cl (.Call (.Name "list" p2) [.Call (.Name "range" p) [a] [] pos] [] pos2) (.rng1 a'):=by
 refine PE.weak (c9 (fw hc) hgl hml (by decide +kernel) (bV (c9 hX hg hm boot_range (bh (cl:=cl) ha cL hn) (by decide) (by decide) (a5 [] hn) rfl) eu rfl) (by decide) (by decide) rfl rfl) fun σ H Q h=>?_;obtain⟨σD,d,rv,e,k⟩:=h;obtain⟨x,ea,e⟩:=bind_some e;obtain⟨ds,e1,e2⟩:=map_some e;subst e2;obtain⟨i,j,e3,rfl,hb,hm2,rfl⟩:=l0 e1;cases e3
 have hb2:-(2 ^ 60)<=j/\j<2 ^ 60:=by
  simp only[RL.cu]at e1;split at e1
  ·lia
  ·cases e1
 refine one rv ea fun v H1 s1 r1=>?_;exact pX (a:=0) (b:=j) (c:=1) (.inl ⟨by rw[af r1],rfl,rfl⟩) (by rw[ke,fE]) (by rw[fE];exact hm2) (iM (by decide) (by decide) hb2.1 hb2.2 (by decide) (by decide)) s1 (fun _=>rfl) k
def AR(hc:X.calm=true)(hgl:Gl X "list")(hml:X.mg "list" = none)(hg:Gl X "range")(hm:X.mg "range" = none)(ha:SE X cl a a')(hb:SE X cl b b')(hn:noStar a=true)(hn2:noStar b=true){p2 pos2:Pos}:SE X cl (.Call (.Name "list" p2) [.Call (.Name "range" p) [a,b] [] pos] [] pos2) (.rng2 a' b'):=by
 refine PE.weak (c9 (fw hc) hgl hml (by decide +kernel) (bV (c9 hX hg hm boot_range (bh (cl:=cl) ha (bh hb cL hn2) hn) (by decide) (by decide) (a5 _ hn) (dO (by simp[hn2]))) eu rfl) (by decide) (by decide) rfl rfl) fun σ H Q h=>?_;obtain⟨σD,d,rv,e,k⟩:=h;obtain⟨x,ea,e⟩:=bind_some e;obtain⟨y,eb,e⟩:=bind_some e;obtain⟨ds,e1,e2⟩:=map_some e;subst e2;obtain⟨i,j,rfl,rfl,hb,hm2,rfl⟩:=l0 e1
 have hb2:(-(2 ^ 60)<=i/\i<2 ^ 60)/\-(2 ^ 60)<=j/\j<2 ^ 60:=by
  simp only[RL.cu]at e1;split at e1
  ·lia
  ·cases e1
 refine pair rv ea eb fun v u H1 s1 r1 r2=>?_;exact pX (a:=i) (b:=j) (c:=1) (.inr (.inl ⟨by rw[af r1,af r2],rfl⟩)) (by rw[ke,fE]) (by rw[fE];exact hm2) (iM hb2.1.1 hb2.1.2 hb2.2.1 hb2.2.2 (by decide) (by decide)) s1 (fun _=>rfl) k
abbrev ee(c:Int):Expr->Bool
 | .Constant (.int i) _ _=>i == c
 | .UnaryOp .USub (.Constant (.int i) _ _) _=>-i == c
 | _=>false
def gP(h:ee c e=true):PE X e (tC (.int c))/\noStar e=true:=by
 unfold ee at h;split at h
 ·rw[beq_iff_eq]at h;subst h;exact⟨pM,rfl⟩
 ·rw[beq_iff_eq]at h;subst h;exact⟨PE.weak (yF vd pM) fun σ H Q q=>⟨_,rfl,q⟩,rfl⟩
 ·cases h
def sO(h:RL.gz c x y=some ds):∃ i j:Int,x=.int i/\y=.int j/\c≠0/\c.natAbs<2 ^ 60/\Builtin.Range.small i j c=true/\RL.bp c i j<=RL.most/\ds=RL.bB c i (RL.bp c i j):=by
 cases x<;>cases y<;>simp only[RL.gz]at h<;>first
  | (cases h;done)
  | (split at h
     ·rename_i i j hc;cases h;exact⟨i,j,rfl,rfl,hc.1,by omega,iM hc.2.2.2.2.1 hc.2.2.2.2.2.1 hc.2.2.2.2.2.2.1 hc.2.2.2.2.2.2.2 (by omega) hc.2.2.1,hc.2.2.2.1,rfl⟩
     ·cases h)
def r8(ha:SE X cl a a')(hb:SE X cl b b')(hn:noStar a=true)(hn2:noStar b=true)(h3:ee c e3=true):PA X [a,b,e3] (fun σ H R=>tE X.K cl a' σ H fun v H1=>tE X.K cl b' σ H1 fun u H2=>R [v,u,.int c] H2) :=
 bV ha (bV hb (bV (gP h3).1 eu (a5 [] (gP (X:=X) h3).2)) (a5 _ hn2)) (a5 _ hn)
def AY{c:Int}{e3:Expr}(hc:X.calm=true)(hgl:Gl X "list")(hml:X.mg "list" = none)(hg:Gl X "range")(hm:X.mg "range" = none)(ha:SE X cl a a')(hb:SE X cl b b')(hn:noStar a=true)(hn2:noStar b=true)(h3:ee c e3=true){p2 pos2:Pos} :
  SE X cl (.Call (.Name "list" p2) [.Call (.Name "range" p) [a,b,e3] [] pos] [] pos2) (.rng3 c a' b'):=by
 refine PE.weak (c9 (fw hc) hgl hml (by decide +kernel) (bV (c9 hX hg hm boot_range (r8 (cl:=cl) ha hb hn hn2 h3) (by decide) (by decide) (a5 _ hn) (dO (by simp[hn2,(gP (X:=X) h3).2]))) eu rfl) (by decide) (by decide) rfl rfl) fun σ H Q h=>?_;obtain⟨σD,d,rv,e,k⟩:=h;obtain⟨x,ea,e⟩:=bind_some e;obtain⟨y,eb,e⟩:=bind_some e;obtain⟨ds,e1,e2⟩:=map_some e;subst e2;obtain⟨i,j,rfl,rfl,h0,h1,h2,h3,rfl⟩:=sO e1;refine two rv ea eb fun v u H1 H2 s1 s2 rx ry _ _=>?_;exact pX (a:=i) (b:=j) (c:=c) (.inr (.inr ⟨by rw[af rx,af ry],h0,h1⟩)) rfl h3 h2 (s1.trans s2) (fun _=>rfl) k
def AG(hg:Gl X "range")(hm:X.mg "range" = none)(ha:SE X cl a a')(hb:SE X cl b b')(hn:noStar a=true)(hn2:noStar b=true)(h3:ee c e3=true) :
  SI X cl tg (.Call (.Name "range" p) [a,b,e3] [] pos) (.rng3 c a' b'):=by
 intro pins s σ H R I h;obtain⟨σD,ds,rv,e,k⟩:=h;obtain⟨x,ea,e⟩:=bind_some e;obtain⟨y,eb,e⟩:=bind_some e;obtain⟨i,j,rfl,rfl,h0,h1,hs,hl,rfl⟩:=sO e;refine thn (c9 hX hg hm boot_range (r8 (cl:=cl) ha hb hn hn2 h3) (by decide) (by decide) (a5 _ hn) (dO (by simp[hn2,(gP (X:=X) h3).2])) pins s σ H (fun x H2=>∃ p,x=.ref p/\H2 p=some (mD p i j c)/\aq H H2) I ?_) ?_
 ·exact two rv ea eb fun v u H1 H2 s1 s2 rx ry _ _=>⟨i,j,c,.inr (.inr ⟨by rw[af rx,af ry],h0,h1⟩),fun p hp=>⟨p,rfl,aW,(s1.trans s2).trans (aq.bW hp)⟩⟩
 ·rintro v s1 ⟨x,H1,I1,r1,q,rfl,hq,sm⟩;cases r1;obtain⟨⟨t,u,v,hR⟩,_,_⟩:=I1.hok q _ hq;refine wpAny_pyIter_range hR hs ⟨s1.heap.objs.size,[s1.heap.objs.size],_,Its c i (RL.bp c i j),H1,rfl,I1.kept (t':=s1.toks) fun b o e=>Heap.get?_push_of_some _ e,vq _ c i _,?_,fun b hb=>?_,k _ _ sm ⟨qW,fun _ _ _ _ _=>qW⟩⟩
  ·have e1:i+((0:Nat):Int)*c=i:=by simp
   have e2:((RL.bp c i j:Nat):Int)-((0:Nat):Int)=Builtin.Range.rangeSize i j c:=by rw[ji];simp
   show IsRangeIter _ _ (i+((0:Nat):Int)*c) (((RL.bp c i j:Nat):Int)-((0:Nat):Int)) c;rw[e1,e2];exact Heap.get?_push_size _ rfl
  ·rw[show b=s1.heap.objs.size by simpa using hb];exact I1.m7 (Nat.le_refl _) (I1.hok.fresh (Nat.le_refl _))
def An(hl:SE X cl l e'):SI X cl tg l (.seq e'):=by
 refine PI.weak (Eb (cl:=cl) hl trivial) fun σ H R h=>?_;obtain⟨σD,ds,rv,e,k⟩:=h;obtain⟨d,e1,e2⟩:=bind_some e;exact⟨σD,d,ds,rv,e1,e2,k⟩
def Cu(ha:SE X cl a a'):SE X cl (.UnaryOp .USub a pos) (.neg a'):=by
 refine PE.weak (yF vd ha) fun σ H Q h=>?_;obtain⟨σD,d,rv,e,k⟩:=h;obtain⟨x,ea,e⟩:=bind_some e
 cases x with
 | int i=>cases e;exact⟨σD,_,rv,ea,fun v H1 r1=>⟨i,af r1.rep,k _ _ (cV r1.same aR rfl)⟩⟩
 | _=>cases e
def DO(hc:X.calm=true)(hg:Gl X "min")(hm:X.mg "min" = none)(ha:SE X cl a a')(hb:SE X cl b b')(hn:noStar a=true)(hn2:noStar b=true):SE X cl (.Call (.Name "min" p) [a,b] [] pos) (.min a' b'):=by
 refine PE.weak (kg (uZ hc) hg hm (by decide +kernel) (bh (cl:=cl) ha (bh hb cL hn2) hn) (by decide) (by decide) (a5 _ hn) (dO (by simp[hn2]))) fun σ H Q h=>?_;obtain⟨σD,d,rv,e,k⟩:=h;obtain⟨u,ea,e⟩:=bind_some e;obtain⟨v,eb,e⟩:=bind_some e
 cases u with
 |int i=>
  cases v with
  |int j=>
   cases e
   exact pair rv ea eb fun v u H1 s1 r1 r2=>⟨i,j,by rw[af r1,af r2],k _ _ (cV s1 aR rfl)⟩
  | _=>cases e
 | _=>cases e
end
abbrev mAt(mp:List Nat)(vs:List V):Addr->Prop:=fun a=>∃ p,p∈mp/\vs[p]?=some (.ref a)
structure Dc(K:PySem.W.Frag)(mp:List Nat)(ds:List RL.D)(vs:List V)(H:Hp):Prop where
 my:aa nP K H ds vs
 own:∀ p∈mp,∃ d a,ds[p]?=some d/\vs[p]?=some (.ref a)/\Own K H d (.ref a)
 sep:∀ p∈mp,∀ q∈mp,∀ a,vs[p]?=some (.ref a)->vs[q]?=some (.ref a)->p=q
 oth:∀ (q:Nat) d v,q∉mp->ds[q]?=some d->vs[q]?=some v->Rep (mAt mp vs) K H d v
structure FK(K:PySem.W.Frag)(mp:List Nat)(outs:List RL.D)(vs:List V)(H:Hp):Prop where
 len:outs.length=mp.length
 own:∀ (k p:Nat) o,mp[k]?=some p->outs[k]?=some o->∃ a,vs[p]?=some (.ref a)/\Own K H o (.ref a)
abbrev spM(K:PySem.W.Frag)(cl:RL.Cl)(mp:List Nat)(f:Nat):Sp:=fun vs H Q _=>∃ ds d outs,cl f ds=some (.tup (d::outs))/\Dc K mp ds vs H/\∀ v H',Off (mAt mp vs) H H'->Rep nP K H' d v->d.imm=true->FK K mp outs vs H'->Q v H'
abbrev oY(K:PySem.W.Frag)(cl:RL.Cl):RL.E->TE
 | .var j=>iP j
 | e=>tE K cl e
abbrev gp(K:PySem.W.Frag)(cl:RL.Cl):RL.Es->TA
 | .nil=>uj
 | .cons e es=>kA (oY K cl e) (gp K cl es)
abbrev cz(K:PySem.W.Frag)(M:List Nat)(σ:L2.St)(ps:List Nat)(H:Hp):Nat->RL.Es->List RL.D->List V->Prop
 | _,.nil,[],[]=>True
 | q,.cons e es,d::ds,v::vs=>Rep nP K H d v/\(if ps.contains q=true then ∃ j,e=.var j/\σ[j]?=some (some v)else Rep (aI M σ) K H d v)/\cz K M σ ps H (q+1) es ds vs
 | _,_,_,_=>False
section
variable{K:PySem.W.Frag}
def wd(e:RL.ev cl σD (.var j)=some d):σD[j]?=some (some d):=by
 exact slot_get e
def Cs(rv:RVm K M σD σ H)(r1:Res K σD σ H e' d v H1)(ok:RL.b0 M e' d=true):Rep (aI M σ) K H1 d v:=by
 unfold RL.b0 at ok;rw[Bool.or_eq_true,Bool.or_eq_true,Bool.and_eq_true]at ok;rcases ok with(q | ⟨q1,q2⟩) | q
 ·exact r1.rep.imm q
 ·have rp:=r1.rep;have fr:iL d=true->∀ a,v=.ref a->¬ aI M σ a:=fun m a z p=>rv.md a p (r1.fresh q2 m a z)
  cases d with
  | lst ds=>obtain⟨a,xs,e1,e0,e2,e3⟩:=a7 rp;rw[Rep];exact⟨a,xs,e1,fr rfl a e1,e2,e3.imm q1⟩
  | dK ks ds=>rw[Rep]at rp ⊢;obtain⟨a,xs,e1,e0,e2,el,e3⟩:=rp;exact⟨a,xs,e1,fr rfl a e1,e2,el,e3.imm q1⟩
  | dT ks ds=>rw[Rep]at rp ⊢;obtain⟨a,xs,e1,e0,e2,el,e3⟩:=rp;exact⟨a,xs,e1,fr rfl a e1,e2,el,e3.imm q1⟩
  | _=>cases q1
 ·refine r1.av M q _ rv.md fun j dj vj hj h1 h2=>?_;obtain⟨v',h3,h4⟩:=rv.val j dj h1;rw[h2]at h3;cases h3;rw[if_neg (by rw[hj];decide)]at h4;exact h4
def zN{e:RL.E}{d:RL.D}{ps:List Nat}(rv:RVm K M σD σ H)(he:RL.ev cl σD e=some d)(ok:(if ps.contains q=true then RL.isVar e else RL.b0 M e d)=true)
 (k:∀ v H1,aq H H1->Rep nP K H1 d v->(if ps.contains q=true then ∃ j,e=.var j/\σ[j]?=some (some v)else Rep (aI M σ) K H1 d v)->R v H1):oY K cl e σ H R:=by
 have other:oY K cl e=tE K cl e->ps.contains q=false->oY K cl e σ H R:=fun z hq=>by
  rw[z];rw[if_neg (by rw[hq];decide)]at ok;refine⟨σD,d,rv.rv0,he,fun v H1 r1=>k v H1 r1.same r1.rep ?_⟩;rw[if_neg (by rw[hq];decide)];exact Cs rv r1 ok
 cases e with
 |var j=>
  have hj:=wd he;obtain⟨v,h1,h2⟩:=rv.val j d hj;refine⟨v,h1,k v H (aq.refl H) ?_ ?_⟩
  ·obtain⟨v',h3,h4⟩:=rv.rv0.2 j d hj;rw[h1]at h3;cases h3;exact h4
  ·by_cases hq:ps.contains q=true
   ·rw[if_pos hq];exact⟨j,rfl,h1⟩
   ·rw[if_neg hq]at ok ⊢;by_cases hm:M.contains j=true
    ·rw[if_pos hm]at h2
     have im:d.imm=true:=by
      unfold RL.b0 at ok;rw[Bool.or_eq_true,Bool.or_eq_true,Bool.and_eq_true]at ok;rcases ok with(z | ⟨_,z⟩) | z
      ·exact z
      ·cases z
      ·rw[RL.DM,hm]at z;cases z
     exact h2.2.2.imm im
    ·rw[if_neg hm]at h2;exact h2
 |_=>
  refine other rfl ?_
  cases hq:ps.contains q with
  | false=>rfl
  |true=>
   rw[if_pos hq]at ok;cases ok
def qA:∀ {es:RL.Es} {q:Nat} {ds:List RL.D} {H:Hp} {R:List V->Hp->Prop},RVm K M σD σ H->RL.evs cl σD es=some ds->RL.cW M ps q es ds=true ->
  (∀ vs H1,aq H H1->cz K M σ ps H1 q es ds vs->R vs H1)->gp K cl es σ H R
 | .nil,q,ds,H,R,rv,he,ok,k=>by
  cases he;exact k [] H (aq.refl H) (by rw[cz];trivial)
 | .cons e es,q,ds,H,R,rv,he,ok,k=>by
  obtain⟨d,e1,he⟩:=bind_some he;obtain⟨ds',e2,e3⟩:=map_some he;subst e3;rw[RL.cW,Bool.and_eq_true]at ok;refine zN rv e1 ok.1 fun v H1 s1 r1 x1=>?_;refine qA (rv.same s1) e2 ok.2 fun vs H2 s2 r2=>k (v::vs) H2 (s1.trans s2) ?_;rw[cz];refine⟨r1.same s2,?_,r2⟩;by_cases hq:ps.contains q=true
  ·rw[if_pos hq]at x1 ⊢;exact x1
  ·rw[if_neg hq]at x1 ⊢;exact x1.same s2
abbrev j6:RL.Es->Nat->Option RL.E
 | .nil,_=>none
 | .cons e _,0=>some e
 | .cons _ es,n+1=>j6 es n
def cz.my:∀ {q:Nat} {es:RL.Es} {ds:List RL.D} {vs:List V},cz K M σ ps H q es ds vs->aa nP K H ds vs
 | _,.nil,[],[],h=>aa.nil
 | q,.cons e es,d::ds,v::vs,h=>by
  rw[cz]at h;exact aa.cons h.1 (cz.my h.2.2)
 | _,.nil,_::_,_,h=>by simp[cz]at h
 | _,.nil,[],_::_,h=>by simp[cz]at h
 | _,.cons _ _,[],_,h=>by simp[cz]at h
 | _,.cons _ _,_::_,[],h=>by simp[cz]at h
def cz.get:∀ {q:Nat} {es:RL.Es} {ds:List RL.D} {vs:List V} (n:Nat) {d:RL.D} {v:V},cz K M σ ps H q es ds vs->ds[n]?=some d->vs[n]?=some v ->
  Rep nP K H d v/\(if ps.contains (q+n)=true then ∃ j,j6 es n=some (.var j)/\σ[j]?=some (some v)else Rep (aI M σ) K H d v)
 | _,.nil,[],[],n,_,_,h,e,_=>by simp at e
 | q,.cons e es,d::ds,v::vs,0,_,_,h,e1,e2=>by
  simp at e1 e2;subst e1 e2;rw[cz]at h;refine⟨h.1,?_⟩;have h2:=h.2.1;rw[Nat.add_zero];by_cases hq:ps.contains q=true
  ·rw[if_pos hq]at h2 ⊢;obtain⟨j,z,y⟩:=h2;subst z;exact⟨j,rfl,y⟩
  ·rw[if_neg hq]at h2 ⊢;exact h2
 | q,.cons e es,d::ds,v::vs,n+1,_,_,h,e1,e2=>by
  rw[cz]at h;have:=cz.get n h.2.2 (by simpa using e1) (by simpa using e2);rw[show q+1+n=q+(n+1) by lia]at this;exact this
 | _,.nil,_::_,_,_,_,_,h,_,_=>by simp[cz]at h
 | _,.nil,[],_::_,_,_,_,h,_,_=>by simp[cz]at h
 | _,.cons _ _,[],_,_,_,_,h,_,_=>by simp[cz]at h
 | _,.cons _ _,_::_,[],_,_,_,h,_,_=>by simp[cz]at h
def Own.off(h:Own K H d (.ref a))(hm:∀ b o,P b->H b=some o->bZ o)(k:Off P H H1)(n:¬ P a):Own K H1 d (.ref a):=by
 obtain⟨q1,q2,q3⟩:=h;refine⟨q1,q2,?_⟩;have im:∀ {ds:List RL.D} {xs:List V},RL.ao ds=true->aa nP K H ds xs->aa nP K H1 ds xs:=fun hi r=>((r.imm hi).off hm k).imm hi
 cases d with
 | lst ds=>obtain⟨b',xs,e1,e0,e2,e3⟩:=a7 q3;cases e1;rw[Rep];exact⟨a,xs,rfl,fun z=>z,k _ _ n e2,im q2 e3⟩
 | dK ks ds=>rw[Rep]at q3 ⊢;obtain⟨b',xs,e1,e0,e2,el,e3⟩:=q3;cases e1;exact⟨a,xs,rfl,fun z=>z,k _ _ n e2,el,im q2 e3⟩
 | dT ks ds=>rw[Rep]at q3 ⊢;obtain⟨b',xs,e1,e0,e2,el,e3⟩:=q3;cases e1;exact⟨a,xs,rfl,fun z=>z,k _ _ n e2,el,im q2 e3⟩
 | _=>cases q1
def ma:∀ {ms:List Nat} {outs:List RL.D} {σD:RL.St} {k i:Nat} {o:RL.D},ms.Nodup->ms[k]?=some i->outs[k]?=some o->i<σD.length->(dF ms outs σD)[i]?=some (some o)
 | [],_,_,_,_,_,_,e,_,_=>by simp at e
 | m::ms,[],_,_,_,_,_,_,e,_=>by simp at e
 | m::ms,d::ds,σD,0,i,o,nd,e1,e2,hl=>by
  simp at e1 e2;subst e1 e2;rw[dF,jJ _ _ _ _ (by simpa using(List.nodup_cons.mp nd).1),List.getElem?_set_self hl]
 | m::ms,d::ds,σD,k+1,i,o,nd,e1,e2,hl=>by
  rw[dF];exact ma (List.nodup_cons.mp nd).2 (by simpa using e1) (by simpa using e2) (by simpa using hl)
def RVm.changed(h:RVm K M σD σ H)(hms:∀ i∈ms,M.contains i=true)(nd:ms.Nodup)(len:ms.length=outs.length)(k:Off (fun a=>∃ i∈ms,σ[i]?=some (some (.ref a))) H H1)
 (ow:∀ (k i:Nat) o,ms[k]?=some i->outs[k]?=some o->∃ a,σ[i]?=some (some (.ref a))/\Own K H1 o (.ref a)):RVm K M (dF ms outs σD) σ H1/\Fr' M σ H σ H1:=by
 have sub:∀ a,(∃ i∈ms,σ[i]?=some (some (.ref a)))->aI M σ a:=fun a ⟨i,hi,e⟩=>⟨i,hms i hi,e⟩
 have offA:Off (aI M σ) H H1:=fun b o n e=>k b o (fun z=>n (sub b z)) e
 have hmA:∀ b o,aI M σ b->H b=some o->bZ o:=fun b o p e=>by
  obtain⟨o',e',m⟩:=h.yy b p;rw[e]at e';cases e';exact m
 have at_:∀ i,i∈ms->∃ (kk:Nat) (o:RL.D),ms[kk]?=some i/\outs[kk]?=some o:=fun i hi=>by
  obtain⟨kk,hk,e⟩:=List.getElem_of_mem hi;exact⟨kk,outs[kk]'(by lia),by simp[hk,e],by simp⟩
 refine⟨⟨by rw[jV];exact h.len,fun i d e=>?_,fun i v e=>?_,h.sep⟩,⟨fun b o e n=>⟨offA b o n e,n⟩,fun _ _=>rfl⟩⟩
 ·by_cases hi:i∈ms
  ·obtain⟨kk,o,e1,e2⟩:=at_ i hi
   have hl:i<σD.length:=by
    have:=(List.getElem?_eq_some_iff.mp e).1;rw[jV]at this;exact this
   rw[ma nd e1 e2 hl]at e;cases e;obtain⟨a,q1,q2⟩:=ow kk i _ e1 e2;exact⟨.ref a,q1,by rw[if_pos (hms i hi)];exact q2⟩
  ·rw[jJ _ _ _ _ (by simpa using hi)]at e;obtain⟨v,h1,h2⟩:=h.val i d e;refine⟨v,h1,?_⟩;by_cases hm:M.contains i=true
   ·rw[if_pos hm]at h2 ⊢;obtain⟨a,o,rfl,_,_⟩:=h2.ref;refine h2.off (fun b o p e=>hmA b o (sub b p) e) k fun⟨j,hj,ej⟩=>?_;exact hi (h.sep i j a hm (hms j hj) h1 ej▸hj)
   ·rw[if_neg hm]at h2 ⊢;exact h2.off hmA offA
 ·obtain⟨d,hd⟩:=h.non i v e;by_cases hi:i∈ms
  ·obtain⟨kk,o,e1,e2⟩:=at_ i hi;exact⟨o,ma nd e1 e2 (List.getElem?_eq_some_iff.mp hd).1⟩
  ·exact⟨d,by rw[jJ _ _ _ _ (by simpa using hi)];exact hd⟩
end
section rules
variable{X:Cx}{st:Stmt}
abbrev bN(es:RL.Es):List Nat->List Nat->Bool
 | [],[]=>true
 | p::ps,m::ms=>(match j6 es p with | some (.var j)=>j == m | _=>false)&&bN es ps ms
 | _,_=>false
def jR:∀ {ps ms:List Nat} {k p:Nat},bN es ps ms=true->ps[k]?=some p->∃ m,ms[k]?=some m/\j6 es p=some (.var m)
 | [],_,_,_,_,e=>by simp at e
 | _::_,[],_,_,h,_=>by simp[bN]at h
 | p::ps,m::ms,0,q,h,e=>by
  rw[bN,Bool.and_eq_true]at h;simp at e;subst e;have h1:=h.1;split at h1
  ·rename_i j hj;rw[beq_iff_eq]at h1;subst h1;exact⟨j,rfl,hj⟩
  ·cases h1
 | p::ps,m::ms,k+1,q,h,e=>by
  rw[bN,Bool.and_eq_true]at h;obtain⟨m',h1,h2⟩:=jR (k:=k) h.2 (by simpa using e);exact⟨m',by simpa using h1,h2⟩
def gF:∀ {ps ms:List Nat},bN es ps ms=true->ps.length=ms.length
 | [],[],_=>rfl
 | [],_::_,h=>by simp[bN]at h
 | _::_,[],h=>by simp[bN]at h
 | p::ps,m::ms,h=>by
  rw[bN,Bool.and_eq_true]at h;rw[List.length_cons,List.length_cons,gF h.2]
def qD(rv:RVm X.K M σD σ H)(he:RL.evs cl σD es=some ds)(ok:RL.cW M ps 0 es ds=true)(hc:cl f ds=some (.tup (d::outs)))
 (hs:bN es ps ms=true)(hms:∀ i∈ms,M.contains i=true)(nd:ms.Nodup)(ndp:ps.Nodup)(hset:RL.aN ms outs σD=some σ1)
 (k:∀ v H',Rep nP X.K H' d v->d.imm=true->RVm X.K M σ1 σ H'->Fr' M σ H σ H'->Q v H'):lA (spM X.K cl ps f) [] E0 (gp X.K cl es) σ H Q:=by
 refine qA rv he ok fun vs H1 s1 ar=>?_;show spM X.K cl ps f (vs++[]) H1 Q E0;rw[List.append_nil];have rv1:=rv.same s1;have rps:=ar.my;obtain⟨hlen,hσ1⟩:=fh hset;subst hσ1
 have adr:∀ (k p:Nat),ps[k]?=some p->∃ m a d',ms[k]?=some m/\σ[m]?=some (some (.ref a))/\vs[p]?=some (.ref a)/\ds[p]?=some d'/\Own X.K H1 d' (.ref a)/\j6 es p=some (.var m):=by
  intro k p hk;obtain⟨m,h1,h2⟩:=jR hs hk
  have evg:∀ (es:RL.Es) (ds:List RL.D) (n:Nat) (e:RL.E),RL.evs cl σD es=some ds->j6 es n=some e->∃ d',ds[n]?=some d'/\RL.ev cl σD e=some d':=by
   intro es
   induction es using RL.Es.rec (motive_1:=fun _=>True) (motive_3:=fun _=>True)with
   | nil=>intro ds n e _ z;cases z
   |cons e0 es0 _ ih=>
    intro ds n e h z;obtain⟨d0,y1,h⟩:=bind_some h;obtain⟨ds0,y2,y3⟩:=map_some h;subst y3
    cases n with
    | zero=>cases z;exact⟨d0,rfl,y1⟩
    | succ n=>exact ih ds0 n e y2 z
   | _=>trivial
  obtain⟨d',g1,g2⟩:=evg es ds p _ he h2;obtain⟨v,g3,g4⟩:=rps.get g1
  have hpc:ps.contains (0+p)=true:=by
   rw[Nat.zero_add];simpa using List.mem_of_getElem? hk
  have g5:=(ar.get p g1 g3).2;rw[if_pos hpc]at g5;obtain⟨j,z1,z2⟩:=g5;rw[h2]at z1;cases z1;have hm:M.contains m=true:=hms m (List.mem_of_getElem? h1);obtain⟨v',z3,z4⟩:=rv1.val m d' (wd g2);rw[z2]at z3;cases z3;rw[if_pos hm]at z4;obtain⟨a,o,rfl,_,_⟩:=z4.ref;exact⟨m,a,d',h1,z2,g3,g1,z4,h2⟩
 have adr':∀ a,mAt ps vs a->∃ i∈ms,σ[i]?=some (some (.ref a)):=fun a ⟨p,hp,e⟩=>by
  obtain⟨k,hk,z⟩:=List.getElem_of_mem hp;obtain⟨m,a',d',h1,h2,h3,_⟩:=adr k p (by simp[hk,z]);rw[e]at h3;cases h3;exact⟨m,List.mem_of_getElem? h1,h2⟩
 refine⟨ds,d,outs,hc,⟨rps,fun p hp=>?_,fun p hp q hq a e1 e2=>?_,fun q dq v hq e1 e2=>?_⟩,fun v H' off rp im mo=>?_⟩
 ·obtain⟨k,hk,z⟩:=List.getElem_of_mem hp;obtain⟨m,a',d',h1,h2,h3,h4,h5,_⟩:=adr k p (by simp[hk,z]);exact⟨d',a',h4,h3,h5⟩
 ·obtain⟨k,hk,z⟩:=List.getElem_of_mem hp;obtain⟨l,hl,y⟩:=List.getElem_of_mem hq
  have gk:ps[k]?=some p:=by simp[hk,z]
  have gl:ps[l]?=some q:=by simp[hl,y]
  obtain⟨m,a1,d1,h1,h2,h3,_⟩:=adr k p gk;obtain⟨m',a2,d2,h1',h2',h3',_⟩:=adr l q gl;rw[e1]at h3;cases h3;rw[e2]at h3';cases h3';have hmm:=rv1.sep m m' a (hms m (List.mem_of_getElem? h1)) (hms m' (List.mem_of_getElem? h1')) h2 h2';subst hmm;have hkl:k=l:=(List.getElem?_inj (by rw[<-gF hs];exact hk) nd).mp (by rw[h1,h1']);subst hkl;rw[gk]at gl;exact Option.some.inj gl
 ·have hpc:ps.contains (0+q)=false:=by
   rw[Nat.zero_add];simpa using hq
  have g5:=(ar.get q e1 e2).2;rw[if_neg (by rw[hpc];decide)]at g5
  exact g5.weak fun a ha=>by
   obtain⟨i,hi,e⟩:=adr' a ha;exact⟨i,hms i hi,e⟩
 ·obtain⟨g1,g2⟩:=rv1.changed (outs:=outs) (H1:=H') hms nd hlen (fun b o n e=>off b o (fun z=>n (adr' b z)) e) fun k i o hk ho=>by
   have hkl:k<ps.length:=by
    rw[gF hs];exact(List.getElem?_eq_some_iff.mp hk).1
   obtain⟨m,a1,d1,h1,h2,h3,_⟩:=adr k ps[k] (by simp[hkl]);rw[hk]at h1;cases h1;obtain⟨a,q1,q2⟩:=mo.own k ps[k] o (by simp[hkl]) ho;rw[q1]at h3;cases h3;exact⟨_,h2,q2⟩
  exact k v H' rp im g1 ((Fr'.same s1).trans g2)
def zW(h:PS X st (oq (lA (spM X.K cl ps f) [] E0 (gp X.K cl es))))(hs:bN es ps ms=true)(hms:∀ i∈ms,M.contains i=true)(nd:ms.Nodup)(ndp:ps.Nodup):SS X cl M st (.mexc f es ps ms):=by
 refine PS.weak h fun D σ H h=>?_;obtain⟨σD,o,σD',rv,e,k⟩:=h;obtain⟨ds,e1,e⟩:=bind_some e;split at e
 ·rename_i ok;obtain⟨r,e2,e⟩:=bind_some e;split at e
  ·rename_i d outs;obtain⟨σ1,e3,e4⟩:=map_some e;cases e4;exact qD rv e1 ok e2 hs hms nd ndp e3 fun v H' _ _ rv' fr'=>k _ _ rv' fr'
  ·cases e
 ·cases e
def Az(h:PS X st (DX i (lA (spM X.K cl ps f) [] E0 (gp X.K cl es)) (ipI fun a b=>a+b)))(hi:M.contains i=false)(hs:bN es ps ms=true)(hms:∀ i∈ms,M.contains i=true)(nd:ms.Nodup)(ndp:ps.Nodup):SS X cl M st (.maug i f es ps ms):=by
 refine PS.weak h fun D σ H h=>?_;obtain⟨σD,o,σD',rv,e,k⟩:=h;obtain⟨x,e0,e⟩:=bind_some e;obtain⟨ds,e1,e⟩:=bind_some e;split at e
 ·rename_i ok;obtain⟨r,e2,e⟩:=bind_some e;split at e
  ·rename_i y outs
   cases x with
   |int a=>
     cases y with
     |int b=>
    obtain⟨σ1,e3,e4⟩:=map_some e;cases e4;obtain⟨v,h1,h2⟩:=rv.val i _ (slot_get e0);rw[if_neg (by rw[hi];decide)]at h2;refine⟨v,h1,qD rv e1 ok e2 hs hms nd ndp e3 fun u H' rp _ rv' fr'=>⟨a,b,af h2,af rp,?_⟩⟩
    exact k _ _ (rv'.bind hi aR) (fr'.trans (Fr'.bind hi (aq.refl _)))
     | _=>cases e
   | _=>cases e
  ·cases e
 ·cases e
end rules
end RS
namespace L2
open PySem PySem.Spec PyProof.Rows
abbrev iQ(A:Around)(h:Heap):Prop:=A.handled=none\/∃ x o vs,A.handled=some (.ref x)/\h.get? x=some o/\o.data=.fields vs/\vs[2]?=some .none
def iQ.keeps(x:iQ A h)(k:∀ b o vs,h.get? b=some o->o.data=.fields vs->A.handled=some (.ref b)->h'.get? b=some o):iQ A h':=by
 rcases x with z | ⟨y,o,vs,h1,h2,h3,h4⟩
 ·exact .inl z
 ·exact .inr ⟨y,o,vs,h1,k _ _ _ h2 h3 h1,h3,h4⟩
section
def nM:entryFor table "proto.unchain" = some Builtin.«proto.unchain»:=entryFor_of_tree (by kernel_rfl)
def ym(hd:iQ A s.heap)(he:s.heap.get? e=some oe)(hf:oe.data=.fields vs)(hz:2<vs.size)(ne:A.handled≠some (.ref e))
 (k:∀ h',Heap.SameBut e s.heap h'->(∃ o,h'.get? e=some o/\o.cls=oe.cls)->E (.ref e) { s with heap:=h' }):wpAny (model prog w) A (raiseNew (.ref e):Sem α) Q E s:=by
 unfold raiseNew;refine wpAny_bind (wpAny_handled ?_)
 rcases hd with z | ⟨x,o,ws,h1,h2,h3,h4⟩
 ·rw[z];exact wpAny_bind (wpAny_pure (wpAny_throw (k s.heap (.refl ..) ⟨oe,he,rfl⟩)))
 ·rw[h1]
  have nx:(Value.ref x != Value.ref e)=true:=by
   rw[bne_iff_ne];intro q;exact ne (by rw[h1,q])
  dsimp only;rw[if_pos nx];refine wpAny_bind (wpAny_holding (wpAny_runValue (codeAny_builtin nM ?_)));unfold Builtin.«proto.unchain»;refine wpAny_bind (wpAny_field h2 h3 h4 ?_);rw[if_pos (by decide)];refine wpAny_bind (wpAny_pure (wpAny_pure ?_));show wpAny _ _ _ _ _ _;refine wpAny_bind ?_;show wpAny _ _ (setField (.ref e) 2 (.ref x)) _ _ _;refine wpAny_setField he hf hz (wpAny_throw (k _ (.update ..) ⟨_,Heap.get?_update_self _ he (Obj.isFreed_of_fields (Obj.data_mapFields hf _)),Obj.cls_mapFields ..⟩))
def sf(hd:iQ A s.heap)(k:∀ h' e,(∀ b o,s.heap.get? b=some o->h'.get? b=some o)->(∃ o,h'.get? e=some o/\o.cls=.type "StopIteration")->E (.ref e) { s with heap:=h' }) :
  wpAny (model prog w) A (newExc (.type "StopIteration") []) (fun e s'=>wpAny (model prog w) A (raiseNew e:Sem α) Q E s') E s:=by
 simp only[newExc,newTuple];apply wpAny_bind;refine wpAny_newObj_type ?_ (by size_fits);apply wpAny_bind (m:=firstArgMember _ _);refine wpAny_of_eq (a:=Value.none) (by first | rfl | (simp only[firstArgMember];rfl)) ?_;refine wpAny_newObj_type ?_ (by size_fits);have hs:∀ b o,s.heap.get? b=some o->b≠(s.heap.push { cls:=.type "tuple",data:=.seq ([]:List Value).toArray }).objs.size:=fun b o e=>Nat.ne_of_lt (by rw[Heap.size_push];exact Nat.lt_succ_of_lt (Heap.lt_size e));refine ym (hd.keeps fun b o vs e _ _=>Heap.get?_push_of_some _ (Heap.get?_push_of_some _ e)) (Heap.get?_push_size _ rfl) rfl (Nat.lt_of_lt_of_le (by decide:2<6) (by simp)) (fun q=>?_) fun h' sb ho=>k h' _ (fun b o e=>(sb.2 b (hs b o e)).trans (Heap.get?_push_of_some _ (Heap.get?_push_of_some _ e))) ho
 rcases hd with z | ⟨x,o,ws,h1,h2,_,_⟩
 ·rw[z]at q;cases q
 ·rw[h1]at q;cases q;exact hs _ _ h2 rfl
def nO{it l:Addr}{i:Nat}(hd:iQ A s.heap)(ni:A.handled≠some (.ref it))(ho:s.heap.get? it=some o)(hdt:o.data=.fields #[.ref l,.int i 0])(hol:s.heap.get? l=some ol)(hdl:ol.data=.seq its nl)(hx:its[i]?=none)
 (k:∀ h' e,Heap.ExtBut it s.heap h'->(∃ o,h'.get? e=some o/\o.cls=.type "StopIteration")->E (.ref e) { s with heap:=h' }):wpAny (model prog w) A (Builtin.«list_iterator.__next__» ⟨[.ref it],[]⟩) Q E s:=by
 have n0:¬ ((Value.ref l == Value.none)=true):=Bool.false_ne_true;refine show wpAny _ _ (field (.ref it) 0 >>= _) _ _ s from wpAny_bind (wpAny_field ho hdt (x:=.ref l) rfl ?_);refine show wpAny _ _ (if(Value.ref l == Value.none)=true then _ else _) _ _ s from ?_;rw[if_neg n0];refine show wpAny _ _ (field (.ref it) 1 >>= _) _ _ s from wpAny_bind (wpAny_field ho hdt (x:=.int i 0) rfl ?_);refine show wpAny _ _ (seqItems? (.ref l) >>= _) _ _ s from wpAny_bind (wpAny_seqItems hol hdl ?_);simp only[Int.toNat_natCast,hx];refine wpAny_bind (wpAny_rule (wpAny_bind (wpAny_setField ho hdt (by simp) ?_)));refine show wpAny _ _ (newExc (.type "StopIteration") [] >>= _) _ _ _ from wpAny_bind ?_;have sb:=Heap.SameBut.update s.heap it (Obj.mapFields (·.setIfInBounds 0 Value.none));refine sf (hd.keeps fun b u vs e _ hb=>(sb.2 b fun z=>ni (z▸hb)).trans e) fun h' e kk he=>k h' e (fun b u hb q=>kk b u ((sb.2 b hb).trans q)) he
def nF{it l:Addr}{i:Nat}(hd:iQ A s.heap)(ni:A.handled≠some (.ref it))(hit:s.heap.IsListIter it l i)(hl:s.heap.IsList l its)(hx:its[i]?=none)
 (k:∀ h' e,Heap.ExtBut it s.heap h'->(∃ o,h'.get? e=some o/\o.cls=.type "StopIteration")->E (.ref e) { s with heap:=h' }):wpAny (model prog w) A (Builtin.SmallTypes.nextOf (.ref it)) Q E s:=by
 obtain⟨o,ho,hc,hdt⟩:=id hit;obtain⟨ol,hol,_,nl,hdl⟩:=hl;unfold Builtin.SmallTypes.nextOf;apply wpAny_bind;apply wpAny_callSpecial?_slot (name:=Str.ofString "__next__") hit.typeIs slot_listiter_next;refine wpAny_call_entry slot_listiter_next hit.typeIs entry_listiter_next ?_ (args_listiter_next _);exact nO hd ni ho hdt hol hdl hx k
end
section
def pI(hi:z.heap.IsTupleIter ti tp i)(ht:z.heap.IsTuple tp its)(hx:its[i]?=some x)
 (k:∀ g,g.IsTupleIter ti tp (i+1)->Heap.SameBut ti z.heap g->Q x { z with heap:=g }):wpAny (model prog w) A (Builtin.SmallTypes.nextOf (.ref ti)) Q E z:=by
 have hty:=hi.typeIs;obtain⟨⟨c1,d1,f1,s1⟩,g1,c1',f1'⟩:=hi;obtain⟨⟨c2,d2,f2,s2⟩,g2,c2',n2,f2'⟩:=ht;dsimp only at c1' f1' c2' f2';subst c1' f1' c2' f2';obtain⟨hp,g,d,tk,os⟩:=z;unfold Builtin.SmallTypes.nextOf;refine wpAny_bind (wpAny_callSpecial?_slot (name:=Str.ofString "__next__") hty F.slot_tuple_iterator_next (wpAny_call_entry F.slot_tuple_iterator_next hty F.entry_tuple_iterator_next ?_ (F.args_tuple_iterator_next_1 _)));unfold Builtin.«tuple_iterator.__next__»
 wp_walk using AutoSeq1.wpAny_loadPart' g1,AutoSeq1.wpAny_loadPart' g2
 have e:its[((i:Nat):Int).toNat]?=some x:=hx;rw[e];dsimp only;apply wpAny_bind;apply wpAny_setField g1 rfl (by simp);apply wpAny_pure;refine⟨x,rfl,?_⟩;apply wpAny_pure;apply k
 ·exact⟨_,Heap.get?_update_self _ g1 rfl,rfl,by simp[Obj.mapFields,rawInt]⟩
 ·exact Heap.SameBut.update ..
def rM(hd:iQ A z.heap)(ni:A.handled≠some (.ref ti))(hi:z.heap.IsTupleIter ti tp i)(ht:z.heap.IsTuple tp its)(hx:its[i]?=none)
 (k:∀ g e,Heap.ExtBut ti z.heap g->(∃ o,g.get? e=some o/\o.cls=.type "StopIteration")->E (.ref e) { z with heap:=g }):wpAny (model prog w) A (Builtin.SmallTypes.nextOf (.ref ti)) Q E z:=by
 have hty:=hi.typeIs;obtain⟨⟨c1,d1,f1,s1⟩,g1,c1',f1'⟩:=hi;obtain⟨⟨c2,d2,f2,s2⟩,g2,c2',n2,f2'⟩:=ht;dsimp only at c1' f1' c2' f2';subst c1' f1' c2' f2';obtain⟨hp,g,d,tk,os⟩:=z;unfold Builtin.SmallTypes.nextOf;refine wpAny_bind (wpAny_callSpecial?_slot (name:=Str.ofString "__next__") hty F.slot_tuple_iterator_next (wpAny_call_entry F.slot_tuple_iterator_next hty F.entry_tuple_iterator_next ?_ (F.args_tuple_iterator_next_1 _)));unfold Builtin.«tuple_iterator.__next__»
 wp_walk using AutoSeq1.wpAny_loadPart' g1,AutoSeq1.wpAny_loadPart' g2
 have e:its[((i:Nat):Int).toNat]?=none:=hx;rw[e];dsimp only;apply wpAny_bind;apply wpAny_rule;apply wpAny_bind;apply wpAny_setField g1 rfl (by simp);unfold Builtin.SmallTypes.stopIteration;apply wpAny_bind;refine sf (hd.keeps fun b u vs e _ hb=>(Heap.SameBut.update ..).extBut b u (fun z=>ni (z▸hb)) e) fun g e kp hc=>k g e (fun b o hb q=>kp b o ?_) hc;exact(Heap.SameBut.update ..).extBut b o hb q
def nU(h:wpAny (model prog w) A m S (fun _ _=>False) z)(k:∀ a z1,S a z1->Q a z1):wpAny (model prog w) A m Q E z:=wpAny_mono h k fun _ _ f=>f.elim
def wg(h:∀ b,Q b z):wpAny (model prog w) A (pure b) Q E z:=wpAny_pure (h b)
def yj{x:Value}{S:Addr->Shared->Prop}(hx:∀ A:Around,wpAny (model prog w) A (pyIter x) (fun v z1=>∃ it,v=.ref it/\S it z1) (fun _ _=>False) z)
 (k:∀ it z1,S it z1->Q (.ref z1.heap.objs.size) { z1 with heap:=z1.heap.push { cls:=.type "enumerate",data:=.fields #[.none,.bool false,.ref it,rawInt 0,.none,.none] } }):wpAny (model prog w) A (call (.type "enumerate") [x]) Q E z:=by
 have body:MeetsIn prog w (Builtin.«enumerate.__new__» ⟨[.type "enumerate",x],[]⟩) (fun A R s=>s=z/\∀ it z1,S it z1->R (.ok (.ret (.ref z1.heap.objs.size))) { z1 with heap:=z1.heap.push { cls:=.type "enumerate",data:=.fields #[.none,.bool false,.ref it,rawInt 0,.none,.none] } }):=by
  rintro A R s ⟨rfl,hR⟩;have hsub:=sub_enumerate;have iter:=hx A.in1;obtain⟨hp,g,d,tk,os⟩:=s
  wp_walk
  refine wpAny_stack_any fun st=>wg fun b=>?_
  have done:∀ it z1,S it z1->wpAny (model prog w) A.in1 (do let r <- Builtin.SmallTypes.newRecord (.type "enumerate") (Builtin.SmallTypes.ownedTupleFields++[.ref it,rawInt 0,.none,.none]);ret r)
    (fun fin s'=>match fin with | .done f=>R (.ok f) s' | .again c'=>c'.quiet=true/\codeAny (model prog w) A c' R s') (fun e s'=>R (.error e) s') z1:=by
   intro it z1 h1;have:=hR it z1 h1;obtain⟨hp1,gg1,dd1,tk1,os1⟩:=z1
   wp_walk
   exact this
  cases b
  ·wp_walk using nU iter
   rintro _ z1 ⟨it,rfl,h1⟩;exact done it z1 h1
  ·wp_walk using nU iter
   rintro _ z1 ⟨it,rfl,h1⟩;exact done it z1 h1
 refine callType_newIn F.called_enumerate (by decide) (F.typeCall_enumerate_1 _) (F.newCall_enumerate_1 _) (fun obj=>F.args_object_init_2 obj _) F.entry_enumerate_new body ⟨rfl,fun it z1 h=>?_⟩;exact⟨⟨_,Heap.get?_push_size _ rfl,rfl⟩,k it z1 h⟩
def oX:jm prog w where
 draws:=fun hh ti tp hne its=>{
  live:=fun i h st=>let ⟨o,e,_⟩:=st.1;⟨o,e⟩
  frame:=fun i h h' st kp=>by
   obtain⟨⟨o1,e1,r1⟩,⟨o2,e2,r2⟩⟩:=st;exact⟨⟨o1,kp ti (by simp) _ e1,r1⟩,⟨o2,kp tp (by simp) _ e2,r2⟩⟩
  item:=fun i s Q E hi st k=>by
   refine pI st.1 st.2 (x:=its[i]) (by simp[hi]) fun g h1 h2=>k its[i] g s.toks (by simp[hi]) ⟨h1,st.2.extBut h2.extBut hne⟩ h2
  done:=fun s Q E st k=>rM (.inl hh) (by rw[hh];exact fun z=>nomatch z) st.1 st.2 (by simp) fun g e h1 h2=>k g e h1 h2 }
 call:=fun {A E z tp its Q} ht k=>by
  refine yj (S:=fun it z1=>it=z.heap.objs.size/\z1={ z with heap:=z.heap.push { cls:=.type "tuple_iterator",data:=.fields #[.ref tp,rawInt 0] } }) (fun A=>wpAny_pyIter_tuple ht ⟨_,rfl,rfl,rfl⟩) ?_;rintro it z1 ⟨rfl,rfl⟩;have hz:(z.heap.push { cls:=.type "tuple_iterator",data:=.fields #[.ref tp,rawInt 0] }).objs.size=z.heap.objs.size+1:=Heap.size_push ..;dsimp only;rw[hz];refine k _ ?_ ⟨_,Heap.get?_push_of_some _ (Heap.get?_push_size _ rfl),rfl,rfl⟩ fun b o e=>Heap.get?_push_of_some _ (Heap.get?_push_of_some _ e);have:=Heap.get?_push_size (z.heap.push { cls:=.type "tuple_iterator",data:=.fields #[.ref tp,rawInt 0] }) (o:={ cls:=.type "enumerate",data:=.fields #[.none,.bool false,.ref z.heap.objs.size,rawInt 0,.none,.none] }) rfl;rw[hz]at this;exact this
end
end L2
namespace RS
open PySem PySem.Spec PyProof.Rows L2
section
variable{X:Cx}
def rW:∀ {bs:List Bool} {us:List Value},Vals (bs.map V.bl) us->us=bs.map Value.bool
 | [],_,h=>by cases h;rfl
 | b::bs,_,h=>by
  cases h with
  |cons r t=>
   cases r;rw[rW t];rfl
def xV{A:Around}{bs:List Bool}:TruthOf X.prog X.w A (fun i v=>(bs.map Value.bool).toArray[i]?=some v) (fun i=>bs.getD i false):=by
 intro i v s Q E hP q
 have hP':(bs.map Value.bool)[i]?=some v:=by simpa using hP
 rw[List.getElem?_map]at hP';obtain⟨b,h1,h2⟩:=map_some hP';subst h2
 have:bs.getD i false=b:=by rw[List.getD_eq_getElem?_getD,h1];rfl
 have q':Q b s:=this▸q;exact wpAny_truthy_bool q'
def range_all(bs:List Bool):(List.range bs.length).all (fun i=>bs.getD i false)=bs.all id:=by
 have:bs=(List.range bs.length).map fun i=>bs.getD i false:=by
  apply List.ext_getElem
  ·simp
  ·intro i h1 h2;simp[List.getD_eq_getElem?_getD,h1]
 conv=>rhs;rw[this]
 rw[List.all_map];rfl
abbrev DF(f:List Bool->Bool):List V->Hp->VK->Prop:=fun xs H Q=>∃ p bs,xs=[.ref p]/\H p=some (.lst (bs.map V.bl))/\Q (.bl (f bs)) H
def xA(hc:X.calm=true):bA X (.builtin "all") (DF fun bs=>bs.all id):=by
 intro pins s σ H xs us Q I r h;obtain⟨p,bs,rfl,hp,q⟩:=h
 cases r with
 |cons r rr=>
  cases rr;cases r;obtain⟨its,rv,hl,hz⟩:=I.list (SqL.of hp);have hits:=rW rv;subst hits
  have hlt:p<s.heap.objs.size:=by obtain⟨o,ho,_⟩:=hl.isList;exact Heap.lt_size ho
  refine call_all_walk (wpAny_pyIter_list hl.isList ?_);refine⟨s.heap.objs.size,_,[s.heap.objs.size],_,_,_,_,rfl,Walks.list (A:=X.A.in1) (I.ok.hd.1 hc) s.heap.objs.size p (Nat.ne_of_lt hlt) (bs.map Value.bool).toArray,⟨⟨_,Heap.get?_push_size _ rfl,rfl,rfl⟩,hl.isList.push _⟩,xV,fun h' tk hk=>?_⟩;refine⟨.bl (bs.all id),H,I.kept (t':=tk) (fun b o e=>hk b o (fun z=>?_) (Heap.get?_push_of_some _ e)),?_,q⟩
  ·rw[List.mem_singleton.mp z]at e;exact absurd (Heap.lt_size e) (Nat.lt_irrefl _)
  ·have:=range_all bs;show Value.bool _=Value.bool _;rw[<-this];simp
def pL{P:Addr->Prop}{K:PySem.W.Frag}:∀ {ds:List RL.D} {bs:List Bool} {xs:List V},RL.cI ds=some bs->aa P K H ds xs->xs=bs.map V.bl
 | [],bs,xs,h,r=>by rw[RL.cI]at h;cases h;rw[aa]at r;exact r
 | d::ds,bs,xs,h,r=>by
  cases d<;>simp only[RL.cI]at h<;>first | (cases h;done) | skip
  rename_i b;obtain⟨bs',h1,h2⟩:=map_some h;subst h2;rw[aa]at r;obtain⟨x,t,rfl,r1,r2⟩:=r;rw[aL r1,pL h1 r2];rfl
def B0(hc:X.calm=true)(hg:Gl X "all")(hm:X.mg "all" = none)(ha:SE X cl a a')(hn:noStar a=true):SE X cl (.Call (.Name "all" p) [a] [] pos) (.bi .all a'):=by
 refine je (xA hc) hg hm (by decide +kernel) ha hn (by decide) (by decide) fun σD σ H H1 y d v Q e s1 r1 k=>?_
 cases y<;>first | (cases e;done) | skip
 case lst ds =>
  obtain⟨bs,e1,e2⟩:=map_some e;subst e2;obtain⟨q,xs,rfl,_,f2,f3⟩:=a7 r1;rw[pL e1 f3]at f2;exact⟨q,bs,rfl,f2,k _ _ (cV s1 qE rfl)⟩
def AL(hg:Gl X "enumerate")(hm:X.mg "enumerate" = none)(ha:SE X cl a a')(hn:noStar a=true):SI X cl (.Tuple elts kx tp) (.Call (.Name "enumerate" p) [a] [] pos) (.enm a'):=Bt oX hg hm ha hn
def DP(hl:PE X l (Dy X.K "list" CL (iP i)))(he:SE X cl e e')(ha:SSs X cl M A A')(hb:SSs X cl M B B')(hi:M.contains i=true):SS X cl M (.If (.Compare l [.NotEq] [e] pos) A B pos2) (.ifp i e' A' B'):=by
 refine PS.weak (yS (me EV hl he (qg _ (by decide) (by decide))) ha hb) fun D σ H h=>?_;obtain⟨σD,o,σD',rv,ev,k⟩:=h;obtain⟨l,e3,ev⟩:=bind_some ev
 cases l with
 |lst ds=>
  obtain⟨d,e4,ev⟩:=bind_some ev;obtain⟨y,e5,ev⟩:=bind_some ev;obtain⟨v,h1,h2⟩:=rv.val i _ (slot_get e3);rw[if_pos hi]at h2;obtain⟨q1,q2,q3⟩:=h2;obtain⟨a,xs,rfl,_,f2,f3⟩:=a7 q3;obtain⟨u,f4,f5⟩:=f3.get e4;have im:=sx q2;obtain⟨g1,g2⟩:=rv.iU (d':=.lst ds.dropLast) (o':=.lst xs.dropLast) hi h1 f2 (.inl ⟨_,rfl⟩) (rZ (ds:=ds) f2 im f3.dropLast)
  cases d with
  |int m=>
   cases y with
   |int n=>
    refine⟨.ref a,h1,.inl ⟨rfl,xs,SqL.of f2⟩,a,xs,u,rfl,rfl,f2,by rw[<-f3.length];exact f4,?_⟩;refine⟨_,_,g1.rv0,e5,fun w H1 r1=>?_⟩;rw[af f5,af r1.rep];have k1:=k.from (g2.trans (Fr'.same (σ:=σ) r1.same));refine⟨rfl,_,rfl,?_⟩;dsimp only at ev;by_cases hmn:m=n
    ·rw[if_pos (by simpa using hmn)]at ev
     have hd:(!decide (V.int m=V.int n))=false:=by rw[hmn];simp
     rw[hd];exact f7 ⟨_,o,σD',g1.same r1.same,ev,k1⟩
    ·rw[if_neg (by simpa using hmn)]at ev
     have hd:(!decide (V.int m=V.int n))=true:=by
      have:V.int m≠V.int n:=fun z=>hmn (by injection z);simp[this]
     rw[hd];exact eJ ⟨_,o,σD',g1.same r1.same,ev,k1⟩
   | _=>cases ev
  | _=>cases ev
 | _=>cases ev
end
end RS
namespace L2
open PySem PySem.Spec PyProof.Rows
section
variable{prog:Program}{w:World}{A:Around}{E:Value->Shared->Prop}
def zV{x y:Value}{S1:Addr->Shared->Prop}{S2:Addr->Addr->Shared->Prop}{z:Shared}{Q:Value->Shared->Prop}(hx:∀ A:Around,wpAny (model prog w) A (pyIter x) (fun v z1=>∃ it,v=.ref it/\S1 it z1) (fun _ _=>False) z)
 (hy:∀ it z1,S1 it z1->∀ A:Around,wpAny (model prog w) A (pyIter y) (fun v z2=>∃ jt,v=.ref jt/\S2 it jt z2) (fun _ _=>False) z1)
 (k:∀ it jt z2,S2 it jt z2->Q (.ref (((z2.heap.push { cls:=.type "tuple",data:=.seq #[.ref it,.ref jt] }).push { cls:=.type "tuple",data:=.seq #[.none,.none] })).objs.size)
   { z2 with heap:=((z2.heap.push { cls:=.type "tuple",data:=.seq #[.ref it,.ref jt] }).push { cls:=.type "tuple",data:=.seq #[.none,.none] }).push { cls:=.type "zip",data:=.fields #[.none,.bool false,.bool false,.ref z2.heap.objs.size,.ref (z2.heap.push { cls:=.type "tuple",data:=.seq #[.ref it,.ref jt] }).objs.size] } }) :
  wpAny (model prog w) A (call (.type "zip") [x,y]) Q E z:=by
 have body:MeetsIn prog w (Builtin.«zip.__new__» ⟨[.type "zip",x,y],[]⟩) (fun A R s=>s=z/\∀ it jt z2,S2 it jt z2->R (.ok (.ret (.ref (((z2.heap.push { cls:=.type "tuple",data:=.seq #[.ref it,.ref jt] }).push { cls:=.type "tuple",data:=.seq #[.none,.none] })).objs.size)))
   { z2 with heap:=((z2.heap.push { cls:=.type "tuple",data:=.seq #[.ref it,.ref jt] }).push { cls:=.type "tuple",data:=.seq #[.none,.none] }).push { cls:=.type "zip",data:=.fields #[.none,.bool false,.bool false,.ref z2.heap.objs.size,.ref (z2.heap.push { cls:=.type "tuple",data:=.seq #[.ref it,.ref jt] }).objs.size] } }):=by
  rintro A R s ⟨rfl,hR⟩;have hsub:=sub_zip;have iter:=hx A.in1;obtain⟨hp,g,d,tk,os⟩:=s
  wp_walk using nU iter
  rintro _ z1 ⟨it,rfl,h1⟩;have iter2:=hy it z1 h1 A.in1;obtain⟨hp1,gg1,dd1,tk1,os1⟩:=z1
  wp_walk using nU iter2
  rintro _ z2 ⟨jt,rfl,h2⟩;have fin:=hR it jt z2 h2;obtain⟨hp2,gg2,dd2,tk2,os2⟩:=z2
  wp_walk
  exact fin
 refine callType_newIn F.called_zip (by decide) (F.typeCall_zip_2 _ _) (F.newCall_zip_2 _ _) (fun obj=>F.args_object_init_3 obj _ _) F.entry_zip_new body ⟨rfl,fun it jt z2 h=>?_⟩;exact⟨⟨_,Heap.get?_push_size _ rfl,rfl⟩,k it jt z2 h⟩
structure gI(z TI TO i1 i2:Addr)(fp1 fp2:List Addr):Prop where
 zTI:TI≠z
 zTO:TO≠z
 TT:TI≠TO
 i1z:i1≠z
 i2z:i2≠z
 Gq:i1≠TO
 Ge:i2≠TO
 i12:i1≠i2
 z1:z∉fp1
 z2:z∉fp2
 TO1:TO∉fp1
 TO2:TO∉fp2
 i1f:i1∉fp2
 i2f:i2∉fp1
def wO{z TI TO i1 i2:Addr}{fp1 fp2:List Addr}{n1 n2 k:Nat}{P1 P2:Nat->Value->Prop}{S1 S2:Nat->Heap->Prop}{a b:Value}{s:Shared}{Q:Value->Shared->Prop}(Z:gI z TI TO i1 i2 fp1 fp2)
 (D1:Draws prog w A i1 fp1 n1 P1 S1)(D2:Draws prog w A i2 fp2 n2 P2 S2)(hz:IsZip s.heap z TI TO .none)(hTI:IsPair s.heap TI (.ref i1) (.ref i2))(hTO:IsPair s.heap TO a b)(s1:S1 k s.heap)(s2:S2 k s.heap)(k1:k<n1)(k2:k<n2)
 (hQ:∀ x y g tk,P1 k x->P2 k y->IsZip g z TI TO (rawInt s.heap.objs.size)->IsPair g TO x y->S1 (k+1) g->S2 (k+1) g->IsPair g s.heap.objs.size x y->g.objs.size=s.heap.objs.size+1->(∀ c o,c≠z->c≠TO->c≠i1->c≠i2->s.heap.get? c=some o->g.get? c=some o)->Q (.ref s.heap.objs.size) { s with heap:=g,toks:=tk }) :
  wpAny (model prog w) A (Builtin.«zip.__next__» ⟨[.ref z],[]⟩) (fun fin s'=>∃ v,fin=.done (.ret v)/\Q v s') E s:=by
 obtain⟨hp,g,d,tk,os⟩:=s;have off:∀ (f:Obj->Obj) b o,b≠z->hp.get? b=some o->(hp.update z f).get? b=some o:=fun f b o hb e=>(Heap.SameBut.update ..).extBut b o hb e;have st1:∀ f:Obj->Obj,S1 k (hp.update z f):=fun f=>D1.frame k _ _ s1 fun b hb o e=>off f b o (fun q=>Z.z1 (q▸hb)) e;have st2:∀ f:Obj->Obj,S2 k (hp.update z f):=fun f=>D2.frame k _ _ s2 fun b hb o e=>off f b o (fun q=>Z.z2 (q▸hb)) e;unfold Builtin.«zip.__next__»
 wp_walk using AutoSeq1.wpAny_loadPart' hz,AutoSeq1.wpAny_loadPart' hTI,wpAny_onRaise,(D1.item k _ _ _ k1 (st1 _))
 intro x h1 t1 px st1' sb1;have q1:IsPair h1 TO a b:=sb1.extBut _ _ (Ne.symm Z.Gq) (off _ TO _ Z.zTO hTO);have z1:IsZip h1 z TI TO .ellipsis:=sb1.extBut _ _ (Ne.symm Z.i1z) (Heap.get?_update_self _ hz rfl);have u1:=sb1.1;have c1:∀ c o,c≠z->c≠i1->hp.get? c=some o->h1.get? c=some o:=fun c o n1 n2 e=>sb1.extBut _ _ n2 (off _ c o n1 e);clear sb1 st1 st2
 wp_walk using AutoSeq1.wpAny_loadPart' q1,(wpAny_updateSeq_pair q1)
 intro h2 q2 sb2
 replace q2:IsPair h2 TO x b:=q2
 have z2:IsZip h2 z TI TO .ellipsis:=sb2.extBut _ _ (Ne.symm Z.zTO) z1;have c2:∀ c o,c≠z->c≠TO->c≠i1->hp.get? c=some o->h2.get? c=some o:=fun c o n1 n2 n3 e=>sb2.extBut _ _ n2 (c1 c o n1 n3 e);have e1:S1 (k+1) h2:=D1.frame _ _ _ st1' fun b hb o e=>sb2.extBut _ _ (fun q=>Z.TO1 (q▸hb)) e;have e2:S2 k h2:=D2.frame _ _ _ s2 fun b hb o e=>c2 b o (fun q=>Z.z2 (q▸hb)) (fun q=>Z.TO2 (q▸hb)) (fun q=>Z.i1f (q▸hb)) e;have u2:=sb2.1.trans u1;clear sb2 u1 c1 z1 q1
 wp_walk using wpAny_onRaise,(D2.item k _ _ _ k2 e2)
 intro y h3 t3 py f2 sb3;have q3:IsPair h3 TO x b:=sb3.extBut _ _ (Ne.symm Z.Ge) q2;have z3:IsZip h3 z TI TO .ellipsis:=sb3.extBut _ _ (Ne.symm Z.i2z) z2;have f1:S1 (k+1) h3:=D1.frame _ _ _ e1 fun b hb o e=>sb3.extBut _ _ (fun q=>Z.i2f (q▸hb)) e;have c3:∀ c o,c≠z->c≠TO->c≠i1->c≠i2->hp.get? c=some o->h3.get? c=some o:=fun c o n1 n2 n3 n4 e=>sb3.extBut _ _ n4 (c2 c o n1 n2 n3 e);have u3:=sb3.1.trans u2;clear sb3 u2 c2 z2 q2 e1 e2
 wp_walk using AutoSeq1.wpAny_loadPart' q3,(wpAny_updateSeq_pair q3)
 intro h4 q4 sb4
 replace q4:IsPair h4 TO x y:=q4
 have z4:IsZip h4 z TI TO .ellipsis:=sb4.extBut _ _ (Ne.symm Z.zTO) z3;have g1:S1 (k+1) h4:=D1.frame _ _ _ f1 fun b hb o e=>sb4.extBut _ _ (fun q=>Z.TO1 (q▸hb)) e;have g2:S2 (k+1) h4:=D2.frame _ _ _ f2 fun b hb o e=>sb4.extBut _ _ (fun q=>Z.TO2 (q▸hb)) e;have c4:∀ c o,c≠z->c≠TO->c≠i1->c≠i2->hp.get? c=some o->h4.get? c=some o:=fun c o n1 n2 n3 n4 e=>sb4.extBut _ _ n2 (c3 c o n1 n2 n3 n4 e);have u4:=sb4.1.trans u3;clear sb4 u3 c3 z3 q3 f1 f2
 wp_walk using AutoSeq1.wpAny_loadPart' q4
 have u0:h4.objs.size=hp.objs.size:=u4.trans (Heap.SameBut.update ..).1;refine⟨_,rfl,?_⟩;show Q (.ref h4.objs.size) _;have zp:IsZip (h4.push { cls:=.type "tuple",data:=.seq #[x,y].toList.toArray }) z TI TO .ellipsis:=Heap.get?_push_of_some _ z4;have zlt:z<h4.objs.size:=Heap.lt_size z4
 have up:∀ (f f':Obj->Obj) c o,c≠z->(h4.push { cls:=.type "tuple",data:=.seq #[x,y].toList.toArray }).get? c=some o->(((h4.push { cls:=.type "tuple",data:=.seq #[x,y].toList.toArray }).update z f).update z f').get? c=some o:=fun f f' c o hc e =>
  (Heap.SameBut.update ..).extBut c o hc ((Heap.SameBut.update ..).extBut c o hc e)
 have goal:=hQ x y (((h4.push { cls:=.type "tuple",data:=.seq #[x,y].toList.toArray }).update z (Obj.mapFields (·.setIfInBounds 0 (rawInt h4.objs.size)))).update z (Obj.mapFields (·.setIfInBounds 1 (.bool false)))) t3 px py ?_ ?_ ?_ ?_ ?_ ?_ ?_
 ·rw[u0]at goal ⊢;exact goal
 ·rw[<-u0];exact Heap.get?_update_self _ (Heap.get?_update_self _ zp rfl) rfl
 ·exact up _ _ _ _ Z.zTO (Heap.get?_push_of_some _ q4)
 ·exact D1.frame _ _ _ g1 fun b hb o e=>up _ _ _ _ (fun q=>Z.z1 (q▸hb)) (Heap.get?_push_of_some _ e)
 ·exact D2.frame _ _ _ g2 fun b hb o e=>up _ _ _ _ (fun q=>Z.z2 (q▸hb)) (Heap.get?_push_of_some _ e)
 ·show IsPair _ hp.objs.size x y;rw[<-u0];exact up _ _ _ _ (Nat.ne_of_gt zlt) (Heap.get?_push_size _ rfl)
 ·refine((Heap.SameBut.update ..).1.trans ((Heap.SameBut.update ..).1.trans ((Heap.size_push ..).trans ?_)));show h4.objs.size+1=hp.objs.size+1;rw[u0]
 ·exact fun c o n1 n2 n3 n4 e=>up _ _ _ _ n1 (Heap.get?_push_of_some _ (c4 c o n1 n2 n3 n4 e))
def Aa{z TI TO i1 i2:Addr}{fp1 fp2:List Addr}{n1:Nat}{P1:Nat->Value->Prop}{S1:Nat->Heap->Prop}{a b:Value}{s:Shared}{Q:Fin->Shared->Prop}(Z:gI z TI TO i1 i2 fp1 fp2)
 (D1:Draws prog w A i1 fp1 n1 P1 S1)(hz:IsZip s.heap z TI TO .none)(hTI:IsPair s.heap TI (.ref i1) (.ref i2))(hTO:IsPair s.heap TO a b)(s1:S1 n1 s.heap)
 (hE:∀ g e,(∀ c o,c≠z->c≠i1->s.heap.get? c=some o->g.get? c=some o)->(∃ o,g.get? e=some o/\o.cls=.type "StopIteration")->E (.ref e) { s with heap:=g }) :
  wpAny (model prog w) A (Builtin.«zip.__next__» ⟨[.ref z],[]⟩) Q E s:=by
 obtain⟨hp,g,d,tk,os⟩:=s;have off:∀ (f:Obj->Obj) b o,b≠z->hp.get? b=some o->(hp.update z f).get? b=some o:=fun f b o hb e=>(Heap.SameBut.update ..).extBut b o hb e;have st1:∀ f:Obj->Obj,S1 n1 (hp.update z f):=fun f=>D1.frame n1 _ _ s1 fun b hb o e=>off f b o (fun q=>Z.z1 (q▸hb)) e;unfold Builtin.«zip.__next__»
 wp_walk using AutoSeq1.wpAny_loadPart' hz,AutoSeq1.wpAny_loadPart' hTI,wpAny_onRaise,(D1.done _ _ _ (st1 _))
 rintro h1 e eb ⟨oe,he,hce⟩;have z1:IsZip h1 z TI TO .ellipsis:=eb _ _ (Ne.symm Z.i1z) (Heap.get?_update_self _ hz rfl)
 have ez:e≠z:=fun q=>by
  rw[q,z1]at he;have:=Option.some.inj he;rw[<-this]at hce;simp at hce
 refine wpAny_setField_rec z1 (by simp) fun h2 _ sb2=>?_;exact hE h2 e (fun c o n1 n2 q=>sb2.extBut _ _ n1 (eb _ _ n2 (off _ _ _ n1 q))) ⟨oe,sb2.extBut _ _ ez he,hce⟩
end
section
variable{prog:Program}{w:World}{A:Around}{E:Value->Shared->Prop}{z TI TO i1 i2:Addr}{fp1 fp2:List Addr}{n1 n2 k:Nat}{P1 P2:Nat->Value->Prop}{S1 S2:Nat->Heap->Prop}{a b:Value}{s:Shared}
def yf{Q:Option Value->Shared->Prop}(Z:gI z TI TO i1 i2 fp1 fp2)(D1:Draws prog w A.in1 i1 fp1 n1 P1 S1)(D2:Draws prog w A.in1 i2 fp2 n2 P2 S2)(hz:IsZip s.heap z TI TO .none)(hTI:IsPair s.heap TI (.ref i1) (.ref i2))(hTO:IsPair s.heap TO a b)(s1:S1 k s.heap)(s2:S2 k s.heap)(k1:k<n1)(k2:k<n2)
 (hQ:∀ x y g tk,P1 k x->P2 k y->IsZip g z TI TO (rawInt s.heap.objs.size)->IsPair g TO x y->S1 (k+1) g->S2 (k+1) g->IsPair g s.heap.objs.size x y->g.objs.size=s.heap.objs.size+1->(∀ c o,c≠z->c≠TO->c≠i1->c≠i2->s.heap.get? c=some o->g.get? c=some o)->Q (some (.ref s.heap.objs.size)) { s with heap:=g,toks:=tk }) :
  wpAny (model prog w) A (pyNext (.ref z)) Q E s:=by
 have hT:s.TypeIs (.ref z) "zip" := ⟨_,hz,rfl⟩
 unfold pyNext;apply wpAny_bind;apply wpAny_attempt;apply wpAny_callSpecial?_slot (name:=Str.ofString "__next__") hT F.slot_zip_next;refine wpAny_call_entry F.slot_zip_next hT F.entry_zip_next ?_ (F.args_zip_next_1 _);refine wO Z D1 D2 hz hTI hTO s1 s2 k1 k2 fun x y g tk px py q1 q2 q3 q4 q5 q6 q7=>?_;apply wpAny_pure;exact hQ x y g tk px py q1 q2 q3 q4 q5 q6 q7
def xq{Q:Option Value->Shared->Prop}(Z:gI z TI TO i1 i2 fp1 fp2)(D1:Draws prog w A.in1 i1 fp1 n1 P1 S1)(hz:IsZip s.heap z TI TO .none)(hTI:IsPair s.heap TI (.ref i1) (.ref i2))(hTO:IsPair s.heap TO a b)(s1:S1 n1 s.heap)
 (hQ:∀ g,(∀ c o,c≠z->c≠i1->s.heap.get? c=some o->g.get? c=some o)->Q none { s with heap:=g }):wpAny (model prog w) A (pyNext (.ref z)) Q E s:=by
 have hT:s.TypeIs (.ref z) "zip" := ⟨_,hz,rfl⟩
 unfold pyNext;apply wpAny_bind;apply wpAny_attempt;apply wpAny_callSpecial?_slot (name:=Str.ofString "__next__") hT F.slot_zip_next;refine wpAny_call_entry F.slot_zip_next hT F.entry_zip_next ?_ (F.args_zip_next_1 _);refine Aa Z D1 hz hTI hTO s1 fun g e hk ⟨o,he,hc⟩=>?_;apply wpAny_bind;refine wpAny_isInstance (T := "StopIteration") (b:=true) ⟨_,he,hc⟩ isSubtype_stop ?_;apply wpAny_pure;exact hQ g hk
end
section
variable{s:Shared}
def xT(hh:A.handled=some (.ref x))(hd:ox.data=.fields xs)(h2:xs[2]?=some .none)(nx:x≠it)(hne:l≠it)(its:Array Value) :
  Draws prog w A it [it,l,x] its.size (fun i v=>its[i]?=some v) (fun i h=>(h.IsListIter it l i/\h.IsList l its)/\h.get? x=some ox) where
 live:=fun _ _ st=>let ⟨o,ho,_⟩:=st.1.1;⟨o,ho⟩
 frame:=fun _ _ _ st hk=>⟨⟨st.1.1.at fun o e=>hk it (by simp) o e,st.1.2.at fun o e=>hk l (by simp) o e⟩,hk x (by simp) _ st.2⟩
 item:=fun i s Q E hi st hQ=>wpAny_nextOf_list_item st.1.1 st.1.2 (x:=its[i]) (by simp[hi]) fun h' hit' hs'=>hQ _ h' s.toks (by simp[hi]) ⟨⟨hit',st.1.2.extBut hs'.extBut hne⟩,(hs'.2 x nx).trans st.2⟩ hs'
 done:=fun s Q E st hE=>nF (.inr ⟨x,ox,xs,hh,st.2,hd,h2⟩) (fun q=>by rw[hh]at q;cases q;exact nx rfl) st.1.1 st.1.2 (by simp) hE
def wm(hh:A.handled=some (.ref x))(hd:ox.data=.fields xs)(h2:xs[2]?=some .none)(nx:x≠it)(hne:l≠it)(its:Array Value) :
  Draws prog w A it [it,l,x] its.size (fun i v=>its[i]?=some v) (fun i h=>(h.IsTupleIter it l i/\h.IsTuple l its)/\h.get? x=some ox) where
 live:=fun _ _ st=>let ⟨o,ho,_⟩:=st.1.1;⟨o,ho⟩
 frame:=fun _ _ _ st hk=>by
  obtain⟨⟨⟨o1,e1,r1⟩,⟨o2,e2,r2⟩⟩,e3⟩:=st;exact⟨⟨⟨o1,hk it (by simp) _ e1,r1⟩,⟨o2,hk l (by simp) _ e2,r2⟩⟩,hk x (by simp) _ e3⟩
 item:=fun i s Q E hi st k=>pI st.1.1 st.1.2 (x:=its[i]) (by simp[hi]) fun g g1 g2=>k its[i] g s.toks (by simp[hi]) ⟨⟨g1,st.1.2.extBut g2.extBut hne⟩,(g2.2 x nx).trans st.2⟩ g2
 done:=fun s Q E st hE=>rM (.inr ⟨x,ox,xs,hh,st.2,hd,h2⟩) (fun q=>by rw[hh]at q;cases q;exact nx rfl) st.1.1 st.1.2 (by simp) hE
end
section
end
abbrev dh(t:Bool)(xs:List V):HO:=if t then .tup xs else .lst xs
abbrev gH(t:Bool)(it l:Addr)(i:Nat)(h:Heap):Prop:=if t then h.IsTupleIter it l i else h.IsListIter it l i
def gH.obj(st:gH t it l i h):∃ o,h.get? it=some o/\∀ v,o.data≠.cell v:=by
 cases t with
 | true=>exact let ⟨o,ho,_,hd⟩:=(show h.IsTupleIter it l i from st);⟨o,ho,fun v q=>by rw[hd]at q;cases q⟩
 | false=>exact let ⟨o,ho,_,hd⟩:=(show h.IsListIter it l i from st);⟨o,ho,fun v q=>by rw[hd]at q;cases q⟩
def gH.keep(st:gH t it l i h)(k:∀ o,h.get? it=some o->h'.get? it=some o):gH t it l i h':=by
 cases t with
 | true=>exact let ⟨o,ho,r⟩:=(show h.IsTupleIter it l i from st);⟨o,k o ho,r⟩
 | false=>exact(show h.IsListIter it l i from st).at fun o q=>k o q
def gu(I:Inv X pins σ H s)(hi:H it=none)(hx:H l=some (dh t xs)) :
  ∃ (fp:List Addr) (Pv:Nat->Value->Prop) (St:Nat->Heap->Prop),Draws X.prog X.w X.A.in1 it fp xs.length Pv St/\(∀ b∈fp,b=it\/H b≠none)/\(∀ i,gH t it l i s.heap->St i s.heap)/\(∀ i h,St i h->gH t it l i h)/\∀ i v,Pv i v->∃ x,xs[i]?=some x/\RelV x v:=by
 have back:∀ {its:List Value},Vals xs its->∀ (i:Nat) (v:Value),its.toArray[i]?=some v->∃ x,xs[i]?=some x/\RelV x v:=fun {its} rv i v hv=>by
  have hv:its[i]?=some v:=by simpa using hv
  have hlt:i<xs.length:=by rw[rv.length];exact(List.getElem?_eq_some_iff.mp hv).1
  obtain⟨u,h1,h2⟩:=rv.get (i:=i) (x:=xs[i]) (by simp[hlt]);rw[hv]at h1;cases h1;exact⟨xs[i],by simp[hlt],h2⟩
 have two:∀ {u:HO},H l=some u->∀ b∈[it,l],b=it\/H b≠none:=fun {u} e b hb=>by
  rcases List.mem_cons.mp hb with z | z
  ·exact .inl z
  ·rw[List.mem_singleton.mp z,e]
   exact .inr fun z=>nomatch z
 rcases I.ok.hd.2 with hh | ⟨x,ox,ux,ws,hh,g1,g2,g3⟩
 ·cases t with
  |true=>
   have hx:H l=some (.tup xs):=hx;obtain⟨its,rv,p,hz⟩:=I.tuple (SqT.of hx);have D:=oX.draws (prog:=X.prog) (w:=X.w) (A:=X.A.in1) hh it l (aB hx hi) its.toArray;rw[show its.toArray.size=xs.length by rw[List.size_toArray,rv.length]]at D;exact⟨_,_,_,D,two hx,fun i st=>⟨st,p⟩,fun i h st=>st.1,back rv⟩
  |false=>
   have hx:H l=some (.lst xs):=hx;obtain⟨its,rv,p,hz⟩:=I.list (SqL.of hx);have D:=Draws.list (prog:=X.prog) (w:=X.w) (A:=X.A.in1) hh it l (aB hx hi) its.toArray;rw[show its.toArray.size=xs.length by rw[List.size_toArray,rv.length]]at D;exact⟨_,_,_,D,two hx,fun i st=>⟨st,p.isList⟩,fun i h st=>st.1,back rv⟩
 ·have hxx:=I.base.fM _ _ _ g1;have hxo:s.heap.get? x=some ox:=(I.hok _ _ hxx).1;have nx:x≠it:=aB hxx hi
  have three:∀ {u:HO},H l=some u->∀ b∈[it,l,x],b=it\/H b≠none:=fun {u} e b hb=>by
   simp only[List.mem_cons,List.mem_nil_iff,or_false]at hb;rcases hb with z | z | z
   ·exact .inl z
   ·rw[z,e]
    exact .inr fun z=>nomatch z
   ·rw[z,hxx]
    exact .inr fun z=>nomatch z
  cases t with
  |true=>
   have hx:H l=some (.tup xs):=hx;obtain⟨its,rv,p,hz⟩:=I.tuple (SqT.of hx);have D:=wm (prog:=X.prog) (w:=X.w) (A:=X.A.in1) hh g2 g3 nx (aB hx hi) its.toArray;rw[show its.toArray.size=xs.length by rw[List.size_toArray,rv.length]]at D;exact⟨_,_,_,D,three hx,fun i st=>⟨⟨st,p⟩,hxo⟩,fun i h st=>st.1.1,back rv⟩
  |false=>
   have hx:H l=some (.lst xs):=hx;obtain⟨its,rv,p,hz⟩:=I.list (SqL.of hx);have D:=xT (prog:=X.prog) (w:=X.w) (A:=X.A.in1) hh g2 g3 nx (aB hx hi) its.toArray;rw[show its.toArray.size=xs.length by rw[List.size_toArray,rv.length]]at D;exact⟨_,_,_,D,three hx,fun i st=>⟨⟨st,p.isList⟩,hxo⟩,fun i h st=>st.1.1,back rv⟩
abbrev Itz(t1 t2:Bool)(l1 l2:Addr):It :=
 ⟨fun i H=>∃ xs ys x y,H l1=some (dh t1 xs)/\H l2=some (dh t2 ys)/\xs[i]?=some x/\ys[i]?=some y,
   fun i H v H'=>∃ p x y,H p=none/\v=.ref p/\H'=upd H p (.tup [x,y])/\(∀ xs,H l1=some (dh t1 xs)->xs[i]?=some x)/\∀ ys,H l2=some (dh t2 ys)->ys[i]?=some y,
   fun i H=>∃ xs ys,H l1=some (dh t1 xs)/\H l2=some (dh t2 ys)/\xs.length=i/\ys.length=i⟩
def oM(h:dh t xs=dh t ys):xs=ys:=by
 cases t<;>(injection h)
def yk{P:Program}{w:World}{K:PySem.W.Frag}{elts:List Expr}{kx:Nat}{tp:Pos}{t1 t2:Bool}{z TI TO i1 i2 l1 l2:Addr}(n1:TI≠z)(n2:TO≠z)(n3:TI≠TO)(n4:i1≠z)(n5:i2≠z)(n6:i1≠TO)(n7:i2≠TO)(n8:i1≠i2)(n9:i1≠TI)(n10:i2≠TI) :
  kZ (fun _=>True) P w K (.Tuple elts kx tp) (Itz t1 t2 l1 l2) [z,TI,TO,i1,i2] z (fun i h=>IsZip h z TI TO .none/\IsPair h TI (.ref i1) (.ref i2)/\(∃ a b,IsPair h TO a b)/\gH t1 i1 l1 i h/\gH t2 i2 l2 i h) where
 mem:=by simp
 obj:=fun i h st b hb=>by
  obtain⟨h1,h2,⟨a,c,h3⟩,h4,h5⟩:=st;simp only[List.mem_cons,List.mem_nil_iff,or_false]at hb;rcases hb with rfl | rfl | rfl | rfl | rfl
  ·exact⟨_,h1,fun v q=>by cases q⟩
  ·exact⟨_,h2,fun v q=>by cases q⟩
  ·exact⟨_,h3,fun v q=>by cases q⟩
  ·exact h4.obj
  ·exact h5.obj
 keep:=fun i h h' st k=>by
  obtain⟨h1,h2,⟨a,c,h3⟩,h4,h5⟩:=st;exact⟨k z (by simp) _ h1,k TI (by simp) _ h2,⟨a,c,k TO (by simp) _ h3⟩,h4.keep fun o q=>k i1 (by simp) o q,h5.keep fun o q=>k i2 (by simp) o q⟩
 item:=by
  intro X hP hw hK hc i pins s σ H E I hf st hg;subst hP hw hK;obtain⟨h1,h2,⟨a,c,h3⟩,h4,h5⟩:=st;obtain⟨xs,ys,x,y,hx,hy,ex,ey⟩:=hg;have f:∀ b∈[z,TI,TO,i1,i2],H b=none:=fun b hb=>(hf b hb).1;obtain⟨fp1,Pv1,St1,D1,m1,a1,a2,a3⟩:=gu I (f i1 (by simp)) hx;obtain⟨fp2,Pv2,St2,D2,m2,b1,b2,b3⟩:=gu I (f i2 (by simp)) hy;have no:∀ {fp:List Addr} {i b:Addr},(∀ b∈fp,b=i\/H b≠none)->b∈[z,TI,TO,i1,i2]->b≠i->b∉fp:=fun m hb n z=>(m _ z).elim n fun q=>q (f _ hb)
  have Z:gI z TI TO i1 i2 fp1 fp2:=⟨n1,n2,n3,n4,n5,n6,n7,n8,no m1 (by simp) (Ne.symm n4),no m2 (by simp) (Ne.symm n5),no m1 (by simp) (Ne.symm n6),no m2 (by simp) (Ne.symm n7),no m2 (by simp) n8,no m1 (by simp) (Ne.symm n8)⟩
  refine yf Z D1 D2 h1 h2 h3 (a1 i h4) (b1 i h5) (List.getElem?_eq_some_iff.mp ex).1 (List.getElem?_eq_some_iff.mp ey).1 fun u v g tk pu pv g1 g2 g3 g4 g5 g6 g7=>?_;obtain⟨x',ex',rx⟩:=a3 i u pu;obtain⟨y',ey',ry⟩:=b3 i v pv;rw[ex]at ex';rw[ey]at ey';cases ex';cases ey';refine⟨.ref s.heap.objs.size,rfl,wpAny_letOwnedTupleGo_zip g1 fun g' gz' sb=>?_⟩;have hn:H s.heap.objs.size=none:=I.hok.fresh (Nat.le_refl _)
  have I1:Inv X pins σ (upd H s.heap.objs.size (.tup [x,y])) { s with heap:=s.heap.push { cls:=.type "tuple",data:=.seq #[u,v] },toks:=tk } :=
   I.laid (t':=tk) (fun b o q=>Heap.get?_push_of_some _ q) (Nat.le_refl _) ⟨by show 2<=sizeLine;decide,[u,v],.cons rx (.cons ry .nil),⟨_,Heap.get?_push_size _ rfl,rfl,_,rfl⟩⟩
  have lt:∀ b∈[z,TI,TO,i1,i2],b≠s.heap.objs.size:=fun b hb=>by
   have:∃ o,s.heap.get? b=some o:=by
    simp only[List.mem_cons,List.mem_nil_iff,or_false]at hb;rcases hb with rfl | rfl | rfl | rfl | rfl
    ·exact⟨_,h1⟩
    ·exact⟨_,h2⟩
    ·exact⟨_,h3⟩
    ·exact let ⟨o,q,_⟩:=h4.obj;⟨o,q⟩
    ·exact let ⟨o,q,_⟩:=h5.obj;⟨o,q⟩
   obtain⟨o,q⟩:=this;exact Nat.ne_of_lt (Heap.lt_size q)
  have stat:∀ b∈[z,TI,TO,i1,i2],upd H s.heap.objs.size (.tup [x,y]) b=none/\(b∈X.ex\/X.s₀.heap.objs.size<=b)/\b≠X.env.locals/\(∀ x c,X.env.cells.lookup x=some c->c≠b)/\∀ p∈X.pn++pins,p.1≠b:=fun b hb=>by
   obtain⟨f0,f1,f2,f3,f4,f5⟩:=hf b hb;exact⟨by rw[aD (lt b hb)];exact f0,f3,f1,f4,f5⟩
  have I2:Inv X pins σ (upd H s.heap.objs.size (.tup [x,y])) { s with heap:=g',toks:=tk }:=by
   refine Inv.mI (s:={ s with heap:=s.heap.push { cls:=.type "tuple",data:=.seq #[u,v] },toks:=tk }) (h':=g') (t':=tk) (fp:=[z,TI,TO,i1,i2]) I1 (fun b o hb q=>?_) stat;simp only[List.mem_cons,List.mem_nil_iff,or_false,not_or]at hb;refine sb.extBut b o hb.1 ?_;by_cases hbT:b=s.heap.objs.size
   ·subst hbT;have q':(s.heap.push { cls:=.type "tuple",data:=.seq #[u,v] }).get? s.heap.objs.size=some o:=q;rw[Heap.get?_push_size _ rfl]at q';cases q';exact g5
   ·exact g7 b o hb.1 hb.2.2.1 hb.2.2.2.1 hb.2.2.2.2 ((Heap.get?_push_ne _ _ _ hbT).symm.trans q)
  have kp:∀ b∈[TI,TO,i1,i2],∀ o,g.get? b=some o->g'.get? b=some o:=fun b hb o q=>sb.extBut b o (fun e=>by
   subst e;simp only[List.mem_cons,List.mem_nil_iff,or_false]at hb;rcases hb with e | e | e | e
   ·exact n1 e.symm
   ·exact n2 e.symm
   ·exact n4 e.symm
   ·exact n5 e.symm) q
  refine⟨.ref s.heap.objs.size,_,I2,rfl,⟨s.heap.objs.size,x,y,hn,rfl,rfl,fun xs' hx'=>?_,fun ys' hy'=>?_⟩,⟨gz',kp TI (by simp) _ (g7 TI _ n1 n3 (Ne.symm n9) (Ne.symm n10) h2),⟨u,v,kp TO (by simp) _ g2⟩,(a2 _ _ g3).keep fun o q=>kp i1 (by simp) o q,(b2 _ _ g4).keep fun o q=>kp i2 (by simp) o q⟩,fun b hb=>(stat b hb).1⟩
  ·rw[hx]at hx';rw[<-oM (Option.some.inj hx')];exact ex
  ·rw[hy]at hy';rw[<-oM (Option.some.inj hy')];exact ey
 done:=by
  intro X hP hw hK hc i pins s σ H E I hf st hg;subst hP hw hK;obtain⟨h1,h2,⟨a,c,h3⟩,h4,h5⟩:=st;obtain⟨xs,ys,hx,hy,ex,ey⟩:=hg;have f:∀ b∈[z,TI,TO,i1,i2],H b=none:=fun b hb=>(hf b hb).1;obtain⟨fp1,Pv1,St1,D1,m1,a1,a2,a3⟩:=gu I (f i1 (by simp)) hx;obtain⟨fp2,_,_,_,m2,_⟩:=gu I (f i2 (by simp)) hy;have no:∀ {fp:List Addr} {i b:Addr},(∀ b∈fp,b=i\/H b≠none)->b∈[z,TI,TO,i1,i2]->b≠i->b∉fp:=fun m hb n z=>(m _ z).elim n fun q=>q (f _ hb)
  have Z:gI z TI TO i1 i2 fp1 fp2:=⟨n1,n2,n3,n4,n5,n6,n7,n8,no m1 (by simp) (Ne.symm n4),no m2 (by simp) (Ne.symm n5),no m1 (by simp) (Ne.symm n6),no m2 (by simp) (Ne.symm n7),no m2 (by simp) n8,no m1 (by simp) (Ne.symm n8)⟩
  subst ex
  refine xq Z D1 h1 h2 h3 (a1 _ h4) fun g hk=>⟨rfl,?_⟩
  refine Inv.mI (h':=g) (t':=s.toks) (fp:=[z,i1]) I (fun b o hb q=>?_) fun b hb=>?_
  ·simp only[List.mem_cons,List.mem_nil_iff,or_false,not_or]at hb;exact hk b o hb.1 hb.2 q
  ·have hb':b∈[z,TI,TO,i1,i2]:=by
    simp only[List.mem_cons,List.mem_nil_iff,or_false]at hb ⊢;rcases hb with q | q
    ·exact .inl q
    ·exact .inr (.inr (.inr (.inl q)))
   obtain⟨f0,f1,f2,f3,f4,f5⟩:=hf b hb';exact⟨f0,f3,f1,f4,f5⟩
 self:=fun A i s Q E st h=>wpAny_pyIter_zip st.1 h
def kZ.calm{P:Program}{w:World}{K:PySem.W.Frag}(T:kZ (fun _=>True) P w K tg J fp it tn):Turn P w K tg J fp it tn where
 mem:=T.mem
 obj:=T.obj
 keep:=T.keep
 item:=fun X a b c hc i pins s σ H E I=>T.item X a b c trivial i pins s σ H E I
 done:=fun X a b c hc i pins s σ H E I=>T.done X a b c trivial i pins s σ H E I
 self:=T.self
def PI'.calm(h:PI' (fun _=>True) X tg iter wi):PI X tg iter wi:=fun pins s σ H R I q =>
 thn (h pins s σ H R I q) fun v s1 h1=>thn h1 fun itv s2 ⟨it,fp,tn,J,H',e,I',T,r⟩=>⟨it,fp,tn,J,H',e,I',T.calm,r⟩
abbrev cB(t:Bool)(l:Addr):Obj:=if t then { cls:=.type "tuple_iterator",data:=.fields #[.ref l,rawInt 0] } else { cls:=.type "list_iterator",data:=.fields #[.ref l,.int 0 0] }
def pD(e:h.get? it=some (cB t l)):gH t it l 0 h:=by
 cases t with
 | true=>exact⟨_,e,rfl,rfl⟩
 | false=>exact⟨_,e,rfl,rfl⟩
def oI(I:Inv X pins σ H s)(hx:H l=some (dh t xs))(q:Q (.ref s.heap.objs.size) { s with heap:=s.heap.push (cB t l) }):wpAny (model X.prog X.w) A (pyIter (.ref l)) Q E s:=by
 cases t with
 |true=>
  obtain⟨its,rv,p,hz⟩:=I.tuple (SqT.of (show H l=some (.tup xs)from hx));exact wpAny_pyIter_tuple p q
 |false=>
  obtain⟨its,rv,p,hz⟩:=I.list (SqL.of (show H l=some (.lst xs)from hx));exact wpAny_pyIter_list p.isList q
section
abbrev FI(ta:TA):TI:=fun σ H R=>ta σ H fun vs H1=>∃ t1 t2 l1 l2 xs ys,vs=[.ref l1,.ref l2]/\H1 l1=some (dh t1 xs)/\H1 l2=some (dh t2 ys)/\R (Itz t1 t2 l1 l2) H1
def far(n a b:Nat)(h:a≠b):n+a≠n+b:=fun q=>h (Nat.add_left_cancel q)
def vK:bootBuiltins "zip" = some (.type "zip"):=by decide +kernel
def Be(hg:Gl X "zip")(hm:X.mg "zip" = none)(ha:PA X [a,b] ta)(hs:starEach [a,b] X.env=[(false,eval a X.env),(false,eval b X.env)])(hs2:starEach [b] X.env=[(false,eval b X.env)]):PI' (fun _=>True) X (.Tuple elts kx tp) (.Call (.Name "zip" p) [a,b] [] pos) (FI ta):=by
 intro pins s0 σ H0 R I0 h;refine Call_ (gd I0 hg hm vK (PyProof.Rows.callWith_type1 (thn (ha pos pins s0 σ H0 _ I0 h) fun us s ⟨vs,H,I,r1,q1⟩=>?_) (by rw[hs,hs2]) (by rw[hs2];rfl)) (by decide) (by decide));obtain⟨t1,t2,l1,l2,xs,ys,rfl,hx,hy,q⟩:=q1
 cases r1 with
 |cons r rr=>
  cases rr with
  |cons r2 rr=>
   cases rr;cases r;cases r2;have I1:Inv X pins σ H { s with heap:=s.heap.push (cB t1 l1) }:=I.kept (t':=s.toks) fun b o e=>Heap.get?_push_of_some _ e
   refine zV (S1:=fun it z1=>it=s.heap.objs.size/\z1={ s with heap:=s.heap.push (cB t1 l1) }) (S2:=fun it jt z2=>it=s.heap.objs.size/\jt=(s.heap.push (cB t1 l1)).objs.size/\z2={ s with heap:=(s.heap.push (cB t1 l1)).push (cB t2 l2) })
    (fun A=>oI I hx ⟨_,rfl,rfl,rfl⟩) (fun it z1 h1 A=>?_) fun it jt z2 h2=>?_
   ·obtain⟨rfl,rfl⟩:=h1;exact oI I1 hy ⟨_,rfl,rfl,rfl,rfl⟩
   ·obtain⟨rfl,rfl,rfl⟩:=h2;have z1:(s.heap.push (cB t1 l1)).objs.size=s.heap.objs.size+1:=Heap.size_push ..;generalize e1:s.heap.push (cB t1 l1)=g1 at *
    have p1:g1.get? s.heap.objs.size=some (cB t1 l1):=by
     rw[<-e1];exact Heap.get?_push_size _ (by cases t1<;>rfl)
    have k1:∀ b o,s.heap.get? b=some o->g1.get? b=some o:=fun b o e=>by rw[<-e1];exact Heap.get?_push_of_some _ e
    have z2:(g1.push (cB t2 l2)).objs.size=s.heap.objs.size+2:=by rw[Heap.size_push,z1]
    have p2:(g1.push (cB t2 l2)).get? (s.heap.objs.size+1)=some (cB t2 l2):=by
     rw[<-z1];exact Heap.get?_push_size _ (by cases t2<;>rfl)
    have k2:∀ b o,g1.get? b=some o->(g1.push (cB t2 l2)).get? b=some o:=fun b o e=>Heap.get?_push_of_some _ e;generalize e2:g1.push (cB t2 l2)=g2 at *;dsimp only;rw[z1]
    have z3:(g2.push { cls:=.type "tuple",data:=.seq #[.ref s.heap.objs.size,.ref (s.heap.objs.size+1)] }).objs.size=s.heap.objs.size+3:=by rw[Heap.size_push,z2]
    have p3:(g2.push { cls:=.type "tuple",data:=.seq #[.ref s.heap.objs.size,.ref (s.heap.objs.size+1)] }).get? (s.heap.objs.size+2)=some { cls:=.type "tuple",data:=.seq #[.ref s.heap.objs.size,.ref (s.heap.objs.size+1)] }:=by
     rw[<-z2];exact Heap.get?_push_size _ rfl
    have k3:∀ b o,g2.get? b=some o->(g2.push { cls:=.type "tuple",data:=.seq #[.ref s.heap.objs.size,.ref (s.heap.objs.size+1)] }).get? b=some o:=fun b o e=>Heap.get?_push_of_some _ e;rw[z2];generalize e3:g2.push { cls:=.type "tuple",data:=.seq #[.ref s.heap.objs.size,.ref (s.heap.objs.size+1)] }=g3 at *;rw[z3]
    have z4:(g3.push { cls:=.type "tuple",data:=.seq #[.none,.none] }).objs.size=s.heap.objs.size+4:=by rw[Heap.size_push,z3]
    have p4:(g3.push { cls:=.type "tuple",data:=.seq #[.none,.none] }).get? (s.heap.objs.size+3)=some { cls:=.type "tuple",data:=.seq #[.none,.none] }:=by
     rw[<-z3];exact Heap.get?_push_size _ rfl
    have k4:∀ b o,g3.get? b=some o->(g3.push { cls:=.type "tuple",data:=.seq #[.none,.none] }).get? b=some o:=fun b o e=>Heap.get?_push_of_some _ e;generalize e4:g3.push { cls:=.type "tuple",data:=.seq #[.none,.none] }=g4 at *;rw[z4]
    have p5:(g4.push { cls:=.type "zip",data:=.fields #[.none,.bool false,.bool false,.ref (s.heap.objs.size+2),.ref (s.heap.objs.size+3)] }).get? (s.heap.objs.size+4)=some { cls:=.type "zip",data:=.fields #[.none,.bool false,.bool false,.ref (s.heap.objs.size+2),.ref (s.heap.objs.size+3)] }:=by
     rw[<-z4];exact Heap.get?_push_size _ rfl
    have k5:∀ b o,g4.get? b=some o->(g4.push { cls:=.type "zip",data:=.fields #[.none,.bool false,.bool false,.ref (s.heap.objs.size+2),.ref (s.heap.objs.size+3)] }).get? b=some o:=fun b o e=>Heap.get?_push_of_some _ e;generalize e5:g4.push { cls:=.type "zip",data:=.fields #[.none,.bool false,.bool false,.ref (s.heap.objs.size+2),.ref (s.heap.objs.size+3)] }=g5 at *
    refine wpAny_pyIter_zip (TI:=s.heap.objs.size+2) (TO:=s.heap.objs.size+3) (f0:=.none) p5 ⟨s.heap.objs.size+4,[s.heap.objs.size+4,s.heap.objs.size+2,s.heap.objs.size+3,s.heap.objs.size,s.heap.objs.size+1],_,Itz t1 t2 l1 l2,H,rfl,I.kept (t':=s.toks) fun b o e=>k5 _ _ (k4 _ _ (k3 _ _ (k2 _ _ (k1 _ _ e)))),yk (far _ 2 4 (by decide)) (far _ 3 4 (by decide)) (far _ 2 3 (by decide)) (far _ 0 4 (by decide)) (far _ 1 4 (by decide)) (far _ 0 3 (by decide)) (far _ 1 3 (by decide)) (far _ 0 1 (by decide)) (far _ 0 2 (by decide)) (far _ 1 2 (by decide)),
     ⟨p5,k5 _ _ (k4 _ _ p3),⟨_,_,k5 _ _ p4⟩,pD (k5 _ _ (k4 _ _ (k3 _ _ (k2 _ _ p1)))),pD (k5 _ _ (k4 _ _ (k3 _ _ p2)))⟩,fun b hb=>?_,q⟩
    have hb':s.heap.objs.size<=b:=by
     simp only[List.mem_cons,List.mem_nil_iff,or_false]at hb
     rcases hb with rfl | rfl | rfl | rfl | rfl<;>first | exact Nat.le_refl _ | exact Nat.le_add_right _ _
    exact I.m7 hb' (I.hok.fresh hb')
end
end L2
namespace RS
open PySem PySem.Spec PyProof.Rows L2
def iD:∀ (ds es:List RL.D),ds.length=es.length->(RL.eD ds es).length=ds.length
 | [],[],_=>rfl
 | [],_::_,h=>by cases h
 | _::_,[],h=>by cases h
 | d::ds,e::es,h=>by rw[RL.eD,List.length_cons,List.length_cons,iD ds es (by simpa using h)]
def pT:∀ (ds es:List RL.D) (i:Nat) (d:RL.D),(RL.eD ds es)[i]?=some d->∃ x y,ds[i]?=some x/\es[i]?=some y/\d=.tup [x,y]
 | [],es,i,d,h=>by cases es<;>simp[RL.eD]at h
 | _::_,[],i,d,h=>by simp[RL.eD]at h
 | x::ds,y::es,0,d,h=>by simp[RL.eD]at h;exact⟨x,y,rfl,rfl,h.symm⟩
 | x::ds,y::es,i+1,d,h=>by
  rw[RL.eD,List.getElem?_cons_succ]at h;obtain⟨x',y',h1,h2,h3⟩:=pT ds es i d h;exact⟨x',y',by simpa using h1,by simpa using h2,h3⟩
def uA{K:PySem.W.Frag}(hl:ds.length=es.length)(h1:H l1=some (dh t1 xs))(h2:H l2=some (dh t2 ys))(n1:¬ P l1)(n2:¬ P l2)(r1:aa nP K H ds xs)(r2:aa nP K H es ys)(hm:∀ b o,P b->H b=some o->bZ o) :
  gD K (Itz t1 t2 l1 l2) (RL.eD ds es) P H where
 go:=fun H' i k hi=>by
  rw[iD ds es hl]at hi;obtain⟨x,e,_⟩:=r1.get (i:=i) (d:=ds[i]) (by simp[hi]);obtain⟨y,e',_⟩:=r2.get (i:=i) (d:=es[i]'(by lia)) (by simp);exact⟨xs,ys,x,y,k _ _ n1 h1,k _ _ n2 h2,e,e'⟩
 stop:=fun H' k=>⟨xs,ys,k _ _ n1 h1,k _ _ n2 h2,by rw[iD ds es hl,r1.length],by rw[iD ds es hl,hl,r2.length]⟩
 yld:=fun H' i d v H2 k e y=>by
  obtain⟨p,x,w,hp,rfl,rfl,hx,hw⟩:=y;obtain⟨dx,dw,g1,g2,rfl⟩:=pT ds es i d e;obtain⟨x',g3,g4⟩:=r1.get g1;obtain⟨w',g5,g6⟩:=r2.get g2;rw[hx xs (k _ _ n1 h1)]at g3;rw[hw ys (k _ _ n2 h2)]at g5;cases g3;cases g5;refine⟨aq.bW hp,fun q=>?_⟩
  have re:Rep nP K H' dx x/\Rep nP K H' dw w:=by
   rcases q with q | q
   ·have q:(dx.imm&&(dw.imm&&true))=true:=q;rw[Bool.and_true,Bool.and_eq_true]at q;exact⟨eM hm k g4 q.1,eM hm k g6 q.2⟩
   ·exact⟨g4.same q,g6.same q⟩
  rw[Rep];exact⟨p,[x,w],rfl,aW,aa.cons (re.1.same (aq.bW hp)) (aa.cons (re.2.same (aq.bW hp)) aa.nil)⟩
def mK{P:Addr->Prop}{K:PySem.W.Frag}(h:RL.items d=some ds)(r:Rep P K H d v):∃ t l xs,v=.ref l/\H l=some (dh t xs)/\aa P K H ds xs/\(t=false->d=.lst ds):=by
 obtain⟨p,xs,rfl,hp,rs⟩:=eO h r
 rcases hp with⟨q,rfl⟩ | ⟨q,rfl⟩
 ·exact⟨false,p,xs,rfl,q,rs,fun _=>rfl⟩
 ·exact⟨true,p,xs,rfl,q,rs,fun z=>by cases z⟩
section rules
def B2(hg:Gl X "zip")(hm:X.mg "zip" = none)(ha:SE X cl a a')(hb:SE X cl b b')(hn:noStar a=true)(hn2:noStar b=true):PI' (fun _=>True) X (.Tuple elts kx tp) (.Call (.Name "zip" p) [a,b] [] pos) (tI X.K cl (.zip a' b')):=by
 intro pins s σ H R I h;obtain⟨σD,ds,rv,e,k⟩:=h;obtain⟨x,ea,e⟩:=bind_some e;obtain⟨y,eb,e⟩:=bind_some e;obtain⟨xs,e1,e⟩:=bind_some e;obtain⟨ys,e2,e⟩:=bind_some e;split at e
 ·rename_i hl;cases e;have hpa:PA X [a,b] (kA (tE X.K cl a') (kA (tE X.K cl b') uj)):=bV ha (bV hb eu (a5 [] hn2)) (a5 _ hn);refine Be hg hm hpa (by rw[a5 _ hn,a5 _ hn2];rfl) (a5 [] hn2) pins s σ H R I ?_;refine⟨σD,x,rv,ea,fun v H1 r1=>⟨σD,y,rv.same r1.same,eb,fun u H2 r2=>?_⟩⟩;obtain⟨t1,l1,vs,rfl,h1,p1,c1⟩:=mK e1 (r1.rep.same r2.same);obtain⟨t2,l2,us,rfl,h2,p2,c2⟩:=mK e2 r2.rep;refine⟨t1,t2,l1,l2,vs,us,rfl,h1,h2,k _ _ (r1.same.trans r2.same) ⟨uA hl h1 h2 (fun z=>z) (fun z=>z) p1 p2 eV,fun M P z hP av=>?_⟩⟩;have hP2:=cP (r1.same.trans r2.same) hP;unfold RL.u6 at z;rw[Bool.and_eq_true]at z
  have notT:∀ (t:Bool) l zs,H2 l=some (dh t zs)->t=true->¬ P l:=fun t l zs hl ht q=>by
   subst ht;rcases hP2 l _ q hl with⟨_,q⟩ | ⟨_,q⟩ | ⟨_,q⟩<;>cases q
  refine uA hl h1 h2 ?_ ?_ p1 p2 hP2
  ·cases ht:t1 with
   | true=>exact notT t1 l1 vs h1 ht
   | false=>exact l7 r1 z.1 hP av _ _ (c1 ht) rfl
  ·cases ht:t2 with
   | true=>exact notT t2 l2 us h2 ht
   |false=>
    refine l7 r2 z.2 (fun b q=>?_) (fun j dj vj hj h3 h4=>(av j dj vj hj h3 h4).same r1.same) _ _ (c2 ht) rfl;obtain⟨o,ho,hmu⟩:=hP b q;exact⟨o,r1.same _ _ ho,hmu⟩
 ·cases e
end rules
end RS
namespace L2
open PySem PySem.Spec PyProof.Rows
def mU(xs:List α):∀ k:Nat,k<=xs.length->((List.range k).map fun(j:Nat)=>(((xs.length:Int)-1)+(-1)*(j:Int)).toNat).filterMap (xs.toArray[·]?)=xs.reverse.take k:=by
 intro k
 induction k with
 | zero=>intro _;simp
 |succ k ih=>
  intro hk;rw[List.range_succ,List.map_append,List.filterMap_append,ih (by lia),List.take_succ];congr 1
  have e1:(((xs.length:Int)-1)+(-1)*(k:Int)).toNat=xs.length-1-k:=by lia
  simp only[List.map_cons,List.map_nil,List.filterMap_cons,List.filterMap_nil,e1];rw[List.getElem?_reverse (by lia)];simp only[List.getElem?_toArray];rw[List.getElem?_eq_getElem (by omega)];rfl
def xm(its:List Value):slicePick its.toArray none none (some (-1))=its.reverse.toArray:=by
 have h:=mU its its.length (Nat.le_refl _);rw[List.take_of_length_le (by simp)]at h;unfold slicePick
 have hb:sliceBounds none none (some (-1)) its.toArray.size=((its.length:Int)-1,-1,-1):=by
  simp[sliceBounds]
 rw[hb];dsimp only;unfold sliceRange
 have hc:(if(-1:Int) > 0 then(if(its.length:Int)-1 < -1 then(-1-((its.length:Int)-1)+-1-1) / -1 else 0)else(if(its.length:Int)-1 > -1 then((its.length:Int)-1 - -1 - -1-1) / (- -1)else 0)).toNat=its.length:=by
  rw[if_neg (by decide)];rw[show(- -1:Int)=1 from rfl];split
  ·rw[Int.ediv_one];lia
  ·lia
 dsimp only;rw[hc,h]
section
def vJ(n:Nat):Builtin.Slice.sliceAdjust none none (-1) (n:Int)=((n:Int)-1,-1):=by
 unfold Builtin.Slice.sliceAdjust;rfl
def tX(n:Nat):Builtin.Slice.slicePlaces ((n:Int)-1) (-1) (-1)=n:=by
 unfold Builtin.Slice.slicePlaces;rw[if_neg (by decide)];rw[show(- -1:Int)=1 from rfl];split
 ·rw[Int.ediv_one];lia
 ·lia
def jL{prog:Program}{w:World}{A:Around}{E:Value->Shared->Prop}{s:Shared}{t sl:Addr}{its:List Value}{k:Tok}{Q:Value->Shared->Prop}(ht:IsTup s.heap t its.toArray)(hs:s.heap.IsSliceOf sl .none .none (.int (-1) k))
 (h:Q (.ref s.heap.objs.size) { s with heap:=s.heap.push { cls:=.type "tuple",data:=.seq its.reverse.toArray } })
 (hsz:its.length<=sizeLine):wpAny (model prog w) A (getItem (.ref t) (.ref sl)) Q E s:=by
 have htake:sizeOk (.seq its.reverse.toArray):=by
  show its.reverse.toArray.size<=sizeLine;rw[List.size_toArray,List.length_reverse];exact hsz
 obtain⟨os,hos,hcs,hds⟩:=id hs
 have hTs:s.TypeIs (.ref sl) "slice" := ⟨os,hos,hcs⟩
 unfold getItem
 try with_reducible refine wpAny_holding ?_
 first | refine wpAny_bind (wpAny_pure ?_) | skip
 refine wpAny_bind (wpAny_sequenceKey ht.typeIs (by decide) ?_)
 refine wpAny_bind (wpAny_callSpecial?_slot (name:=Str.ofString "__getitem__") ht.typeIs PyProof.Rows.slot_tuple_getitem
  (wpAny_call_entry PyProof.Rows.slot_tuple_getitem ht.typeIs entry_tuple_getitem ?_ (args_tuple_getitem _ _)))
 show wpAny _ _ (Builtin.Tuple.tupleItemsOf (.ref t) >>= _) _ _ s;refine wpAny_bind (tupleItemsOf_ ht ?_);refine wpAny_bind (wpAny_typeOf hTs ?_);rw[if_pos (by decide)];refine wpAny_bind ?_;unfold Builtin.Slice.sliceApplied Builtin.Slice.sliceFields;refine wpAny_bind (wpAny_bind (wpAny_field hos hds (x:=.none) rfl (wpAny_bind (wpAny_field hos hds (x:=.none) rfl (wpAny_bind (wpAny_field hos hds (x:=.int (-1) k) rfl (wpAny_pure ?_)))))));refine wpAny_bind (HT.e8 (.int (-1) k) ?_);show wpAny _ _ (if((-1:Int) == 0)=true then _ else _) _ _ s;rw[if_neg (by decide)];refine wpAny_bind (HT.e8 .none (wpAny_bind (HT.e8 .none (wpAny_bind (wpAny_pure ?_)))));show wpAny _ _ (match Builtin.Slice.sliceAdjust none none (-1) (its.toArray.size:Int)with | (lo,hi)=>pure (lo,(-1:Int),Builtin.Slice.slicePlaces lo hi (-1))) _ _ s;rw[List.size_toArray,vJ];show wpAny _ _ (pure ((its.length:Int)-1,(-1:Int),Builtin.Slice.slicePlaces ((its.length:Int)-1) (-1) (-1))) _ _ s;rw[tX];refine wpAny_pure ?_;show wpAny _ _ (if(((its.length:Int)-1 == 0)&&(-1:Int) == 1&&its.length == its.toArray.size)=true then _ else _) _ _ s;rw[if_neg (by rw[show((-1:Int) == 1)=false from rfl,Bool.and_false,Bool.false_and];exact Bool.false_ne_true)]
 have pk:((List.range its.length).filterMap fun(m:Nat)=>its.toArray[((its.length:Int)-1+(m:Int)*-1).toNat]?).toArray=its.reverse.toArray:=by
  have h:=mU its its.length (Nat.le_refl _);rw[List.take_of_length_le (by simp),List.filterMap_map]at h;rw[<-h];congr 2;funext m;simp only[Function.comp];congr 2;lia
 rw[pk]
 first
  | exact wpAny_bind (m:=Builtin.Tuple.tupleExact _) (wpAny_newObj_type (wpAny_pure ⟨_,rfl,wpAny_pure h⟩) htake)
  | exact wpAny_bind (m:=Builtin.Tuple.tupleExact _) (wpAny_newObj_type (wpAny_bind (wpAny_pure (wpAny_pure ⟨_,rfl,wpAny_pure h⟩))) htake)
  | exact wpAny_bind (wpAny_bind (m:=Builtin.Tuple.tupleExact _) (wpAny_newObj_type (wpAny_pure (wpAny_pure ⟨_,rfl,wpAny_pure h⟩)) htake))
  | exact wpAny_bind (wpAny_bind (m:=Builtin.Tuple.tupleExact _) (wpAny_newObj_type (wpAny_pure ⟨_,rfl,wpAny_pure h⟩) htake))
abbrev Fv(K:PySem.W.Frag)(te:TE):TE:=fun σ H Q=>te σ H fun x H1=>∃ a xs,x=.ref a/\((SqL K H1 a xs/\∀ p,H1 p=none->Q (.ref p) (upd H1 p (.lst xs.reverse)))\/(SqT K H1 a xs/\∀ p,H1 p=none->Q (.ref p) (upd H1 p (.tup xs.reverse))))
def CP(h3:PE X e3 (tC (.int (-1))))(he:PE X e te):PE X (.Subscript e (.Slice none none (some e3) p2) pos) (Fv X.K te):=by
 intro pins s σ H Q I h;refine Subscript_ (thn (he pins s σ H _ I h) fun v s1 ⟨x,H1,I1,r1,q1⟩=>?_);refine wpAny_Slice ?_;rw[evalPart_none];refine wpAny_pure (wpAny_pure ?_);rw[evalPart_some];refine thn (h3 pins s1 σ H1 (fun y H2=>y=.int (-1)/\H2=H1) I1 ⟨rfl,rfl⟩) fun vs s3 ⟨y,H3,I3,r3,q3⟩=>?_;obtain⟨rfl,rfl⟩:=q3;obtain⟨t,rfl⟩:=r3;obtain⟨a,xs,rfl,q⟩:=q1;cases r1;have I4:Inv X pins σ H3 { s3 with heap:=s3.heap.push { cls:=.type "slice",data:=.fields #[.none,.none,.int (-1) t] } }:=I3.kept (t':=s3.toks) fun b ob q=>Heap.get?_push_of_some _ q;show wpAny (model X.prog X.w) X.A (subscriptTail e (.Slice none none (some e3) p2) (.ref a) (.ref s3.heap.objs.size)) (EP X pins σ Q) X.xe { s3 with heap:=s3.heap.push { cls:=.type "slice",data:=.fields #[.none,.none,.int (-1) t] } }
 rcases q with⟨hx,q⟩ | ⟨hx,q⟩
 ·obtain⟨its,r,ht,hz⟩:=I4.list hx;have hlen:=r.length;refine tail_any (ops:=[.ref a,.ref s3.heap.objs.size]) ht.isList.typeIs slot_list_getitem.lookup ?_ (by with_unfolding_all rfl);refine wpAny_getItem_list_slice ht.isList (Heap.IsSliceOf.new ..) .none .none (.int (-1) t) (by simp) ?_ (by rw[List.size_toArray]<;>lia);rw[xm];refine⟨.ref _,_,I4.laid (t':=s3.toks) (o:=.lst xs.reverse) (fun b ob q=>Heap.get?_push_of_some _ q) (Nat.le_refl _) ?_,rfl,q _ (I4.hok.fresh (Nat.le_refl _))⟩;exact⟨by rw[List.length_reverse];exact hz,_,0,r.reverse,Heap.get?_push_size _ rfl⟩
 ·obtain⟨its,r,ht,hz⟩:=I4.tuple hx;have hlen:=r.length;refine tail_any (ops:=[.ref a,.ref s3.heap.objs.size]) ht.typeIs PyProof.Rows.slot_tuple_getitem.lookup ?_ (by with_unfolding_all rfl);refine jL ht (Heap.IsSliceOf.new ..) ?_ (by lia);refine⟨.ref _,_,I4.laid (t':=s3.toks) (o:=.tup xs.reverse) (fun b ob q=>Heap.get?_push_of_some _ q) (Nat.le_refl _) ?_,rfl,q _ (I4.hok.fresh (Nat.le_refl _))⟩;exact⟨by rw[List.length_reverse];exact hz,_,r.reverse,IsTup.new _ _⟩
end
end L2
namespace RS
open PySem PySem.Spec PyProof.Rows L2
section
def De(ha:SE X cl a a')(h3:ee (-1) e3=true):SE X cl (.Subscript a (.Slice none none (some e3) p2) pos) (.rev a'):=by
 refine PE.weak (CP (gP h3).1 ha) fun σ H Q h=>?_;obtain⟨σD,d,rv,e,k⟩:=h;obtain⟨x,ea,e⟩:=bind_some e;refine⟨σD,x,rv,ea,fun v H1 r1=>?_⟩
 cases x with
 |lst xs=>
  cases e;obtain⟨q,ys,rfl,_,f2,f3⟩:=a7 r1.rep;exact⟨q,ys,rfl,.inl ⟨SqL.of f2,fun l hl=>k _ _ (cM r1.same hl f3.rev fun _=>rfl)⟩⟩
 |tup xs=>
  cases e;obtain⟨q,ys,rfl,f2,f3⟩:=aS r1.rep;exact⟨q,ys,rfl,.inr ⟨SqT.of f2,fun l hl=>k _ _ (fY r1.same hl f3.rev fun _=>rfl)⟩⟩
 | _=>cases e
def xJ{c:Expr}{body:List Stmt}{b:RL.Ss}(hx:X.xe=fun _ _=>False)(hc:ST X cl c c')(hb:SSs X cl M body b):SS X cl M (.While c body [] pos) (.whil c' b):=by
 refine PS.weak (xO (by rw[hx];exact PassesOwn.never) hc hb) fun D σ H h=>?_;obtain⟨σD,r,σD',rv,e,k⟩:=h;refine⟨fun m σ2 H2=>∃ σD2,RVm X.K M σD2 σ2 H2/\Fr' M σ H σ2 H2/\RL.whF (fun σ=>(RL.ev cl σ c').bind RL.truth) (RL.ag cl M b) m σD2=some (r,σD'),⟨_,σD,rv,Fr'.same (aq.refl _),e⟩,?_⟩;rintro m σ2 H2 ⟨σD2,rv2,fr2,hl⟩
 cases m with
 | zero=>rw[RL.whF]at hl;cases hl
 |succ m=>
  rw[RL.whF]at hl;obtain⟨t,e1,hl⟩:=bind_some hl;refine⟨σD2,t,rv2.rv0,e1,fun H3 s3=>?_⟩;have fr3:=fr2.trans (Fr'.same (M:=M) (σ:=σ2) s3)
  cases t with
  |true=>
   rw[if_pos rfl]at hl;dsimp only;rw[if_pos rfl];obtain⟨⟨o,σD3⟩,e2,hl⟩:=bind_some hl;refine⟨fun σ' H'=>∃ m',m'<m+1/\∃ σDx,RVm X.K M σDx σ' H'/\Fr' M σ H σ' H'/\RL.whF (fun σ=>(RL.ev cl σ c').bind RL.truth) (RL.ag cl M b) m' σDx=some (r,σD'),fun _ _ h=>h,σD2,o,σD3,rv2.same s3,e2,?_⟩
   cases o with
   | nx=>exact fun σ' H' rv' fr'=>⟨m,by lia,σD3,rv',fr3.trans fr',hl⟩
   |rt d=>
    cases hl;exact fun σ' H' v H4 rv' fr' sm rp=>k σ' H' v H4 rv' (fr3.trans fr') sm rp
  |false=>
   rw[if_neg (by decide)]at hl;dsimp only;rw[if_neg (by decide)];cases hl;exact k σ2 H3 (rv2.same s3) fr3
end
end RS
namespace L2
open PySem PySem.Spec PyProof.Rows
section
end
section
end
end L2
namespace RS
open PySem PySem.Spec PyProof.Rows L2
section
end
section
variable{st:Stmt}
end
section
variable{X:Cx}
end
end RS
namespace L2
open PySem PySem.Spec PyProof.Rows
end L2
namespace RS
open PySem PySem.Spec PyProof.Rows L2
end RS
namespace L2
open PySem PySem.Spec PyProof.Rows
section
variable{prog:Program}{w:World}{A:Around}{E:Value->Shared->Prop}{s:Shared}
end
end L2
namespace RS
open PySem PySem.Spec PyProof.Rows L2
end RS
namespace L2
open PySem PySem.Spec PyProof.Rows
end L2
namespace RS
open PySem PySem.Spec PyProof.Rows L2
end RS
namespace L2
open PySem PySem.Spec PyProof.Rows
end L2
namespace RS
open PySem PySem.Spec PyProof.Rows L2
section
open PySem.Builtin.Str
end
section
variable{X:Cx}{cl:RL.Cl}{a b:Expr}{a' b' e':RL.E}{pos p2:Pos}{M:List Nat}{st:Stmt}{i:Nat}
end
section
variable{X:Cx}{cl:RL.Cl}{a b c d:Expr}{a' b' c' d':RL.E}{pos apos p p2 p3:Pos}
end
section
open PySem.W
variable{prog:Program}{w:World}{A:Around}{E:Value->Shared->Prop}{s:Shared}
def mY:∀ (f n r:Nat),minRun' f n r<=n+r
 | 0,n,r=>Nat.le_refl _
 | f+1,n,r=>by
  rw[minRun'_succ];split
  ·exact Nat.le_refl _
  ·have h:=mY f (n / 2) (max r (n%2));lia
def vX{κ:SortKind}{it:Array Keyed}{n:Nat}(hc:∀ i,1<=i->i<n->∀ C:Bool->Shared->Prop,C false s->kas_cmp prog w A κ it i (i-1) C s) :
  ∀ (f k:Nat),1<=k->k+f<=n->(kas_asc (List.toArray (List.range n)) f k).kasWp (kas_cmp prog w A κ it) (fun m s'=>m=k+f/\s'=s) s
 | 0,k,_,_=>⟨rfl,rfl⟩
 | f+1,k,h1,h2=>by
  have e1:(List.toArray (List.range n)).getD k 0=k:=by simp[Array.getD];lia
  have e2:(List.toArray (List.range n)).getD (k-1) 0=k-1:=by simp[Array.getD];lia
  show kas_cmp prog w A κ it ((List.toArray (List.range n)).getD k 0) ((List.toArray (List.range n)).getD (k-1) 0) _ s;rw[e1,e2];refine hc k h1 (by lia) _ ?_;have h:=vX hc f (k+1) (by lia) (by lia);rw[show k+1+f=k+(f+1) by lia]at h;exact h
def xu{κ:SortKind}{it:Array Keyed}{n:Nat}{Q:Unit->SortSt->Shared->Prop}(h2:2<=n)(hc:∀ i,1<=i->i<n->∀ C:Bool->Shared->Prop,C false s->kas_cmp prog w A κ it i (i-1) C s)
 (hQ:∀ st,arrOf st=(List.toArray (List.range n)).map (kas_item it)->failedOf st=none->Q () st s):kasC (model prog w) A E sortRuns' Q (kas_st κ it (List.toArray (List.range n))) s:=by
 obtain⟨r,rfl⟩:∃ r,n=r+2:=⟨n-2,by lia⟩
 have hrs:(List.toArray (List.range (r+2))).size=r+2:=by simp
 have hsz:(arrOf (kas_st κ it (List.toArray (List.range (r+2))))).size=r+2:=by
  show((List.toArray (List.range (r+2))).map (kas_item it)).size=_;rw[Array.size_map,hrs]
 have hmr:=mY (r+2) (r+2) 0;rw[sortRuns'_eq];refine kasC_bind (kasC_get ?_);dsimp only;simp only[hsz];generalize hM:minRun' (r+2) (r+2) 0=M at hmr ⊢;refine kasC_bind (kasC_range ?_);show kasC _ _ _ (forIn (0::1::List.range' 2 r) _ _) _ _ _;refine kasC_cons ?_;dsimp only;rw[if_neg (by lia)];simp only[Nat.sub_zero,Nat.zero_add]
 have ask:(kas_count (r+2) (List.toArray (List.range (r+2)))).kasWp (kas_cmp prog w A κ it) (fun q s'=>(q.1=r+2/\q.2=List.toArray (List.range (r+2)))/\s'=s) s:=by
  unfold kas_count;rw[KasT.kasWp_bind];refine kas_wp_mono (vX hc (r+2-1) 1 (Nat.le_refl 1) (by lia)) fun m s' hm=>?_;obtain⟨rfl,rfl⟩:=hm;rw[if_pos (by simp;lia)];exact⟨⟨by show 1+(r+2-1)=_;lia,rfl⟩,rfl⟩
 refine kasC_bind (kas_count_ (by lia) (by rw[hrs];exact Nat.le_refl _) (fun m p' s' _ _ _ hg=>?_) ask);obtain⟨⟨e1,e2⟩,e3⟩:=hg;dsimp only at e1 e2;subst e1 e2 e3;dsimp only;rw[if_neg (by lia)];refine kasC_bind (kasC_get ?_);rw[show(pendingOf (kas_st κ it (List.toArray (List.range (r+2))))).back?=none from rfl];dsimp only;refine kasC_bind (kasC_modify (kasC_pure ?_));show kasC _ _ _ (forIn (1::List.range' 2 r) _ _) _ _ _;refine kasC_cons ?_;dsimp only;rw[if_pos (Nat.le_refl _)];refine kasC_pure ?_;dsimp only;refine kasC_bind (kasC_range ?_);show kasC _ _ _ (forIn (0::1::List.range' 2 r) _ _) _ _ _;refine kasC_cons (kasC_bind (kasC_get ?_));rw[if_pos (show(pendingOf (setPending (kas_st κ it (List.toArray (List.range (r+2)))) ((pendingOf (kas_st κ it (List.toArray (List.range (r+2))))).push (0,r+2,0)))).size<=1 from Nat.le_refl 1)];refine kasC_pure ?_;dsimp only;exact kasC_pure (hQ _ rfl rfl)
variable{vs:List Value}{xs:List Str}
def qG(rv:Vals (xs.map V.str) vs)(h:xs[i]?=some x):∃ t,vs.getD i Value.none=.str x t:=by
 obtain⟨u,h1,t,rfl⟩:=rv.get (i:=i) (x:=.str x) (by simp[h]);exact⟨t,by simp[List.getD,h1]⟩
abbrev sS(xs:List Str):Prop:=∀ (i:Nat) (a b:Str),xs[i]?=some a->xs[i+1]?=some b->¬ b.cps.toList<a.cps.toList
def nK{a:Addr}{n:Nat}{P:PySem.Fin->Shared->Prop}(ho:s.heap.get? a=some (seqObj "list" vs.toArray n))(rv:Vals (xs.map V.str) vs)(asc:sS xs)(hz:vs.length<=sizeLine)
 (h:P (.done (.ret .none)) { s with heap:=sortedHeap s.heap a vs vs.toArray }):wpAny (model prog w) A (Builtin.«list.sort» ⟨[.ref a],[]⟩) P E s:=by
 have hlen:xs.length=vs.length:=by simpa using rv.length
 obtain⟨e1,ho1⟩:∃ e1,(s.heap.update a (Obj.mapSeq fun _=>(#[]:Array Value))).get? a=some (seqObj "list" #[] e1):=⟨_,get?_update_seq ho fun _=>#[]⟩
 have hlt:a<s.heap.objs.size:=Heap.lt_size ho;have ho3:(((s.heap.update a (Obj.mapSeq fun _=>(#[]:Array Value))).push (seqObj "tuple" vs.toArray 0)).push (seqObj "list" #[] 0)).get? a=some (seqObj "list" #[] e1):=Heap.get?_push_of_some _ (Heap.get?_push_of_some _ ho1)
 have fin:∀ st:SortSt,(arrOf st).map (·.2)=vs.toArray->failedOf st=none->wpAny (model prog w) A (do
   let sorted:=(arrOf st).map (·.2)
   let touched:=(<- seqEpoch a) != e1
   Builtin.List.listUpdate (.ref a) fun _=>sorted
   if let some e:=failedOf st then do rule "list.sort.comparison-raised";throw e
   if touched then do rule "list.sort.modified";raiseError "ValueError" "list modified during sort"
   ret .none) P E { s with heap:=((s.heap.update a (Obj.mapSeq fun _=>(#[]:Array Value))).push (seqObj "tuple" vs.toArray 0)).push (seqObj "list" #[] 0) }:=fun st hs hf=>by
  dsimp only;rw[hs,hf];refine wpAny_bind (seqEpoch_at ho3 rfl (wpAny_bind (listUpdate_at ho3 rfl ?_ (Nat.zero_le _) (by rw[List.size_toArray];lia))));simp only[bne_self_eq_false,Bool.false_eq_true,if_false];exact wpAny_pure h
 rw[list_sort_plain];refine wpAny_bind (listItems_at ho rfl (wpAny_bind (listUpdate_at ho rfl ?_ (by rw[List.size_toArray];exact hz) (Nat.zero_le _))));refine wpAny_bind (seqEpoch_at ho1 rfl (wpAny_bind (wpAny_newTuple ?_ (by show vs.length<=_;exact hz))));refine wpAny_bind (wpAny_newList (wpAny_holding ?_) (Nat.zero_le _));show wpAny (model prog w) A _ P E { s with heap:=((s.heap.update a (Obj.mapSeq fun _=>(#[]:Array Value))).push (seqObj "tuple" vs.toArray 0)).push (seqObj "list" #[] 0) };dsimp only
 have sn:∀ k:SortKind,(arrOf (SortSt.mk' k (vs.toArray.zip vs.toArray) #[] 7 none)).map (·.2)=vs.toArray:=fun k=>by
  show(vs.toArray.zip vs.toArray).map (·.2)=_;apply Array.toList_inj.mp;simp only[Array.toList_map,Array.toList_zip];exact List.map_snd_zip (Nat.le_refl _)
 by_cases hn:vs.length<2
 ·have hn':vs.toArray.size<2:=by simpa using hn
  rw[if_pos hn',if_pos hn'];exact wpAny_bind (wpAny_pure (wpAny_bind (wpAny_pure (fin _ (sn _) rfl))))
 ·have hn':¬ vs.toArray.size<2:=by simpa using hn
  rw[if_neg hn',if_neg hn'];refine wpAny_bind (kas_kind (T:=.type "str") (by lia) (fun v hv=>?_) rfl rfl ?_)
  ·obtain⟨j,hj,rfl⟩:=List.mem_iff_getElem.mp hv;obtain⟨t,e⟩:=qG (i:=j) (x:=xs[j]'(by lia)) rv (by simp)
   have:vs.getD j Value.none=vs[j]:=by simp[List.getD,hj]
   rw[<-this,e];exact .of_pure rfl
  ·have est:SortSt.mk' oneType' (vs.toArray.zip vs.toArray) #[] 7 none=kas_st oneType' (pairsOf vs) (List.toArray (List.range vs.length)):=by
    have e:=kas_range (pairsOf vs);rw[pairsOf_size]at e;unfold kas_st;rw[e];rfl
   rw[est];refine wpAny_bind (wpAny_mono (xu (E:=E) (Q:=fun _ st s'=>(arrOf st=(List.toArray (List.range vs.length)).map (kas_item (pairsOf vs))/\failedOf st=none)/\s'={ s with heap:=((s.heap.update a (Obj.mapSeq fun _=>(#[]:Array Value))).push (seqObj "tuple" vs.toArray 0)).push (seqObj "list" #[] 0) }) (by lia) (fun i h1 hi C hC=>?_) fun st e1 e2=>⟨⟨e1,e2⟩,rfl⟩) ?_ fun _ _ e=>e)
   ·have hb:i-1+1=i:=by lia
    obtain⟨t,e⟩:=qG (i:=i) (x:=xs[i]'(by lia)) rv (by simp);obtain⟨t',e'⟩:=qG (i:=i-1) (x:=xs[i-1]'(by lia)) rv (by simp);rw[<-kas_ask_eq];unfold kas_ask;rw[e,e'];refine kas_lt_str ?_;rw[decide_eq_false (asc (i-1) _ _ (by simp) (by rw[hb];simp))];exact hC
   ·rintro⟨⟨⟩,st⟩ s' ⟨⟨e1,e2⟩,rfl⟩;refine fin st ?_ e2;have e:=kas_range (pairsOf vs);rw[pairsOf_size]at e;rw[e1,e];exact sn oneType'
def t8{l:Addr}{Q:Value->Shared->Prop}(hl:s.heap.IsList l vs.toArray)(rv:Vals (xs.map V.str) vs)(asc:sS xs)(hz:vs.length<=sizeLine)
 (h:Q (.ref (s.heap.objs.size+1)) { s with heap:=sortedAll s.heap vs vs.toArray }):wpAny (model prog w) A (call (.builtin "sorted") [.ref l]) Q E s:=by
 have hsz:((s.heap.push (seqObj "list" #[] 0)).update s.heap.objs.size (Obj.mapSeq (· ++ vs.toArray))).objs.size=s.heap.objs.size+1:=by rw[Heap.size_update,size_push']
 have hoL:(((s.heap.push (seqObj "list" #[] 0)).update s.heap.objs.size (Obj.mapSeq (· ++ vs.toArray))).push (seqObj "list" vs.toArray 0)).get? (s.heap.objs.size+1)=some (seqObj "list" vs.toArray 0):=by
  rw[<-hsz];exact Heap.get?_push_size _ rfl
 refine Calls.call_function_entry kind_sorted plain_sorted entry_sorted (args_sorted1 _) ?_;unfold Builtin.«sorted»;refine wpAny_bind (m:=checkCount "sorted" 1 1 _) (wpAny_pure (wpAny_bind (collect_list hl (wpAny_bind (wpAny_newList ?_ hz)) hz)));show wpAny _ _ _ _ _ { s with heap:=((s.heap.push (seqObj "list" #[] 0)).update s.heap.objs.size (Obj.mapSeq (· ++ vs.toArray))).push (seqObj "list" vs.toArray 0) };rw[hsz];exact wpAny_bind (wpAny_holding (wpAny_call_entry slot_list_sort ⟨_,hoL,rfl⟩ entry_list_sort (nK hoL rv asc hz ⟨_,rfl,wpAny_pure ⟨_,rfl,h⟩⟩) (args_list_sort _)))
end
variable{X:Cx}
def oV:bA X (.builtin "sorted") (fun xs H Q=>∃ (p:Addr) (ts:List Str),xs=[.ref p]/\H p=some (.lst (ts.map V.str))/\sS ts/\∀ l,H l=none->Q (.ref l) (upd H l (.lst (ts.map V.str)))):=by
 intro pins s σ H xs us Q I r h;obtain⟨p,ts,rfl,hp,asc,q⟩:=h
 cases r with
 |cons r rr=>
  cases rr;cases r;obtain⟨its,rv,hl,hz⟩:=I.list (SqL.of hp)
  have hz':its.length<=sizeLine:=by rw[<-rv.length];simpa using hz
  refine t8 hl.isList rv asc hz' ?_;obtain⟨en,he⟩:=sortedAll_at s.heap its its.toArray;refine⟨.ref (s.heap.objs.size+1),_,I.laid (t':=s.toks) (o:=.lst (ts.map V.str)) (fun b ob q=>sortedAll_old q) (by lia) ?_,rfl,q _ (I.hok.fresh (by lia))⟩;exact⟨by simpa using hz,its,en,rv,he⟩
section
variable{K:PySem.W.Frag}
def RVm.CW(h:RVm K N1 σD σ H)(sub:∀ i,N2.contains i=true->N1.contains i=true):RVm K N2 σD σ H where
 len:=h.len
 val:=fun i d e=>by
  obtain⟨v,h1,h2⟩:=h.val i d e;refine⟨v,h1,?_⟩;by_cases hm:N2.contains i=true
  ·rw[if_pos hm];rw[if_pos (sub i hm)]at h2;exact h2
  ·rw[if_neg hm];by_cases hn:N1.contains i=true
   ·rw[if_pos hn]at h2;obtain⟨a,o,rfl,_,_⟩:=h2.ref;have np:¬ aI N2 σ a:=fun⟨k,hk,ek⟩=>hm ((h.sep i k a hn (sub k hk) h1 ek)▸hk);obtain⟨q1,q2,q3⟩:=h2
    cases d with
    | lst ds=>obtain⟨b,xs,e1,e0,e2,e3⟩:=a7 q3;cases e1;rw[Rep];exact⟨a,xs,rfl,np,e2,e3.imm q2⟩
    | dK ks ds=>rw[Rep]at q3 ⊢;obtain⟨b,xs,e1,e0,e2,el,e3⟩:=q3;cases e1;exact⟨a,xs,rfl,np,e2,el,e3.imm q2⟩
    | dT ks ds=>rw[Rep]at q3 ⊢;obtain⟨b,xs,e1,e0,e2,el,e3⟩:=q3;cases e1;exact⟨a,xs,rfl,np,e2,el,e3.imm q2⟩
    | _=>cases q1
   ·rw[if_neg hn]at h2
    exact h2.weak fun b ⟨k,hk,ek⟩=>⟨k,sub k hk,ek⟩
 non:=h.non
 sep:=fun i j a hi hj=>h.sep i j a (sub i hi) (sub j hj)
def dD{M:List Nat}{i j:Nat}(h:(j::M).contains i=true):i=j\/M.contains i=true:=by simpa using h
def fS{M:List Nat}{j:Nat}:(j::M).contains j=true:=by simp
def cC{M:List Nat}{i j:Nat}(h:M.contains i=true):(j::M).contains i=true:=by simp at h ⊢;exact .inr h
def RVm.open(h:RVm K M σD σ H)(s:aq H H1)(ha:H a=none)(r:Own K H1 d (.ref a)):RVm K (i::M) (σD.set i (some d)) (σ.set i (some (.ref a))) H1 /\
  ∀ b,aI (i::M) (σ.set i (some (.ref a))) b->aI M σ b\/b=a:=by
 have sub:∀ b,aI (i::M) (σ.set i (some (.ref a))) b->aI M σ b\/b=a:=fun b ⟨j,hj,e⟩=>by
  by_cases hji:j=i
  ·subst hji
   have hlt:j<σ.length:=by simpa using(List.getElem?_eq_some_iff.mp e).1
   rw[List.getElem?_set_self hlt]at e;cases e;exact .inr rfl
  ·rw[List.getElem?_set_ne (Ne.symm hji)]at e;exact .inl ⟨j,(dD hj).resolve_left hji,e⟩
 have old:∀ b,aI M σ b->b≠a:=fun b p z=>h.md b p (z▸ha);refine⟨⟨by simpa using h.len,fun j dj e=>?_,fun j w e=>?_,fun j k b hj hk e1 e2=>?_⟩,sub⟩
 ·by_cases hj:j=i
  ·subst hj
   have hlt:j<σD.length:=by simpa using(List.getElem?_eq_some_iff.mp e).1
   rw[List.getElem?_set_self hlt]at e;cases e;refine⟨.ref a,by rw[List.getElem?_set_self (by rw[<-h.len];exact hlt)],?_⟩;rw[if_pos fS];exact r
  ·rw[List.getElem?_set_ne (Ne.symm hj)]at e ⊢;obtain⟨v,h1,h2⟩:=h.val j dj e;refine⟨v,h1,?_⟩;by_cases hm:M.contains j=true
   ·rw[if_pos (cC hm)];rw[if_pos hm]at h2;exact h2.same s
   ·rw[if_neg fun z=>hm ((dD z).resolve_left hj)];rw[if_neg hm]at h2;exact((h2.dt ha).weak sub).same s
 ·by_cases hj:j=i
  ·subst hj
   have hlt:j<σ.length:=by simpa using(List.getElem?_eq_some_iff.mp e).1
   exact⟨d,by rw[List.getElem?_set_self (by rw[h.len];exact hlt)]⟩
  ·rw[List.getElem?_set_ne (Ne.symm hj)]at e ⊢;exact h.non j w e
 ·by_cases h1:j=i
  ·by_cases h2:k=i
   ·rw[h1,h2]
   ·subst h1
    have hlt:j<σ.length:=by simpa using(List.getElem?_eq_some_iff.mp e1).1
    rw[List.getElem?_set_self hlt]at e1;rw[List.getElem?_set_ne (Ne.symm h2)]at e2;cases e1;exact absurd rfl (old _ ⟨k,(dD hk).resolve_left h2,e2⟩)
  ·rw[List.getElem?_set_ne (Ne.symm h1)]at e1;by_cases h2:k=i
   ·subst h2
    have hlt:k<σ.length:=by simpa using(List.getElem?_eq_some_iff.mp e2).1
    rw[List.getElem?_set_self hlt]at e2;cases e2;exact absurd rfl (old _ ⟨j,(dD hj).resolve_left h1,e1⟩)
   ·rw[List.getElem?_set_ne (Ne.symm h2)]at e2;exact h.sep j k b ((dD hj).resolve_left h1) ((dD hk).resolve_left h2) e1 e2
end
abbrev FrX(M N1:List Nat)(σ0:L2.St)(H0:Hp)(σ:L2.St)(H:Hp):Prop:=(∀ b o,H0 b=some o->¬ aI M σ0 b->H b=some o/\¬ aI N1 σ b)/\∀ j,2<=M.count j->σ[j]?=σ0[j]?
abbrev tQ(K:PySem.W.Frag)(M N1:List Nat)(f:RL.St->Option (RL.Out × RL.St)):TS:=fun D σ H=>∃ σ0 H0 σD r σD',RVm K N1 σD σ H/\FrX M N1 σ0 H0 σ H/\f σD=some (r,σD')/\pN K M D σ0 H0 r σD'
abbrev SQ(X:Cx)(cl:RL.Cl)(M N1:List Nat)(st:List Stmt)(s:RL.Sq):Prop:=PSs X st (tQ X.K M N1 (RL.tB cl M N1 s))
section
variable{X:Cx}{M N1:List Nat}{st:Stmt}{sts:List Stmt}{j:Nat}
def Bg(h:SSs X cl M sts r)(sub:∀ i,M.contains i=true->N1.contains i=true):SQ X cl M N1 sts (.cls r):=by
 refine PSs.weak h fun D σ H h=>?_;obtain⟨σ0,H0,σD,o,σD',rv,fr,e,k⟩:=h;exact⟨σD,o,σD',rv.CW sub,e,k.from ⟨fun b u eb n=>⟨(fr.1 b u eb n).1,fun⟨j,hj,ej⟩=>(fr.1 b u eb n).2 ⟨j,sub j hj,ej⟩⟩,fr.2⟩⟩
def Ai(h1:SS X cl N1 st s)(h2:SQ X cl M N1 sts r)(cnt:∀ j,2<=M.count j->2<=N1.count j):SQ X cl M N1 (st::sts) (.cons s r):=by
 refine PSs.weak (il h1 h2) fun D σ H h=>?_;obtain⟨σ0,H0,σD,o,σD',rv,fr,e,k⟩:=h;obtain⟨p,e1,e2⟩:=bind_some e;obtain⟨o1,σ1⟩:=p
 cases o1 with
 | rt d=>cases e2
 | nx=>exact⟨σD,.nx,σ1,rv,e1,fun σ' H' rv' fr'=>⟨σ0,H0,σ1,o,σD',rv',⟨fun b u eb n=>fr'.1 b u (fr.1 b u eb n).1 (fr.1 b u eb n).2,fun j hj=>(fr'.2 j (cnt j hj)).trans (fr.2 j hj)⟩,e2,k⟩⟩
def qZ{K:PySem.W.Frag}(rv:RVm K N1 σD σ H)(fr:FrX M N1 σ0 H0 σ H)(hj:M.count j<2)(ok:(RL.aG d&&RL.a9 e')=true)(r1:Res K σD σ H e' d v H1):RVm K (j::N1) (σD.set j (some d)) (σ.set j (some v)) H1/\FrX M (j::N1) σ0 H0 (σ.set j (some v)) H1:=by
 rw[Bool.and_eq_true]at ok
 have m:iL d=true:=by
  cases d with
  | lst _=>rfl
  | dK _ _=>rfl
  | dT _ _=>rfl
  | _=>cases ok.1
 have ow:Own K H1 d v:=⟨m,ok.1,r1.rep⟩
 obtain⟨a,ob,rfl,_,_⟩:=ow.ref;have hn:=r1.fresh ok.2 m a rfl;obtain⟨g1,g2⟩:=rv.open (i:=j) r1.same hn ow;refine⟨g1,fun b u eb n=>⟨r1.same _ _ (fr.1 b u eb n).1,fun z=>(g2 b z).elim (fr.1 b u eb n).2 fun q=>aB (fr.1 b u eb n).1 hn q⟩,fun k hk=>?_⟩;rw[List.getElem?_set_ne (fun z=>by subst z;lia)];exact fr.2 k hk
def BL(h:SA X cl st j e')(hj:M.count j<2)(h2:SQ X cl M (j::N1) sts r):SQ X cl M N1 (st::sts) (.opn j e' r):=by
 refine PSs.weak (il h h2) fun D σ H h=>?_;obtain⟨σ0,H0,σD,o,σD',rv,fr,e,k⟩:=h;obtain⟨d,e1,e2⟩:=bind_some e;split at e2
 ·rename_i ok;refine⟨σD,d,rv.rv0,e1,fun v H1 r1=>?_⟩;obtain⟨g1,g2⟩:=qZ rv fr hj ok r1;exact⟨σ0,H0,_,o,σD',g1,g2,e2,k⟩
 ·cases e2
def A5(h:SA X cl st j e')(hj:M.contains j=false)(h2:SQ X cl M (j::M) sts r):SSs X cl M (st::sts) (.opn j e' r):=by
 refine PSs.weak (il h h2) fun D σ H h=>?_;obtain⟨σD,o,σD',rv,e,k⟩:=h;obtain⟨d,e1,e2⟩:=bind_some e;split at e2
 ·rename_i ok;refine⟨σD,d,rv.rv0,e1,fun v H1 r1=>?_⟩
  have c0:M.count j<2:=by
   have:M.count j=0:=List.count_eq_zero.mpr (by simpa using hj);lia
  obtain⟨g1,g2⟩:=qZ (M:=M) (σ0:=σ) (H0:=H) rv ⟨fun b u eb n=>⟨eb,n⟩,fun _ _=>rfl⟩ c0 ok r1;exact⟨σ,H,_,o,σD',g1,g2,e2,k⟩
 ·cases e2
end
section
variable{X:Cx}
variable{M:List Nat}{st:Stmt}{i:Nat}{cl:RL.Cl}
def sH{P:Addr->Prop}{K:PySem.W.Frag}:∀ {ds:List RL.D} {ss:List Str} {xs:List V},RL.strs? ds=some ss->aa P K H ds xs->xs=ss.map V.str
 | [],ss,xs,h,r=>by cases h;rw[aa]at r;exact r
 | .str y::ds,ss,xs,h,r=>by
  obtain⟨ys,h1,h2⟩:=map_some (show(RL.strs? ds).map _=some ss from h);subst h2;rw[aa]at r;obtain⟨x,t,rfl,r1,r2⟩:=r;rw[aF r1,sH h1 r2];rfl
def vf:∀ {xs:List Str},RL.oW xs=true->sS xs
 | [],_,i,a,b,h,_=>by simp at h
 | [_],_,i,a,b,_,h=>by simp at h
 | x::y::r,z,i,a,b,h1,h2=>by
  rw[RL.oW,Bool.and_eq_true]at z
  cases i with
  | zero=>simp at h1 h2;subst h1 h2;simpa using z.1
  | succ i=>exact vf z.2 i a b (by simpa using h1) (by simpa using h2)
def ur{a:Expr}{a':RL.E}{p pos:Pos}(hg:Gl X "sorted")(hm:X.mg "sorted" = none)(ha:SE X cl a a')(hn:noStar a=true):SE X cl (.Call (.Name "sorted" p) [a] [] pos) (.bi .sortedS a'):=by
 refine je oV hg hm (by decide +kernel) ha hn (by decide) (by decide) fun σD σ H H1 y d v Q e s1 r1 k=>?_
 cases y<;>first | (cases e;done) | skip
 case lst ds =>
  rw[RL.Fo]at e;obtain⟨ss,e1,e2⟩:=bind_some e;split at e2
  ·rename_i asc;cases e2;obtain⟨q,xs,rfl,_,f2,f3⟩:=a7 r1;have hx:=sH e1 f3;rw[hx]at f2 f3;exact⟨q,ss,rfl,f2,vf asc,fun l hl=>k _ _ (cM s1 hl f3 fun _=>rfl)⟩
  ·cases e2
end
section
variable{bt:Bool}{t:SetTable}{m:Nat}
end
section
variable{prog:Program}{w:World}{A:Around}{E:Value->Shared->Prop}{s:Shared}
end
section
variable{prog:Program}{w:World}{A:Around}{E:Value->Shared->Prop}{s:Shared}
variable{R:Result->Shared->Prop}{I:Addr}{fp wr:List Addr}{G:Array GenState->Array GenState->Prop}{n:Nat}{P:Nat->Value->Prop}{St:Nat->Shared->Prop}
end
section
variable{prog:Program}{w:World}{A:Around}{E:Value->Shared->Prop}{s:Shared}{S I:Addr}{o:Obj}{es:Array (Int × Value)}{ep m i j:Nat}{t:SetTable}
end
section
variable{prog:Program}{w:World}{A:Around}{E:Value->Shared->Prop}{s:Shared}{S I:Addr}{o:Obj}{es:Array (Int × Value)}{ep m i j:Nat}{t:SetTable}
end
section
variable{X:Cx}
end
open Sem (wp)
section
variable{prog:Program}{w:World}{A:Around}{E:Value->Shared->Prop}{s:Shared}{it d:Addr}{es:Array DictEntry}{ep i:Nat}
end
end RS
namespace L2
open PySem PySem.Spec PyProof.Rows
end L2
namespace RS
open PySem PySem.Spec PyProof.Rows L2
def AF{X:Cx}{sts:List Stmt}{t t':TS}(h:PSs X sts t')(w:∀ D σ H,t D σ H->∃ a kvs,H a=some (.dT kvs)/\∀ o,t' D σ (upd H a (.frz o (.dT kvs)))):PSs X sts t:=by
 intro pins s σ H D I q;obtain⟨a,kvs,hH,k⟩:=w D σ H q;obtain⟨z,hs,xs,pr,o,es,ep,g,rest⟩:=id (I.hok a _ hH);have I':Inv X pins σ (upd H a (.frz o (.dT kvs))) { s with heap:=s.heap,toks:=s.toks }:=I.write (x:=a) (e:=a) (h':=s.heap) (t':=s.toks) (by rw[hH];trivial) (.inl rfl) (fun b u _ e=>e) ⟨o,g⟩ ⟨g,z,hs,xs,?_,o,es,ep,g,rest⟩
 ·exact h pins s σ _ D I' (k o)
 ·exact Paired.mono (fun p q ⟨h1,h2,h3⟩=>⟨h1,by rw[aD (jE h2 hH (by intro z;cases z))];exact h2,h3⟩) pr
def RVm.freeze{K:PySem.W.Frag}{M:List Nat}(h:RVm K (j::M) σD σ H)(hM:M.contains j=false)(h1:σ[j]?=some (some (.ref a)))(f2:H a=some (.dT kvs)):RVm K M (σD.set j (some (.fT (kvs.map (·.1))))) σ (upd H a (.frz o (.dT kvs))):=by
 have pa:aI (j::M) σ a:=⟨j,fS,h1⟩
 have mu:bZ (.dT kvs):=.inr (.inr ⟨_,rfl⟩);refine⟨by simpa using h.len,fun i d ei=>?_,fun i w e=>?_,fun i k b hi hk=>h.sep i k b (cC hi) (cC hk)⟩
 ·by_cases hij:i=j
  ·subst hij
   have hlt:i<σD.length:=by simpa using(List.getElem?_eq_some_iff.mp ei).1
   rw[List.getElem?_set_self hlt]at ei;cases ei;refine⟨.ref a,h1,?_⟩;rw[if_neg (by rw[hM];exact Bool.false_ne_true),Rep];exact⟨a,o,kvs,rfl,aW,rfl⟩
  ·rw[List.getElem?_set_ne (Ne.symm hij)]at ei;obtain⟨v,g1,g2⟩:=h.val i d ei;refine⟨v,g1,?_⟩;by_cases hm:M.contains i=true
   ·rw[if_pos hm];rw[if_pos (cC hm)]at g2;obtain⟨b,ob,rfl,_,_⟩:=g2.ref;exact g2.off (P:=fun x=>x=a) (fun x u e e'=>by subst e;rw[f2]at e';cases e';exact mu) (fun x u n e=>by rw[aD n];exact e) fun z=>hij (h.sep i j a (cC hm) fS (z▸g1) h1)
   ·rw[if_neg hm];rw[if_neg fun z=>hm ((dD z).resolve_left hij)]at g2
    exact(g2.upd f2 mu pa).weak fun b ⟨k,hk,ek⟩=>⟨k,cC hk,ek⟩
 ·obtain⟨d,hd⟩:=h.non i w e;by_cases hij:i=j
  ·subst hij;exact⟨_,List.getElem?_set_self (List.getElem?_eq_some_iff.mp hd).1⟩
  ·exact⟨d,by rw[List.getElem?_set_ne (Ne.symm hij)];exact hd⟩
def Dd{X:Cx}{M:List Nat}{sts:List Stmt}(h:SSs X cl M sts r)(hM:M.contains j=false):SQ X cl M (j::M) sts (.frz j r):=by
 refine AF h fun D σ H h=>?_;obtain⟨σ0,H0,σD,o,σD',rv,fr,e,k⟩:=h;obtain⟨d,e1,e2⟩:=bind_some e;obtain⟨dj,e3,e4⟩:=bind_some e1
 cases dj with
 |dT ks vs=>
  cases e4;obtain⟨v,h1,h2⟩:=rv.val j _ (slot_get e3);rw[if_pos fS]at h2;obtain⟨q1,q2,q3⟩:=h2;rw[Rep]at q3;obtain⟨a,xs,rfl,_,f2,fl,f3⟩:=q3
  have hk:(ks.zip xs).map (·.1)=ks:=by rw[List.map_fst_zip];rw[fl,f3.length];exact Nat.le_refl _
  refine⟨a,ks.zip xs,f2,fun ob=>⟨_,o,σD',rv.freeze hM h1 f2,by rw[hk];exact e2,k.from ⟨fun b u eb n=>⟨?_,fun⟨i,hi,ei⟩=>(fr.1 b u eb n).2 ⟨i,cC hi,ei⟩⟩,fr.2⟩⟩⟩;rw[aD (fun z=>(fr.1 b u eb n).2 ⟨j,fS,by rw[z];exact h1⟩)];exact(fr.1 b u eb n).1
 | _=>cases e4
end RS
namespace L2
open PySem PySem.Spec PyProof.Rows
section
variable{X:Cx}
def BS{e:Expr}{t t':TE}(h:PE X e t')(w:∀ σ H Q,t σ H Q->t' σ H fun v H1=>∃ p xs,v=.ref p/\H1 p=some (.lst xs)/\∀ o,Q (.ref p) (upd H1 p (.frz o (.lst xs)))):PE X e t:=by
 intro pins s σ H Q I q;refine thn (h pins s σ H _ I (w σ H Q q)) fun v s1 ⟨x,H1,I1,r1,p,xs,e1,hH,k⟩=>?_;subst e1;obtain⟨z,its,n,r,g⟩:=I1.hok p _ hH;have I':Inv X pins σ (upd H1 p (.frz _ (.lst xs))) { s1 with heap:=s1.heap,toks:=s1.toks }:=I1.write (x:=p) (e:=p) (h':=s1.heap) (t':=s1.toks) (by rw[hH];trivial) (.inl rfl) (fun b u _ e=>e) ⟨_,g⟩ ⟨g,z,its,n,r,g⟩;exact⟨.ref p,_,I',r1,k _⟩
abbrev E6(K:PySem.W.Frag):R2:=fun x y H Q=>∃ l b xs zs,x=.ref l/\y=.ref b/\SqL K H l xs/\SqL K H b zs/\xs.length+zs.length<=sizeLine/\∀ p,H p=none->Q (.ref p) (upd H p (.lst (xs++zs)))
def zI:OpR X (binaryOp .Add) (E6 X.K):=by
 intro pins s σ H x y v u Q I rx ry h;obtain⟨l,b,xs,zs,rfl,rfl,hH,hB,hz,q⟩:=h;cases rx;cases ry;obtain⟨its,r,hl,e⟩:=I.list hH;obtain⟨its2,r2,hl2,e2⟩:=I.list hB;have a1:=r.length;have a2:=r2.length;obtain⟨⟨cls,dd,data,sl⟩,ho,hc,n,hd⟩:=hl.isList;obtain⟨⟨cls2,dd2,data2,sl2⟩,ho2,hc2,n2,hd2⟩:=hl2.isList;simp only at hc hd hc2 hd2;subst hc hd hc2 hd2;refine concat_meets ⟨_,ho,rfl⟩ ⟨_,ho2,rfl⟩ noFill_list_add seq_list_add PySem.F.slot_list_add PySem.F.entry_list_add (PySem.F.args_list_add_2 _ _) (list_addW l b its.toArray its2.toArray n n2 dd dd2 sl sl2 (by simp only[List.size_toArray];omega)) ⟨ho,ho2,?_⟩
 have ea:its.toArray++its2.toArray=(its++its2).toArray:=by simp
 rw[ea];exact⟨.ref _,_,I.yA (t':=s.toks) (r.append r2) (by rw[List.length_append];omega),rfl,q _ I.fresh⟩
abbrev yK(i j k:Nat)(ta:TA):TS:=fun D σ H=>ta σ H fun vs H1=>∃ v w u,vs=[v,w,u]/\D.nx (((σ.set i (some v)).set j (some w)).set k (some u)) H1
def AS{px py pz kt pt k2 pt2 pos}{a b c:Expr}{x y z:Str}(hc:X.calm=true)(hN:X.N.Nodup)(hi:X.N[i]?=some x)(hj:X.N[j]?=some y)(hk:X.N[k]?=some z)(hij:i≠j)(hik:i≠k)(hjk:j≠k)
 (hx:X.env.scope.names.lookup x=some .local)(hy:X.env.scope.names.lookup y=some .local)(hz:X.env.scope.names.lookup z=some .local)(ha:PA X [a,b,c] ta)
 (hw:swappedStores [.Tuple [.Name x px,.Name y py,.Name z pz] kt pt] (.Tuple [a,b,c] k2 pt2) X.env=pure (some [x,y,z]))
 (hs:swapsWithSole [.Tuple [.Name x px,.Name y py,.Name z pz] kt pt] (.Tuple [a,b,c] k2 pt2) pos.line X.env=pure false) :
  PS X (.Assign [.Tuple [.Name x px,.Name y py,.Name z pz] kt pt] (.Tuple [a,b,c] k2 pt2) pos) (yK i j k ta):=by
 intro pins s σ H D I h;rw[exec_Assign_arm];refine wpAny_bind (wpAny_standAt ?_);rw[hs];refine wpAny_bind (wpAny_pure ?_);rw[if_neg (by decide)];refine wpAny_bind (Tuple_ (thn (ha _ pins s σ H _ I h) fun us s1 ⟨vs,H1,I1,r1,q1⟩=>?_));obtain⟨v,w,m,e1,q1⟩:=q1;subst e1
 obtain⟨u1,u2,u3,rfl,rv,rw',rm⟩:∃ u1 u2 u3,us=[u1,u2,u3]/\RelV v u1/\RelV w u2/\RelV m u3:=by
  cases r1 with
  |cons p q=>
   cases q with
   |cons p' q'=>
    cases q' with
    |cons p'' q''=>
     cases q'';exact⟨_,_,_,rfl,p,p',p''⟩
 refine wpAny_newObj_type ?_ (by show 3<=sizeLine;decide);have I2:Inv X pins σ H1 { s1 with heap:=s1.heap.push { cls:=.type "tuple",data:=.seq [u1,u2,u3].toArray } }:=I1.kept (t':=s1.toks) fun b o e=>Heap.get?_push_of_some _ e;rw[hw];refine wpAny_bind (wpAny_pure ?_);show wpAny (model X.prog X.w) X.A (do rule "assign.swapped-stores";let items <- unpackItems (.ref s1.heap.objs.size) 3 none;assignInOrder [fun v=>bindName X.env z v,fun v=>bindName X.env y v,fun v=>bindName X.env x v] items.reverse;pure Flow.next) _ _ _;refine wpAny_bind (wpAny_rule (wpAny_bind (unpackItems_tuple (items:=#[u1,u2,u3]) (I.ok.hd.1 hc) (IsTup.new s1.heap _) fun h' hx'=>?_)));have I3:=I2.kept (h':=h') (t':=s1.toks) fun b o e=>hx' b o (Nat.ne_of_lt (Heap.lt_size e)) e;show wpAny _ _ (assignInOrder [fun v=>bindName X.env z v,fun v=>bindName X.env y v,fun v=>bindName X.env x v] [u3,u2,u1] >>= fun _=>pure Flow.next) _ _ _;refine wpAny_bind (assignInOrder_cons (wpAny_bindName (eQ I3 hN hk (.inl hz) rm (fun s2 I4=>?_) (.inr hz))));refine assignInOrder_cons (wpAny_bindName (eQ I4 hN hj (.inl hy) rw' (fun s3 I5=>?_) (.inr hy)));refine assignInOrder_cons (wpAny_bindName (eQ I5 hN hi (.inl hx) rv (fun s4 I6=>assignInOrder_nil (wpAny_pure ?_)) (.inr hx)));rw[List.set_comm _ _ (Ne.symm hjk),List.set_comm _ _ (Ne.symm hik),List.set_comm _ _ (Ne.symm hij)]at I6;exact⟨_,H1,I6,q1⟩
end
end L2
namespace RS
open PySem PySem.Spec PyProof.Rows L2
section
variable{X:Cx}{cl:RL.Cl}{a b:Expr}{a' b':RL.E}
def CH(ha:SE X cl a a'):SE X cl a (.frz a'):=by
 refine BS ha fun σ H Q h=>?_;obtain⟨σD,d,rv,e,k⟩:=h;obtain⟨x,ea,e⟩:=bind_some (show(RL.ev cl σD a').bind _=some d from e);refine⟨σD,x,rv,ea,fun v H1 r1=>?_⟩;by_cases tf:RL.a9 a'=true
 ·rw[if_pos tf]at e
  cases x with
  |lst ds=>
   obtain⟨im,rfl⟩:=bQ (show(if RL.ao ds=true then some (RL.D.scr ds)else none)=some d from e);obtain⟨p,xs,rfl,_,hH,rs⟩:=a7 r1.rep;have fr:=r1.fresh tf rfl p rfl;refine⟨p,xs,rfl,hH,fun o=>k _ _ (cV ?_ ?_ im)⟩
   ·intro b ob eb;rw[aD (aB eb fr)];exact r1.same _ _ eb
   ·rw[Rep];exact⟨p,xs,rfl,.inl ⟨o,aW⟩,(aa.upd (P:=fun q=>q=p) hH (.inl ⟨_,rfl⟩) rfl (rs.imm im)).imm im⟩
  | _=>cases e
 ·rw[if_neg tf]at e;cases e
def DK{pos:Pos}(ha:SE X cl a a')(hb:SE X cl b b'):SE X cl (.BinOp a .Add b pos) (.cat a' b'):=by
 refine PE.weak (za zI ha hb) fun σ H Q h=>?_;obtain⟨σD,d,rv,e,k⟩:=h;obtain⟨x,ea,e⟩:=bind_some (show(RL.ev cl σD a').bind _=some d from e);obtain⟨y,eb,e⟩:=bind_some e;refine two rv ea eb fun v u H1 H2 s1 s2 rx ry _ _=>?_
 cases x with
 |scr i=>
  cases y with
  |lst j=>
   obtain⟨hc,rfl⟩:=bQ (show(if i.length+j.length<=RL.most then some (RL.D.lst (i++j))else none)=some d from e);rw[Rep]at rx;obtain⟨p,xs,e1,e2,e3⟩:=rx;obtain⟨q,ys,f1,_,f2,f3⟩:=a7 ry;refine⟨p,q,xs,ys,e1,f1,e2.seq,SqL.of f2,?_,fun l hl=>k _ _ (cM (s1.trans s2) hl (e3.append f3) fun _=>rfl)⟩;rw[<-e3.length,<-f3.length];exact Nat.le_trans hc bK
  | _=>cases e
 | _=>cases e
def As{st:Stmt}{c':RL.E}{M:List Nat}{i j m:Nat}(h:PS X st (yK i j m (tEs X.K cl (.cons a' (.cons b' (.cons c' .nil))))))(hi:M.contains i=false)(hj:M.contains j=false)(hm:M.contains m=false):SS X cl M st (.par3 i j m a' b' c'):=by
 refine PS.weak h fun D σ H h=>?_;obtain⟨σD,o,σD',rv,e,k⟩:=h;obtain⟨x,e1,e⟩:=bind_some e;obtain⟨y,e2,e⟩:=bind_some e;obtain⟨z,e3,e⟩:=bind_some e;obtain⟨him,e⟩:=bQ e;cases e;rw[Bool.and_eq_true,Bool.and_eq_true]at him;refine⟨σD,[x,y,z],rv.rv0,by rw[RL.evs,e1,RL.evs,e2,RL.evs,e3];rfl,fun vs H1 s1 r1=>?_⟩;rw[aa]at r1;obtain⟨v,t,rfl,r2,r3⟩:=r1;rw[aa]at r3;obtain⟨u,t,rfl,r4,r5⟩:=r3;rw[aa]at r5;obtain⟨w,t,rfl,r6,r7⟩:=r5;rw[aa]at r7;subst r7;refine⟨v,u,w,rfl,k _ _ ?_ ?_⟩
 ·exact(((rv.same s1).bind hi (r2.imm him.1.1)).bind hj (r4.imm him.1.2)).bind hm (r6.imm him.2)
 ·exact((Fr'.bind hi s1).trans (Fr'.bind hj (aq.refl _))).trans (Fr'.bind hm (aq.refl _))
end
def nos{α:Type}{P:Prop}{x:α}(h:(none:Option α)=some x):P:=by cases h
def aj{α:Type}{o:Option α}{f:α->Bool}(h:o.any f=true):∃ x,o=some x/\f x=true:=by
 cases o with
 | none=>cases h
 | some x=>exact⟨x,rfl,h⟩
def ab{a b:Bool}(h:(a&&b)=true):a=true/\b=true:=by rw[Bool.and_eq_true]at h;exact h
abbrev fF:Expr->Option Str
 | .Name x _=>some x
 | _=>none
def dG{e:Expr}{x:Str}(h:fF e=some x):∃ p,e=.Name x p:=by
 cases e
 case Name=>cases h;exact⟨_,rfl⟩
 all_goals exact nos h
abbrev wM:Expr->Option Const
 | .Constant k _ _=>some k
 | _=>none
def rF{e:Expr}{k:Const}(h:wM e=some k):∃ j p,e=.Constant k j p:=by
 cases e
 case Constant=>cases h;exact⟨_,_,rfl⟩
 all_goals exact nos h
abbrev tK:Expr->Option (Expr × Operator × Expr)
 | .BinOp l o r _=>some (l,o,r)
 | _=>none
def qY{e:Expr}{l r:Expr}{o:Operator}(h:tK e=some (l,o,r)):∃ p,e=.BinOp l o r p:=by
 cases e
 case BinOp=>cases h;exact⟨_,rfl⟩
 all_goals exact nos h
abbrev vUn:Expr->Option (UnaryOp × Expr)
 | .UnaryOp o x _=>some (o,x)
 | _=>none
def qp{e x:Expr}{o:UnaryOp}(h:vUn e=some (o,x)):∃ p,e=.UnaryOp o x p:=by
 cases e
 case UnaryOp=>cases h;exact⟨_,rfl⟩
 all_goals exact nos h
abbrev oA:Expr->Option (Expr × List CmpOp × List Expr)
 | .Compare l o r _=>some (l,o,r)
 | _=>none
def js{e l:Expr}{r:List Expr}{o:List CmpOp}(h:oA e=some (l,o,r)):∃ p,e=.Compare l o r p:=by
 cases e
 case Compare=>cases h;exact⟨_,rfl⟩
 all_goals exact nos h
abbrev vBool:Expr->Option (BoolOp × List Expr × Pos)
 | .BoolOp o es p=>some (o,es,p)
 | _=>none
def ig{e:Expr}{es:List Expr}{o:BoolOp}{p:Pos}(h:vBool e=some (o,es,p)):e=.BoolOp o es p:=by
 cases e
 case BoolOp=>cases h;exact rfl
 all_goals exact nos h
abbrev Cd:Expr->Option (Expr × Expr × Expr)
 | .IfExp c a b _=>some (c,a,b)
 | _=>none
def AV{e a b c:Expr}(h:Cd e=some (c,a,b)):∃ p,e=.IfExp c a b p:=by
 cases e
 case IfExp=>cases h;exact⟨_,rfl⟩
 all_goals exact nos h
abbrev iN:Expr->Option (List Expr)
 | .Tuple es _ _=>some es
 | _=>none
def eK{e:Expr}{es:List Expr}(h:iN e=some es):∃ k p,e=.Tuple es k p:=by
 cases e
 case Tuple=>cases h;exact⟨_,_,rfl⟩
 all_goals exact nos h
abbrev x3:Expr->Option (List Expr)
 | .List es _=>some es
 | _=>none
def zF{e:Expr}{es:List Expr}(h:x3 e=some es):∃ p,e=.List es p:=by
 cases e
 case List=>cases h;exact⟨_,rfl⟩
 all_goals exact nos h
abbrev oZ:Expr->Option (Expr × Expr)
 | .Subscript a b _=>some (a,b)
 | _=>none
def j7{e a b:Expr}(h:oZ e=some (a,b)):∃ p,e=.Subscript a b p:=by
 cases e
 case Subscript=>cases h;exact⟨_,rfl⟩
 all_goals exact nos h
abbrev vSl:Expr->Option (Option Expr × Option Expr × Option Expr)
 | .Slice a b c _=>some (a,b,c)
 | _=>none
def uQ{e:Expr}{a b c:Option Expr}(h:vSl e=some (a,b,c)):∃ p,e=.Slice a b c p:=by
 cases e
 case Slice=>cases h;exact⟨_,rfl⟩
 all_goals exact nos h
abbrev kC:Expr->Option (Expr × List Expr × List Keyword × Pos)
 | .Call f as ks p=>some (f,as,ks,p)
 | _=>none
def iu{e f:Expr}{as:List Expr}{ks:List Keyword}{p:Pos}(h:kC e=some (f,as,ks,p)):e=.Call f as ks p:=by
 cases e
 case Call=>cases h;exact rfl
 all_goals exact nos h
abbrev zi:Expr->Option (Expr × Str × Pos)
 | .Attribute o x p=>some (o,x,p)
 | _=>none
def xK{e o:Expr}{x:Str}{p:Pos}(h:zi e=some (o,x,p)):e=.Attribute o x p:=by
 cases e
 case Attribute=>cases h;exact rfl
 all_goals exact nos h
abbrev tH:Expr->Option (Expr × List Comprehension × Scope × Pos)
 | .ListComp e gs sc p=>some (e,gs,sc,p)
 | _=>none
def ql{e x:Expr}{gs:List Comprehension}{sc:Scope}{p:Pos}(h:tH e=some (x,gs,sc,p)):e=.ListComp x gs sc p:=by
 cases e
 case ListComp=>cases h;exact rfl
 all_goals exact nos h
abbrev zf:Expr->Option (List (Option Expr) × List Expr)
 | .Dict ks vs _=>some (ks,vs)
 | _=>none
def xp{e:Expr}{ks:List (Option Expr)}{vs:List Expr}(h:zf e=some (ks,vs)):∃ p,e=.Dict ks vs p:=by
 cases e
 case Dict=>cases h;exact⟨_,rfl⟩
 all_goals exact nos h
abbrev of1{α:Type}(xs:List α)(f:α->Bool):Bool:=match xs with
 | [a]=>f a
 | _=>false
abbrev of2{α:Type}(xs:List α)(f:α->α->Bool):Bool:=match xs with
 | [a,b]=>f a b
 | _=>false
abbrev of3{α:Type}(xs:List α)(f:α->α->α->Bool):Bool:=match xs with
 | [a,b,c]=>f a b c
 | _=>false
def aK{α:Type}:∀ {xs:List α} {f:α->Bool},of1 xs f=true->∃ a,xs=[a]/\f a=true
 | [a],_,h=>⟨a,rfl,h⟩
def fW{α:Type}:∀ {xs:List α} {f:α->α->Bool},of2 xs f=true->∃ a b,xs=[a,b]/\f a b=true
 | [a,b],_,h=>⟨a,b,rfl,h⟩
def lj{α:Type}:∀ {xs:List α} {f:α->α->α->Bool},of3 xs f=true->∃ a b c,xs=[a,b,c]/\f a b c=true
 | [a,b,c],_,h=>⟨a,b,c,rfl,h⟩
abbrev ofM{α:Type}(xs:List α)(f:α->α->List α->Bool):Bool:=match xs with
 | a::b::r=>f a b r
 | _=>false
def kM{α:Type}:∀ {xs:List α} {f:α->α->List α->Bool},ofM xs f=true->∃ a b r,xs=a::b::r/\f a b r=true
 | a::b::r,_,h=>⟨a,b,r,rfl,h⟩
abbrev kf:Stmt->Option (List Expr × Expr)
 | .Assign ts e _=>some (ts,e)
 | _=>none
def fL{st:Stmt}{ts:List Expr}{e:Expr}(h:kf st=some (ts,e)):∃ p,st=.Assign ts e p:=by
 cases st
 case Assign=>cases h;exact⟨_,rfl⟩
 all_goals exact nos h
abbrev BG:Stmt->Option (Expr × Operator × Expr)
 | .AugAssign t o e _=>some (t,o,e)
 | _=>none
def Ah{st:Stmt}{t e:Expr}{o:Operator}(h:BG st=some (t,o,e)):∃ p,st=.AugAssign t o e p:=by
 cases st
 case AugAssign=>cases h;exact⟨_,rfl⟩
 all_goals exact nos h
abbrev tq:Stmt->Option Expr
 | .Expr e _=>some e
 | _=>none
def lT{st:Stmt}{e:Expr}(h:tq st=some e):∃ p,st=.Expr e p:=by
 cases st
 case Expr=>cases h;exact⟨_,rfl⟩
 all_goals exact nos h
abbrev wIf:Stmt->Option (Expr × List Stmt × List Stmt)
 | .If c a b _=>some (c,a,b)
 | _=>none
def vL{st:Stmt}{c:Expr}{a b:List Stmt}(h:wIf st=some (c,a,b)):∃ p,st=.If c a b p:=by
 cases st
 case If=>cases h;exact⟨_,rfl⟩
 all_goals exact nos h
abbrev CN:Stmt->Option (Expr × Expr × List Stmt × List Stmt)
 | .For t i b o _=>some (t,i,b,o)
 | _=>none
def Ax{st:Stmt}{t i:Expr}{b o:List Stmt}(h:CN st=some (t,i,b,o)):∃ p,st=.For t i b o p:=by
 cases st
 case For=>cases h;exact⟨_,rfl⟩
 all_goals exact nos h
abbrev Dm:Stmt->Option (Expr × List Stmt × List Stmt)
 | .While c b o _=>some (c,b,o)
 | _=>none
def Ap{st:Stmt}{c:Expr}{b o:List Stmt}(h:Dm st=some (c,b,o)):∃ p,st=.While c b o p:=by
 cases st
 case While=>cases h;exact⟨_,rfl⟩
 all_goals exact nos h
abbrev BW:Stmt->Option (Option Expr)
 | .Return e _=>some e
 | _=>none
def Ao{st:Stmt}{e:Option Expr}(h:BW st=some e):∃ p,st=.Return e p:=by
 cases st
 case Return=>cases h;exact⟨_,rfl⟩
 all_goals exact nos h
structure CC where
 N:List Str
 sc:Scope
 B:List Str
 G:List (Str × Int)
 F:List (Str × List Nat)
abbrev C0(scope sc:Scope):Scope:={ scope with names:=scope.names.map fun(n,k)=>if(k == NameKind.free&&sc.kind == .function&&sc.names.lookup n == some .cell)then(n,NameKind.cell)else(n,k) }
abbrev CC.inner(C:CC)(scope:Scope):CC:={ C with sc:=C0 scope C.sc }
abbrev gW(x:Str):Bool:=!(x == ("__debug__" : Str)) && !(x == ("__classdict__" : Str))
abbrev wZ(C:CC)(x:Str):Bool:=C.sc.names.lookup x == some .local || C.sc.names.lookup x == some .cell
abbrev xQ(C:CC)(x:Str):Bool:=C.sc.names.lookup x == some .local || C.sc.names.lookup x == some .cell || C.sc.names.lookup x == some .free
abbrev glB(C:CC)(x:Str):Bool:=C.sc.names.lookup x == some .globalImplicit&&gW x
abbrev pG(C:CC)(x:Str):Bool:=glB C x&&C.B.contains x
abbrev nmB(C:CC)(i:Nat)(x:Str):Bool:=C.N[i]? == some x&&gW x
structure XOk(C:CC)(X:Cx)(cl:RL.Cl):Prop where
 scope:X.env.scope=C.sc
 names:X.N=C.N
 nd:C.N.Nodup
 calm:X.calm=true
 xe:X.xe=fun _ _=>False
 hu:X.A.units+100<cLine
 blt:∀ x∈C.B,X.mg x=none
 glb:∀ x i,C.G.lookup x=some i->∃ u,X.mg x=some u/\RelV (.int i) u
 fns:∀ (f:Nat) (x:Str) (mp:List Nat),C.F[f]?=some (x,mp)->∃ k fa fd ps,gG X.prog X.w X.K X.mg X.base CX0 k fa fd ps (if mp=[]then spF X.K cl f else spM X.K cl mp f)/\dN k X.A/\X.mg x=some (.ref fa)/\PySem.W.keepIn X.K (.ref fa)=true/\Binds X.K fd ps []
section
variable{C:CC}{X:Cx}{cl:RL.Cl}{e:Expr}
def XOk.vis(h:XOk C X cl){x:Str}(v:xQ C x=true):Vis X.env.scope x:=by
 unfold xQ at v;rw[<-h.scope,Bool.or_eq_true,Bool.or_eq_true,beq_iff_eq,beq_iff_eq,beq_iff_eq]at v;rcases v with(v | v) | v
 ·exact .inl v
 ·exact .inr (.inl v)
 ·exact .inr (.inr v)
def XOk.loc(h:XOk C X cl){x:Str}(v:wZ C x=true):Loc X.env.scope x:=by
 unfold wZ at v;rw[<-h.scope,Bool.or_eq_true,beq_iff_eq,beq_iff_eq]at v;exact v
def dZ{x:Str}(h:gW x=true):(x == ("__debug__" : Str))=false/\(x == ("__classdict__" : Str))=false:=by
 unfold gW at h;rw[Bool.and_eq_true,Bool.not_eq_true',Bool.not_eq_true']at h;exact h
def XOk.gl(h:XOk C X cl){x:Str}(v:glB C x=true):Gl X x/\gW x=true:=by
 unfold glB at v;rw[<-h.scope,Bool.and_eq_true,beq_iff_eq]at v;exact v
def XOk.bl(h:XOk C X cl){x:Str}(v:pG C x=true):Gl X x/\X.mg x=none:=by
 unfold pG at v;rw[Bool.and_eq_true]at v;exact⟨(h.gl v.1).1,h.blt x (by simpa using v.2)⟩
def XOk.nm(h:XOk C X cl){i:Nat}{x:Str}(v:nmB C i x=true):X.N[i]?=some x/\gW x=true:=by
 unfold nmB at v;rw[<-h.names,Bool.and_eq_true,beq_iff_eq]at v;exact v
def XOk.ndX(h:XOk C X cl):X.N.Nodup:=by rw[h.names];exact h.nd
def XOk.blk(h:XOk C X cl){scope:Scope}(cls:List (Str × Addr))(Ca:Addr)(fp:List Addr)(s:Shared)(H:Hp):XOk (C.inner scope) (L2.blk X scope cls Ca fp s H) cl where
 scope:=by
  show relabel scope X.env=C0 scope C.sc;rw[<-h.scope];rfl
 names:=h.names
 nd:=h.nd
 calm:=h.calm
 xe:=rfl
 hu:=h.hu
 blt:=h.blt
 glb:=h.glb
 fns:=h.fns
abbrev jD:RL.D->Const->Bool
 | .int i,.int j=>i == j
 | .bl i,.bool j=>i == j
 | .non,.none=>true
 | .str x,.str y=>x == y
 | _,_=>false
abbrev plainT:Expr->Bool
 | .UnaryOp .Not _ _=>false
 | .BoolOp _ _ _=>false
 | .IfExp _ _ _ _=>false
 | .Compare _ _ _ _=>false
 | _=>true
abbrev pH:Expr->Bool
 | .BoolOp _ _ _=>true
 | _=>false
abbrev kP:Expr->Bool
 | .Set _ _ _=>false
 | _=>true
abbrev sQ:RL.Bi->Option Str
 | .len=>some "len"
 | .list=>some "list"
 | .tuple=>some "tuple"
 | .all=>some "all"
 | .sortedS=>some "sorted"
 | _=>none
abbrev qf:RL.Ty->Str
 | .int => "int"
 | .bool => "bool"
 | .list => "list"
 | .tuple => "tuple"
 | .str => "str"
abbrev FO(neg:Bool):CmpOp:=if neg then .IsNot else .Is
abbrev nX(C:CC)(i:Nat)(e:Expr):Bool:=(fF e).any fun x=>nmB C i x&&xQ C x
abbrev gy(C:CC)(i:Nat)(e:Expr):Bool:=(fF e).any fun x=>nmB C i x&&wZ C x
abbrev jy(C:CC):List Nat->List Expr->Bool
 | [],es=>es.isEmpty
 | i::is,es=>match es with
  | e::es=>gy C i e&&jy C is es
  | []=>false
abbrev lJ(C:CC)(tg:List Nat)(e:Expr):Bool :=
 match tg with
 | [i]=>gy C i e
 | tg=>(iN e).any fun es=>jy C tg es
abbrev lC(C:CC)(scope:Scope)(tg:List Nat):Bool:=tg.all fun i=>match C.N[i]? with
 | some x=>scope.names.lookup x == some .local || scope.names.lookup x == some .cell
 | none=>false
abbrev lg(C:CC)(scope:Scope)(tg:List Nat):Bool:=(List.range C.N.length).all fun i=>match C.N[i]? with
 | some x=>!(scope.names.lookup x == some .local || scope.names.lookup x == some .cell) || tg.contains i
 | none=>true
abbrev scB(scope sc:Scope):Bool:=scope.kind == .function&&scope.names.all (fun x=>(!(x.2 == .cell) || scope.names.lookup x.1 == some .cell)&&(!(x.2 == .local) || scope.names.lookup x.1 == some .local)&&(!(x.2 == .free) || sc.names.lookup x.1 == some .cell || sc.names.lookup x.1 == some .free))
abbrev aT(C:CC)(e:Expr)(nm:Str)(f:List Expr->Bool):Bool:=(kC e).any fun q=>(fF q.1).any (fun x=>x == nm&&pG C x)&&q.2.2.1.isEmpty&&q.2.1.all noStar&&f q.2.1
def b8{nm:Str}{f:List Expr->Bool}(h:XOk C X cl)(z:aT C e nm f=true):∃ p as pos,e=.Call (.Name nm p) as [] pos/\Gl X nm/\X.mg nm=none/\as.all noStar=true/\f as=true:=by
 unfold aT at z;obtain⟨⟨g,as,ks,pos⟩,z0,z⟩:=aj z;have e0:=iu z0;subst e0;obtain⟨z,z4⟩:=ab z;obtain⟨z,z3⟩:=ab z;obtain⟨z1,z2⟩:=ab z;obtain⟨x,y0,z1⟩:=aj z1;obtain⟨p,rfl⟩:=dG y0;obtain⟨y1,y2⟩:=ab z1;rw[beq_iff_eq]at y1;subst y1;obtain⟨b1,b2⟩:=h.bl y2;rw[List.isEmpty_iff]at z2;subst z2;exact⟨p,as,pos,rfl,b1,b2,z3,z4⟩
def all1{a:Expr}(h:[a].all noStar=true):noStar a=true:=by simpa using h
def all2{a b:Expr}(h:[a,b].all noStar=true):noStar a=true/\noStar b=true:=by simpa using h
def mG{a b c:Expr}(h:[a,b,c].all noStar=true):noStar a=true/\noStar b=true/\noStar c=true:=by simpa using h
end
mutual
noncomputable def chk(C:CC)(t:Bool):RL.E->Expr->Bool
 | .var i=>fun e=>nX C i e
 | .cst d=>fun e=>(wM e).any fun k=>jD d k
 | .glb y i=>fun e=>(fF e).any fun x=>x == y&&glB C x&&C.G.lookup x == some i
 | .bin o a b=>fun e=>(tK e).any fun q=>q.2.1 == qq o&&chk C false a q.1&&chk C false b q.2.2
 | .neg a=>fun e=>(vUn e).any fun q=>q.1 == .USub&&chk C false a q.2
 | .cmp c a b=>fun e=>(oA e).any fun q=>of1 q.2.1 fun op=>of1 q.2.2 fun r=>op == cO c&&chk C false a q.1&&chk C false b r
 | .chain c c' a b d=>fun e=>(oA e).any fun q=>of2 q.2.1 fun op op'=>of2 q.2.2 fun r s=>op == cO c&&op' == cO c'&&chk C false a q.1&&chk C false b r&&chk C false d s
 | .isN neg a=>fun e=>(oA e).any fun q=>of1 q.2.1 fun op=>of1 q.2.2 fun r=>op == FO neg&&(wM r).any (fun k=>jD .non k)&&chk C false a q.1
 | .and a b=>fun e=>(vBool e).any fun q=>ofM q.2.1 fun l r rest=>q.1 == .And&&chk C t a l&&(if rest.isEmpty then chk C t b r else chk C t b (.BoolOp .And (r::rest) q.2.2))
 | .or a b=>fun e=>(vBool e).any fun q=>ofM q.2.1 fun l r rest=>q.1 == .Or&&chk C t a l&&(if rest.isEmpty then chk C t b r else chk C t b (.BoolOp .Or (r::rest) q.2.2))
 | .not a=>fun e=>(vUn e).any fun q=>q.1 == .Not&&chk C t a q.2
 | .ifx c a b=>fun e=>(Cd e).any fun q=>!t&&chk C true c q.1&&chk C false a q.2.1&&chk C false b q.2.2
 | .tup es=>fun e=>(iN e).any fun xs=>lE C es xs&&decide (et es<=1000)
 | .lst es=>fun e=>(x3 e).any fun xs=>lE C es xs&&decide (et es<=1000)
 | .ix a b=>fun e=>(oZ e).any fun q=>pB q.2&&chk C false a q.1&&chk C false b q.2
 | .slT a b=>fun e=>(oZ e).any fun q=>chk C false a q.1&&(vSl q.2).any fun s=>s.1.isNone&&s.2.2.isNone&&s.2.1.any fun r=>chk C false b r
 | .rev a=>fun e=>(oZ e).any fun q=>chk C false a q.1&&(vSl q.2).any fun s=>s.1.isNone&&s.2.1.isNone&&s.2.2.any fun r=>ee (-1) r
 | .call f es=>fun e=>(kC e).any fun q=>(fF q.1).any (fun x=>glB C x&&C.F[f]? == some (x,[]))&&q.2.2.1.isEmpty && !q.2.1.isEmpty&&lE C es q.2.1
 | .bi b a=>fun e=>match b with
  | .lenSet=>false
  | b=>(sQ b).any fun x=>aT C e x fun ys=>of1 ys fun y=>chk C false a y
 | .min a b=>fun e=>aT C e "min" fun ys=>of2 ys fun y z=>chk C false a y&&chk C false b z
 | .isi a ty=>fun e=>aT C e "isinstance" fun ys=>of2 ys fun y z=>(fF z).any (fun x=>x == qf ty&&pG C x)&&chk C false a y
 | .rng1 a=>fun e=>aT C e "list" fun ys=>of1 ys fun y=>aT C y "range" fun zs=>of1 zs fun z=>chk C false a z
 | .rng2 a b=>fun e=>aT C e "list" fun ys=>of1 ys fun y=>aT C y "range" fun zs=>of2 zs fun z u=>chk C false a z&&chk C false b u
 | .rng3 c a b=>fun e=>aT C e "list" fun ys=>of1 ys fun y=>aT C y "range" fun zs=>of3 zs fun z u q=>ee c q&&chk C false a z&&chk C false b u
 | .comp d tg it c=>fun e=>(tH e).any fun q=>of1 q.2.1 fun g=>of1 g.ifs fun w=>g.is_async == 0&&scB q.2.2.1 C.sc&&lg C q.2.2.1 tg&&kP g.iter&&lJ (C.inner q.2.2.1) tg g.target&&lC C q.2.2.1 tg&&um C it g.target g.iter&&chk (C.inner q.2.2.1) false d q.1&&chk (C.inner q.2.2.1) true c w
 | .compA d tg it=>fun e=>(tH e).any fun q=>of1 q.2.1 fun g=>g.ifs.isEmpty&&g.is_async == 0&&scB q.2.2.1 C.sc&&lg C q.2.2.1 tg&&kP g.iter&&lJ (C.inner q.2.2.1) tg g.target&&lC C q.2.2.1 tg&&um C it g.target g.iter&&chk (C.inner q.2.2.1) false d q.1
 | .frz a=>fun e=>((x3 e).isSome || (tK e).isSome)&&chk C false a e
 | .cat a b=>fun e=>(tK e).any fun q=>q.2.1 == .Add&&chk C false a q.1&&chk C false b q.2.2
 | .dt0=>fun e=>(zf e).any fun q=>q.1.isEmpty&&q.2.isEmpty
noncomputable def lE(C:CC):RL.Es->List Expr->Bool
 | .nil=>fun xs=>xs.isEmpty
 | .cons e es=>fun xs=>match xs with
  | x::xs=>noStar x&&chk C false e x&&lE C es xs
  | []=>false
noncomputable def um(C:CC):RL.It->Expr->Expr->Bool
 | .seq a=>fun _ e=>chk C false a e
 | .rng1 a=>fun _ e=>aT C e "range" fun ys=>of1 ys fun y=>chk C false a y
 | .rng2 a b=>fun _ e=>aT C e "range" fun ys=>of2 ys fun y z=>chk C false a y&&chk C false b z
 | .rng3 c a b=>fun _ e=>aT C e "range" fun ys=>of3 ys fun y z q=>ee c q&&chk C false a y&&chk C false b z
 | .enm a=>fun tg e=>(iN tg).isSome&&aT C e "enumerate" fun ys=>of1 ys fun y=>chk C false a y
 | .zip a b=>fun tg e=>(iN tg).isSome&&aT C e "zip" fun ys=>of2 ys fun y z=>chk C false a y&&chk C false b z
end
abbrev qo(X:Cx)(cl:RL.Cl)(e:Expr)(e':RL.E)(b b':Bool):Prop:=(b=true->SE X cl e e')/\(b'=true->ST X cl e e'/\(pH e=true->SW X cl e e'))
section
variable{C:CC}{X:Cx}{cl:RL.Cl}{e:Expr}{e':RL.E}{b:Bool}
def sR{env:Env}(h:plainT e=true)(whole:Sem Value):isTrue e env whole=(do let v <- whole;standAt e.pos;holding [v] (truthy v)):=by
 cases e<;>first
  | rfl
  | (cases h;done)
  | (rename_i op _ _;cases op<;>first | rfl | (cases h;done))
def aA(h:b=true->SE X cl e e'/\plainT e=true):qo X cl e e' b b :=
 ⟨fun z=>(h z).1,fun z=>⟨xo (h z).1 (sR (h z).2),fun q=>by
  have:=(h z).2
  cases e<;>first | (cases q;done) | (cases this;done)⟩⟩
def kh(h:b=true->SE X cl e e'/\ST X cl e e'/\pH e=false):qo X cl e e' b b :=
 ⟨fun z=>(h z).1,fun z=>⟨(h z).2.1,fun q=>by rw[(h z).2.2]at q;cases q⟩⟩
def Fm(h:b=false){b':Bool}(h':b'=false):qo X cl e e' b b':=⟨fun z=>(by rw[h]at z;cases z),fun z=>(by rw[h']at z;cases z)⟩
def Cz{d:RL.D}{k:Const}{j:Nat}{pos:Pos}(h:jD d k=true):SE X cl (.Constant k j pos) (.cst d):=by
 cases d<;>cases k<;>simp only[jD]at h<;>first | (cases h;done) | skip
 case non.none=>exact kH oF (fun P H=>by rw[Rep]) rfl
 case bl.bool i j=>rw[beq_iff_eq]at h;subst h;exact kH Eu (fun P H=>qE) rfl
 case int.int i j=>rw[beq_iff_eq]at h;subst h;exact kH pM (fun P H=>aR) rfl
 case str.str i j=>rw[beq_iff_eq]at h;subst h;exact kH Bu (fun P H=>hV) rfl
def zZ{k:Const}(h:jD .non k=true):k=.none:=by
 cases k<;>simp only[jD]at h<;>first | (cases h;done) | rfl
def wa(t:RL.Ty):bootBuiltins (qf t)=some (.type (tyN t))/\qf t ≠ "__name__" /\ (qf t == ("__debug__" : Str))=false:=by
 cases t<;>exact⟨by decide +kernel,by decide +kernel,by decide +kernel⟩
def fj(h:kP e=true)(env:Env)(x:Value):foldedSetIterable e env x=pure x:=by
 cases e<;>first | rfl | (cases h;done)
def Fi(hcalm:X.calm=true){o:RL.Bi}{x:Str}{p pos:Pos}{y:Expr}{a':RL.E}(hx:sQ o=some x)(hb:Gl X x)(hb2:X.mg x=none)(ha:SE X cl y a')(hn:noStar y=true):SE X cl (.Call (.Name x p) [y] [] pos) (.bi o a'):=by
 cases o<;>simp only[sQ]at hx<;>first | (cases hx;done) | skip
 case len=>cases hx;exact B4 hb hb2 ha hn
 case list=>cases hx;exact Aj hb hb2 ha hn
 case tuple=>cases hx;exact xN hb hb2 ha hn
 case all=>cases hx;exact B0 hcalm hb hb2 ha hn
 case sortedS=>cases hx;exact ur hb hb2 ha hn
def hU{i:Nat}(h:XOk C X cl)(z:nX C i e=true):∃ x p,e=.Name x p/\X.N[i]?=some x/\Vis X.env.scope x/\(x == ("__debug__" : Str))=false/\(x == ("__classdict__" : Str))=false:=by
 obtain⟨x,z0,z⟩:=aj z;obtain⟨p,rfl⟩:=dG z0;obtain⟨z1,z2⟩:=ab z;obtain⟨g1,g2⟩:=h.nm z1;exact⟨x,p,rfl,g1,h.vis z2,(dZ g2).1,(dZ g2).2⟩
def iB{i:Nat}(h:XOk C X cl)(z:gy C i e=true):∃ x p,e=.Name x p/\X.N[i]?=some x/\Loc X.env.scope x:=by
 obtain⟨x,z0,z⟩:=aj z;obtain⟨p,rfl⟩:=dG z0;obtain⟨z1,z2⟩:=ab z;exact⟨x,p,rfl,(h.nm z1).1,h.loc z2⟩
def mH(h:XOk C X cl){T:List Nat}(hf:∀ i x,i∈T->X.N[i]?=some x->X.fn x=true\/X.env.scope.names.lookup x=some .local):∀ {is:List Nat} {es:List Expr},(∀ i∈is,i∈T)->jy C is es=true->PGs X es (gs is)/\(assignEach es X.env).length=is.length/\(assignEach es X.env).findIdx? (·.1)=none
 | [],es,_,z=>by
  rw[jy,List.isEmpty_iff]at z;subst z;exact⟨Av,rfl,rfl⟩
 | i::is,[],_,z=>by cases z
 | i::is,e::es,hs,z=>by
  rw[jy]at z;obtain⟨z1,z2⟩:=ab z;obtain⟨x,p,rfl,g1,g2⟩:=iB h z1;obtain⟨h1,h2,h3⟩:=mH h hf (fun j hj=>hs j (List.mem_cons_of_mem _ hj)) z2;refine⟨xI (sI h.ndX g1 g2 (hf i x (hs i List.mem_cons_self) g1)) h1 rfl,?_,?_⟩
  ·show(assignEach es X.env).length+1=is.length+1;rw[h2]
  ·show List.findIdx? (·.1) ((false,assign (.Name x p) X.env)::assignEach es X.env)=none;rw[List.findIdx?_cons];simp only[Bool.false_eq_true,if_false,h3,Option.map_none]
def uN{tg:List Nat}{tgE:Expr}(h:XOk C X cl)(hf:∀ i x,i∈tg->X.N[i]?=some x->X.fn x=true\/X.env.scope.names.lookup x=some .local)(hc:lJ C tg tgE=true):PG X tgE (gT X.K tg):=by
 unfold lJ at hc;split at hc
 ·obtain⟨x,p,rfl,g1,g2⟩:=iB h hc;exact sI h.ndX g1 g2 (hf _ x (by simp) g1)
 ·rename_i hne;obtain⟨es,z0,z⟩:=aj hc;obtain⟨k,p,rfl⟩:=eK z0;obtain⟨h1,h2,h3⟩:=mH h hf (fun i hi=>hi) z
  have e:gT X.K tg=fun v σ H Q=>lQ X.K tg.length (gs tg) v σ H Q\/lS X.K tg.length (gs tg) v σ H Q:=by
   unfold gT;split
   ·rename_i i;exact absurd rfl (hne i)
   ·rfl
  rw[e];exact uW (vZ h.calm h1 h2 h3) (vm h.calm h1 h2 h3)
def DR{x:Str}{i:Int}{pos:Pos}(h:XOk C X cl)(hg:glB C x=true)(hl:C.G.lookup x=some i):SE X cl (.Name x pos) (.glb x i):=by
 obtain⟨u,h1,h2⟩:=h.glb x i hl;obtain⟨g1,g2⟩:=h.gl hg;exact Cp (u:=u) (Au g1 h1 h2 (dZ g2).1)
def AQ{x:Str}{f:Nat}{p pos:Pos}{y:Expr}{ys:List Expr}{es:RL.Es}(h:XOk C X cl)(hg:glB C x=true)(hf:C.F[f]?=some (x,[]))(he:SEs X cl (y::ys) es)(hl:et es=ys.length+1)(hn:noStar y=true)(hns:ys.all noStar=true) :
  SE X cl (.Call (.Name x p) (y::ys) [] pos) (.call f es):=by
 obtain⟨k,fa,fd,ps,F,hr,hm,hk,hb⟩:=h.fns f x [] hf;obtain⟨g1,g2⟩:=h.gl hg;rw[if_pos rfl]at F
 cases es with
 | nil=>simp[et]at hl
 | cons e' es'=>exact A0 F hr g1 hm hk hb he (dZ g2).1 hn hns
def nQ{scope sc:Scope}(h:scB scope sc=true):m9 scope sc:=by
 unfold scB at h;obtain⟨h1,h2⟩:=ab h;rw[List.all_eq_true]at h2;refine⟨by simpa using h1,fun x hx z=>?_,fun x hx z=>?_,fun x hx z=>?_⟩
 ·have:=h2 x hx;rw[z]at this;simpa using this
 ·have:=h2 x hx;rw[z]at this;simpa using this
 ·have:=h2 x hx;rw[z]at this;simpa using this
def iJ{scope:Scope}{tg:List Nat}(h:lg C scope tg=true)(i:Nat)(x:Str)(hx:C.N[i]?=some x)(hl:scope.names.lookup x=some .local\/scope.names.lookup x=some .cell):tg.contains i=true:=by
 unfold lg at h;rw[List.all_eq_true]at h;have:=h i (List.mem_range.mpr (List.getElem?_eq_some_iff.mp hx).1);rw[hx]at this;rcases hl with hl | hl
 ·simp only[hl,beq_self_eq_true,Bool.true_or,Bool.not_true,Bool.false_or]at this;exact this
 ·simp only[hl,beq_self_eq_true,Bool.or_true,Bool.not_true,Bool.false_or]at this;exact this
def mW{X:Cx}{cls:List (Str × Addr)}{scope:Scope}{Ca:Addr}{fp:List Addr}{s:Shared}{H:Hp}{pins:List (Addr × Obj)}{s':Shared}{σ:L2.St}{H':Hp}{Q:Bool->Hp->Prop}(I:Inv (L2.blk X scope cls Ca fp s H) pins σ H' s')(q:kB σ H' Q) :
  wpAny (model X.prog X.w) X.A (fN [] (compEnvC scope cls Ca X.env)) (TP (L2.blk X scope cls Ca fp s H) pins σ Q) (fun _ _=>False) s':=by
 unfold fN;exact wpAny_pure ⟨H',I,q⟩
def nC{X:Cx}{cls:List (Str × Addr)}{scope:Scope}{Ca:Addr}{fp:List Addr}{s:Shared}{H:Hp}{pins:List (Addr × Obj)}{s':Shared}{σ:L2.St}{H':Hp}{Q:Bool->Hp->Prop}{c:Expr}{t:TT}(hc:PT (L2.blk X scope cls Ca fp s H) c t)(I:Inv (L2.blk X scope cls Ca fp s H) pins σ H' s')(q:t σ H' Q) :
  wpAny (model X.prog X.w) X.A (fN [c] (compEnvC scope cls Ca X.env)) (TP (L2.blk X scope cls Ca fp s H) pins σ Q) (fun _ _=>False) s':=by
 have h:=hc pins s' σ H' Q I q;unfold fN;simp only[List.forIn_cons,List.forIn_nil,if_true];refine wpAny_bind (wpAny_bind (thn h fun b s1 hb=>wpAny_pure ?_));exact wpAny_pure hb
def kQ(h:XOk C X cl){scope:Scope}{cls:List (Str × Addr)}{Ca:Addr}{fp:List Addr}{s:Shared}{H:Hp}{tg:List Nat}(ha:lC C scope tg=true){tgE:Expr}(hc:lJ (C.inner scope) tg tgE=true):PG (L2.blk X scope cls Ca fp s H) tgE (gT X.K tg):=by
 have hb:=h.blk (scope:=scope) cls Ca fp s H;unfold lC at ha;rw[List.all_eq_true]at ha;refine uN hb (fun i x hi hx=>?_) hc;have:=ha i hi;have hx:X.N[i]?=some x:=hx;rw[h.names]at hx;rw[hx]at this;simp only[Bool.or_eq_true,beq_iff_eq]at this;rcases this with z | z
 ·exact .inr (lookup_relabel_local z)
 ·exact .inl (by show(scope.names.lookup x == some .cell)=true;rw[z];rfl)
def j0{α:Type}{o:Option α}(h:o.isNone=true):o=none:=by
 cases o with
 | none=>rfl
 | some _=>cases h
end
mutual
theorem ah{cl:RL.Cl}:∀ (e':RL.E) {C:CC} {X:Cx} (h:XOk C X cl) (e:Expr),qo X cl e e' (chk C false e' e) (chk C true e' e)
 | .var i,C,X,h,e=>aA (b:=chk C false (.var i) e) fun z=>by
  obtain⟨x,p,rfl,g1,g2,g3,g4⟩:=hU h z;exact⟨Bj g1 g2 g3 g4,rfl⟩
 | .cst d,C,X,h,e=>aA (b:=chk C false (.cst d) e) fun z=>by
  obtain⟨k,z0,z⟩:=aj z;obtain⟨j,p,rfl⟩:=rF z0;exact⟨Cz z,rfl⟩
 | .glb y i,C,X,h,e=>aA (b:=chk C false (.glb y i) e) fun z=>by
  obtain⟨x,z0,z⟩:=aj z;obtain⟨p,rfl⟩:=dG z0;obtain⟨z,z3⟩:=ab z;obtain⟨z1,z2⟩:=ab z;rw[beq_iff_eq]at z1 z3;subst z1;exact⟨DR h z2 z3,rfl⟩
 | .bin o a b,C,X,h,e=>aA (b:=chk C false (.bin o a b) e) fun z=>by
  obtain⟨⟨l,op,r⟩,z0,z⟩:=aj z;obtain⟨p,rfl⟩:=qY z0;obtain⟨z,z3⟩:=ab z;obtain⟨z1,z2⟩:=ab z;rw[beq_iff_eq]at z1;have z1:op=qq o:=z1;subst z1;exact⟨CT ((ah a h l).1 z2) ((ah b h r).1 z3),rfl⟩
 | .neg a,C,X,h,e=>aA (b:=chk C false (.neg a) e) fun z=>by
  obtain⟨⟨op,x⟩,z0,z⟩:=aj z;obtain⟨p,rfl⟩:=qp z0;obtain⟨z1,z2⟩:=ab z;rw[beq_iff_eq]at z1;have z1:op=.USub:=z1;subst z1;exact⟨Cu ((ah a h x).1 z2),rfl⟩
 | .cmp c a b,C,X,h,e=>kh (b:=chk C false (.cmp c a b) e) fun z=>by
  obtain⟨⟨l,os,rs⟩,z0,z⟩:=aj z;obtain⟨p,rfl⟩:=js z0;obtain⟨op,y1,z⟩:=aK z;obtain⟨r,y2,z⟩:=aK z;have y1:os=[op]:=y1;have y2:rs=[r]:=y2;subst y1 y2;obtain⟨z,z3⟩:=ab z;obtain⟨z1,z2⟩:=ab z;rw[beq_iff_eq]at z1;subst z1;exact⟨DQ h.hu ((ah a h l).1 z2) ((ah b h r).1 z3),Bx h.hu ((ah a h l).1 z2) ((ah b h r).1 z3),rfl⟩
 | .chain c c' a b d,C,X,h,e=>kh (b:=chk C false (.chain c c' a b d) e) fun z=>by
  obtain⟨⟨l,os,rs⟩,z0,z⟩:=aj z;obtain⟨p,rfl⟩:=js z0;obtain⟨op,op',y1,z⟩:=fW z;obtain⟨r,s,y2,z⟩:=fW z;have y1:os=[op,op']:=y1;have y2:rs=[r,s]:=y2;subst y1 y2;obtain⟨z,z5⟩:=ab z;obtain⟨z,z4⟩:=ab z;obtain⟨z,z3⟩:=ab z;obtain⟨z1,z2⟩:=ab z;rw[beq_iff_eq]at z1 z2;subst z1 z2;exact⟨wR h.hu ((ah a h l).1 z3) ((ah b h r).1 z4) ((ah d h s).1 z5),x6 h.hu ((ah a h l).1 z3) ((ah b h r).1 z4) ((ah d h s).1 z5),rfl⟩
 | .isN neg a,C,X,h,e=>kh (b:=chk C false (.isN neg a) e) fun z=>by
  obtain⟨⟨l,os,rs⟩,z0,z⟩:=aj z;obtain⟨p,rfl⟩:=js z0;obtain⟨op,y1,z⟩:=aK z;obtain⟨r,y2,z⟩:=aK z;have y1:os=[op]:=y1;have y2:rs=[r]:=y2;subst y1 y2;obtain⟨z,z3⟩:=ab z;obtain⟨z1,z2⟩:=ab z;rw[beq_iff_eq]at z1;subst z1;obtain⟨k,w0,w⟩:=aj z2;obtain⟨j,q,rfl⟩:=rF w0;have w:=zZ w;subst w;exact⟨C1 ((ah a h l).1 z3),BV ((ah a h l).1 z3),rfl⟩
 | .and a b,C,X,h,e=>⟨(fun z=>by
   obtain⟨⟨op,es,p⟩,z0,z⟩:=aj z;obtain⟨l,r,rest,y1,z⟩:=kM z;have e0:=ig z0;have y1:es=l::r::rest:=y1;obtain⟨z,z3⟩:=ab z;obtain⟨z1,z2⟩:=ab z;rw[beq_iff_eq]at z1;have z1:op=.And:=z1;subst y1 z1 e0;refine BJ ((ah a h l).1 z2) ?_;split at z3
   ·rename_i hr;rw[List.isEmpty_iff]at hr;subst hr;exact wz ((ah b h r).1 z3)
   ·exact(ah b h _).1 z3),(fun z=>by
   obtain⟨⟨op,es,p⟩,z0,z⟩:=aj z;obtain⟨l,r,rest,y1,z⟩:=kM z;have e0:=ig z0;have y1:es=l::r::rest:=y1;obtain⟨z,z3⟩:=ab z;obtain⟨z1,z2⟩:=ab z;rw[beq_iff_eq]at z1;have z1:op=.And:=z1;subst y1 z1 e0
   have w:SW X cl (.BoolOp .And (l::r::rest) p) (.and a b):=by
    refine DI ((ah a h l).2 z2).1 ?_;split at z3
    ·rename_i hr;rw[List.isEmpty_iff]at hr;subst hr;exact uS ((ah b h r).2 z3).1
    ·exact((ah b h _).2 z3).2 rfl
   exact⟨w.pt,fun _=>w⟩)⟩
 | .or a b,C,X,h,e=>⟨(fun z=>by
   obtain⟨⟨op,es,p⟩,z0,z⟩:=aj z;obtain⟨l,r,rest,y1,z⟩:=kM z;have e0:=ig z0;have y1:es=l::r::rest:=y1;obtain⟨z,z3⟩:=ab z;obtain⟨z1,z2⟩:=ab z;rw[beq_iff_eq]at z1;have z1:op=.Or:=z1;subst y1 z1 e0;refine E4 ((ah a h l).1 z2) ?_;split at z3
   ·rename_i hr;rw[List.isEmpty_iff]at hr;subst hr;exact wz ((ah b h r).1 z3)
   ·exact(ah b h _).1 z3),(fun z=>by
   obtain⟨⟨op,es,p⟩,z0,z⟩:=aj z;obtain⟨l,r,rest,y1,z⟩:=kM z;have e0:=ig z0;have y1:es=l::r::rest:=y1;obtain⟨z,z3⟩:=ab z;obtain⟨z1,z2⟩:=ab z;rw[beq_iff_eq]at z1;have z1:op=.Or:=z1;subst y1 z1 e0
   have w:SW X cl (.BoolOp .Or (l::r::rest) p) (.or a b):=by
    refine EW ((ah a h l).2 z2).1 ?_;split at z3
    ·rename_i hr;rw[List.isEmpty_iff]at hr;subst hr;exact uS ((ah b h r).2 z3).1
    ·exact((ah b h _).2 z3).2 rfl
   exact⟨w.pt,fun _=>w⟩)⟩
 | .not a,C,X,h,e=>⟨(fun z=>by
   obtain⟨⟨op,x⟩,z0,z⟩:=aj z;obtain⟨p,rfl⟩:=qp z0;obtain⟨z1,z2⟩:=ab z;rw[beq_iff_eq]at z1;have z1:op=.Not:=z1;subst z1
   exact BD ((ah a h x).1 z2)),(fun z=>by
   obtain⟨⟨op,x⟩,z0,z⟩:=aj z;obtain⟨p,rfl⟩:=qp z0;obtain⟨z1,z2⟩:=ab z;rw[beq_iff_eq]at z1;have z1:op=.Not:=z1;subst z1
   exact⟨Br ((ah a h x).2 z2).1,fun q=>by cases q⟩)⟩
 | .ifx c a b,C,X,h,e=>⟨(fun z=>by
   obtain⟨⟨q,l,r⟩,z0,z⟩:=aj z;obtain⟨p,rfl⟩:=AV z0;obtain⟨z,z4⟩:=ab z;obtain⟨z,z3⟩:=ab z;obtain⟨z1,z2⟩:=ab z
   exact DN ((ah c h q).2 z2).1 ((ah a h l).1 z3) ((ah b h r).1 z4)),(fun z=>by
   obtain⟨⟨q,l,r⟩,z0,z⟩:=aj z;obtain⟨z,z4⟩:=ab z;obtain⟨z,z3⟩:=ab z;obtain⟨z1,z2⟩:=ab z
   cases z1)⟩
 | .tup es,C,X,h,e=>aA (b:=chk C false (.tup es) e) fun z=>by
  obtain⟨xs,z0,z⟩:=aj z;obtain⟨k,p,rfl⟩:=eK z0;obtain⟨z1,z2⟩:=ab z;exact⟨BI (iH es h _ z1).1 (by simpa using z2),rfl⟩
 | .lst es,C,X,h,e=>aA (b:=chk C false (.lst es) e) fun z=>by
  obtain⟨xs,z0,z⟩:=aj z;obtain⟨p,rfl⟩:=zF z0;obtain⟨z1,z2⟩:=ab z;exact⟨BY (iH es h _ z1).1 (by simpa using z2),rfl⟩
 | .ix a b,C,X,h,e=>aA (b:=chk C false (.ix a b) e) fun z=>by
  obtain⟨⟨l,r⟩,z0,z⟩:=aj z;obtain⟨p,rfl⟩:=j7 z0;obtain⟨z,z3⟩:=ab z;obtain⟨z1,z2⟩:=ab z;exact⟨Em ((ah a h l).1 z2) ((ah b h r).1 z3) z1,rfl⟩
 | .slT a b,C,X,h,e=>aA (b:=chk C false (.slT a b) e) fun z=>by
  obtain⟨⟨l,s⟩,z0,z⟩:=aj z;obtain⟨p,rfl⟩:=j7 z0;obtain⟨z1,z⟩:=ab z;obtain⟨⟨s1,s2,s3⟩,z0,z⟩:=aj z;obtain⟨q,e0⟩:=uQ z0;have e0:s=.Slice s1 s2 s3 q:=e0;obtain⟨z,z4⟩:=ab z;obtain⟨z2,z3⟩:=ab z;have w2:s1=none:=j0 z2;have w3:s3=none:=j0 z3;obtain⟨r,y0,z4⟩:=aj z4;have y1:s2=some r:=y0;rw[w2,w3,y1]at e0;subst e0;exact⟨DJ ((ah a h l).1 z1) ((ah b h r).1 z4),rfl⟩
 | .rev a,C,X,h,e=>aA (b:=chk C false (.rev a) e) fun z=>by
  obtain⟨⟨l,s⟩,z0,z⟩:=aj z;obtain⟨p,rfl⟩:=j7 z0;obtain⟨z1,z⟩:=ab z;obtain⟨⟨s1,s2,s3⟩,z0,z⟩:=aj z;obtain⟨q,e0⟩:=uQ z0;have e0:s=.Slice s1 s2 s3 q:=e0;obtain⟨z,z4⟩:=ab z;obtain⟨z2,z3⟩:=ab z;have w2:s1=none:=j0 z2;have w3:s2=none:=j0 z3;obtain⟨r,y0,z4⟩:=aj z4;have y1:s3=some r:=y0;rw[w2,w3,y1]at e0;subst e0;exact⟨De ((ah a h l).1 z1) z4,rfl⟩
 | .call f es,C,X,h,e=>aA (b:=chk C false (.call f es) e) fun z=>by
  obtain⟨⟨g,as,ks,p⟩,z0,z⟩:=aj z;have z0:=iu z0;subst z0;obtain⟨z,z4⟩:=ab z;obtain⟨z,z3⟩:=ab z;obtain⟨z1,z2⟩:=ab z;obtain⟨x,y0,z1⟩:=aj z1;obtain⟨q,e0⟩:=dG y0;have e0:g=.Name x q:=e0;obtain⟨y1,y2⟩:=ab z1;rw[beq_iff_eq]at y2
  have w2:ks=[]:=by rw[List.isEmpty_iff]at z2;exact z2
  subst e0 w2;obtain⟨q1,q2,q3⟩:=iH es h _ z4;dsimp only at z3 q1 q2 q3
  cases as with
  | nil=>cases z3
  |cons y ys=>
   rw[List.all_cons]at q3;exact⟨AQ h y1 y2 q1 q2 (ab q3).1 (ab q3).2,rfl⟩
 | .bi o a,C,X,h,e=>by
  have gen:(∀ t,chk C t (.bi o a) e=((sQ o).any fun x=>aT C e x fun ys=>of1 ys fun y=>chk C false a y))->qo X cl e (.bi o a) (chk C false (.bi o a) e) (chk C true (.bi o a) e):=fun heq=>by
   rw[heq,heq];refine aA fun z=>?_;obtain⟨x,y0,z⟩:=aj z;obtain⟨p,as,pos,rfl,b1,b2,z3,z4⟩:=b8 h z;obtain⟨y,rfl,z4⟩:=aK z4;exact⟨Fi h.calm y0 b1 b2 ((ah a h y).1 z4) (all1 z3),rfl⟩
  cases o
  case lenSet=>exact Fm rfl rfl
  all_goals exact gen fun t=>rfl
 | .min a b,C,X,h,e=>aA (b:=chk C false (.min a b) e) fun z=>by
  have z:(aT C e "min" fun ys=>of2 ys fun y z=>chk C false a y&&chk C false b z)=true:=z;obtain⟨p,as,pos,rfl,b1,b2,z3,z4⟩:=b8 h z;obtain⟨y,u,rfl,z4⟩:=fW z4;exact⟨DO h.calm b1 b2 ((ah a h y).1 (ab z4).1) ((ah b h u).1 (ab z4).2) (all2 z3).1 (all2 z3).2,rfl⟩
 | .isi a ty,C,X,h,e=>aA (b:=chk C false (.isi a ty) e) fun z=>by
  have z:(aT C e "isinstance" fun ys=>of2 ys fun y z=>(fF z).any (fun x=>x == qf ty&&pG C x)&&chk C false a y)=true:=z;obtain⟨p,as,pos,rfl,b1,b2,z3,z4⟩:=b8 h z;obtain⟨y,u,rfl,z4⟩:=fW z4;obtain⟨z5,z6⟩:=ab z4;obtain⟨x,w0,w⟩:=aj z5;obtain⟨q,rfl⟩:=dG w0;obtain⟨w1,w2⟩:=ab w;rw[beq_iff_eq]at w1;subst w1;obtain⟨t1,t2,t3⟩:=wa ty;exact⟨BM b1 b2 (h.bl w2).1 (h.bl w2).2 t1 t2 t3 ((ah a h y).1 z6) (all2 z3).1,rfl⟩
 | .rng1 a,C,X,h,e=>aA (b:=chk C false (.rng1 a) e) fun z=>by
  have z:(aT C e "list" fun ys=>of1 ys fun y=>aT C y "range" fun zs=>of1 zs fun z=>chk C false a z)=true:=z;obtain⟨p,as,pos,rfl,b1,b2,z3,z4⟩:=b8 h z;obtain⟨y,rfl,z5⟩:=aK z4;obtain⟨p',as',pos',rfl,b1',b2',z3',z6⟩:=b8 h z5;obtain⟨y,rfl,z7⟩:=aK z6;exact⟨zU h.calm b1 b2 b1' b2' ((ah a h y).1 z7) (all1 z3'),rfl⟩
 | .rng2 a b,C,X,h,e=>aA (b:=chk C false (.rng2 a b) e) fun z=>by
  have z:(aT C e "list" fun ys=>of1 ys fun y=>aT C y "range" fun zs=>of2 zs fun z u=>chk C false a z&&chk C false b u)=true:=z;obtain⟨p,as,pos,rfl,b1,b2,z3,z4⟩:=b8 h z;obtain⟨y,rfl,z5⟩:=aK z4;obtain⟨p',as',pos',rfl,b1',b2',z3',z6⟩:=b8 h z5;obtain⟨y,u,rfl,z7⟩:=fW z6;exact⟨AR h.calm b1 b2 b1' b2' ((ah a h y).1 (ab z7).1) ((ah b h u).1 (ab z7).2) (all2 z3').1 (all2 z3').2,rfl⟩
 | .rng3 c a b,C,X,h,e=>aA (b:=chk C false (.rng3 c a b) e) fun z=>by
  have z:(aT C e "list" fun ys=>of1 ys fun y=>aT C y "range" fun zs=>of3 zs fun z u q=>ee c q&&chk C false a z&&chk C false b u)=true:=z;obtain⟨p,as,pos,rfl,b1,b2,z3,z4⟩:=b8 h z;obtain⟨y,rfl,z5⟩:=aK z4;obtain⟨p',as',pos',rfl,b1',b2',z3',z6⟩:=b8 h z5;obtain⟨y,u,q,rfl,z7⟩:=lj z6;obtain⟨z7,z9⟩:=ab z7;obtain⟨z7,z8⟩:=ab z7;exact⟨AY h.calm b1 b2 b1' b2' ((ah a h y).1 z8) ((ah b h u).1 z9) (mG z3').1 (mG z3').2.1 z7,rfl⟩
 | .comp d tg it c,C,X,h,e=>aA (b:=chk C false (.comp d tg it c) e) fun z=>by
  obtain⟨⟨elt,gens,scope,p⟩,z0,z⟩:=aj z;have z0:=ql z0;subst z0;obtain⟨⟨tgE,iter,ifs,asy⟩,y1,z⟩:=aK z;have y1:gens=[⟨tgE,iter,ifs,asy⟩]:=y1;obtain⟨w,y2,z⟩:=aK z;have y2:ifs=[w]:=y2;obtain⟨z,z8⟩:=ab z;obtain⟨z,z7⟩:=ab z;obtain⟨z,z6⟩:=ab z;obtain⟨z,z5⟩:=ab z;obtain⟨z,z4⟩:=ab z;obtain⟨z,z3⟩:=ab z;obtain⟨z,z2⟩:=ab z;obtain⟨z0,z1⟩:=ab z;rw[beq_iff_eq]at z0;have w0:asy=0:=z0;subst y1 w0;subst y2;refine⟨wL (fun _ _ _ _=>h.calm) (by rw[h.scope];exact nQ z1) (gX it h _ _ z6) ?_ (fj z3 _),rfl⟩;exact⟨fun cls Ca fp s H=>kQ h z5 z4,fun cls Ca fp s H pins s' σ H' Q I q=>nC ((ah c (h.blk cls Ca fp s H) _).2 z8).1 I q,fun cls Ca fp s H=>(ah d (h.blk cls Ca fp s H) _).1 z7,fun i x hx hl=>iJ z2 i x (by rw[<-h.names];exact hx) hl⟩
 | .compA d tg it,C,X,h,e=>aA (b:=chk C false (.compA d tg it) e) fun z=>by
  obtain⟨⟨elt,gens,scope,p⟩,z0,z⟩:=aj z;have z0:=ql z0;subst z0;obtain⟨⟨tgE,iter,ifs,asy⟩,y1,z⟩:=aK z;have y1:gens=[⟨tgE,iter,ifs,asy⟩]:=y1;obtain⟨z,z7⟩:=ab z;obtain⟨z,z6⟩:=ab z;obtain⟨z,z5⟩:=ab z;obtain⟨z,z4⟩:=ab z;obtain⟨z,z3⟩:=ab z;obtain⟨z,z2⟩:=ab z;obtain⟨z,z1⟩:=ab z;obtain⟨y2,z0⟩:=ab z;rw[beq_iff_eq]at z0;have w0:asy=0:=z0
  have w2:ifs=[]:=by rw[List.isEmpty_iff]at y2;exact y2
  subst y1 w0;subst w2;refine⟨xw h.calm (by rw[h.scope];exact nQ z1) (gX it h _ _ z6) ?_ (fj z3 _),rfl⟩;exact⟨fun cls Ca fp s H=>kQ h z5 z4,fun cls Ca fp s H pins s' σ H' Q I q=>mW I q,fun cls Ca fp s H=>(ah d (h.blk cls Ca fp s H) _).1 z7,fun i x hx hl=>iJ z2 i x (by rw[<-h.names];exact hx) hl⟩
 | .dt0,C,X,h,e=>aA (b:=chk C false .dt0 e) fun z=>by
  obtain⟨⟨ks,vs⟩,z0,z⟩:=aj z;obtain⟨p,rfl⟩:=xp z0;obtain⟨z1,z2⟩:=ab z;rw[List.isEmpty_iff]at z1 z2;have z1:ks=[]:=z1;have z2:vs=[]:=z2;subst z1 z2;exact⟨DZ,rfl⟩
 | .frz a,C,X,h,e=>aA (b:=chk C false (.frz a) e) fun z=>by
  obtain⟨z1,z2⟩:=ab z;exact⟨CH ((ah a h e).1 z2),by cases e<;>first | rfl | exact Bool.noConfusion z1⟩
 | .cat a b,C,X,h,e=>aA (b:=chk C false (.cat a b) e) fun z=>by
  obtain⟨⟨l,op,r⟩,z0,z⟩:=aj z;obtain⟨p,rfl⟩:=qY z0;obtain⟨z,z3⟩:=ab z;obtain⟨z1,z2⟩:=ab z;rw[beq_iff_eq]at z1;have z1:op=.Add:=z1;subst z1;exact⟨DK ((ah a h l).1 z2) ((ah b h r).1 z3),rfl⟩
theorem iH{cl:RL.Cl}:∀ (es':RL.Es) {C:CC} {X:Cx} (h:XOk C X cl) (es:List Expr),lE C es' es=true->SEs X cl es es'/\et es'=es.length/\es.all noStar=true
 | .nil,C,X,h,es,z=>by
  have z:es=[]:=List.isEmpty_iff.mp z;subst z;exact⟨cL,rfl,rfl⟩
 | .cons e' es',C,X,h,es,z=>by
  cases es with
  | nil=>cases z
  |cons e es=>
   obtain⟨z,z3⟩:=ab z;obtain⟨z1,z2⟩:=ab z;obtain⟨q1,q2,q3⟩:=iH es' h es z3;exact⟨bh ((ah e' h e).1 z2) q1 z1,by rw[et,q2,List.length_cons],by rw[List.all_cons,z1,q3];rfl⟩
theorem gX{cl:RL.Cl}:∀ (it:RL.It) {C:CC} {X:Cx} (h:XOk C X cl) (tg e:Expr),um C it tg e=true->SI X cl tg e it
 | .seq a,C,X,h,tg,e,z=>An ((ah a h e).1 z)
 | .rng1 a,C,X,h,tg,e,z=>by
  have z:(aT C e "range" fun ys=>of1 ys fun y=>chk C false a y)=true:=z;obtain⟨p,as,pos,rfl,b1,b2,z3,z4⟩:=b8 h z;obtain⟨y,rfl,z4⟩:=aK z4;exact A1 b1 b2 ((ah a h y).1 z4) (all1 z3)
 | .rng2 a b,C,X,h,tg,e,z=>by
  have z:(aT C e "range" fun ys=>of2 ys fun y z=>chk C false a y&&chk C false b z)=true:=z;obtain⟨p,as,pos,rfl,b1,b2,z3,z4⟩:=b8 h z;obtain⟨y,u,rfl,z4⟩:=fW z4;exact Ar b1 b2 ((ah a h y).1 (ab z4).1) ((ah b h u).1 (ab z4).2) (all2 z3).1 (all2 z3).2
 | .rng3 c a b,C,X,h,tg,e,z=>by
  have z:(aT C e "range" fun ys=>of3 ys fun y z q=>ee c q&&chk C false a y&&chk C false b z)=true:=z;obtain⟨p,as,pos,rfl,b1,b2,z3,z4⟩:=b8 h z;obtain⟨y,u,q,rfl,z4⟩:=lj z4;obtain⟨z4,z6⟩:=ab z4;obtain⟨z4,z5⟩:=ab z4;exact AG b1 b2 ((ah a h y).1 z5) ((ah b h u).1 z6) (mG z3).1 (mG z3).2.1 z4
 | .enm a,C,X,h,tg,e,z=>by
  obtain⟨z0,zz⟩:=ab z;obtain⟨ts,z0⟩:=Option.isSome_iff_exists.mp z0;obtain⟨k,tp,rfl⟩:=eK z0;obtain⟨p,as,pos,rfl,b1,b2,z3,z4⟩:=b8 h zz;obtain⟨y,rfl,z4⟩:=aK z4;exact AL b1 b2 ((ah a h y).1 z4) (all1 z3)
 | .zip a b,C,X,h,tg,e,z=>by
  obtain⟨z0,zz⟩:=ab z;obtain⟨ts,z0⟩:=Option.isSome_iff_exists.mp z0;obtain⟨k,tp,rfl⟩:=eK z0;obtain⟨p,as,pos,rfl,b1,b2,z3,z4⟩:=b8 h zz;obtain⟨y,u,rfl,z4⟩:=fW z4;exact PI'.calm (B2 b1 b2 ((ah a h y).1 (ab z4).1) ((ah b h u).1 (ab z4).2) (all2 z3).1 (all2 z3).2)
end
abbrev gO:Expr->Bool
 | .ListComp _ _ _ _=>false
 | .SetComp _ _ _ _=>false
 | .DictComp _ _ _ _ _=>false
 | _=>true
abbrev uI:Expr->Bool
 | .Tuple vs _ _=>vs.all (foldedForSure 8)
 | _=>true
abbrev tW(e:Expr):Bool:=match e with
 | .SetComp _ _ _ _=>false
 | .DictComp _ _ _ _ _=>false
 | _=>true
abbrev tP(C:CC)(x y z:Str)(px py pz:Pos)(a b c:Expr):Bool :=
 C.sc.kind == .function&&C.sc.names.lookup x == some .local&&C.sc.names.lookup y == some .local&&C.sc.names.lookup z == some .local&&px.line == py.line&&px.line == pz.line && !(x == y) && !(x == z) && !(y == z)&&noStar a&&noStar b&&noStar c && !(foldedForSure 8 a) && !(constantsAlone 8 a)
abbrev sy(M:List Nat):RL.E->Bool
 | .var i=>M.contains i
 | _=>false
abbrev t6(C:CC):RL.Es->List Expr->Bool
 | .nil=>fun xs=>xs.isEmpty
 | .cons e es=>fun xs=>match xs with
  | x::xs=>noStar x&&chk C false e x&&t6 C es xs
  | []=>false
abbrev kN:Expr->Option (Str × Pos)
 | .Name x p=>some (x,p)
 | _=>none
def iY{e:Expr}{x:Str}{p:Pos}(h:kN e=some (x,p)):e=.Name x p:=by
 cases e
 case Name=>cases h;rfl
 all_goals exact nos h
abbrev om(C:CC)(i:Nat)(nm:Str)(e:Expr)(f:List Expr->Bool):Bool:=(kC e).any fun q=>(zi q.1).any (fun a=>nX C i a.1&&a.2.1 == nm&&a.2.2.endLine == q.2.2.2.line)&&q.2.2.1.isEmpty&&f q.2.1
abbrev lD(C:CC)(M:List Nat)(f:Nat)(es:RL.Es)(ps ms:List Nat)(e:Expr):Bool:=(kC e).any fun q=>(fF q.1).any (fun x=>glB C x&&C.F[f]? == some (x,ps))&&q.2.2.1.isEmpty && !q.2.1.isEmpty && !ps.isEmpty&&t6 C es q.2.1&&bN es ps ms&&ms.all (fun i=>M.contains i)&&decide ms.Nodup&&decide ps.Nodup
abbrev yp(C:CC)(i:Nat)(e':RL.E)(st:Stmt):Bool:=(kf st).any fun q=>of1 q.1 fun t=>gy C i t&&tW q.2&&chk C false e' q.2
mutual
noncomputable def ya(C:CC)(M:List Nat):RL.S->Stmt->Bool
 | .asg i e'=>fun st=>(kf st).any fun q=>of1 q.1 fun t=>gy C i t && !M.contains i&&tW q.2&&chk C false e' q.2
 | .own i e'=>fun st=>(kf st).any fun q=>of1 q.1 fun t=>gy C i t&&M.contains i&&decide (M.count i<2)&&tW q.2&&chk C false e' q.2
 | .unp is e'=>fun st=>(kf st).any fun q=>of1 q.1 fun t=>(iN t).any fun ts=>jy C is ts&&is.all (fun i=>!M.contains i)&&uI q.2&&chk C false e' q.2
 | .par3 i j k a' b' c'=>fun st=>(kf st).any fun q=>of1 q.1 fun t=>(iN t).any fun ts=>of3 ts fun s u w=>(kN s).any fun x=>(kN u).any fun y=>(kN w).any fun v=>(iN q.2).any fun vs=>of3 vs fun a b c=>(nmB C i x.1&&nmB C j y.1&&nmB C k v.1)&&(!(i == j) && !(i == k) && !(j == k))&&(!M.contains i && !M.contains j && !M.contains k)&&tP C x.1 y.1 v.1 x.2 y.2 v.2 a b c&&(chk C false a' a&&chk C false b' b&&chk C false c' c)
 | .app i e'=>fun st=>(tq st).any fun e=>om C i "append" e fun as=>of1 as fun y=>M.contains i&&noStar y&&chk C false e' y
 | .put i k' e'=>fun st=>(kf st).any fun q=>of1 q.1 fun t=>(oZ t).any fun u=>nX C i u.1&&M.contains i&&pB u.2&&gO q.2&&chk C false k' u.2&&chk C false e' q.2
 | .ife c' a' b'=>fun st=>(wIf st).any fun q=>chk C true c' q.1&&eA C M a' q.2.1&&eA C M b' q.2.2
 | .forr tg it b'=>fun st=>(CN st).any fun q=>q.2.2.2.isEmpty&&um C it q.1 q.2.1&&lJ C tg q.1&&kP q.2.1&&RL.u6 M it&&tg.all (fun i=>!M.contains i)&&eA C M b' q.2.2.1
 | .mexc f es ps ms=>fun st=>(tq st).any fun e=>lD C M f es ps ms e
 | .maug i f es ps ms=>fun st=>(BG st).any fun q=>gy C i q.1 && !M.contains i&&q.2.1 == .Add&&lD C M f es ps ms q.2.2
 | .ret e'=>fun st=>(BW st).any fun o=>o.any fun e=>chk C false e' e
 | .exc e'=>fun st=>(tq st).any fun e=>gO e&&chk C false e' e
 | .ifp i e' a' b'=>fun st=>(wIf st).any fun q=>(oA q.1).any fun u=>of1 u.2.1 fun op=>of1 u.2.2 fun e=>op == .NotEq&&M.contains i&&chk C false e' e&&eA C M a' q.2.1&&eA C M b' q.2.2&&om C i "pop" u.1 fun as=>as.isEmpty
 | .whil c' b'=>fun st=>(Dm st).any fun q=>q.2.2.isEmpty&&chk C true c' q.1&&eA C M b' q.2.1
 | .rais _ _=>fun _=>true
noncomputable def eA(C:CC)(M:List Nat):RL.Ss->List Stmt->Bool
 | .nil=>fun xs=>xs.isEmpty
 | .cons s r=>fun xs=>match xs with
  | x::xs=>ya C M s x&&eA C M r xs
  | []=>false
 | .opn j e' r=>fun xs=>match xs with
  | x::xs=>yp C j e' x && !M.contains j&&ou C M (j::M) r xs
  | []=>false
noncomputable def ou(C:CC)(M:List Nat)(N:List Nat):RL.Sq->List Stmt->Bool
 | .cls r=>fun xs=>eA C M r xs
 | .cons s r=>fun xs=>match xs with
  | x::xs=>ya C N s x&&ou C M N r xs
  | []=>false
 | .opn j e' r=>fun xs=>match xs with
  | x::xs=>yp C j e' x&&decide (M.count j<2)&&ou C M (j::N) r xs
  | []=>false
 | .frz j r=>fun xs=>eA C M r xs&&(!M.contains j&&decide (N=j::M))
end
structure YOk(C:CC)(X:Cx)(cl:RL.Cl):Prop extends XOk C X cl where
 fn:∀ x,X.fn x=true
section
variable{C:CC}{X:Cx}{cl:RL.Cl}{M:List Nat}{st:Stmt}{e:Expr}{e' k':RL.E}{i:Nat}
def fZ{t:Option Expr}{l:Nat}{env:Env}(h:gO e=true):swapsWith e t l env=pure false:=by
 cases e<;>first | rfl | (cases h;done)
def ui{t:Expr}{spos:Pos}(h:YOk C X cl)(hn:gy C i t=true)(ha:tW e=true)(hc:chk C false e' e=true):SA X cl (.Assign [t] e spos) i e':=by
 obtain⟨y,py,rfl,hN,hl⟩:=iB h.toXOk hn
 have plain:swapsWith e (some (.Name y py)) spos.line X.env=pure false->SA X cl (.Assign [.Name y py] e spos) i e':=fun z =>
  yi h.ndX hN hl ((ah e' h.toXOk e).1 hc) (.inl (h.fn y)) z trivial
 by_cases hcomp:gO e=true
 ·exact plain (fZ hcomp)
 ·have:∃ elt gens scope p,e=.ListComp elt gens scope p:=by
   cases e<;>first | exact absurd rfl hcomp | exact Bool.noConfusion ha | exact⟨_,_,_,_,rfl⟩
  obtain⟨elt,gens,scope,p,rfl⟩:=this;have hsw:swapsWith (.ListComp elt gens scope p) (some (.Name y py)) spos.line X.env=pure (X.env.blockKind == .function&&X.env.kindOf y == some .local&&py.line == p.line && !(scope.names.any fun(n,k)=>n == y&&(k == .local || k == .cell))):=rfl;by_cases hb:(X.env.blockKind == .function&&X.env.kindOf y == some .local&&py.line == p.line && !(scope.names.any fun(n,k)=>n == y&&(k == .local || k == .cell)))=true
  ·have hy:X.env.scope.names.lookup y=some .local:=by
    obtain⟨q,_⟩:=ab (ab hb).1;have q2:=(ab q).2;rw[beq_iff_eq]at q2;exact q2
   rw[hb]at hsw;by_cases hk:∃ d tg it c,e'=.comp d tg it c
   ·obtain⟨d,tg,it,c,rfl⟩:=hk;obtain⟨⟨tgE,iter,ifs,asy⟩,y1,z⟩:=aK hc;have y1:gens=[⟨tgE,iter,ifs,asy⟩]:=y1;obtain⟨w,y2,z⟩:=aK z;have y2:ifs=[w]:=y2;obtain⟨z,z8⟩:=ab z;obtain⟨z,z7⟩:=ab z;obtain⟨z,z6⟩:=ab z;obtain⟨z,z5⟩:=ab z;obtain⟨z,z4⟩:=ab z;obtain⟨z,z3⟩:=ab z;obtain⟨z,z2⟩:=ab z;obtain⟨z0,z1⟩:=ab z;rw[beq_iff_eq]at z0;have w0:asy=0:=z0;subst y1 w0;subst y2;refine xZ h.calm h.ndX hN hy (by rw[h.scope];exact nQ z1) (gX it h.toXOk _ _ z6) ?_ (fj z3 _) hsw;exact⟨fun cls Ca fp s H=>kQ h.toXOk z5 z4,fun cls Ca fp s H pins s' σ H' Q I q=>nC ((ah c (h.toXOk.blk cls Ca fp s H) _).2 z8).1 I q,fun cls Ca fp s H=>(ah d (h.toXOk.blk cls Ca fp s H) _).1 z7,fun i x hx hl=>iJ z2 i x (by rw[<-h.names];exact hx) hl⟩
   ·by_cases hk2:∃ d tg it,e'=.compA d tg it
    ·obtain⟨d,tg,it,rfl⟩:=hk2;obtain⟨⟨tgE,iter,ifs,asy⟩,y1,z⟩:=aK hc;have y1:gens=[⟨tgE,iter,ifs,asy⟩]:=y1;obtain⟨z,z7⟩:=ab z;obtain⟨z,z6⟩:=ab z;obtain⟨z,z5⟩:=ab z;obtain⟨z,z4⟩:=ab z;obtain⟨z,z3⟩:=ab z;obtain⟨z,z2⟩:=ab z;obtain⟨z,z1⟩:=ab z;obtain⟨y2,z0⟩:=ab z;rw[beq_iff_eq]at z0;have w0:asy=0:=z0
     have w2:ifs=[]:=by rw[List.isEmpty_iff]at y2;exact y2
     subst y1 w0;subst w2;refine yd h.calm h.ndX hN hy (by rw[h.scope];exact nQ z1) (gX it h.toXOk _ _ z6) ?_ (fj z3 _) hsw;exact⟨fun cls Ca fp s H=>kQ h.toXOk z5 z4,fun cls Ca fp s H pins s' σ H' Q I q=>mW I q,fun cls Ca fp s H=>(ah d (h.toXOk.blk cls Ca fp s H) _).1 z7,fun i x hx hl=>iJ z2 i x (by rw[<-h.names];exact hx) hl⟩
    ·cases e'<;>first | exact Bool.noConfusion hc | exact absurd ⟨_,_,_,_,rfl⟩ hk | exact absurd ⟨_,_,_,rfl⟩ hk2 | (rename_i b a;cases b<;>exact Bool.noConfusion hc)
  ·have hb':=Bool.not_eq_true _▸hb;rw[hb']at hsw;exact plain hsw
def wA{st:Stmt}(h:YOk C X cl)(z:yp C i e' st=true):SA X cl st i e':=by
 obtain⟨⟨ts,e⟩,z0,z⟩:=aj z;obtain⟨p,rfl⟩:=fL z0;obtain⟨t,y1,z⟩:=aK z;have y1:ts=[t]:=y1;obtain⟨z,z3⟩:=ab z;obtain⟨z1,z2⟩:=ab z;subst y1;exact ui h z1 z2 z3
def oS(h:XOk C X cl):∀ {es':RL.Es} {es:List Expr},t6 C es' es=true->PA X es (gp X.K cl es')/\es.all noStar=true
 | .nil,es,z=>by
  have z:es=[]:=List.isEmpty_iff.mp z;subst z;exact⟨eu,rfl⟩
 | .cons _ _,[],z=>by cases z
 | .cons e' es',e::es,z=>by
  obtain⟨z,z3⟩:=ab z;obtain⟨z1,z2⟩:=ab z;obtain⟨q1,q2⟩:=oS h z3;refine⟨?_,by rw[List.all_cons,z1,q2];rfl⟩;rw[gp];refine bV ?_ q1 (a5 es z1);by_cases hv:∃ j,e'=.var j
  ·obtain⟨j,rfl⟩:=hv;obtain⟨x,p,rfl,g1,g2,g3,g4⟩:=hU h z2;exact gN g1 g2 g3 g4
  ·have ht:oY X.K cl e'=tE X.K cl e':=by
    cases e'<;>first | rfl | exact absurd ⟨_,rfl⟩ hv
   rw[ht];exact(ah _ h e).1 z2
def rR{is:List Nat}(h:is.all (fun i=>!M.contains i)=true):∀ i∈is,M.contains i=false:=fun i hi=>by
 rw[List.all_eq_true]at h;simpa using h i hi
def CB{is:List Nat}(h:is.all (fun i=>M.contains i)=true):∀ i∈is,M.contains i=true:=fun i hi=>by
 rw[List.all_eq_true]at h;exact h i hi
def fO{b:Bool}(h:(!b)=true):b=false:=by simpa using h
def oT{f:Nat}{ps ms:List Nat}{es:RL.Es}(h:XOk C X cl)(z:lD C M f es ps ms e=true):PE X e (lA (spM X.K cl ps f) [] E0 (gp X.K cl es))/\bN es ps ms=true/\(∀ i∈ms,M.contains i=true)/\ms.Nodup/\ps.Nodup/\gO e=true:=by
 unfold lD at z;obtain⟨⟨g,as,ks,pos⟩,z0,z⟩:=aj z;have e0:=iu z0;obtain⟨z,z9⟩:=ab z;obtain⟨z,z8⟩:=ab z;obtain⟨z,z7⟩:=ab z;obtain⟨z,z6⟩:=ab z;obtain⟨z,z5⟩:=ab z;obtain⟨z,z4⟩:=ab z;obtain⟨z,z3⟩:=ab z;obtain⟨z1,z2⟩:=ab z;obtain⟨x,y0,z1⟩:=aj z1;obtain⟨p,e1⟩:=dG y0;have e1:g=.Name x p:=e1;obtain⟨y1,y2⟩:=ab z1;rw[beq_iff_eq]at y2
 have w2:ks=[]:=by rw[List.isEmpty_iff]at z2;exact z2
 rw[e1,w2]at e0;subst e0;refine⟨?_,z6,CB z7,by simpa using z8,by simpa using z9,rfl⟩;obtain⟨k,fa,fd,pn,F,hr,hm,hk,hb⟩:=h.fns f x ps y2;rw[if_neg (fun z=>by subst z;cases z4)]at F;obtain⟨q1,q2⟩:=oS h z5;obtain⟨g1,g2⟩:=h.gl y1
 cases as with
 | nil=>cases z3
 |cons y ys=>
  rw[List.all_cons]at q2;exact sh F hr g1 hm hk hb .nil zo q1 (dZ g2).1 (a5 ys (ab q2).1) (dO (ab q2).2)
def rD{nm:Str}{f:List Expr->Bool}(h:XOk C X cl)(z:om C i nm e f=true):∃ x p apos as pos,e=.Call (.Attribute (.Name x p) nm apos) as [] pos/\X.N[i]?=some x/\Vis X.env.scope x/\(x == ("__debug__" : Str))=false/\(x == ("__classdict__" : Str))=false/\(apos.endLine == pos.line)=true/\f as=true:=by
 unfold om at z;obtain⟨⟨g,as,ks,pos⟩,z0,z⟩:=aj z;have e0:=iu z0;obtain⟨z,z3⟩:=ab z;obtain⟨z1,z2⟩:=ab z;obtain⟨⟨o,a,apos⟩,y0,z1⟩:=aj z1;have e1:=xK y0;have e1:g=.Attribute o a apos:=e1;obtain⟨z1,y3⟩:=ab z1;obtain⟨y1,y2⟩:=ab z1;rw[beq_iff_eq]at y2;have y2:a=nm:=y2
 have w2:ks=[]:=by rw[List.isEmpty_iff]at z2;exact z2
 obtain⟨x,p,e2,g1,g2,g3,g4⟩:=hU h y1;have e2:o=.Name x p:=e2;rw[e1,w2,y2,e2]at e0;exact⟨x,p,apos,as,pos,e0,g1,g2,g3,g4,y3,z3⟩
def Ad(h1:PS X st (pF (tE X.K cl e') (xn (iP i) (tE X.K cl k') tM)))(h2:PS X st (uy (iP i) (tE X.K cl k') (tE X.K cl e')))(hi:M.contains i=true):SS X cl M st (.put i k' e'):=by
 have a1:=Df h1 hi trivial;have a2:=Bd h2 hi;intro pins s σ H D I h;obtain⟨σD,o,σD',rv,e,k⟩:=h;obtain⟨d,e1,e⟩:=bind_some e;obtain⟨kk,e2,e⟩:=bind_some e;obtain⟨l,e3,e⟩:=bind_some e
 cases l with
 | lst ds=>exact a1 pins s σ H D I ⟨σD,o,σD',rv,by dsimp only;rw[e1];dsimp only[Option.bind_some];rw[e2];dsimp only[Option.bind_some];rw[e3];exact e,k⟩
 | _=>exact a2 pins s σ H D I ⟨σD,o,σD',rv,by dsimp only;rw[e1];dsimp only[Option.bind_some];rw[e2];dsimp only[Option.bind_some];rw[e3];exact e,k⟩
def sW{o k:Expr}{pos:Pos}{env:Env}(h:pB k=true)(v:Value):assign (.Subscript o k pos) env v=(do
   let ov <- holding [v] (eval o env)
   let iv <- holding [v,ov] (eval k env)
   standAt pos
   holding [v,ov,iv] (setItem ov iv v)
   release [v,ov,iv] []):=by
 cases k<;>first | rfl | (cases h;done)
def vP{us:List Expr}{kk:Nat}{tp:Pos}{env:Env}(h:uI e=true):swappedStores [.Tuple us kk tp] e env=pure none:=by
 cases e with
 |Tuple vs k p=>
  have h:vs.all (foldedForSure 8)=true:=h;unfold swappedStores;dsimp only;split
  ·rfl
  ·split
   ·rfl
   ·split
    ·rfl
    ·first | rfl | (rw[if_pos h];rfl)
 | _=>rfl
def zQ{x y z:Str}{px py pz pt pt2:Pos}{kt k2:Nat}{a b c:Expr}(h:XOk C X cl)(hp:tP C x y z px py pz a b c=true):swappedStores [.Tuple [.Name x px,.Name y py,.Name z pz] kt pt] (.Tuple [a,b,c] k2 pt2) X.env=pure (some [x,y,z]) /\
  X.env.scope.names.lookup x=some .local/\X.env.scope.names.lookup y=some .local/\X.env.scope.names.lookup z=some .local/\noStar a=true/\noStar b=true/\noStar c=true:=by
 unfold tP at hp;obtain⟨hp,h14⟩:=ab hp;obtain⟨hp,h13⟩:=ab hp;obtain⟨hp,h12⟩:=ab hp;obtain⟨hp,h11⟩:=ab hp;obtain⟨hp,h10⟩:=ab hp;obtain⟨hp,h9⟩:=ab hp;obtain⟨hp,h8⟩:=ab hp;obtain⟨hp,h7⟩:=ab hp;obtain⟨hp,h6⟩:=ab hp;obtain⟨hp,h5⟩:=ab hp;obtain⟨hp,h4⟩:=ab hp;obtain⟨hp,h3⟩:=ab hp;obtain⟨h1,h2⟩:=ab hp;rw[beq_iff_eq]at h1 h2 h3 h4 h5 h6;rw[<-h.scope]at h1 h2 h3 h4;refine⟨?_,h2,h3,h4,h10,h11,h12⟩
 have bk:X.env.blockKind=.function:=by
  unfold Env.blockKind;rw[h1];rfl
 have k1:X.env.kindOf x=some .local:=h2;have k2:X.env.kindOf y=some .local:=h3;have k3:X.env.kindOf z=some .local:=h4
 have h6':pz.line=py.line:=by rw[<-h6,h5]
 have hxy:x≠y:=by simpa using h7
 have hxz:x≠z:=by simpa using h8
 have hyz:y≠z:=by simpa using h9
 have f1:foldedForSure 8 a=false:=by simpa using h13
 have f2:constantsAlone 8 a=false:=by simpa using h14
 have ed:[x,y,z].eraseDups=[x,y,z]:=by
  rw[List.eraseDups_cons];simp[Ne.symm hxy,Ne.symm hxz];rw[List.eraseDups_cons];simp[Ne.symm hyz];rfl
 unfold swappedStores;simp only[bk];simp[show ∀ (x:Str) (p:Pos),(Expr.Name x p).pos=p from fun _ _=>rfl,k1,k2,k3,h5,h6',ed,f1,f2];intro hh;exfalso;rcases hh with hh | hh | hh
 ·cases a<;>first | exact Bool.noConfusion (show false=true from hh) | exact Bool.noConfusion (show false=true from h10)
 ·cases b<;>first | exact Bool.noConfusion (show false=true from hh) | exact Bool.noConfusion (show false=true from h11)
 ·cases c<;>first | exact Bool.noConfusion (show false=true from hh) | exact Bool.noConfusion (show false=true from h12)
end
section
variable{X:Cx}{cl:RL.Cl}
mutual
theorem so:∀ (s:RL.S) {C:CC} {M:List Nat} (h:YOk C X cl) (st:Stmt),ya C M s st=true->SS X cl M st s
 | .asg i e',C,M,h,st,z=>by
  obtain⟨⟨ts,e⟩,z0,z⟩:=aj z;obtain⟨p,rfl⟩:=fL z0;obtain⟨t,y1,z⟩:=aK z;have y1:ts=[t]:=y1;obtain⟨z,z4⟩:=ab z;obtain⟨z,z3⟩:=ab z;obtain⟨z1,z2⟩:=ab z;subst y1;exact CK (ui h z1 z3 z4) (fO z2)
 | .own i e',C,M,h,st,z=>by
  obtain⟨⟨ts,e⟩,z0,z⟩:=aj z;obtain⟨p,rfl⟩:=fL z0;obtain⟨t,y1,z⟩:=aK z;have y1:ts=[t]:=y1;obtain⟨z,z5⟩:=ab z;obtain⟨z,z4⟩:=ab z;obtain⟨z,z3⟩:=ab z;obtain⟨z1,z2⟩:=ab z;subst y1;exact Bs (ui h z1 z4 z5) z2 (by simpa using z3)
 | .unp is e',C,M,h,st,z=>by
  obtain⟨⟨ts,e⟩,z0,z⟩:=aj z;obtain⟨p,rfl⟩:=fL z0;obtain⟨t,y1,z⟩:=aK z;have y1:ts=[t]:=y1;obtain⟨us,y2,z⟩:=aj z;obtain⟨k,tp,rfl⟩:=eK y2;obtain⟨z,z4⟩:=ab z;obtain⟨z,z3⟩:=ab z;obtain⟨z1,z2⟩:=ab z;subst y1;obtain⟨g1,g2,g3⟩:=mH h.toXOk (T:=is) (fun i x _ _=>.inl (h.fn x)) (fun _ h=>h) z1;refine zu (uM ((ah e' h.toXOk e).1 z4) (uW (vZ h.calm g1 g2 g3) (vm h.calm g1 g2 g3)) ?_ (vP z3) rfl) (rR z2);cases e<;>rfl
 | .par3 i j m a' b' c',C,M,h,st,z=>by
  obtain⟨⟨ts,e⟩,z0,z⟩:=aj z;obtain⟨p,rfl⟩:=fL z0;obtain⟨t,y1,z⟩:=aK z;have y1:ts=[t]:=y1;obtain⟨us,y2,z⟩:=aj z;obtain⟨k,tp,e2⟩:=eK y2;obtain⟨s1,s2,s3,y3,z⟩:=lj z;obtain⟨⟨x,px⟩,y4,z⟩:=aj z;obtain⟨⟨y,py⟩,y5,z⟩:=aj z;obtain⟨⟨v,pv⟩,y8,z⟩:=aj z;obtain⟨vs,y6,z⟩:=aj z;obtain⟨k',tp',e6⟩:=eK y6;have e6:e=.Tuple vs k' tp':=e6;obtain⟨a,b,c,y7,w⟩:=lj z;rw[iY y4,iY y5,iY y8]at y3;rw[y3]at e2
  have e7:e=.Tuple [a,b,c] k' tp':=by rw[<-y7];exact e6
  rw[e2]at y1;subst y1 e7;obtain⟨w,w5⟩:=ab w;obtain⟨w,w4⟩:=ab w;obtain⟨w,w3⟩:=ab w;obtain⟨w1,w2⟩:=ab w;obtain⟨w1,n3⟩:=ab w1;obtain⟨n1,n2⟩:=ab w1;obtain⟨w2,d3⟩:=ab w2;obtain⟨d1,d2⟩:=ab w2;obtain⟨w3,m3⟩:=ab w3;obtain⟨m1,m2⟩:=ab w3;obtain⟨w5,c3⟩:=ab w5;obtain⟨c1,c2⟩:=ab w5;obtain⟨g1,g2,g3,g4,g5,g6,g7⟩:=zQ h.toXOk w4;exact As (AS h.calm h.ndX (h.nm n1).1 (h.nm n2).1 (h.nm n3).1 (by simpa using d1) (by simpa using d2) (by simpa using d3) g2 g3 g4 (bh (cl:=cl) ((ah a' h.toXOk a).1 c1) (bh ((ah b' h.toXOk b).1 c2) (bh ((ah c' h.toXOk c).1 c3) cL g7) g6) g5) g1 rfl) (fO m1) (fO m2) (fO m3)
 | .app i e',C,M,h,st,z=>by
  obtain⟨e,z0,z8⟩:=aj z;obtain⟨p0,rfl⟩:=lT z0;obtain⟨x,p,apos,as,pos,rfl,g1,g2,g3,g4,z6,z7⟩:=rD h.toXOk z8;obtain⟨y,rfl,z9⟩:=aK z7;obtain⟨z9,z7⟩:=ab z9;obtain⟨z4,z5⟩:=ab z9;refine Cr (mF (EF PySem.F.plainAttrs_list PySem.F.slot_list_append PySem.F.type_list_append mO (gN g1 g2 g3 g4) (bh (cl:=cl) ((ah e' h.toXOk y).1 z7) cL z5) rfl ?_ z6 (a5 [] z5) rfl) rfl) z4;rw[a5 [] z5];rfl
 | .put i k' e',C,M,h,st,z=>by
  obtain⟨⟨ts,e⟩,z0,z⟩:=aj z;obtain⟨p,rfl⟩:=fL z0;obtain⟨t,y1,z⟩:=aK z;have y1:ts=[t]:=y1;obtain⟨⟨o,k⟩,y2,z⟩:=aj z;obtain⟨sp,e2⟩:=j7 y2;obtain⟨z,z7⟩:=ab z;obtain⟨z,z6⟩:=ab z;obtain⟨z,z5⟩:=ab z;obtain⟨z,z4⟩:=ab z;obtain⟨z1,z3⟩:=ab z;obtain⟨x,px,e3,g1,g2,g3,g4⟩:=hU h.toXOk z1;have e3:o=.Name x px:=e3;rw[e3]at e2;rw[e2]at y1;subst y1;have pv:=fun pos=>gN (X:=X) (pos:=pos) g1 g2 g3 g4;refine Ad (uM ((ah e' h.toXOk e).1 z7) (C6 (pv _) ((ah k' h.toXOk k).1 z6) set_list (sW z4)) ?_ ?_ rfl) (Ba (Nat.lt_of_le_of_lt (by lia) h.hu) (pv _) ((ah k' h.toXOk k).1 z6) ((ah e' h.toXOk e).1 z7) (fZ z5)) z3
  ·unfold swapsWithSole;exact fZ z5
  ·rfl
 | .ife c' a' b',C,M,h,st,z=>by
  obtain⟨⟨c,a,b⟩,z0,z⟩:=aj z;obtain⟨p,rfl⟩:=vL z0;obtain⟨z,z3⟩:=ab z;obtain⟨z1,z2⟩:=ab z;exact EC ((ah c' h.toXOk c).2 z1).1 (c5 a' h a z2) (c5 b' h b z3)
 | .forr tg it b',C,M,h,st,z=>by
  obtain⟨⟨t,it',b,o⟩,z0,z⟩:=aj z;obtain⟨p,rfl⟩:=Ax z0;obtain⟨z,z7⟩:=ab z;obtain⟨z,z6⟩:=ab z;obtain⟨z,z5⟩:=ab z;obtain⟨z,z4⟩:=ab z;obtain⟨z,z3⟩:=ab z;obtain⟨z1,z2⟩:=ab z;have z1:o=[]:=List.isEmpty_iff.mp z1;subst z1;exact Ci h.xe h.calm (gX it h.toXOk t it' z2) (uN h.toXOk (fun i x _ _=>.inl (h.fn x)) z3) (c5 b' h b z7) (fj z4 _) z5 (rR z6)
 | .mexc f es ps ms,C,M,h,st,z=>by
  obtain⟨e,z0,z⟩:=aj z;obtain⟨p0,rfl⟩:=lT z0;obtain⟨g1,g2,g3,g4,g5,g6⟩:=oT h.toXOk z;exact zW (mF g1 (fZ g6)) g2 g3 g4 g5
 | .maug i f es ps ms,C,M,h,st,z=>by
  obtain⟨⟨t,op,e⟩,z0,z⟩:=aj z;obtain⟨p,rfl⟩:=Ah z0;obtain⟨z,z4⟩:=ab z;obtain⟨z,z3⟩:=ab z;obtain⟨z1,z2⟩:=ab z;obtain⟨x,px,e1,l1,l2⟩:=iB h.toXOk z1;have e1:t=.Name x px:=e1;rw[beq_iff_eq]at z3;have z3:op=.Add:=z3;subst e1 z3;obtain⟨g1,g2,g3,g4,g5,g6⟩:=oT h.toXOk z4;exact Az (Dj h.ndX l1 l2 g1 BA (.inl (h.fn _))) (fO z2) g2 g3 g4 g5
 | .ret e',C,M,h,st,z=>by
  obtain⟨o,z0,z⟩:=aj z;obtain⟨p,rfl⟩:=Ao z0;obtain⟨e,rfl,zz⟩:=aj z;by_cases hv:sy M e'=true
  ·have:∃ i,e'=.var i:=by
    cases e'<;>first | exact⟨_,rfl⟩ | exact Bool.noConfusion hv
   obtain⟨i,rfl⟩:=this;obtain⟨x,q,rfl,g1,g2,g3,g4⟩:=hU h.toXOk zz;exact Ak g1 g2 g3 g4 hv
  ·exact Cv ((ah e' h.toXOk e).1 zz) fun i hi=>by
    subst hi;simpa[sy]using hv
 | .exc e',C,M,h,st,z=>by
  obtain⟨e,z0,z⟩:=aj z;obtain⟨p0,rfl⟩:=lT z0;obtain⟨z1,z2⟩:=ab z;exact D8 (mF ((ah e' h.toXOk e).1 z2) (fZ z1))
 | .ifp i e' a' b',C,M,h,st,z=>by
  obtain⟨⟨c,a,b⟩,z0,z⟩:=aj z;obtain⟨p,rfl⟩:=vL z0;obtain⟨⟨l,os,rs⟩,z0,z⟩:=aj z;obtain⟨cp,ec⟩:=js z0;have ec:c=.Compare l os rs cp:=ec;obtain⟨op,y1,z⟩:=aK z;obtain⟨e,y2,z⟩:=aK z;have y1:os=[op]:=y1;have y2:rs=[e]:=y2;obtain⟨z,z6⟩:=ab z;obtain⟨z,z5⟩:=ab z;obtain⟨z,z4⟩:=ab z;obtain⟨z,z3⟩:=ab z;obtain⟨z1,z2⟩:=ab z;rw[beq_iff_eq]at z1;obtain⟨x,px,apos,as,pos,e2,g1,g2,g3,g4,z7,z8⟩:=rD h.toXOk z6;have e2:l=.Call (.Attribute (.Name x px) "pop" apos) as [] pos:=e2;have z8:as=[]:=List.isEmpty_iff.mp z8;rw[z8]at e2;rw[y1,y2,z1,e2]at ec;subst ec;exact DP (D6 PySem.F.plainAttrs_list PySem.F.slot_list_pop PySem.F.type_list_pop B5 (gN g1 g2 g3 g4) rfl z7) ((ah e' h.toXOk e).1 z3) (c5 a' h a z4) (c5 b' h b z5) z2
 | .whil c' b',C,M,h,st,z=>by
  obtain⟨⟨c,b,o⟩,z0,z⟩:=aj z;obtain⟨p,rfl⟩:=Ap z0;obtain⟨z,z3⟩:=ab z;obtain⟨z1,z2⟩:=ab z;have z1:o=[]:=List.isEmpty_iff.mp z1;subst z1;exact xJ h.xe ((ah c' h.toXOk c).2 z2).1 (c5 b' h b z3)
 | .rais _ _,C,M,h,st,z=>fun pins s σ H D I ⟨σD,r,σD',_,e,_⟩=>by
  rw[RL.evS]at e;cases e
theorem c5:∀ (s:RL.Ss) {C:CC} {M:List Nat} (h:YOk C X cl) (st:List Stmt),eA C M s st=true->SSs X cl M st s
 | .nil,C,M,h,st,z=>by
  have z:st=[]:=List.isEmpty_iff.mp z;subst z;exact zD
 | .cons s r,C,M,h,st,z=>by
  cases st with
  | nil=>cases z
  |cons x xs=>
   obtain⟨z1,z2⟩:=ab z;exact xH (so s h x z1) (c5 r h xs z2)
 | .opn j e' r,C,M,h,st,z=>by
  cases st with
  | nil=>cases z
  |cons x xs=>
   obtain⟨z,z3⟩:=ab z;obtain⟨z1,z2⟩:=ab z;exact A5 (wA h z1) (fO z2) (kn r h xs z3 (fun _=>cC) fun k hk=>Nat.le_trans hk (List.count_le_count_cons ..))
theorem kn:∀ (s:RL.Sq) {C:CC} {M N:List Nat} (h:YOk C X cl) (st:List Stmt),ou C M N s st=true->(∀ i,M.contains i=true->N.contains i=true)->(∀ j,2<=M.count j->2<=N.count j)->SQ X cl M N st s
 | .cls r,C,M,N,h,st,z,hs,hc=>Bg (c5 r h st z) hs
 | .cons s r,C,M,N,h,st,z,hs,hc=>by
  cases st with
  | nil=>cases z
  |cons x xs=>
   obtain⟨z1,z2⟩:=ab z;exact Ai (so s h x z1) (kn r h xs z2 hs hc) hc
 | .opn j e' r,C,M,N,h,st,z,hs,hc=>by
  cases st with
  | nil=>cases z
  |cons x xs=>
   obtain⟨z,z3⟩:=ab z;obtain⟨z1,z2⟩:=ab z;exact BL (wA h z1) (by simpa using z2) (kn r h xs z3 (fun i hi=>cC (hs i hi)) fun k hk=>Nat.le_trans (hc k hk) (List.count_le_count_cons ..))
 | .frz j r,C,M,N,h,st,z,hs,hc=>by
  obtain⟨z1,z⟩:=ab z;obtain⟨z2,z3⟩:=ab z
  have e:N=j::M:=by simpa using z3
  subst e;exact Dd (c5 r h st z1) (fO z2)
end
end
structure gC where
 name:Str
 st:Stmt
 ps:List Str
 N:List Str
structure PT' where
 B:List Str
 G:List (Str × Int)
 Ds:List gC
 T:List RL.Fn
abbrev PT'.F(p:PT'):List (Str × List Nat):=(p.Ds.zip p.T).map fun q=>(q.1.name,q.2.mp)
abbrev PT'.cc(p:PT')(d:gC):CC:=⟨d.N,bS d.st,p.B,p.G,p.F⟩
abbrev pR(N ps:List Str)(sc:Scope):Bool :=
 sc.kind == .function && !sc.isCoroutine && !sc.isGenerator&&decide N.Nodup&&N.take ps.length == ps&&ps.all (fun x=>sc.names.lookup x == some .local || sc.names.lookup x == some .cell)&&sc.names.all (fun y=>!(y.2 == .free))
abbrev fnB(p:PT')(d:gC)(fn:RL.Fn):Bool :=
 pR d.N d.ps (bS d.st)&&fn.ps == d.ps.length&&fn.nn == d.N.length&&decide (d.ps.length<=d.N.length)&&(List.range fn.ps).all (fun i=>!fn.M.contains i || fn.mp.contains i)&&fn.mp.all (fun i=>decide (i<fn.ps)&&decide (2<=fn.M.count i))&&eA (p.cc d) fn.M fn.body (dP d.st)
abbrev PT'.ok(p:PT'):Bool:=p.Ds.length == p.T.length&&(p.Ds.zip p.T).all fun q=>fnB p q.1 q.2
def wN{N ps:List Str}{sc:Scope}(h:pR N ps sc=true):j8 N ps sc:=by
 unfold pR at h;obtain⟨h,h7⟩:=ab h;obtain⟨h,h6⟩:=ab h;obtain⟨h,h5⟩:=ab h;obtain⟨h,h4⟩:=ab h;obtain⟨h,h3⟩:=ab h;obtain⟨h1,h2⟩:=ab h;refine⟨by simpa using h1,by simpa using h2,by simpa using h3,by simpa using h4,by simpa using h5,fun x hx=>?_,fun y hy=>?_⟩
 ·rw[List.all_eq_true]at h6;have:=h6 x hx;rw[Bool.or_eq_true,beq_iff_eq,beq_iff_eq]at this;exact this
 ·rw[List.all_eq_true]at h7;have:=h7 y hy;intro z;rw[z]at this;simp at this
structure yL(p:PT')(K:PySem.W.Frag)(mg:Str->Option Value):Prop where
 defs:∀ (f:Nat) (d:gC),p.Ds[f]?=some d->∃ fa fd,mg d.name=some (.ref fa)/\Fun K d.name d.name d.st fa fd/\PySem.W.keepIn K (.ref fa)=true/\Binds K fd d.ps []
 blt:∀ x∈p.B,mg x=none
 glb:∀ x i,p.G.lookup x=some i->∃ u,mg x=some u/\RelV (.int i) u
section
variable{p:PT'}{K:PySem.W.Frag}{mg:Str->Option Value}{base:Heap}{P:Program}{w:World}
abbrev qd(K:PySem.W.Frag)(cl:RL.Cl)(mp:List Nat)(f:Nat):Sp:=if mp=[]then spF K cl f else spM K cl mp f
def aQ{α:Type}(vs:List α)(k:Nat)(i:Nat)(v:α):(vs.map some++List.replicate k none)[i]?=some (some v)↔vs[i]?=some v:=by
 by_cases h:i<vs.length
 ·rw[List.getElem?_append_left (by simpa using h)];simp[h]
 ·rw[List.getElem?_append_right (by simpa using h)];constructor
  ·intro e;rw[List.getElem?_replicate]at e;split at e<;>cases e
  ·intro e;have:=(List.getElem?_eq_some_iff.mp e).1;lia
def AK{ds:List RL.D}{vs:List V}{H:Hp}{M:List Nat}{k n:Nat}(r:aa nP K H ds vs)(hM:∀ i,i<n->M.contains i=false)(hn:ds.length=n):RVm K M (ds.map some++List.replicate k none) (vs.map some++List.replicate k none) H:=by
 have nA:∀ a,¬ aI M (vs.map some++List.replicate k none) a:=fun a ⟨i,hi,e⟩=>by
  rw[aQ]at e;have:=(List.getElem?_eq_some_iff.mp e).1;rw[hM i (by rw[<-hn,r.length];exact this)]at hi;cases hi
 refine⟨by simp[r.length],fun i d e=>?_,fun i v e=>?_,fun i j a hi hj e1 e2=>(nA a ⟨i,hi,e1⟩).elim⟩
 ·rw[aQ]at e;obtain⟨v,h1,h2⟩:=r.get e;have hl:=(List.getElem?_eq_some_iff.mp e).1;refine⟨v,(aQ _ _ _ _).mpr h1,?_⟩;rw[if_neg (by rw[hM i (by lia)];decide)];exact h2.weak fun a ha=>nA a ha
 ·rw[aQ]at e;have hl:=(List.getElem?_eq_some_iff.mp e).1;exact⟨ds[i]'(by rw[r.length];exact hl),(aQ _ _ _ _).mpr (by simp)⟩
def zL{ds:List RL.D}{vs:List V}{H:Hp}{M mp:List Nat}{k n:Nat}(a:Dc K mp ds vs H)(hM:∀ i,i<n->M.contains i=true->i∈mp)(hp:∀ i∈mp,M.contains i=true)(hn:ds.length=n):RVm K M (ds.map some++List.replicate k none) (vs.map some++List.replicate k none) H:=by
 have r:=a.my
 have inM:∀ i v,(vs.map some++List.replicate k none)[i]?=some (some v)->M.contains i=true->i∈mp/\vs[i]?=some v:=fun i v e hi=>by
  rw[aQ]at e;have:=(List.getElem?_eq_some_iff.mp e).1;exact⟨hM i (by rw[<-hn,r.length];exact this) hi,e⟩
 refine⟨by simp[r.length],fun i d e=>?_,fun i v e=>?_,fun i j b hi hj e1 e2=>?_⟩
 ·rw[aQ]at e;obtain⟨v,h1,h2⟩:=r.get e;have hl:=(List.getElem?_eq_some_iff.mp e).1;refine⟨v,(aQ _ _ _ _).mpr h1,?_⟩;by_cases hm:M.contains i=true
  ·rw[if_pos hm];obtain⟨d',b,g1,g2,g3⟩:=a.own i (hM i (by lia) hm);rw[e]at g1;cases g1;rw[h1]at g2;cases g2;exact g3
  ·rw[if_neg hm];refine(a.oth i d v (fun z=>hm (hp i z)) e h1).weak fun b ⟨j,hj,ej⟩=>?_;obtain⟨q1,q2⟩:=inM j _ ej hj;exact⟨j,q1,q2⟩
 ·rw[aQ]at e;have hl:=(List.getElem?_eq_some_iff.mp e).1;exact⟨ds[i]'(by rw[r.length];exact hl),(aQ _ _ _ _).mpr (by simp)⟩
 ·obtain⟨q1,q2⟩:=inM i _ e1 hi;obtain⟨q3,q4⟩:=inM j _ e2 hj;exact a.sep i q1 j q3 b q2 q4
def pW{σ:RL.St}:∀ {mp:List Nat} {outs:List RL.D},RL.cT σ mp=some outs->outs.length=mp.length/\∀ (k i:Nat) o,mp[k]?=some i->outs[k]?=some o->σ[i]?=some (some o)
 | [],outs,h=>by
  rw[RL.cT]at h;cases h;exact⟨rfl,fun k i o e=>by simp at e⟩
 | m::mp,outs,h=>by
  rw[RL.cT]at h;obtain⟨d,h1,h⟩:=bind_some h;obtain⟨os,h2,h3⟩:=map_some h;subst h3;obtain⟨g1,g2⟩:=pW h2;refine⟨by simp[g1],fun k i o e1 e2=>?_⟩
  cases k with
  |zero=>
   simp at e1 e2;subst e1 e2;exact slot_get h1
  | succ k=>exact g2 k i o (by simpa using e1) (by simpa using e2)
def vF{fn:RL.Fn}{d r:RL.D}{σ:RL.St}(h:RL.aJ fn d σ=some r)(hm:fn.mp=[]):r=d:=by
 unfold RL.aJ at h;rw[hm]at h;simpa using h.symm
def BU{fn:RL.Fn}{d r:RL.D}{σ:RL.St}(h:RL.aJ fn d σ=some r)(hm:fn.mp≠[]):d.imm=true/\∃ outs,RL.cT σ fn.mp=some outs/\r=.tup (d::outs):=by
 unfold RL.aJ at h;rw[if_neg (by simpa using hm)]at h;split at h
 ·rename_i im;obtain⟨os,h1,h2⟩:=map_some h;exact⟨im,os,h1,h2.symm⟩
 ·cases h
def vp(hok:p.ok=true)(tp:yL p K mg):∀ (n f:Nat) (d:gC) (fn:RL.Fn),p.Ds[f]?=some d->p.T[f]?=some fn->∀ fa fd,Fun K d.name d.name d.st fa fd->gG P w K mg base CX0 n fa fd d.ps (qd K (RL.a8 p.T n) fn.mp f)
 | 0,f,d,fn,hd,hf,fa,fd,F=>by
  have no:∀ vs H Q E,¬ qd K (RL.a8 p.T 0) fn.mp f vs H Q E:=fun vs H Q E h=>by
   unfold qd at h;split at h
   ·obtain⟨ds,r,_,e,_⟩:=h;cases e
   ·obtain⟨ds,r,o,e,_⟩:=h;cases e
  exact⟨fun vs H Q E h=>(no vs H Q E h).elim,fun A outer s H args us vs Q E _ _ _ _ h=>(no vs H Q E h).elim⟩
 | n+1,f,d,fn,hd,hf,fa,fd,F=>by
  have hok':=hok;unfold PT'.ok at hok';obtain⟨hl,hall⟩:=ab hok';rw[beq_iff_eq]at hl;rw[List.all_eq_true]at hall
  have hz:(p.Ds.zip p.T)[f]?=some (d,fn):=by
   rw[List.getElem?_zip_eq_some];exact⟨hd,hf⟩
  have hB:=hall (d,fn) (List.mem_of_getElem? hz);unfold fnB at hB;dsimp only at hB;obtain⟨hB,b7⟩:=ab hB;obtain⟨hB,b6⟩:=ab hB;obtain⟨hB,b5⟩:=ab hB;obtain⟨hB,b4⟩:=ab hB;obtain⟨hB,b3⟩:=ab hB;obtain⟨b1,b2⟩:=ab hB;rw[beq_iff_eq]at b2 b3;rw[decide_eq_true_eq]at b4;rw[List.all_eq_true]at b5 b6;have S:=wN b1
  have hM:∀ i,i<fn.ps->fn.M.contains i=true->i∈fn.mp:=fun i hi hm=>by
   have:=b5 i (List.mem_range.mpr hi);rw[hm]at this;simpa using this
  have hp2:∀ i∈fn.mp,i<fn.ps/\2<=fn.M.count i:=fun i hi=>by simpa using b6 i hi
  have unf:∀ ds r,RL.a8 p.T (n+1) f ds=some r->ds.length=fn.ps/\∃ o σ',RL.ag (RL.a8 p.T n) fn.M fn.body (ds.map some++List.replicate (fn.nn-fn.ps) none)=some (o,σ')/\(match o with | .nx=>RL.aJ fn .non σ' | .rt d=>RL.aJ fn d σ')=some r:=by
   intro ds r h;rw[RL.a8,hf]at h;dsimp only[Option.bind_some]at h;split at h
   ·rename_i hlen;obtain⟨⟨o,σ'⟩,h1,h2⟩:=bind_some h;exact⟨hlen,o,σ',h1,h2⟩
   ·cases h
  refine Fun.ok F S (fun vs H Q E h=>?_) fun cdv A outer s H vs Q E hr h=>?_
  ·unfold qd at h;split at h
   ·obtain⟨ds,r,r1,e,_⟩:=h;rw[<-r1.length,(unf ds r e).1,b2]
   ·obtain⟨ds,r,o,e,a,_⟩:=h;rw[<-a.my.length,(unf ds _ e).1,b2]
  ·-- the body's context
   have Y:YOk (p.cc d) (k8 CX0 P w K mg base d.N d.name (bS d.st) fa cdv A outer s H E).nox (RL.a8 p.T n):={
    scope:=rfl
    names:=rfl
    nd:=S.nd
    calm:=rfl
    xe:=rfl
    hu:=by
     have:=hr.un;show(A.deeper _).units+100<cLine;lia
    blt:=tp.blt
    glb:=tp.glb
    fns:=fun g x mp hg=>by
     have hg':p.F[g]?=some (x,mp):=hg;unfold PT'.F at hg';rw[List.getElem?_map]at hg';obtain⟨⟨d',fn'⟩,q1,q2⟩:=map_some hg';cases q2;rw[List.getElem?_zip_eq_some]at q1;obtain⟨fa',fd',t1,t2,t3,t4⟩:=tp.defs g d' q1.1;exact⟨n,fa',fd',d'.ps,vp hok tp n g d' fn' q1.1 q1.2 fa' fd' t2,hr,t1,t3,t4⟩
    fn:=fun _=>rfl }
   have body:=c5 fn.body Y (M:=fn.M) _ b7;refine⟨_,body,?_⟩;have hst:start d.N vs=vs.map some++List.replicate (d.N.length-vs.length) none:=rfl;unfold qd at h;split at h
   ·rename_i hmp;obtain⟨ds,r,r1,e,k⟩:=h;obtain⟨hlen,o,σ',e1,e2⟩:=unf ds r e
    have hvl:vs.length=fn.ps:=by rw[<-r1.length];exact hlen
    refine⟨_,o,σ',?_,e1,?_⟩
    ·rw[hst,hvl,<-b3]
     exact AK r1 (fun i hi=>by
      cases hc:fn.M.contains i with
      | false=>rfl
      |true=>
       have:=hM i hi hc;rw[hmp]at this
       cases this) hlen
    ·have noA:∀ a,¬ aI fn.M (start d.N vs) a:=fun a ⟨i,hi,ei⟩=>by
      rw[hst,aQ]at ei;have h3:=(List.getElem?_eq_some_iff.mp ei).1;have:=hM i (by lia) hi;rw[hmp]at this;cases this
     cases o with
     |nx=>
      have hr':=vF (d:=.non) e2 hmp;subst hr';intro σ1 H1 rv1 fr1;refine k .non H1 (fun b u eb=>(fr1.1 b u eb (noA b)).1) (by rw[Rep])
     |rt d0=>
      have hr':=vF (d:=d0) e2 hmp;subst hr';intro σ1 H1 v H' rv1 fr1 sm rp;refine k v H' (fun b u eb=>sm _ _ (fr1.1 b u eb (noA b)).1) (rp _ fun q hq=>?_);obtain⟨u,hu⟩:=Option.ne_none_iff_exists'.mp hq;have:=fr1.1 q u hu (noA q);exact⟨(by rw[this.1];exact fun z=>nomatch z),this.2⟩
   ·rename_i hmp;obtain⟨ds,r,outs,e,a,k⟩:=h;obtain⟨hlen,o,σ',e1,e2⟩:=unf ds _ e
    have hvl:vs.length=fn.ps:=by rw[<-a.my.length];exact hlen
    refine⟨_,o,σ',?_,e1,?_⟩
    ·rw[hst,hvl,<-b3];exact zL a hM (fun i hi=>j5 (hp2 i hi).2) hlen
    ·-- the lists behind it
     have fin:∀ (d0:RL.D) (σ1:L2.St) (H1 H':Hp) (v:V),RL.aJ fn d0 σ'=some (.tup (r::outs))->RVm K fn.M σ' σ1 H1->Fr' fn.M (start d.N vs) H σ1 H1->aq H1 H'->(d0.imm=true->Rep nP K H' d0 v)->Q v H':=by
      intro d0 σ1 H1 H' v ht rv1 fr1 sm rp;obtain⟨im,os,g1,g2⟩:=BU ht hmp;cases g2;obtain⟨l1,l2⟩:=pW g1;refine k v H' (fun b u nb eb=>sm _ _ (fr1.1 b u eb fun⟨i,hi,ei⟩=>?_).1) (rp im) im ⟨l1,fun kk pp oo hk ho=>?_⟩
      ·rw[hst,aQ]at ei;have h3:=(List.getElem?_eq_some_iff.mp ei).1;exact nb ⟨i,hM i (by lia) hi,ei⟩
      ·have hpm:=List.mem_of_getElem? hk;obtain⟨dp,ap,g3,g4,g5⟩:=a.own pp hpm;have g6:=fr1.2 pp (hp2 pp hpm).2
       have g7:(start d.N vs)[pp]?=some (some (.ref ap)):=by rw[hst,aQ];exact g4
       rw[g7]at g6;obtain⟨v',g8,g9⟩:=rv1.val pp oo (l2 kk pp oo hk ho);rw[g6]at g8;cases g8;rw[if_pos (j5 (hp2 pp hpm).2)]at g9;exact⟨ap,g4,g9.same sm⟩
     cases o with
     |nx=>
      intro σ1 H1 rv1 fr1
      exact fin .non σ1 H1 H1 .non e2 rv1 fr1 (aq.refl _) fun _=>by rw[Rep]
     |rt d0=>
      intro σ1 H1 v H' rv1 fr1 sm rp;exact fin d0 σ1 H1 H' v e2 rv1 fr1 sm fun im=>rp nP fun _ z=>z.elim
end
abbrev spL(n:Nat)(p:PT')(f:Nat)(K:PySem.W.Frag):Sp:=spF K (RL.a8 p.T n) f
def Cc{n:Nat}{p:PT'}{f:Nat}{K:PySem.W.Frag}{H:Hp}{a:Addr}{ns:List Int}(hO:qH H)(hS:SqL K H a (ns.map V.int))(h:RL.a8 p.T n f [.scr (ns.map RL.D.int)]=some (.bl true)):spL n p f K [.ref a] H (fun v _=>v=.bl true) fun _ _ _=>False:=by
 refine⟨_,_,?_,h,fun v H' _ r=>aL r⟩;refine aa.cons ?_ aa.nil;rw[Rep];refine⟨a,ns.map V.int,rfl,?_,?_⟩
 ·rcases hS with(z | ⟨o,z⟩) | z
  ·rcases hO a with q | ⟨o,xs,q⟩
   ·rw[q]at z;cases z
   ·rw[q]at z;cases z
  ·exact .inl ⟨o,z⟩
  ·exact .inr (.inr z)
 ·clear hS h
  induction ns with
  | nil=>exact aa.nil
  | cons i r ih=>exact aa.cons aR ih
end RS
namespace K28
open PySem PySem.Spec PyProof.Rows L2
abbrev top(i:Nat):Stmt:=PySem.Challenge.pw_ribbonloft_k28_whole_rows_of_one_form.main.body.getD i (.Pass ⟨0,0,0,0⟩)
abbrev mkD(x:Str)(i n:Nat)(N:List Str):RS.gC:=⟨x,top i,N.take n,N⟩
abbrev Ds:List RS.gC:=[
 mkD "is_number" 7 1 ["value"],
 mkD "is_peg_count" 8 1 ["value"],
 mkD "check_pegs" 9 1 ["pegs"],
 mkD "is_pairing" 11 1 ["row", "place"],
 mkD "names_back" 12 2 ["row", "place", "other"],
 mkD "is_uncrossed" 13 1 ["row", "waiting", "place", "other"],
 mkD "tie" 14 3 ["row", "one", "other"],
 mkD "is_frame" 16 1 ["frame", "pegs", "alone", "peg", "other"],
 mkD "check_frame" 17 1 ["frame"],
 mkD "pegs_of" 18 1 ["frame"],
 mkD "plain" 19 1 ["pegs"],
 mkD "round_place" 20 2 ["pegs", "peg"],
 mkD "in_round" 21 1 ["frame", "pegs", "peg"],
 mkD "moved" 22 2 ["frame", "to", "ends", "peg", "other"],
 mkD "shortest_row" 24 1 ["frame", "rest", "row", "beginnings"],
 mkD "neighbours_tied" 25 2 ["frame", "start", "number"],
 mkD "take_off" 26 2 ["frame", "number", "left", "right"],
 mkD "next_across" 27 2 ["frame", "seam", "pegs", "around", "peg"],
 mkD "made" 29 2 ["pegs", "row", "frame", "rings", "number"],
 mkD "hang_hook" 30 2 ["frame", "number", "left", "right"],
 mkD "is_hook" 31 2 ["pegs", "number"],
 mkD "check_row" 32 2 ["pegs", "row", "number"],
 mkD "how_many" 34 1 ["pegs"],
 mkD "ways" 35 2 ["steps", "height", "downward"],
 mkD "choices" 36 2 ["many", "chosen", "found", "at"],
 mkD "_law_mix" 38 1 ["_law_seed", "_law_one", "_law_two"],
 mkD "_law_raw" 39 2 ["_law_script", "_law_k", "_law_cell", "_law_found", "_law_turn"],
 mkD "_law_digits" 40 3 ["_law_script", "_law_k", "_law_sizes", "_law_rest", "_law_found", "_law_size"],
 mkD "_law_same" 41 2 ["_law_told", "_law_due", "_law_one", "_law_other"],
 mkD "_law_runs" 42 2 ["_law_pegs", "_law_raw_here", "_law_found", "_law_turn", "_law_high", "_law_low", "_law_step", "_law_down"],
 mkD "_law_all_runs" 43 1 ["_law_pegs", "_law_lines", "_law_at", "_law_up", "_law_line", "_law_high", "_law_low", "_law_down"],
 mkD "law" 44 1 ["_law_script", "_law_k", "_law_few", "_law_lines", "_law_frames", "_law_line", "_law_pegs", "_law_raw_here", "_law_frame", "_law_rings"]]
abbrev p:RS.PT':=⟨["all", "bool", "enumerate", "int", "isinstance", "len", "list", "min", "range", "str", "tuple", "zip"],[("MOST_PEGS",10)],Ds,T⟩
def FL:p.ok=true:=by decide +kernel
def all1{P:List Value->Prop}(h:∀ a0,P [a0]):∀ us:List Value,us.length=1->P us
 | [a0],_=>h a0
def all2{P:List Value->Prop}(h:∀ a0 a1,P [a0,a1]):∀ us:List Value,us.length=2->P us
 | [a0,a1],_=>h a0 a1
def mG{P:List Value->Prop}(h:∀ a0 a1 a2,P [a0,a1,a2]):∀ us:List Value,us.length=3->P us
 | [a0,a1,a2],_=>h a0 a1 a2
section
variable{K:PySem.W.Frag}{h:Heap}{mg:Str->Option Value}{x:Str}{st:Stmt}{f:Addr}{oc kV dc pm cd ct:Value}{od an:Option Addr}{sl:Array (Option Value)}{ps:List Str}
abbrev At(K:PySem.W.Frag)(mg:Str->Option Value)(x:Str)(st:Stmt)(ps:List Str):Prop:=∃ f fd,mg x=some (.ref f)/\Fun K x x st f fd/\PySem.W.keepIn K (.ref f)=true/\Binds K fd ps []
def C9(X:K.In h)(G:h.Ns mainGlobals mg)(a:PySem.W.nsIn K mainGlobals x=some (some (.ref f)))(l:K.lookup f=some ⟨oc,od,.func (PySem.W.fnOf x x (fJ st) (dP st) (bS st) .none kV dc pm an cd ct),sl⟩)(c:PySem.W.codeIn K cd x=true)(k:PySem.W.keepIn K (.ref f)=true)
 (b:∀ (kV doc pm:Value) (an:Option Addr) (cdv ct:Value) (us:List Value),us.length=ps.length->bindArgs (PySem.W.fnOf x x (fJ st) (dP st) (bS st) .none kV doc pm an cdv ct) ⟨us,[]⟩=pure (ps.zip us)):At K mg x st ps :=
 ⟨f,_,PySem.W.mg_of X G a,vM (st:=st) l c k,k,(vM (st:=st) l c k).binds b⟩
abbrev mw(K:PySem.W.Frag)(mg:Str->Option Value):List RS.gC->Prop
 | []=>True
 | d::r=>At K mg d.name d.st d.ps/\mw K mg r
def mw.get:∀ {l:List RS.gC} {f:Nat} {d:RS.gC},mw K mg l->l[f]?=some d->At K mg d.name d.st d.ps
 | [],_,_,_,e=>by cases e
 | _::_,0,_,h,e=>by cases e;exact h.1
 | _::_,f+1,_,h,e=>mw.get (f:=f) h.2 e
abbrev AllP(P:Str->Prop):List Str->Prop
 | []=>True
 | x::r=>P x/\AllP P r
def AllP.get{P:Str->Prop}:∀ {l:List Str},AllP P l->x∈l->P x
 | _::_,h,e=>(List.mem_cons.mp e).elim (fun z=>z▸h.1) fun z=>AllP.get h.2 z
abbrev lU(K:PySem.W.Frag):List (Str × Int)->Prop
 | []=>True
 | q::r=>(∃ t,PySem.W.nsIn K mainGlobals q.1=some (some (.int q.2 t)))/\lU K r
def lU.get{i:Int}:∀ {l:List (Str × Int)},lU K l->l.lookup x=some i->∃ t,PySem.W.nsIn K mainGlobals x=some (some (.int i t))
 | [],_,e=>by cases e
 | q::_,h,e=>by
  rw[List.lookup_cons]at e
  cases hb:x == q.1 with
  | true=>rw[hb]at e;cases e;rw[eq_of_beq hb];exact h.1
  | false=>rw[hb]at e;exact lU.get h.2 e
structure Tp(K:PySem.W.Frag)(mg:Str->Option Value):Prop where
 t1:mw K mg Ds
 t2:AllP (fun x=>PySem.W.nsIn K mainGlobals x=some none) p.B
 t3:lU K p.G
def Dh(X:K.In h)(G:h.Ns mainGlobals mg)(A:Tp K mg):RS.yL p K mg where
 defs:=fun f d e=>A.t1.get e
 blt:=fun x hx=>PySem.W.mg_none_of X G (A.t2.get hx)
 glb:=fun x i hx=>let ⟨t,ht⟩:=A.t3.get hx;⟨_,PySem.W.mg_of X G ht,t,rfl⟩
end
end K28
end
namespace PySem.W.Fast
local macro_rules|`(universe $x*)=>do pure (Lean.mkNullNode (<-x.mapM fun x=>`(theorem $(Lean.mkIdent (.mkSimple s!"tw{x.getId.toString.foldl (fun a c=>52*a+c.toNat-if c.toNat<97 then 65 else 71) 0}")) :True:=trivial)))
universe BkaqkwFNXyUw sXIiGcFjFFM BBNRilOCgvWY ZiiTYihOxPE BJBqedSYfMJs BEuYWrYnrNvE BWYWcxTHWZaI CENhgKglaWfV HZmOfyJXzUB TGRJLKZyRNN BmsjmIrbMMGJ BFAGlSJoPnlt hlMYmpBRUsx CDKaZHSAkljV kHoiwBByuIh CWeMWUOazJMh CVeZTBbHbrci BlpUXKedLmrm CRJZSzRoCfPG hOslshJVOhu BDunNRyCWFUC BWAuKtHZTbyL lmxkwdJQEGL fhUPKiNeiPX plyNREkUsTn CFXtRpxRNJeb BcEwXUqVZDir oSWqFigXEUT BYpYZCeqQCGs CDOnVfTUNrhg BPHEXTRQhMGM bOGseYctLYU CUwxjkbISiSc BEqGsvMdYdBg MjeYIzgdCBw CLfTQHBxnwsU BkubyuedITys uQagPxZDmqc vkWlEqPGVNw mqgDnDexABw BKrTVATmaOeN BKfguKlDJcNh FhnimwVgLJh BKxJDgPsjhRh BeHrZSorwPhC cqOXAoOSKeu CSvqXKFmClIW xEQKssMjYSe CHBnWcQJwLqO TAcVgCPbLEm BdkXVJFZNhoW KpeRgZwaccW rJFLwGvwwoG CSAXLJUzkHUm CJWHynMGCTsG BhWQWhQdDbCu CIqqIyMmFxqu BcKgVkVhToQm CLxGqmZPZwIm XNmoJUPnXpi BdolhkpQFYRy BJSCasMEVkEW BjYTjZmSLAoG KLkFzrtaxIX BzVpojoHFRBj BsuNcfEsoWOP RSevPjHpKHb BszaDFxKejWf CHBrxGscrnVz CBhKfRjFUhmf BvLujvgRPNav BiwQYyXelNGf CSPhwReZMflz CNjTGBoGcgBT BXyURFsBonEn BiMRkAMcKSGw BbqXruFXHGZU vGjzRleFuzs BWqISHliYKQo eIzectAaZZE ZkMbDsgVgvc BGdRfqpNJqMY BbVUZoYbdEag BWpGPaOmvvvs NlrvQyfnqxV BvlorObsqsop BtVnMOgdjrOh BziJROzWhWex BzBKbkFaMHnN BhmfjWRZcgbN BIpkdDmzaPfO uWfrisWqKwq BnLTksvJzpcK mCNLNzusDQb uUDLqXgbpxH rOrATDevcrP fvLkjXyndpH vvFpIUHmyQL CMGCrsHWgbPv CFvubSWJHxjf BkaSXtmuxwor CpWgTeaLNvv BwoKnpQAnvbf TeLZJLBLueT BrTgeiFgEHDf DrzvzbIRJUM SsTNUgMSdRo CSRuYMKqnFtY BgXIuCYlUBDA kHvcSkHNgFI BiCTsowHDMYM fDyHuwEJUqE VhkBjLBocsc BngVDbVJKuWU ReNOETWhUwN BCSPQRFcHlst CXbwOXOplCaF KxQeESMSlXR LTincrSnzbB tdJttccpbMt CWYykWuGWydp CPKWynxepjuG XzZKPKxOyIO nTlFSADIotK plvYIlqxvvy kjaTIUvZRnS ByVfvlLjVjiW CLDMEOEdtdMO dUNFQsAnpcO CVBSsDAltPnS kXUFowUYgvj QIvkHNZCAKn BdEtNNBMKGdL cwKGUWUfGSH BMljIOGDReDz BsZyIuVFxuH njjXBihvmFr snPhhIPZtvz BsVuOImvEnRL IQcvHaufzpL poRWFwuQgSn MEhnzUwpFAA BnJHxcvDxBeo GEUWWbpcHQA BeTtnjbjFLUQ CCCMYrphQwcA KGPzLqRdTtc CWjCiqyyBmMg CVyYzqEjegZc BmoDqsOQYKBc CRBOyMcCucHF BQtyZSYAYPWp BNxMZjKXLGvF BvJgqOnvddWp BUGourVoZwUB BrMrMrqAcLnV BQiFUIPWILjF BZpmnBeYsmSK BPQjBuzDHUua ZIDyMFEUeki WFIwZmqoUNO BvpbPvRxIinG ByYXnLIhkovm ILDhrxvAvhu BrUOhsUDNMVu LksZQpmIEpe BIrRqygCDfbG BFOLsMSYgJTm SsqqmUvgLUS wSdzPXYTOSq BqcTopmRTmaK CTGskpCxPjgj BRIItwlzwcHn CcMgWLWhxkz kZfAVfMAoKr CACdNTlujSMD TtFdaiHGovn iUOMYgLdruL BSjgidkqctOL qJrGSAqxXcT BhKwAVCLWTYk CVKkNFQdQbzI kHoNcewdGFw PuZQkdscNro BtgaMaguJrJQ CBfknYAAMlHY CNhqJYehrTok eJjptOvBwXI CgNodaTTkZh BiNhQkoiiySt BuABQedoZtid BxrgtbqdzRvZ CHcqhykjcITZ enjpKujiAFR BrkuGtxpflpx CLOqKBKptuUF BxkUTZsjxedx CCvBKCkEDlDp BJLlayoUWdJR CABjiUhEebZR CLVNaRiUyrom CEsGqkmjQrAm BhexccdpARtC BAcKUPKeoRKe BugGeSBrPthS BJDwAtKcCnbK CEBupLwEpZDr OMOdkuMYTIH BRJAGJVTJptD cVmCARjifoH dNRHOdqWgMn QqcWdrnOLcX OowcBbGDFuP dZqiCCXBtqA FSucrZuwfiA PzsFNMbNTCg BAcFasVuafNE BTrGGvJFRzlk zzXaBPjYxNk BADcPrmkrpNE BaSpfdWgDZyA BwfthbEoqTEY ByDvsKUIbRsY CQTsvzYgJUns CDhpGDzuuiUo CSmCYBstnyso CCatJNlvkmeg ZvAZnueuovs hCbJVBkdBFE BdWAVLZLBISx MhJNnNXRntl BujLehtBEiqR hkmCZQPcIRF BKEHomtkTrWR xesSJxwWtDN pvywWHeeGrd BKjbbmoLUJqh BYCUazUKkmRF CAAtKflpqVDu dErTLvycbNG BFhPGkMRnypm CVVqOabkrVhW cLjnEgGFkKS BASCALPydwLe UWeImvYeAxm bpTNhNVUdmz BEHcOWEKQAhn BhAExwEzcUmj syOtzhpPReT BnMCQphgkAWj CWMTMcFNVIKz BCBNAOPxSHDP BCOiNVWtORrP BgsfftnNmTcb RJsNeGOQgRn hjSRggtekZH BvabZMdAhEXw BPRWaHWKyDqk BVnjcmlIEXQ BqHZbCpCdduU DTglWygGAgc BHWFnhqwScel ySTShWEHdwN BhtilDQmuizB BJSCAnhowSPR BQOfLVrhCkbh CLCdbMTLHTaF BnfQltgDLIDh ISemNCyUmcN BrIxYwOYZpgN BnWuuwXUjh cckGvnWZUOF ixuVoVEDral BqTkLjMireOl BXGIzLKPbwAd BamkIPAZUAwd BBJPBvJBJPym CRlVvUSSnrAu BnofhqaHjloO BjnJYUCpzTuW IbEjqKFPXUe BvEMKVBEBpXi BZwJAqndQkLC CUCHhlOoMVha BCcsQXDYixlK CFVPcNjHNsnS CPEVeCLLFedb BzsEtyMhhiPz yFfJKzwTNRb CLXHyMyfXBgP BpvZkNvfmNuX CTYxsOvvsnnD URAPedXfdwv fwptCKbVazD CQffpDiFzQrD BSmtPuvddKnT LMMVjRyJUgf BPXSbhxoXVrz CCmzBxMCzhtr CGIJEOIidJzz lhOwblMQXb
end PySem.W.Fast
open PySem PySem.W PyProof.Rows
set_option maxRecDepth 100000 in
set_option maxHeartbeats 0 in
theorem PySem.Challenge.cw_ribbonloft_k28_whole_rows_of_one_form_holds : PySem.Challenge.rw_ribbonloft_k28_whole_rows_of_one_form.Holds := by
 w_on;o_law;k_head;(case hw=>w_witness2)
 k_fill
 refine L2.x9 (l:=PySem.Challenge.rw_ribbonloft_k28_whole_rows_of_one_form) (n:=63) (k:=30) (x := "_law_script") (CX:=L2.CX0) (sp:=RS.spL 30 K28.p 31) rfl (by decide) rfl ⟨rfl,by decide,by decide⟩ (fun w h Y=>PySem.W.kIn_of Y) ?F ?S ?C
 case F =>
  intro w mg fa h KX G hmg
  have T:K28.Tp (L2.KOf KX) mg:=by
   dsimp only[L2.KOf];constructor
   ·dsimp only[K28.mw,K28.Ds,K28.mkD,List.take]
    iterate 32 (refine' ⟨K28.C9 KX G ?a ?l ?c ?k ?b,?_⟩;(case a=>k_is);(case l=>k_is);(case c=>k_is);(case k=>k_is);(case b=>first | exact fun _ _ _ _ _ _=>K28.all1 fun _=>rfl | exact fun _ _ _ _ _ _=>K28.all2 fun _ _=>rfl | exact fun _ _ _ _ _ _=>K28.mG fun _ _ _=>rfl))
    exact True.intro
   ·dsimp only[K28.AllP,K28.p]
    iterate 12 (refine' ⟨?a,?_⟩;(case a=>k_is))
    exact True.intro
   ·dsimp only[K28.lU,K28.p]
    iterate 1 (refine⟨⟨_,by k_is⟩,?_⟩)
    exact True.intro
  have tp:=K28.Dh KX G T;obtain⟨fa',fd,h1,h2,h3,h4⟩:=tp.defs 31 _ rfl;have e0:=hmg.symm.trans h1;cases e0;refine⟨fd,fun s u=>?_,fun base kb nb=>RS.vp K28.FL tp 30 31 _ _ rfl rfl _ _ h2⟩;obtain⟨oc,od,kV,doc,pm,an,cdv,ct,osl,e9,_,_⟩:=h2.ex;subst e9;exact .of_eq rfl
 case S=>exact fun K H a ns hl hO hS=>RS.Cc hO hS (K28.main ns hl)
 case C=>exact fun _ _ _ _ h=>h
